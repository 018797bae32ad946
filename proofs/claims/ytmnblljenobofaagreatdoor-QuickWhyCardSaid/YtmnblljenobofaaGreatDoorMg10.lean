/- Merged: TxtT, PrpG, PrpJ, TabG, TabH. -/
import Derived.Test.YtmnblljenobofaaGreatDoorMg9
import Derived.Test.YtmnblljenobofaaGreatDoorMg3
import Derived.Test.YtmnblljenobofaaGreatDoorMg8
import Derived.Test.YtmnblljenobofaaGreatDoorMg1
import Derived.Test.YtmnblljenobofaaGreatDoorMg4
import Derived.Test.YtmnblljenobofaaGreatDoorMg7
import Derived.Deep.RegionWith
import Derived.Lib.Join
import Derived.RegionTactic
import Derived.Sort.OwnSortedInts
import Derived.Deep.RegionHeld
import Derived.Deep.DeepMust
import Derived.Deep.Cut
import Derived.Deep.DeepCutAuto
import Derived.Maps.RangeWalk
import Derived.Deep.CutRange
/- The walks of the reference's Right and Print. -/
namespace Go.Proofs.YtmnblljenobofaaGreatDoor.WPlain
end Go.Proofs.YtmnblljenobofaaGreatDoor.WPlain
namespace Go.Proofs.YtmnblljenobofaaGreatDoor
open Go.RowKit WPlain

set_option maxHeartbeats 1000000 in
theorem refRight_any (v : Value) (h : List Ev) (w : World) (hv : Evs w v h) (hl : h.length ≤ 65536) :
    Calls Tryz.prog 46 #[v] w fun e w' => e = .returned (.bool (right h)) ∧ Below w.heap.size w w' := by
  have HV := Lib.hid hv
  obtain ⟨a, c, rfl⟩ := hv.len
  clear hv
  have hb0 := Below.refl w.heap.size w
  unfold right
  obtain ⟨ok, hok⟩ : ∃ ok, ok = (decide (h.length ≤ 60) && h.all evOk && decide ((namesOf h).length ≤ 6)) := ⟨_, rfl⟩
  rw [← hok]
  have HOK := Lib.hid hok
  clear hok
  go_enter Tryz.func46, Tryz.ntmps46
  go_wp2_with fail
  go_loopw [7] (fun x wr => ∃ k : Nat, k ≤ h.length ∧ x = .int .i64 k ∧ Hid ((h.take k).all evOk = true) ∧ Below w.heap.size w wr) (fun x _ => h.length - (intOf x).toNat)
  case atStart => exact ⟨0, by omega, rfl, rfl, hb0⟩
  case round =>
    clear hb0
    obtain ⟨k, hk, rfl, HA, hb⟩ := hrel
    by_cases hlt : k < h.length
    · have hv2 := HV.out.below hb (Nat.le_refl _)
      have hbs := hb.size
      rcases hv2 with ⟨e0, _⟩ | ⟨l0, b, o, c', he, hbl, hc⟩
      · rw [e0] at hlt; simp at hlt
      · obtain ⟨rfl, rfl⟩ : a = some ⟨b, o, none⟩ ∧ c = c' := by simpa using he
        clear he
        obtain ⟨c0, c1, c2, c3⟩ := hc k hlt
        clear hc
        have hsn : h.take (k + 1) = h.take k ++ [h[k]] := List.take_succ_eq_append_getElem hlt
        have hmem : h[k] ∈ h := List.getElem_mem _
        have HMB := Lib.hid (rright_any h[k] (wr.alloc (.cells #[.int .i64 h[k].k, .int .i64 h[k].t, .int .i64 h[k].v, .int .i64 h[k].x] 53)))
        cases hev : evOk h[k] with
        | true =>
          have HEV := Lib.hid hev
          have HA2 : Hid ((h.take (k + 1)).all evOk = true) := by unfold Hid; rw [hsn, List.all_append, HA.out]; simp [hev]
          clear hev hsn hmem
          generalize h[k] = ev at *
          go_wp2_with fail
          refine HMB.out.mono ?_
          rintro e w2 ⟨rfl, hb2⟩
          rw [HEV.out]
          have hb3 := (hb.alloc hb.size (.cells #[.int .i64 ev.k, .int .i64 ev.t, .int .i64 ev.v, .int .i64 ev.x] 53)).trans (hb2.mono (by simp; omega))
          clear hb2 hb
          go_wp2
          go_roundw
          case rel => exact ⟨k + 1, by omega, by go_num, HA2, hb3⟩
          case measure => simp [intOf]; omega
        | false =>
          have HEV := Lib.hid hev
          have HF : Hid (ok = false) := by
            unfold Hid
            rw [HOK.out]
            have : h.all evOk = false := by
              cases hq : h.all evOk with
              | false => rfl
              | true => rw [List.all_eq_true] at hq; rw [hq _ hmem] at hev; simp at hev
            rw [this]; simp
          clear hev hsn hmem
          generalize h[k] = ev at *
          go_wp2_with fail
          refine HMB.out.mono ?_
          rintro e w2 ⟨rfl, hb2⟩
          rw [HEV.out]
          have hb3 := (hb.alloc hb.size (.cells #[.int .i64 ev.k, .int .i64 ev.t, .int .i64 ev.v, .int .i64 ev.x] 53)).trans (hb2.mono (by simp; omega))
          clear hb2 hb
          go_wp2
          go_ret
          exact ⟨by rw [HF.out]; rfl, hb3⟩
    · obtain rfl : k = h.length := by omega
      rw [List.take_length] at HA
      by_cases h60 : h.length ≤ 60
      · have t60 : ((h.length : Int) ≤ 60) := by omega
        have hE : Hid (ok = decide ((namesOf h).length ≤ 6)) := by unfold Hid; rw [HOK.out, HA.out, decide_eq_true h60]; simp
        have hv2 := HV.out.below hb (Nat.le_refl _)
        have HV2 := Lib.hid hv2
        clear hv2
        have hnl := namesOf_len h
        go_wp2_with fail
        refine (refNames_any _ h _ HV2.out hl).mono ?_
        rintro e w2 ⟨v', rfl, hy, hb2⟩
        obtain ⟨ya, yc, rfl⟩ := row_slice hy
        have hb3 := hb.trans (hb2.mono hb.size)
        clear hy hb2 hb
        generalize (namesOf h).length = nn at *
        go_wp2
        go_ret
        exact ⟨by rw [hE.out]; exact ret_bool (by simp; omega), hb3⟩
      · have t60 : decide ((h.length : Int) ≤ 60) = false := by simp; omega
        have hE : Hid (ok = false) := by unfold Hid; rw [HOK.out, decide_eq_false h60]; simp
        go_wp2
        go_ret
        exact ⟨by rw [hE.out]; rfl, hb⟩

end Go.Proofs.YtmnblljenobofaaGreatDoor
/- The walk of Next. -/
namespace Go.Proofs.YtmnblljenobofaaGreatDoor.WPlain
end Go.Proofs.YtmnblljenobofaaGreatDoor.WPlain
namespace Go.Proofs.YtmnblljenobofaaGreatDoor.QPlain
end Go.Proofs.YtmnblljenobofaaGreatDoor.QPlain
namespace Go.Proofs.YtmnblljenobofaaGreatDoor
open Go.RowKit WPlain QPlain
open Go.Maps (Keyed)

theorem below_drP (w : World) : Below w.heap.size w w.drew := (Below.refl _ _).drew
end Go.Proofs.YtmnblljenobofaaGreatDoor
/- The walks of the reference's First and Why. -/
namespace Go.Proofs.YtmnblljenobofaaGreatDoor.WPlain
end Go.Proofs.YtmnblljenobofaaGreatDoor.WPlain
namespace Go.Proofs.YtmnblljenobofaaGreatDoor.QPlain
end Go.Proofs.YtmnblljenobofaaGreatDoor.QPlain
namespace Go.Proofs.YtmnblljenobofaaGreatDoor
open Go.RowKit WPlain QPlain

theorem evs_cutP {w : World} {a : Option Addr} {n c : Nat} {h : List Ev} (hv : Evs w (.slice a n c) h) (k : Nat) (hk : k ≤ h.length) : Evs w (.slice a k c) (h.take k) := by
  have htl : (h.take k).length = k := by rw [List.length_take]; omega
  by_cases h0 : k = 0
  · subst h0
    exact .inl ⟨by simp, _, _, rfl⟩
  · rcases hv with ⟨e0, _⟩ | ⟨_, b, o, c', he, hlt, hc⟩
    · rw [e0] at hk; simp at hk; omega
    · simp only [Value.slice.injEq] at he
      obtain ⟨rfl, rfl, rfl⟩ := he
      refine .inr ⟨by omega, b, o, c, by rw [htl], hlt, fun i hi => ?_⟩
      have := hc i (by omega)
      rw [List.getElem_take]
      exact this
theorem below_stpP {wz w6 : World} (h : Below wz.drew.heap.size wz.drew w6) : Below wz.heap.size wz w6 := (below_drP wz).trans h
theorem first_more {pre r : List Ev} {e : Ev} (hm : mayS (lastOf pre e.t) e.k = true) : firstG pre (e :: r) = firstG (pre ++ [e]) r := by unfold firstG; rw [if_pos hm]; cases r <;> rfl
theorem first_stop {pre r : List Ev} {e : Ev} (hm : mayS (lastOf pre e.t) e.k = false) : firstG pre (e :: r) = pre.length := by unfold firstG; rw [if_neg (by rw [hm]; simp)]
set_option maxRecDepth 100000 in
set_option maxHeartbeats 1000000 in
theorem first_any (v : Value) (h : List Ev) (w : World) (hv : Evs w v h) (hl : h.length ≤ 65536) (hk : ∀ e ∈ h, 0 ≤ e.k ∧ e.k < 10) (hcap : ∀ a n c, v = .slice a n c → n ≤ c) :
    Calls Tryz.prog 47 #[v] w fun e w' => e = .returned (.int .i64 (firstS h)) ∧ Below w.heap.size w w' := by
  have hb0 := Below.refl w.heap.size w
  have HV := Lib.hid hv
  have HK := Lib.hid hk
  obtain ⟨a, c, rfl⟩ := hv.len
  have hcp : h.length ≤ c := hcap _ _ _ rfl
  obtain ⟨Z, hZ⟩ : ∃ Z, firstS h = Z := ⟨_, rfl⟩
  rw [hZ]
  have HZ := Lib.hid hZ
  clear hv hk hcap hZ
  go_enter Tryz.func47, Tryz.ntmps47
  go_wp2_with fail
  go_loopw [7] (fun x wr => ∃ k : Nat, k ≤ h.length ∧ x = .int .i64 k ∧ Hid (firstG (h.take k) (h.drop k) = Z) ∧ Hid (Below w.heap.size w wr)) (fun x _ => h.length - (intOf x).toNat)
  case atStart => exact ⟨0, by omega, rfl, HZ, hb0⟩
  case round =>
    clear hb0 HZ
    obtain ⟨k, hk, rfl, HZ, HB⟩ := hrel
    by_cases hlt : k < h.length
    · have hv2 := HV.out.below HB.out (Nat.le_refl _)
      have hz := HZ.out
      rw [List.drop_eq_getElem_cons hlt] at hz
      have hek := HK.out h[k] (List.getElem_mem hlt)
      have hT : h.take (k + 1) = h.take k ++ [h[k]] := List.take_succ_eq_append_getElem hlt
      have htl : (h.take k).length = k := by rw [List.length_take]; omega
      have hlr := lastOf_range (h := h.take k) (fun e he => HK.out e (List.mem_of_mem_take he)) (h[k]).t
      have hcut := fun (W : World) (hW : Below wr.heap.size wr W) => last_any _ (h.take k) (h[k]).t W (evs_cutP (hv2.below hW (Nat.le_refl _)) k (Nat.le_of_lt hlt)) (by omega)
      rcases hv2 with ⟨e0, _⟩ | ⟨l0, b, o, c', he, hbl, hc⟩
      · rw [e0] at hlt; simp at hlt
      · obtain ⟨rfl, rfl⟩ : a = some ⟨b, o, none⟩ ∧ c = c' := by simpa using he
        clear he
        obtain ⟨c0, c1, c2, c3⟩ := hc k hlt
        clear hc
        have hk0 : (0 : Int) ≤ (k : Int) := by omega
        have hkc : (k : Int) ≤ (c : Int) := by omega
        generalize h[k] = ev at *
        have HT := Lib.hid hT
        have HTL := Lib.hid htl
        have HZ1 := Lib.hid hz
        have hbA := (Below.refl wr.heap.size wr).alloc (Nat.le_refl _) (.cells #[.int .i64 ev.k, .int .i64 ev.t, .int .i64 ev.v, .int .i64 ev.x] 53)
        have HB1 := Lib.hid (HB.out.alloc HB.out.size (.cells #[.int .i64 ev.k, .int .i64 ev.t, .int .i64 ev.v, .int .i64 ev.x] 53))
        have HE := Lib.hid (At.new wr #[.int .i64 ev.k, .int .i64 ev.t, .int .i64 ev.v, .int .i64 ev.x] 53)
        have HL : Hid (∀ W, Below (wr.alloc (.cells #[.int .i64 ev.k, .int .i64 ev.t, .int .i64 ev.v, .int .i64 ev.x] 53)).heap.size (wr.alloc (.cells #[.int .i64 ev.k, .int .i64 ev.t, .int .i64 ev.v, .int .i64 ev.x] 53)) W → Calls Tryz.prog 29 #[.slice (some ⟨b, o, none⟩) k c, .int .i64 ev.t] W fun e w' => e = .returned (.int .i64 (lastOf (h.take k) ev.t)) ∧ Below W.heap.size W w') :=
          fun W hW => hcut W (hbA.trans (hW.mono hbA.size))
        clear hT htl hz hcut hbA HZ HB
        go_upto_region 4 with fail
        generalize wr.alloc (.cells #[.int .i64 ev.k, .int .i64 ev.t, .int .i64 ev.v, .int .i64 ev.x] 53) = w1 at *
        generalize wr.heap.size = N at *
        have HC : Hid (∀ W, Below w1.heap.size w1 W → W.cell? ⟨N, 0, none⟩ = some (.int .i64 ev.k) ∧ W.cell? ⟨N, 1, none⟩ = some (.int .i64 ev.t)) := fun W hW => ⟨(HE.out.below hW HE.out.lt).cell (i := 0) rfl, (HE.out.below hW HE.out.lt).cell (i := 1) rfl⟩
        clear HE c0 c1 c2 c3
        go_cut [21] from 8 to 23 (fun v wx => v = .bool (!mayS (lastOf (h.take k) ev.t) ev.k) ∧ Hid (Below w.heap.size w wx))
        case first =>
          generalize lastOf (h.take k) ev.t = ll at *
          first
          | go_must (go_region_held (fun w' => w'.cell? ⟨N, 0, none⟩ = some (.int .i64 ev.k) ∧ w'.cell? ⟨N, 1, none⟩ = some (.int .i64 ev.t))
              (first | exact HC.out _ hb4 | exact HC.out _ (below_drP _))
              (first | (go_at_call 29; refine (HL.out _ (below_drP _)).mono ?_; rintro e w4 ⟨rfl, hb⟩; have hb4 := below_stpP hb; clear hb) | (go_at_call 89; refine (may_any _ _ hlr hek _).mono ?_; rintro e w5 ⟨rfl, rfl⟩)))
          | fail
          all_goals
            go_wp2_with fail
            go_meet
            exact ⟨rfl, HB1.out.trans (hb4.mono HB1.out.size)⟩
        case rest =>
        obtain ⟨rfl, HB4⟩ := hcut
        have HKE : Hid (∀ m : Bool, mayS (lastOf (h.take k) ev.t) ev.k = m → if m = true then firstG (h.take (k + 1)) (h.drop (k + 1)) = Z else Z = k) := by
          intro m hm
          have hz := HZ1.out
          cases m with
          | true => rw [first_more hm, ← HT.out] at hz; rw [if_pos rfl]; exact hz
          | false => rw [first_stop hm, HTL.out] at hz; rw [if_neg (by simp)]; exact hz.symm
        clear HL HC HZ1 HT HTL HB1
        cases hm : mayS (lastOf (h.take k) ev.t) ev.k with
        | true =>
          have HZ2 : Hid (firstG (h.take (k + 1)) (h.drop (k + 1)) = Z) := by have := HKE.out true hm; rw [if_pos rfl] at this; exact this
          clear hm HKE
          go_wp2
          go_roundw
          case rel => exact ⟨k + 1, by omega, by go_num, HZ2, HB4⟩
          case measure => simp [intOf]; omega
        | false =>
          have HZ2 : Hid (Z = k) := by have := HKE.out false hm; rw [if_neg (by simp)] at this; exact this
          clear hm HKE
          go_wp2
          refine bodyPost_ret (v := .int .i64 k) (by simp [results, Tryz.results47, go_sem]) rfl ⟨by rw [HZ2.out], HB4.out⟩
    · obtain rfl : k = h.length := by omega
      have hz := HZ.out
      rw [List.drop_length, List.take_length] at hz
      have HZ2 : Hid (Z = h.length) := by unfold Hid; rw [← hz]; rfl
      clear hz HZ
      go_wp2
      refine bodyPost_ret (v := .int .i64 h.length) (by simp [results, Tryz.results47, go_sem]) rfl ⟨by rw [HZ2.out], HB.out⟩
/-- why events are not well formed -/
def whyS (h : List Ev) : Nat := if right h = true then (if firstS h < h.length then 6 else 0) else 1
theorem whyS_check (h : List Ev) : whyS h = (checkS h).2 := by
  unfold whyS
  cases hr : right h with
  | false => unfold checkS; rw [hr]; rfl
  | true =>
    have := first_le hr
    rw [check_first hr, if_pos rfl]
    by_cases he : firstS h = h.length
    · rw [if_neg (by omega), if_pos he]
    · rw [if_pos (by omega), if_neg he]
set_option maxRecDepth 100000 in
set_option maxHeartbeats 1000000 in
theorem why_any (v : Value) (h : List Ev) (w : World) (hv : Evs w v h) (hl : h.length ≤ 65536) (hcap : ∀ a n c, v = .slice a n c → n ≤ c) :
    Calls Tryz.prog 20 #[v] w fun e w' => e = .returned (.int .i64 ((whyS h : Nat) : Int)) ∧ Below w.heap.size w w' := by
  have HR := Lib.hid (refRight_any v h w hv hl)
  have HV := Lib.hid hv
  have HFI : Hid (right h = true → ∀ W, Below w.heap.size w W → Calls Tryz.prog 47 #[v] W fun e w' => e = .returned (.int .i64 (firstS h)) ∧ Below W.heap.size W w') :=
    fun hr W hW => first_any v h W (hv.below hW (Nat.le_refl _)) hl (fun e he => ((right_evs hr).2 e he).1) hcap
  obtain ⟨a, c, rfl⟩ := hv.len
  unfold whyS
  clear hv
  cases hr : right h with
  | false =>
    rw [if_neg (by simp)]
    rw [hr] at HR
    clear HFI
    go_enter Tryz.func20, Tryz.ntmps20
    go_wp2_with fail
    refine HR.out.mono ?_
    rintro e w1 ⟨rfl, hb1⟩
    go_wp2
    go_ret
    exact ⟨rfl, hb1⟩
  | true =>
    rw [if_pos rfl]
    rw [hr] at HR
    have HF := Lib.hid (HFI.out hr)
    clear HFI hr
    generalize firstS h = f at *
    by_cases hlt : f < h.length
    · rw [if_pos hlt]
      have tl : decide (f < h.length) = true := decide_eq_true hlt
      go_enter Tryz.func20, Tryz.ntmps20
      go_wp2_with fail
      refine HR.out.mono ?_
      rintro e w1 ⟨rfl, hb1⟩
      have HB1 := Lib.hid hb1
      clear hb1
      go_wp2_with fail
      refine (HF.out _ HB1.out).mono ?_
      rintro e w2 ⟨rfl, hb2⟩
      go_wp2
      go_ret
      exact ⟨rfl, HB1.out.trans (hb2.mono HB1.out.size)⟩
    · rw [if_neg hlt]
      have tl : decide (f < h.length) = false := decide_eq_false hlt
      go_enter Tryz.func20, Tryz.ntmps20
      go_wp2_with fail
      refine HR.out.mono ?_
      rintro e w1 ⟨rfl, hb1⟩
      have HB1 := Lib.hid hb1
      clear hb1
      go_wp2_with fail
      refine (HF.out _ HB1.out).mono ?_
      rintro e w2 ⟨rfl, hb2⟩
      go_wp2
      go_ret
      exact ⟨rfl, HB1.out.trans (hb2.mono HB1.out.size)⟩
end Go.Proofs.YtmnblljenobofaaGreatDoor
/- The walks of the reference's state and asked. -/
namespace Go.Proofs.YtmnblljenobofaaGreatDoor.WPlain
end Go.Proofs.YtmnblljenobofaaGreatDoor.WPlain
namespace Go.Proofs.YtmnblljenobofaaGreatDoor.QPlain
end Go.Proofs.YtmnblljenobofaaGreatDoor.QPlain
namespace Go.Proofs.YtmnblljenobofaaGreatDoor.RPlain
end Go.Proofs.YtmnblljenobofaaGreatDoor.RPlain
namespace Go.Proofs.YtmnblljenobofaaGreatDoor
open Go.RowKit WPlain QPlain RPlain

theorem state_any (k : Int) (w : World) : Calls Tryz.prog 28 #[.int .i64 k] w fun e w' => e = .returned (.int .i64 (stateS k)) ∧ w = w' := by
  unfold stateS
  by_cases h7 : k = 7
  · subst h7
    go_enter Tryz.func28, Tryz.ntmps28
    go_wp2
    go_ret
    exact ⟨rfl, rfl⟩
  · by_cases h9 : k = 9
    · subst h9
      go_enter Tryz.func28, Tryz.ntmps28
      go_wp2
      go_ret
      exact ⟨rfl, rfl⟩
    · by_cases h6 : k = 6
      · subst h6
        go_enter Tryz.func28, Tryz.ntmps28
        go_wp2
        go_ret
        exact ⟨rfl, rfl⟩
      · rw [if_neg h7, if_neg h9, if_neg h6]
        have t7 : ((k : Int) == 7) = false := by simp [h7]
        have t9 : ((k : Int) == 9) = false := by simp [h9]
        have t6 : ((k : Int) == 6) = false := by simp [h6]
        clear h7 h9 h6
        go_enter Tryz.func28, Tryz.ntmps28
        go_wp2
        go_ret
        exact ⟨rfl, rfl⟩
/-- the cells of an event -/
def evA (e : Ev) : Array Value := #[.int .i64 e.k, .int .i64 e.t, .int .i64 e.v, .int .i64 e.x]
theorem asked_take {h : List Ev} {k : Nat} (hk : k < h.length) (t : Int) : askedOf (h.take (k + 1)) t = if h[k].t = t then h[k] else askedOf (h.take k) t := by
  rw [← askedOf_snoc, List.take_succ_eq_append_getElem hk]
set_option maxRecDepth 100000 in
set_option maxHeartbeats 2000000 in
theorem asked_any (v : Value) (h : List Ev) (i : Nat) (t : Int) (w : World) (hv : Evs w v h) (hl : h.length ≤ 65536) (hi : i ≤ h.length) (hcap : ∀ a n c, v = .slice a n c → n ≤ c) :
    Calls Tryz.prog 56 #[v, .int .i64 (i : Int), .int .i64 t] w fun e w' => e = .returned (.agg (evA (askedOf (h.take i) t))) ∧ Below w.heap.size w w' := by
  obtain ⟨a, c, rfl⟩ := hv.len
  have hcp : h.length ≤ c := hcap _ _ _ rfl
  have HV := Lib.hid (evs_cutP hv i hi)
  have hgl : (h.take i).length = i := by rw [List.length_take]; omega
  generalize h.take i = g at *
  subst hgl
  clear hv hcap
  have HA0 : Hid (At ((w.alloc (.cells #[.int .i64 0, .int .i64 0, .int .i64 0, .int .i64 0] 53)).alloc (.cells #[.int .i64 0, .int .i64 0, .int .i64 0, .int .i64 0] 53)) w.heap.size #[.int .i64 0, .int .i64 0, .int .i64 0, .int .i64 0] 53) := (At.new w _ _).alloc _
  have HA1 : Hid (At ((w.alloc (.cells #[.int .i64 0, .int .i64 0, .int .i64 0, .int .i64 0] 53)).alloc (.cells #[.int .i64 0, .int .i64 0, .int .i64 0, .int .i64 0] 53)) (w.heap.size + 1) (evA (askedOf [] t)) 53) := by
    have h1 := At.new (w.alloc (.cells #[.int .i64 0, .int .i64 0, .int .i64 0, .int .i64 0] 53)) #[.int .i64 0, .int .i64 0, .int .i64 0, .int .i64 0] 53
    simp only [World.size_alloc] at h1
    exact h1
  have HB0 : Hid (Below w.heap.size w ((w.alloc (.cells #[.int .i64 0, .int .i64 0, .int .i64 0, .int .i64 0] 53)).alloc (.cells #[.int .i64 0, .int .i64 0, .int .i64 0, .int .i64 0] 53))) := ((Below.refl _ _).alloc (Nat.le_refl _) _).alloc (by simp) _
  have hk0 : (0 : Int) ≤ (g.length : Int) := by omega
  have hkc : (g.length : Int) ≤ (c : Int) := by omega
  go_enter Tryz.func56, Tryz.ntmps56
  go_wp2_with fail
  generalize (w.alloc (.cells #[.int .i64 0, .int .i64 0, .int .i64 0, .int .i64 0] 53)).alloc (.cells #[.int .i64 0, .int .i64 0, .int .i64 0, .int .i64 0] 53) = w1 at *
  go_loopw [15] (fun x wr => ∃ k : Nat, k ≤ g.length ∧ x = .int .i64 k ∧ Hid (At wr w.heap.size #[.int .i64 0, .int .i64 0, .int .i64 0, .int .i64 0] 53) ∧ Hid (At wr (w.heap.size + 1) (evA (askedOf (g.take k) t)) 53) ∧ Hid (Below w.heap.size w wr)) (fun x _ => g.length - (intOf x).toNat)
  case atStart => exact ⟨0, by omega, rfl, HA0, HA1, HB0⟩
  case round =>
    clear HA0 HA1 HB0
    obtain ⟨k, hk, rfl, HA0, HA1, HB⟩ := hrel
    have hl1 := HA1.out.lt
    by_cases hlt : k < g.length
    · have HT := Lib.hid (asked_take hlt t)
      have hv2 := HV.out.below HB.out (Nat.le_refl _)
      rcases hv2 with ⟨e0, _⟩ | ⟨l0, b, o, c', he, hbl, hc⟩
      · rw [e0] at hlt; simp at hlt
      · obtain ⟨rfl, rfl⟩ : a = some ⟨b, o, none⟩ ∧ c = c' := by simpa using he
        clear he
        obtain ⟨c0, c1, c2, c3⟩ := hc k hlt
        clear hc
        generalize g[k] = ev at *
        generalize askedOf (g.take k) t = aq at *
        have HE := At.new wr #[.int .i64 ev.k, .int .i64 ev.t, .int .i64 ev.v, .int .i64 ev.x] 53
        have e0 := HE.cell (i := 0) (v := .int .i64 ev.k) rfl
        have e1 := HE.cell (i := 1) (v := .int .i64 ev.t) rfl
        have e2 := HE.cell (i := 2) (v := .int .i64 ev.v) rfl
        have e3 := HE.cell (i := 3) (v := .int .i64 ev.x) rfl
        have HA01 := Lib.hid (HA0.out.alloc (.cells #[.int .i64 ev.k, .int .i64 ev.t, .int .i64 ev.v, .int .i64 ev.x] 53))
        have HA11 := Lib.hid (HA1.out.alloc (.cells #[.int .i64 ev.k, .int .i64 ev.t, .int .i64 ev.v, .int .i64 ev.x] 53))
        have HB1 := Lib.hid (HB.out.alloc HB.out.size (.cells #[.int .i64 ev.k, .int .i64 ev.t, .int .i64 ev.v, .int .i64 ev.x] 53))
        clear HE HA0 HA1 HB
        by_cases het : ev.t = t
        · have HA : Hid (askedOf (g.take (k + 1)) t = ev) := by unfold Hid; rw [HT.out, if_pos het]
          have tq : ((ev.t : Int) == t) = true := by simp [het]
          have f0 := HA11.out.free 0
          have f1 := HA11.out.free 1
          have f2 := HA11.out.free 2
          have f3 := HA11.out.free 3
          have d0 := HA11.out.cell (i := 0) (v := .int .i64 aq.k) rfl
          have d1 := HA11.out.cell (i := 1) (v := .int .i64 aq.t) rfl
          have d2 := HA11.out.cell (i := 2) (v := .int .i64 aq.v) rfl
          have d3 := HA11.out.cell (i := 3) (v := .int .i64 aq.x) rfl
          have HST : Hid (∀ W, At W (w.heap.size + 1) (evA aq) 53 → At (((((W.setCell ⟨w.heap.size + 1, 0, none⟩ (.int .i64 ev.k)).setCell ⟨w.heap.size + 1, 1, none⟩ (.int .i64 ev.t)).setCell ⟨w.heap.size + 1, 2, none⟩ (.int .i64 ev.v)).setCell ⟨w.heap.size + 1, 3, none⟩ (.int .i64 ev.x))) (w.heap.size + 1) (evA ev) 53) := fun W hW => (((hW.set 0 (.int .i64 ev.k)).set 1 (.int .i64 ev.t)).set 2 (.int .i64 ev.v)).set 3 (.int .i64 ev.x)
          clear het HT
          go_upto_region 6 with fail
          generalize wr.alloc (.cells #[.int .i64 ev.k, .int .i64 ev.t, .int .i64 ev.v, .int .i64 ev.x] 53) = w2 at *
          generalize wr.heap.size = N at *
          go_wp2_with fail
          go_roundw
          case rel =>
            exact ⟨k + 1, by omega, by go_num, (((HA01.out.other (a := ⟨w.heap.size + 1, 0, none⟩) (by simp) _).other (a := ⟨w.heap.size + 1, 1, none⟩) (by simp) _).other (a := ⟨w.heap.size + 1, 2, none⟩) (by simp) _).other (a := ⟨w.heap.size + 1, 3, none⟩) (by simp) _, by rw [HA.out]; exact HST.out _ HA11.out, (((HB1.out.setCell (p := ⟨w.heap.size + 1, 0, none⟩) (by simp) _).setCell (p := ⟨w.heap.size + 1, 1, none⟩) (by simp) _).setCell (p := ⟨w.heap.size + 1, 2, none⟩) (by simp) _).setCell (p := ⟨w.heap.size + 1, 3, none⟩) (by simp) _⟩
          case measure => simp [intOf]; omega
        · have HA : Hid (askedOf (g.take (k + 1)) t = aq) := by unfold Hid; rw [HT.out, if_neg het]
          have tq : ((ev.t : Int) == t) = false := by simp [het]
          clear het HT
          go_wp2
          go_roundw
          case rel => exact ⟨k + 1, by omega, by go_num, HA01, by rw [HA.out]; exact HA11, HB1⟩
          case measure => simp [intOf]; omega
    · obtain rfl : k = g.length := by omega
      rw [List.take_length] at HA1
      obtain ⟨aq, haq⟩ : ∃ aq, askedOf g t = aq := ⟨_, rfl⟩
      rw [haq] at HA1
      have HAQ := Lib.hid haq
      clear haq
      have d0 := HA1.out.cell (i := 0) (v := .int .i64 aq.k) rfl
      have d1 := HA1.out.cell (i := 1) (v := .int .i64 aq.t) rfl
      have d2 := HA1.out.cell (i := 2) (v := .int .i64 aq.v) rfl
      have d3 := HA1.out.cell (i := 3) (v := .int .i64 aq.x) rfl
      have f0 := HA0.out.free 0
      have f1 := HA0.out.free 1
      have f2 := HA0.out.free 2
      have f3 := HA0.out.free 3
      have c0 := HA0.out.cell (i := 0) (v := .int .i64 0) rfl
      have c1 := HA0.out.cell (i := 1) (v := .int .i64 0) rfl
      have c2 := HA0.out.cell (i := 2) (v := .int .i64 0) rfl
      have c3 := HA0.out.cell (i := 3) (v := .int .i64 0) rfl
      have HBF : Hid (Below w.heap.size w ((((wr.setCell ⟨w.heap.size, 0, none⟩ (.int .i64 aq.k)).setCell ⟨w.heap.size, 1, none⟩ (.int .i64 aq.t)).setCell ⟨w.heap.size, 2, none⟩ (.int .i64 aq.v)).setCell ⟨w.heap.size, 3, none⟩ (.int .i64 aq.x))) := (((HB.out.setCell (p := ⟨w.heap.size, 0, none⟩) (Nat.le_refl _) _).setCell (p := ⟨w.heap.size, 1, none⟩) (Nat.le_refl _) _).setCell (p := ⟨w.heap.size, 2, none⟩) (Nat.le_refl _) _).setCell (p := ⟨w.heap.size, 3, none⟩) (Nat.le_refl _) _
      go_wp2_with fail
      exact bodyPost_ret (v := .agg (evA aq)) (by simp [results, Tryz.results56, go_sem, evA, c0, c1, c2, c3]) rfl ⟨by rw [HAQ.out], HBF.out⟩
end Go.Proofs.YtmnblljenobofaaGreatDoor
/- The walk of the reference's Ops. (Written by gen_tabH.py.) -/
namespace Go.Proofs.YtmnblljenobofaaGreatDoor.WPlain
end Go.Proofs.YtmnblljenobofaaGreatDoor.WPlain
namespace Go.Proofs.YtmnblljenobofaaGreatDoor.QPlain
end Go.Proofs.YtmnblljenobofaaGreatDoor.QPlain
namespace Go.Proofs.YtmnblljenobofaaGreatDoor.RPlain
end Go.Proofs.YtmnblljenobofaaGreatDoor.RPlain
namespace Go.Proofs.YtmnblljenobofaaGreatDoor
open Go.RowKit WPlain QPlain RPlain

theorem ops_take {h : List Ev} {k : Nat} (hk : k < h.length) (t : Int) : opsOf (h.take (k + 1)) t = opsOf (h.take k) t ++ (if h[k].t = t then opStep (askedOf (h.take k) t) h[k] else []) := by
  rw [← opsOf_snoc, List.take_succ_eq_append_getElem hk]
set_option maxRecDepth 100000 in
set_option maxHeartbeats 4000000 in
theorem refOps_any (v : Value) (h : List Ev) (t : Int) (w : World) (hv : Evs w v h) (hl : h.length ≤ 65536) (hcap : ∀ a n c, v = .slice a n c → n ≤ c) :
    Calls Tryz.prog 30 #[v, .int .i64 t] w fun e w' => ∃ v', e = .returned v' ∧ w'.ownsRow w.heap.size 82 3 v' (opsOf h t).length ((opsOf h t).flatMap opC) ∧ Below w.heap.size w w' := by
  obtain ⟨j0, hj0, hy0, hy1', hy2'⟩ := info_parts infoOp
  have HB0 := Lib.hid ((Below.refl w.heap.size w).alloc (Nat.le_refl _) (.cells #[] 82))
  have HR0 := Lib.hid (World.ownsRow_made (size := 3) (e := 82) (base := w.heap.size) w #[] 0 (Nat.le_refl _) (by unfold maxLen; omega) rfl)
  have HV := Lib.hid hv
  have HAS : Hid (∀ W k, Below w.heap.size w W → k ≤ h.length → Calls Tryz.prog 56 #[v, .int .i64 (k : Nat), .int .i64 t] W fun e w' => e = .returned (.agg (evA (askedOf (h.take k) t))) ∧ Below W.heap.size W w') :=
    fun W k hW hk => asked_any v h k t W (hv.below hW (Nat.le_refl _)) hl hk hcap
  obtain ⟨a, c, rfl⟩ := hv.len
  have HOL : Hid (∀ k, (opsOf (h.take k) t).length ≤ 65536) := fun k => Nat.le_trans (ops_le _ _) (by rw [List.length_take]; omega)
  clear hv hcap
  go_enter Tryz.func30, Tryz.ntmps30
  go_wp2_with fail
  go_loopw [5, 12] (fun y x wr => ∃ k : Nat, k ≤ h.length ∧ x = .int .i64 k ∧ Hid (wr.ownsRow w.heap.size 82 3 y (opsOf (h.take k) t).length ((opsOf (h.take k) t).flatMap opC)) ∧ Hid (Below w.heap.size w wr)) (fun _ x _ => h.length - (intOf x).toNat)
  case atStart => exact ⟨0, by omega, rfl, HR0, HB0⟩
  case round =>
    clear HB0 HR0
    obtain ⟨k, hk, rfl, HR, HB⟩ := hrel
    obtain ⟨ya, yc, rfl⟩ := row_slice HR.out
    by_cases hlt : k < h.length
    · have HT := Lib.hid (ops_take hlt t)
      have hol := HOL.out k
      have HASK : Hid (∀ W, Below w.heap.size w W → Calls Tryz.prog 56 #[.slice a h.length c, .int .i64 k, .int .i64 t] W fun e w' => e = .returned (.agg (evA (askedOf (h.take k) t))) ∧ Below W.heap.size W w') := fun W hW => HAS.out W k hW hk
      have hv2 := HV.out.below HB.out (Nat.le_refl _)
      rcases hv2 with ⟨e0, _⟩ | ⟨l0, b, o, c', he, hbl, hc⟩
      · rw [e0] at hlt; simp at hlt
      · obtain ⟨rfl, rfl⟩ : a = some ⟨b, o, none⟩ ∧ c = c' := by simpa using he
        clear he
        obtain ⟨c0, c1, c2, c3⟩ := hc k hlt
        clear hc
        generalize h[k] = ev at *
        generalize askedOf (h.take k) t = aq at *
        generalize opsOf (h.take k) t = q at *
        have HE := Lib.hid (At.new wr #[.int .i64 ev.k, .int .i64 ev.t, .int .i64 ev.v, .int .i64 ev.x] 53)
        have HB1 := Lib.hid (HB.out.alloc HB.out.size (.cells #[.int .i64 ev.k, .int .i64 ev.t, .int .i64 ev.v, .int .i64 ev.x] 53))
        have HR1 := Lib.hid (HR.out.alloc (.cells #[.int .i64 ev.k, .int .i64 ev.t, .int .i64 ev.v, .int .i64 ev.x] 53))
        have e1 := HE.out.cell (i := 1) (v := .int .i64 ev.t) rfl
        clear HR HB
        by_cases het : ev.t = t
        · have tq : ((ev.t : Int) != t) = false := by simp [het]
          have HT2 : Hid (opsOf (h.take (k + 1)) t = q ++ opStep aq ev) := by unfold Hid; rw [HT.out, if_pos het]
          clear het HT
          go_wp2_with fail
          generalize wr.alloc (.cells #[.int .i64 ev.k, .int .i64 ev.t, .int .i64 ev.v, .int .i64 ev.x] 53) = w2 at *
          generalize wr.heap.size = N at *
          refine (HASK.out w2 HB1.out).mono ?_
          rintro e w3 ⟨rfl, hb3⟩
          have HB3 := Lib.hid (HB1.out.trans (hb3.mono HB1.out.size))
          have HR3 := Lib.hid (row_belowT HR1.out hb3)
          have hE3 := HE.out.below hb3 HE.out.lt
          have HE4 := Lib.hid (hE3.alloc (.cells #[.int .i64 aq.k, .int .i64 aq.t, .int .i64 aq.v, .int .i64 aq.x] 53))
          have HA4 := Lib.hid (At.new w3 #[.int .i64 aq.k, .int .i64 aq.t, .int .i64 aq.v, .int .i64 aq.x] 53)
          have HB4 := Lib.hid (HB3.out.alloc HB3.out.size (.cells #[.int .i64 aq.k, .int .i64 aq.t, .int .i64 aq.v, .int .i64 aq.x] 53))
          have HR4 := Lib.hid (HR3.out.alloc (.cells #[.int .i64 aq.k, .int .i64 aq.t, .int .i64 aq.v, .int .i64 aq.x] 53))
          unfold evA
          clear hb3 hE3 e1 c0 c1 c2 c3 HE HB1 HR1 HB3 HR3
          go_upto_region 7 with fail
          generalize w3.alloc (.cells #[.int .i64 aq.k, .int .i64 aq.t, .int .i64 aq.v, .int .i64 aq.x] 53) = w4 at *
          generalize w3.heap.size = N4 at *
          have e0 := HE4.out.cell (i := 0) (v := .int .i64 ev.k) rfl
          have e3 := HE4.out.cell (i := 3) (v := .int .i64 ev.x) rfl
          have d2 := HA4.out.cell (i := 2) (v := .int .i64 aq.v) rfl
          have d3 := HA4.out.cell (i := 3) (v := .int .i64 aq.x) rfl
          have hNl : N < w4.heap.size := HE4.out.lt
          have hNl4 : N4 < w4.heap.size := HA4.out.lt
          have hw4 : ∀ o, w.heap.size ≤ (w4.alloc o).heap.size := fun o => by have := HB4.out.size; simp; omega
          have HW4 := Lib.hid hw4
          clear hw4
          by_cases h3 : ev.k = 3
          · have t3 : ((ev.k : Int) == 3) = true := by simp [h3]
            have t5 : ((ev.k : Int) == 5) = false := by simp [h3]
            have HOP : Hid (opStep aq ev = [⟨false, aq.v, ev.x⟩]) := by unfold Hid opStep; rw [if_pos h3]
            clear h3
            go_wp2_with (at_builtin; refine wpList_append_own _ rfl _ _ 61 rfl w.heap.size 82 j0 _ 3 24 Tryz.underlying61 hj0 hy0 hy1' hy2' rfl (by decide) (.slice ya q.length yc) q.length (q.flatMap opC) rfl (HR4.out.alloc _) ⟨w4.heap.size, 0, none⟩ 1 1 (opC ⟨false, aq.v, ev.x⟩) rfl rfl (cells_at (At.new w4 #[.bool false, .int .i64 aq.v, .int .i64 ev.x] _)) (opC_one _) (by unfold maxLen; omega) (by omega) (HW4.out _) ?_)
            intro v5 w5 hn5 hg5 _
            obtain ⟨ya5, yc5, rfl⟩ := row_slice hn5
            have HR5 : Hid (w5.ownsRow w.heap.size 82 3 (.slice ya5 (q.length + 1) yc5) (opsOf (h.take (k + 1)) t).length ((opsOf (h.take (k + 1)) t).flatMap opC)) := by
              unfold Hid
              rw [HT2.out, HOP.out]
              simpa using hn5
            have HB5 : Hid (Below w.heap.size w w5) := (HB4.out.alloc HB4.out.size (.cells #[.bool false, .int .i64 aq.v, .int .i64 ev.x] 82)).grown hg5 (HW4.out _) (fun k' hk' => (HR4.out.lt k' hk').1)
            have hE5 := (HE4.out.alloc (.cells #[.bool false, .int .i64 aq.v, .int .i64 ev.x] 82)).grown hg5 (Ne.symm (row_not HR4.out HE4.out (by decide)))
            have e50 := hE5.cell (i := 0) (v := .int .i64 ev.k) rfl
            clear hE5 hn5 hg5
            go_wp2
            go_roundw
            case rel => exact ⟨k + 1, by omega, by go_num, HR5, HB5⟩
            case measure => simp [intOf]; omega
          · by_cases h5 : ev.k = 5
            · have t3 : ((ev.k : Int) == 3) = false := by simp [h3]
              have t5 : ((ev.k : Int) == 5) = true := by simp [h5]
              have HOP : Hid (opStep aq ev = [⟨true, aq.v, aq.x⟩]) := by unfold Hid opStep; rw [if_neg h3, if_pos h5]
              clear h3 h5
              go_wp2_with (at_builtin; refine wpList_append_own _ rfl _ _ 61 rfl w.heap.size 82 j0 _ 3 24 Tryz.underlying61 hj0 hy0 hy1' hy2' rfl (by decide) (.slice ya q.length yc) q.length (q.flatMap opC) rfl (HR4.out.alloc _) ⟨w4.heap.size, 0, none⟩ 1 1 (opC ⟨true, aq.v, aq.x⟩) rfl rfl (cells_at (At.new w4 #[.bool true, .int .i64 aq.v, .int .i64 aq.x] _)) (opC_one _) (by unfold maxLen; omega) (by omega) (HW4.out _) ?_)
              intro v5 w5 hn5 hg5 _
              obtain ⟨ya5, yc5, rfl⟩ := row_slice hn5
              have HR5 : Hid (w5.ownsRow w.heap.size 82 3 (.slice ya5 (q.length + 1) yc5) (opsOf (h.take (k + 1)) t).length ((opsOf (h.take (k + 1)) t).flatMap opC)) := by
                unfold Hid
                rw [HT2.out, HOP.out]
                simpa using hn5
              have HB5 : Hid (Below w.heap.size w w5) := (HB4.out.alloc HB4.out.size (.cells #[.bool true, .int .i64 aq.v, .int .i64 aq.x] 82)).grown hg5 (HW4.out _) (fun k' hk' => (HR4.out.lt k' hk').1)
              have hE5 := (HE4.out.alloc (.cells #[.bool true, .int .i64 aq.v, .int .i64 aq.x] 82)).grown hg5 (Ne.symm (row_not HR4.out HE4.out (by decide)))
              have e50 := hE5.cell (i := 0) (v := .int .i64 ev.k) rfl
              clear hE5 hn5 hg5
              go_wp2
              go_roundw
              case rel => exact ⟨k + 1, by omega, by go_num, HR5, HB5⟩
              case measure => simp [intOf]; omega
            · have t3 : ((ev.k : Int) == 3) = false := by simp [h3]
              have t5 : ((ev.k : Int) == 5) = false := by simp [h5]
              have HOP : Hid (opsOf (h.take (k + 1)) t = q) := by unfold Hid; rw [HT2.out]; unfold opStep; rw [if_neg h3, if_neg h5, List.append_nil]
              clear h3 h5
              go_wp2
              go_roundw
              case rel => exact ⟨k + 1, by omega, by go_num, by rw [HOP.out]; exact HR4, HB4⟩
              case measure => simp [intOf]; omega
        · have tq : ((ev.t : Int) != t) = true := by simp [het]
          have HT2 : Hid (opsOf (h.take (k + 1)) t = q) := by unfold Hid; rw [HT.out, if_neg het, List.append_nil]
          clear het HT
          go_wp2
          go_roundw
          case rel => exact ⟨k + 1, by omega, by go_num, by rw [HT2.out]; exact HR1, HB1⟩
          case measure => simp [intOf]; omega
    · obtain rfl : k = h.length := by omega
      rw [List.take_length] at HR ⊢
      obtain ⟨q, hq⟩ : ∃ q, opsOf h t = q := ⟨_, rfl⟩
      rw [hq] at HR ⊢
      have HQ := Lib.hid hq
      clear hq
      go_wp2
      refine bodyPost_ret (v := .slice ya q.length yc) (by simp [results, Tryz.results30, go_sem]) rfl ⟨_, rfl, by rw [HQ.out]; exact HR.out, HB.out⟩
end Go.Proofs.YtmnblljenobofaaGreatDoor
