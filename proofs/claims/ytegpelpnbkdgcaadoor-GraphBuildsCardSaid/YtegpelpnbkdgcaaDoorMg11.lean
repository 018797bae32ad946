/- Merged: TxtT, PrpG, PrpJ. -/
import Derived.Test.YtegpelpnbkdgcaaDoorMg10
import Derived.Test.YtegpelpnbkdgcaaDoorMg4
import Derived.Test.YtegpelpnbkdgcaaDoorMg9
import Derived.Test.YtegpelpnbkdgcaaDoorMg1
import Derived.Deep.RegionWith
import Derived.Lib.Join
import Derived.RegionTactic
import Derived.Sort.OwnSortedInts
import Derived.Deep.RegionHeld
import Derived.Deep.DeepMust
import Derived.Deep.Cut
import Derived.Deep.DeepCutAuto
import Derived.Maps.RangeWalk
import Derived.Deep.CutRange
/- The walks of the reference's Right and Print. -/
namespace Go.Proofs.YtegpelpnbkdgcaaDoor.WPlain
end Go.Proofs.YtegpelpnbkdgcaaDoor.WPlain
namespace Go.Proofs.YtegpelpnbkdgcaaDoor
open Go.RowKit WPlain

set_option maxHeartbeats 1000000 in
theorem refRight_any (v : Value) (h : List Ev) (w : World) (hv : Evs w v h) (hl : h.length ≤ 65536) :
    Calls Tryd.prog 57 #[v] w fun e w' => e = .returned (.bool (right h)) ∧ Below w.heap.size w w' := by
  have HV := Lib.hid hv
  obtain ⟨a, c, rfl⟩ := hv.len
  clear hv
  have hb0 := Below.refl w.heap.size w
  unfold right
  obtain ⟨ok, hok⟩ : ∃ ok, ok = (decide (h.length ≤ 60) && h.all evOk && decide ((namesOf h).length ≤ 6)) := ⟨_, rfl⟩
  rw [← hok]
  have HOK := Lib.hid hok
  clear hok
  go_enter Tryd.func57, Tryd.ntmps57
  go_wp2_with fail
  go_loopw [7] (fun x wr => ∃ k : Nat, k ≤ h.length ∧ x = .int .i64 k ∧ Hid ((h.take k).all evOk = true) ∧ Below w.heap.size w wr) (fun x _ => h.length - (intOf x).toNat)
  case atStart => exact ⟨0, by omega, rfl, rfl, hb0⟩
  case round =>
    clear hb0
    obtain ⟨k, hk, rfl, HA, hb⟩ := hrel
    by_cases hlt : k < h.length
    · have hv2 := HV.out.below hb (Nat.le_refl _)
      have hbs := hb.size
      rcases hv2 with ⟨e0, _⟩ | ⟨l0, b, o, c', he, hbl, hc⟩
      · rw [e0] at hlt; simp at hlt
      · obtain ⟨rfl, rfl⟩ : a = some ⟨b, o, none⟩ ∧ c = c' := by simpa using he
        clear he
        obtain ⟨c0, c1, c2, c3⟩ := hc k hlt
        clear hc
        have hsn : h.take (k + 1) = h.take k ++ [h[k]] := List.take_succ_eq_append_getElem hlt
        have hmem : h[k] ∈ h := List.getElem_mem _
        have HMB := Lib.hid (rright_any h[k] (wr.alloc (.cells #[.int .i64 h[k].k, .int .i64 h[k].t, .int .i64 h[k].v, .int .i64 h[k].x] 69)))
        cases hev : evOk h[k] with
        | true =>
          have HEV := Lib.hid hev
          have HA2 : Hid ((h.take (k + 1)).all evOk = true) := by unfold Hid; rw [hsn, List.all_append, HA.out]; simp [hev]
          clear hev hsn hmem
          generalize h[k] = ev at *
          go_wp2_with fail
          refine HMB.out.mono ?_
          rintro e w2 ⟨rfl, hb2⟩
          rw [HEV.out]
          have hb3 := (hb.alloc hb.size (.cells #[.int .i64 ev.k, .int .i64 ev.t, .int .i64 ev.v, .int .i64 ev.x] 69)).trans (hb2.mono (by simp; omega))
          clear hb2 hb
          go_wp2
          go_roundw
          case rel => exact ⟨k + 1, by omega, by go_num, HA2, hb3⟩
          case measure => simp [intOf]; omega
        | false =>
          have HEV := Lib.hid hev
          have HF : Hid (ok = false) := by
            unfold Hid
            rw [HOK.out]
            have : h.all evOk = false := by
              cases hq : h.all evOk with
              | false => rfl
              | true => rw [List.all_eq_true] at hq; rw [hq _ hmem] at hev; simp at hev
            rw [this]; simp
          clear hev hsn hmem
          generalize h[k] = ev at *
          go_wp2_with fail
          refine HMB.out.mono ?_
          rintro e w2 ⟨rfl, hb2⟩
          rw [HEV.out]
          have hb3 := (hb.alloc hb.size (.cells #[.int .i64 ev.k, .int .i64 ev.t, .int .i64 ev.v, .int .i64 ev.x] 69)).trans (hb2.mono (by simp; omega))
          clear hb2 hb
          go_wp2
          go_ret
          exact ⟨by rw [HF.out]; rfl, hb3⟩
    · obtain rfl : k = h.length := by omega
      rw [List.take_length] at HA
      by_cases h60 : h.length ≤ 60
      · have t60 : ((h.length : Int) ≤ 60) := by omega
        have hE : Hid (ok = decide ((namesOf h).length ≤ 6)) := by unfold Hid; rw [HOK.out, HA.out, decide_eq_true h60]; simp
        have hv2 := HV.out.below hb (Nat.le_refl _)
        have HV2 := Lib.hid hv2
        clear hv2
        have hnl := namesOf_len h
        go_wp2_with fail
        refine (refNames_any _ h _ HV2.out hl).mono ?_
        rintro e w2 ⟨v', rfl, hy, hb2⟩
        obtain ⟨ya, yc, rfl⟩ := row_slice hy
        have hb3 := hb.trans (hb2.mono hb.size)
        clear hy hb2 hb
        generalize (namesOf h).length = nn at *
        go_wp2
        go_ret
        exact ⟨by rw [hE.out]; exact ret_bool (by simp; omega), hb3⟩
      · have t60 : decide ((h.length : Int) ≤ 60) = false := by simp; omega
        have hE : Hid (ok = false) := by unfold Hid; rw [HOK.out, decide_eq_false h60]; simp
        go_wp2
        go_ret
        exact ⟨by rw [hE.out]; rfl, hb⟩

end Go.Proofs.YtegpelpnbkdgcaaDoor
/- The walk of Next. -/
namespace Go.Proofs.YtegpelpnbkdgcaaDoor.WPlain
end Go.Proofs.YtegpelpnbkdgcaaDoor.WPlain
namespace Go.Proofs.YtegpelpnbkdgcaaDoor.QPlain
end Go.Proofs.YtegpelpnbkdgcaaDoor.QPlain
namespace Go.Proofs.YtegpelpnbkdgcaaDoor
open Go.RowKit WPlain QPlain
open Go.Maps (Keyed)

theorem below_drP (w : World) : Below w.heap.size w w.drew := (Below.refl _ _).drew
end Go.Proofs.YtegpelpnbkdgcaaDoor
/- The walks of the reference's First and Why. -/
namespace Go.Proofs.YtegpelpnbkdgcaaDoor.WPlain
end Go.Proofs.YtegpelpnbkdgcaaDoor.WPlain
namespace Go.Proofs.YtegpelpnbkdgcaaDoor.QPlain
end Go.Proofs.YtegpelpnbkdgcaaDoor.QPlain
namespace Go.Proofs.YtegpelpnbkdgcaaDoor
open Go.RowKit WPlain QPlain

theorem evs_cutP {w : World} {a : Option Addr} {n c : Nat} {h : List Ev} (hv : Evs w (.slice a n c) h) (k : Nat) (hk : k ≤ h.length) : Evs w (.slice a k c) (h.take k) := by
  have htl : (h.take k).length = k := by rw [List.length_take]; omega
  by_cases h0 : k = 0
  · subst h0
    exact .inl ⟨by simp, _, _, rfl⟩
  · rcases hv with ⟨e0, _⟩ | ⟨_, b, o, c', he, hlt, hc⟩
    · rw [e0] at hk; simp at hk; omega
    · simp only [Value.slice.injEq] at he
      obtain ⟨rfl, rfl, rfl⟩ := he
      refine .inr ⟨by omega, b, o, c, by rw [htl], hlt, fun i hi => ?_⟩
      have := hc i (by omega)
      rw [List.getElem_take]
      exact this
theorem below_stpP {wz w6 : World} (h : Below wz.drew.heap.size wz.drew w6) : Below wz.heap.size wz w6 := (below_drP wz).trans h
theorem first_more {pre r : List Ev} {e : Ev} (hm : mayS (lastOf pre e.t) e.k = true) : firstG pre (e :: r) = firstG (pre ++ [e]) r := by unfold firstG; rw [if_pos hm]; cases r <;> rfl
theorem first_stop {pre r : List Ev} {e : Ev} (hm : mayS (lastOf pre e.t) e.k = false) : firstG pre (e :: r) = pre.length := by unfold firstG; rw [if_neg (by rw [hm]; simp)]
set_option maxRecDepth 100000 in
set_option maxHeartbeats 1000000 in
theorem first_any (v : Value) (h : List Ev) (w : World) (hv : Evs w v h) (hl : h.length ≤ 65536) (hk : ∀ e ∈ h, 0 ≤ e.k ∧ e.k < 10) (hcap : ∀ a n c, v = .slice a n c → n ≤ c) :
    Calls Tryd.prog 58 #[v] w fun e w' => e = .returned (.int .i64 (firstS h)) ∧ Below w.heap.size w w' := by
  have hb0 := Below.refl w.heap.size w
  have HV := Lib.hid hv
  have HK := Lib.hid hk
  obtain ⟨a, c, rfl⟩ := hv.len
  have hcp : h.length ≤ c := hcap _ _ _ rfl
  obtain ⟨Z, hZ⟩ : ∃ Z, firstS h = Z := ⟨_, rfl⟩
  rw [hZ]
  have HZ := Lib.hid hZ
  clear hv hk hcap hZ
  go_enter Tryd.func58, Tryd.ntmps58
  go_wp2_with fail
  go_loopw [7] (fun x wr => ∃ k : Nat, k ≤ h.length ∧ x = .int .i64 k ∧ Hid (firstG (h.take k) (h.drop k) = Z) ∧ Hid (Below w.heap.size w wr)) (fun x _ => h.length - (intOf x).toNat)
  case atStart => exact ⟨0, by omega, rfl, HZ, hb0⟩
  case round =>
    clear hb0 HZ
    obtain ⟨k, hk, rfl, HZ, HB⟩ := hrel
    by_cases hlt : k < h.length
    · have hv2 := HV.out.below HB.out (Nat.le_refl _)
      have hz := HZ.out
      rw [List.drop_eq_getElem_cons hlt] at hz
      have hek := HK.out h[k] (List.getElem_mem hlt)
      have hT : h.take (k + 1) = h.take k ++ [h[k]] := List.take_succ_eq_append_getElem hlt
      have htl : (h.take k).length = k := by rw [List.length_take]; omega
      have hlr := lastOf_range (h := h.take k) (fun e he => HK.out e (List.mem_of_mem_take he)) (h[k]).t
      have hcut := fun (W : World) (hW : Below wr.heap.size wr W) => last_any _ (h.take k) (h[k]).t W (evs_cutP (hv2.below hW (Nat.le_refl _)) k (Nat.le_of_lt hlt)) (by omega)
      rcases hv2 with ⟨e0, _⟩ | ⟨l0, b, o, c', he, hbl, hc⟩
      · rw [e0] at hlt; simp at hlt
      · obtain ⟨rfl, rfl⟩ : a = some ⟨b, o, none⟩ ∧ c = c' := by simpa using he
        clear he
        obtain ⟨c0, c1, c2, c3⟩ := hc k hlt
        clear hc
        have hk0 : (0 : Int) ≤ (k : Int) := by omega
        have hkc : (k : Int) ≤ (c : Int) := by omega
        generalize h[k] = ev at *
        have HT := Lib.hid hT
        have HTL := Lib.hid htl
        have HZ1 := Lib.hid hz
        have hbA := (Below.refl wr.heap.size wr).alloc (Nat.le_refl _) (.cells #[.int .i64 ev.k, .int .i64 ev.t, .int .i64 ev.v, .int .i64 ev.x] 69)
        have HB1 := Lib.hid (HB.out.alloc HB.out.size (.cells #[.int .i64 ev.k, .int .i64 ev.t, .int .i64 ev.v, .int .i64 ev.x] 69))
        have HE := Lib.hid (At.new wr #[.int .i64 ev.k, .int .i64 ev.t, .int .i64 ev.v, .int .i64 ev.x] 69)
        have HL : Hid (∀ W, Below (wr.alloc (.cells #[.int .i64 ev.k, .int .i64 ev.t, .int .i64 ev.v, .int .i64 ev.x] 69)).heap.size (wr.alloc (.cells #[.int .i64 ev.k, .int .i64 ev.t, .int .i64 ev.v, .int .i64 ev.x] 69)) W → Calls Tryd.prog 35 #[.slice (some ⟨b, o, none⟩) k c, .int .i64 ev.t] W fun e w' => e = .returned (.int .i64 (lastOf (h.take k) ev.t)) ∧ Below W.heap.size W w') :=
          fun W hW => hcut W (hbA.trans (hW.mono hbA.size))
        clear hT htl hz hcut hbA HZ HB
        go_upto_region 4 with fail
        generalize wr.alloc (.cells #[.int .i64 ev.k, .int .i64 ev.t, .int .i64 ev.v, .int .i64 ev.x] 69) = w1 at *
        generalize wr.heap.size = N at *
        have HC : Hid (∀ W, Below w1.heap.size w1 W → W.cell? ⟨N, 0, none⟩ = some (.int .i64 ev.k) ∧ W.cell? ⟨N, 1, none⟩ = some (.int .i64 ev.t)) := fun W hW => ⟨(HE.out.below hW HE.out.lt).cell (i := 0) rfl, (HE.out.below hW HE.out.lt).cell (i := 1) rfl⟩
        clear HE c0 c1 c2 c3
        go_cut [21] from 8 to 23 (fun v wx => v = .bool (!mayS (lastOf (h.take k) ev.t) ev.k) ∧ Hid (Below w.heap.size w wx))
        case first =>
          generalize lastOf (h.take k) ev.t = ll at *
          first
          | go_must (go_region_held (fun w' => w'.cell? ⟨N, 0, none⟩ = some (.int .i64 ev.k) ∧ w'.cell? ⟨N, 1, none⟩ = some (.int .i64 ev.t))
              (first | exact HC.out _ hb4 | exact HC.out _ (below_drP _))
              (first | (go_at_call 35; refine (HL.out _ (below_drP _)).mono ?_; rintro e w4 ⟨rfl, hb⟩; have hb4 := below_stpP hb; clear hb) | (go_at_call 87; refine (may_any _ _ hlr hek _).mono ?_; rintro e w5 ⟨rfl, rfl⟩)))
          | fail
          all_goals
            go_wp2_with fail
            go_meet
            exact ⟨rfl, HB1.out.trans (hb4.mono HB1.out.size)⟩
        case rest =>
        obtain ⟨rfl, HB4⟩ := hcut
        have HKE : Hid (∀ m : Bool, mayS (lastOf (h.take k) ev.t) ev.k = m → if m = true then firstG (h.take (k + 1)) (h.drop (k + 1)) = Z else Z = k) := by
          intro m hm
          have hz := HZ1.out
          cases m with
          | true => rw [first_more hm, ← HT.out] at hz; rw [if_pos rfl]; exact hz
          | false => rw [first_stop hm, HTL.out] at hz; rw [if_neg (by simp)]; exact hz.symm
        clear HL HC HZ1 HT HTL HB1
        cases hm : mayS (lastOf (h.take k) ev.t) ev.k with
        | true =>
          have HZ2 : Hid (firstG (h.take (k + 1)) (h.drop (k + 1)) = Z) := by have := HKE.out true hm; rw [if_pos rfl] at this; exact this
          clear hm HKE
          go_wp2
          go_roundw
          case rel => exact ⟨k + 1, by omega, by go_num, HZ2, HB4⟩
          case measure => simp [intOf]; omega
        | false =>
          have HZ2 : Hid (Z = k) := by have := HKE.out false hm; rw [if_neg (by simp)] at this; exact this
          clear hm HKE
          go_wp2
          refine bodyPost_ret (v := .int .i64 k) (by simp [results, Tryd.results58, go_sem]) rfl ⟨by rw [HZ2.out], HB4.out⟩
    · obtain rfl : k = h.length := by omega
      have hz := HZ.out
      rw [List.drop_length, List.take_length] at hz
      have HZ2 : Hid (Z = h.length) := by unfold Hid; rw [← hz]; rfl
      clear hz HZ
      go_wp2
      refine bodyPost_ret (v := .int .i64 h.length) (by simp [results, Tryd.results58, go_sem]) rfl ⟨by rw [HZ2.out], HB.out⟩
/-- why events are not well formed -/
def whyS (h : List Ev) : Nat := if right h = true then (if firstS h < h.length then 6 else 0) else 1
theorem whyS_check (h : List Ev) : whyS h = (checkS h).2 := by
  unfold whyS
  cases hr : right h with
  | false => unfold checkS; rw [hr]; rfl
  | true =>
    have := first_le hr
    rw [check_first hr, if_pos rfl]
    by_cases he : firstS h = h.length
    · rw [if_neg (by omega), if_pos he]
    · rw [if_pos (by omega), if_neg he]
set_option maxRecDepth 100000 in
set_option maxHeartbeats 1000000 in
theorem why_any (v : Value) (h : List Ev) (w : World) (hv : Evs w v h) (hl : h.length ≤ 65536) (hcap : ∀ a n c, v = .slice a n c → n ≤ c) :
    Calls Tryd.prog 30 #[v] w fun e w' => e = .returned (.int .i64 ((whyS h : Nat) : Int)) ∧ Below w.heap.size w w' := by
  have HR := Lib.hid (refRight_any v h w hv hl)
  have HV := Lib.hid hv
  have HFI : Hid (right h = true → ∀ W, Below w.heap.size w W → Calls Tryd.prog 58 #[v] W fun e w' => e = .returned (.int .i64 (firstS h)) ∧ Below W.heap.size W w') :=
    fun hr W hW => first_any v h W (hv.below hW (Nat.le_refl _)) hl (fun e he => ((right_evs hr).2 e he).1) hcap
  obtain ⟨a, c, rfl⟩ := hv.len
  unfold whyS
  clear hv
  cases hr : right h with
  | false =>
    rw [if_neg (by simp)]
    rw [hr] at HR
    clear HFI
    go_enter Tryd.func30, Tryd.ntmps30
    go_wp2_with fail
    refine HR.out.mono ?_
    rintro e w1 ⟨rfl, hb1⟩
    go_wp2
    go_ret
    exact ⟨rfl, hb1⟩
  | true =>
    rw [if_pos rfl]
    rw [hr] at HR
    have HF := Lib.hid (HFI.out hr)
    clear HFI hr
    generalize firstS h = f at *
    by_cases hlt : f < h.length
    · rw [if_pos hlt]
      have tl : decide (f < h.length) = true := decide_eq_true hlt
      go_enter Tryd.func30, Tryd.ntmps30
      go_wp2_with fail
      refine HR.out.mono ?_
      rintro e w1 ⟨rfl, hb1⟩
      have HB1 := Lib.hid hb1
      clear hb1
      go_wp2_with fail
      refine (HF.out _ HB1.out).mono ?_
      rintro e w2 ⟨rfl, hb2⟩
      go_wp2
      go_ret
      exact ⟨rfl, HB1.out.trans (hb2.mono HB1.out.size)⟩
    · rw [if_neg hlt]
      have tl : decide (f < h.length) = false := decide_eq_false hlt
      go_enter Tryd.func30, Tryd.ntmps30
      go_wp2_with fail
      refine HR.out.mono ?_
      rintro e w1 ⟨rfl, hb1⟩
      have HB1 := Lib.hid hb1
      clear hb1
      go_wp2_with fail
      refine (HF.out _ HB1.out).mono ?_
      rintro e w2 ⟨rfl, hb2⟩
      go_wp2
      go_ret
      exact ⟨rfl, HB1.out.trans (hb2.mono HB1.out.size)⟩
end Go.Proofs.YtegpelpnbkdgcaaDoor
