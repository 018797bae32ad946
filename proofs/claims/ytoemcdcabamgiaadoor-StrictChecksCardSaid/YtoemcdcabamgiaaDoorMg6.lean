/- Merged: TxtT, PrpG, PrpJ, OpenBy, KitF, KitT, TabC. -/
import Derived.Test.YtoemcdcabamgiaaDoorTxtS
import Derived.Test.YtoemcdcabamgiaaDoorMg5
import Derived.Test.YtoemcdcabamgiaaDoorMg3
import Derived.Test.YtoemcdcabamgiaaDoorMg2
import Derived.Test.YtoemcdcabamgiaaDoorRows
import Derived.Test.YtoemcdcabamgiaaDoorMg1
import Derived.Test.YtoemcdcabamgiaaDoorMg4
import Derived.Deep.RegionWith
import Derived.Lib.Join
import Derived.RegionTactic
import Derived.Sort.OwnSortedInts
import Derived.Deep.RegionHeld
import Derived.Deep.DeepMust
import Derived.Deep.Cut
import Derived.Deep.DeepCutAuto
import Derived.Maps.RangeWalk
import Derived.Deep.CutRange
import Derived.Deep.Slices
import Derived.ChangeSame
import Derived.OpenShut
import Derived.Below
/- The walks of the reference's Right and Print. -/
namespace Go.Proofs.YtoemcdcabamgiaaDoor.WPlain
end Go.Proofs.YtoemcdcabamgiaaDoor.WPlain
namespace Go.Proofs.YtoemcdcabamgiaaDoor
open Go.RowKit WPlain

set_option maxHeartbeats 1000000 in
theorem refRight_any (v : Value) (h : List Ev) (w : World) (hv : Evs w v h) (hl : h.length ≤ 65536) :
    Calls Tryd.prog 44 #[v] w fun e w' => e = .returned (.bool (right h)) ∧ Below w.heap.size w w' := by
  have HV := Lib.hid hv
  obtain ⟨a, c, rfl⟩ := hv.len
  clear hv
  have hb0 := Below.refl w.heap.size w
  unfold right
  obtain ⟨ok, hok⟩ : ∃ ok, ok = (decide (h.length ≤ 60) && h.all evOk && decide ((namesOf h).length ≤ 6)) := ⟨_, rfl⟩
  rw [← hok]
  have HOK := Lib.hid hok
  clear hok
  go_enter Tryd.func44, Tryd.ntmps44
  go_wp2_with fail
  go_loopw [7] (fun x wr => ∃ k : Nat, k ≤ h.length ∧ x = .int .i64 k ∧ Hid ((h.take k).all evOk = true) ∧ Below w.heap.size w wr) (fun x _ => h.length - (intOf x).toNat)
  case atStart => exact ⟨0, by omega, rfl, rfl, hb0⟩
  case round =>
    clear hb0
    obtain ⟨k, hk, rfl, HA, hb⟩ := hrel
    by_cases hlt : k < h.length
    · have hv2 := HV.out.below hb (Nat.le_refl _)
      have hbs := hb.size
      rcases hv2 with ⟨e0, _⟩ | ⟨l0, b, o, c', he, hbl, hc⟩
      · rw [e0] at hlt; simp at hlt
      · obtain ⟨rfl, rfl⟩ : a = some ⟨b, o, none⟩ ∧ c = c' := by simpa using he
        clear he
        obtain ⟨c0, c1, c2, c3⟩ := hc k hlt
        clear hc
        have hsn : h.take (k + 1) = h.take k ++ [h[k]] := List.take_succ_eq_append_getElem hlt
        have hmem : h[k] ∈ h := List.getElem_mem _
        have HMB := Lib.hid (rright_any h[k] (wr.alloc (.cells #[.int .i64 h[k].k, .int .i64 h[k].t, .int .i64 h[k].v, .int .i64 h[k].x] 45)))
        cases hev : evOk h[k] with
        | true =>
          have HEV := Lib.hid hev
          have HA2 : Hid ((h.take (k + 1)).all evOk = true) := by unfold Hid; rw [hsn, List.all_append, HA.out]; simp [hev]
          clear hev hsn hmem
          generalize h[k] = ev at *
          go_wp2_with fail
          refine HMB.out.mono ?_
          rintro e w2 ⟨rfl, hb2⟩
          rw [HEV.out]
          have hb3 := (hb.alloc hb.size (.cells #[.int .i64 ev.k, .int .i64 ev.t, .int .i64 ev.v, .int .i64 ev.x] 45)).trans (hb2.mono (by simp; omega))
          clear hb2 hb
          go_wp2
          go_roundw
          case rel => exact ⟨k + 1, by omega, by go_num, HA2, hb3⟩
          case measure => simp [intOf]; omega
        | false =>
          have HEV := Lib.hid hev
          have HF : Hid (ok = false) := by
            unfold Hid
            rw [HOK.out]
            have : h.all evOk = false := by
              cases hq : h.all evOk with
              | false => rfl
              | true => rw [List.all_eq_true] at hq; rw [hq _ hmem] at hev; simp at hev
            rw [this]; simp
          clear hev hsn hmem
          generalize h[k] = ev at *
          go_wp2_with fail
          refine HMB.out.mono ?_
          rintro e w2 ⟨rfl, hb2⟩
          rw [HEV.out]
          have hb3 := (hb.alloc hb.size (.cells #[.int .i64 ev.k, .int .i64 ev.t, .int .i64 ev.v, .int .i64 ev.x] 45)).trans (hb2.mono (by simp; omega))
          clear hb2 hb
          go_wp2
          go_ret
          exact ⟨by rw [HF.out]; rfl, hb3⟩
    · obtain rfl : k = h.length := by omega
      rw [List.take_length] at HA
      by_cases h60 : h.length ≤ 60
      · have t60 : ((h.length : Int) ≤ 60) := by omega
        have hE : Hid (ok = decide ((namesOf h).length ≤ 6)) := by unfold Hid; rw [HOK.out, HA.out, decide_eq_true h60]; simp
        have hv2 := HV.out.below hb (Nat.le_refl _)
        have HV2 := Lib.hid hv2
        clear hv2
        have hnl := namesOf_len h
        go_wp2_with fail
        refine (refNames_any _ h _ HV2.out hl).mono ?_
        rintro e w2 ⟨v', rfl, hy, hb2⟩
        obtain ⟨ya, yc, rfl⟩ := row_slice hy
        have hb3 := hb.trans (hb2.mono hb.size)
        clear hy hb2 hb
        generalize (namesOf h).length = nn at *
        go_wp2
        go_ret
        exact ⟨by rw [hE.out]; exact ret_bool (by simp; omega), hb3⟩
      · have t60 : decide ((h.length : Int) ≤ 60) = false := by simp; omega
        have hE : Hid (ok = false) := by unfold Hid; rw [HOK.out, decide_eq_false h60]; simp
        go_wp2
        go_ret
        exact ⟨by rw [hE.out]; rfl, hb⟩

end Go.Proofs.YtoemcdcabamgiaaDoor
/- The walk of Next. -/
namespace Go.Proofs.YtoemcdcabamgiaaDoor.WPlain
end Go.Proofs.YtoemcdcabamgiaaDoor.WPlain
namespace Go.Proofs.YtoemcdcabamgiaaDoor.QPlain
end Go.Proofs.YtoemcdcabamgiaaDoor.QPlain
namespace Go.Proofs.YtoemcdcabamgiaaDoor
open Go.RowKit WPlain QPlain
open Go.Maps (Keyed)

theorem below_drP (w : World) : Below w.heap.size w w.drew := (Below.refl _ _).drew
end Go.Proofs.YtoemcdcabamgiaaDoor
/- The walks of the reference's First and Why. -/
namespace Go.Proofs.YtoemcdcabamgiaaDoor.WPlain
end Go.Proofs.YtoemcdcabamgiaaDoor.WPlain
namespace Go.Proofs.YtoemcdcabamgiaaDoor.QPlain
end Go.Proofs.YtoemcdcabamgiaaDoor.QPlain
namespace Go.Proofs.YtoemcdcabamgiaaDoor
open Go.RowKit WPlain QPlain

theorem evs_cutP {w : World} {a : Option Addr} {n c : Nat} {h : List Ev} (hv : Evs w (.slice a n c) h) (k : Nat) (hk : k ≤ h.length) : Evs w (.slice a k c) (h.take k) := by
  have htl : (h.take k).length = k := by rw [List.length_take]; omega
  by_cases h0 : k = 0
  · subst h0
    exact .inl ⟨by simp, _, _, rfl⟩
  · rcases hv with ⟨e0, _⟩ | ⟨_, b, o, c', he, hlt, hc⟩
    · rw [e0] at hk; simp at hk; omega
    · simp only [Value.slice.injEq] at he
      obtain ⟨rfl, rfl, rfl⟩ := he
      refine .inr ⟨by omega, b, o, c, by rw [htl], hlt, fun i hi => ?_⟩
      have := hc i (by omega)
      rw [List.getElem_take]
      exact this
theorem below_stpP {wz w6 : World} (h : Below wz.drew.heap.size wz.drew w6) : Below wz.heap.size wz w6 := (below_drP wz).trans h
theorem first_more {pre r : List Ev} {e : Ev} (hm : mayS (lastOf pre e.t) e.k = true) : firstG pre (e :: r) = firstG (pre ++ [e]) r := by unfold firstG; rw [if_pos hm]; cases r <;> rfl
theorem first_stop {pre r : List Ev} {e : Ev} (hm : mayS (lastOf pre e.t) e.k = false) : firstG pre (e :: r) = pre.length := by unfold firstG; rw [if_neg (by rw [hm]; simp)]
set_option maxRecDepth 100000 in
set_option maxHeartbeats 1000000 in
theorem first_any (v : Value) (h : List Ev) (w : World) (hv : Evs w v h) (hl : h.length ≤ 65536) (hk : ∀ e ∈ h, 0 ≤ e.k ∧ e.k < 10) (hcap : ∀ a n c, v = .slice a n c → n ≤ c) :
    Calls Tryd.prog 45 #[v] w fun e w' => e = .returned (.int .i64 (firstS h)) ∧ Below w.heap.size w w' := by
  have hb0 := Below.refl w.heap.size w
  have HV := Lib.hid hv
  have HK := Lib.hid hk
  obtain ⟨a, c, rfl⟩ := hv.len
  have hcp : h.length ≤ c := hcap _ _ _ rfl
  obtain ⟨Z, hZ⟩ : ∃ Z, firstS h = Z := ⟨_, rfl⟩
  rw [hZ]
  have HZ := Lib.hid hZ
  clear hv hk hcap hZ
  go_enter Tryd.func45, Tryd.ntmps45
  go_wp2_with fail
  go_loopw [7] (fun x wr => ∃ k : Nat, k ≤ h.length ∧ x = .int .i64 k ∧ Hid (firstG (h.take k) (h.drop k) = Z) ∧ Hid (Below w.heap.size w wr)) (fun x _ => h.length - (intOf x).toNat)
  case atStart => exact ⟨0, by omega, rfl, HZ, hb0⟩
  case round =>
    clear hb0 HZ
    obtain ⟨k, hk, rfl, HZ, HB⟩ := hrel
    by_cases hlt : k < h.length
    · have hv2 := HV.out.below HB.out (Nat.le_refl _)
      have hz := HZ.out
      rw [List.drop_eq_getElem_cons hlt] at hz
      have hek := HK.out h[k] (List.getElem_mem hlt)
      have hT : h.take (k + 1) = h.take k ++ [h[k]] := List.take_succ_eq_append_getElem hlt
      have htl : (h.take k).length = k := by rw [List.length_take]; omega
      have hlr := lastOf_range (h := h.take k) (fun e he => HK.out e (List.mem_of_mem_take he)) (h[k]).t
      have hcut := fun (W : World) (hW : Below wr.heap.size wr W) => last_any _ (h.take k) (h[k]).t W (evs_cutP (hv2.below hW (Nat.le_refl _)) k (Nat.le_of_lt hlt)) (by omega)
      rcases hv2 with ⟨e0, _⟩ | ⟨l0, b, o, c', he, hbl, hc⟩
      · rw [e0] at hlt; simp at hlt
      · obtain ⟨rfl, rfl⟩ : a = some ⟨b, o, none⟩ ∧ c = c' := by simpa using he
        clear he
        obtain ⟨c0, c1, c2, c3⟩ := hc k hlt
        clear hc
        have hk0 : (0 : Int) ≤ (k : Int) := by omega
        have hkc : (k : Int) ≤ (c : Int) := by omega
        generalize h[k] = ev at *
        have HT := Lib.hid hT
        have HTL := Lib.hid htl
        have HZ1 := Lib.hid hz
        have hbA := (Below.refl wr.heap.size wr).alloc (Nat.le_refl _) (.cells #[.int .i64 ev.k, .int .i64 ev.t, .int .i64 ev.v, .int .i64 ev.x] 45)
        have HB1 := Lib.hid (HB.out.alloc HB.out.size (.cells #[.int .i64 ev.k, .int .i64 ev.t, .int .i64 ev.v, .int .i64 ev.x] 45))
        have HE := Lib.hid (At.new wr #[.int .i64 ev.k, .int .i64 ev.t, .int .i64 ev.v, .int .i64 ev.x] 45)
        have HL : Hid (∀ W, Below (wr.alloc (.cells #[.int .i64 ev.k, .int .i64 ev.t, .int .i64 ev.v, .int .i64 ev.x] 45)).heap.size (wr.alloc (.cells #[.int .i64 ev.k, .int .i64 ev.t, .int .i64 ev.v, .int .i64 ev.x] 45)) W → Calls Tryd.prog 53 #[.slice (some ⟨b, o, none⟩) k c, .int .i64 ev.t] W fun e w' => e = .returned (.int .i64 (lastOf (h.take k) ev.t)) ∧ Below W.heap.size W w') :=
          fun W hW => hcut W (hbA.trans (hW.mono hbA.size))
        clear hT htl hz hcut hbA HZ HB
        go_upto_region 4 with fail
        generalize wr.alloc (.cells #[.int .i64 ev.k, .int .i64 ev.t, .int .i64 ev.v, .int .i64 ev.x] 45) = w1 at *
        generalize wr.heap.size = N at *
        have HC : Hid (∀ W, Below w1.heap.size w1 W → W.cell? ⟨N, 0, none⟩ = some (.int .i64 ev.k) ∧ W.cell? ⟨N, 1, none⟩ = some (.int .i64 ev.t)) := fun W hW => ⟨(HE.out.below hW HE.out.lt).cell (i := 0) rfl, (HE.out.below hW HE.out.lt).cell (i := 1) rfl⟩
        clear HE c0 c1 c2 c3
        go_cut [21] from 8 to 23 (fun v wx => v = .bool (!mayS (lastOf (h.take k) ev.t) ev.k) ∧ Hid (Below w.heap.size w wx))
        case first =>
          generalize lastOf (h.take k) ev.t = ll at *
          first
          | go_must (go_region_held (fun w' => w'.cell? ⟨N, 0, none⟩ = some (.int .i64 ev.k) ∧ w'.cell? ⟨N, 1, none⟩ = some (.int .i64 ev.t))
              (first | exact HC.out _ hb4 | exact HC.out _ (below_drP _))
              (first | (go_at_call 53; refine (HL.out _ (below_drP _)).mono ?_; rintro e w4 ⟨rfl, hb⟩; have hb4 := below_stpP hb; clear hb) | (go_at_call 68; refine (may_any _ _ hlr hek _).mono ?_; rintro e w5 ⟨rfl, rfl⟩)))
          | fail
          all_goals
            go_wp2_with fail
            go_meet
            exact ⟨rfl, HB1.out.trans (hb4.mono HB1.out.size)⟩
        case rest =>
        obtain ⟨rfl, HB4⟩ := hcut
        have HKE : Hid (∀ m : Bool, mayS (lastOf (h.take k) ev.t) ev.k = m → if m = true then firstG (h.take (k + 1)) (h.drop (k + 1)) = Z else Z = k) := by
          intro m hm
          have hz := HZ1.out
          cases m with
          | true => rw [first_more hm, ← HT.out] at hz; rw [if_pos rfl]; exact hz
          | false => rw [first_stop hm, HTL.out] at hz; rw [if_neg (by simp)]; exact hz.symm
        clear HL HC HZ1 HT HTL HB1
        cases hm : mayS (lastOf (h.take k) ev.t) ev.k with
        | true =>
          have HZ2 : Hid (firstG (h.take (k + 1)) (h.drop (k + 1)) = Z) := by have := HKE.out true hm; rw [if_pos rfl] at this; exact this
          clear hm HKE
          go_wp2
          go_roundw
          case rel => exact ⟨k + 1, by omega, by go_num, HZ2, HB4⟩
          case measure => simp [intOf]; omega
        | false =>
          have HZ2 : Hid (Z = k) := by have := HKE.out false hm; rw [if_neg (by simp)] at this; exact this
          clear hm HKE
          go_wp2
          refine bodyPost_ret (v := .int .i64 k) (by simp [results, Tryd.results45, go_sem]) rfl ⟨by rw [HZ2.out], HB4.out⟩
    · obtain rfl : k = h.length := by omega
      have hz := HZ.out
      rw [List.drop_length, List.take_length] at hz
      have HZ2 : Hid (Z = h.length) := by unfold Hid; rw [← hz]; rfl
      clear hz HZ
      go_wp2
      refine bodyPost_ret (v := .int .i64 h.length) (by simp [results, Tryd.results45, go_sem]) rfl ⟨by rw [HZ2.out], HB.out⟩
/-- why events are not well formed -/
def whyS (h : List Ev) : Nat := if right h = true then (if firstS h < h.length then 6 else 0) else 1
theorem whyS_check (h : List Ev) : whyS h = (checkS h).2 := by
  unfold whyS
  cases hr : right h with
  | false => unfold checkS; rw [hr]; rfl
  | true =>
    have := first_le hr
    rw [check_first hr, if_pos rfl]
    by_cases he : firstS h = h.length
    · rw [if_neg (by omega), if_pos he]
    · rw [if_pos (by omega), if_neg he]
set_option maxRecDepth 100000 in
set_option maxHeartbeats 1000000 in
theorem why_any (v : Value) (h : List Ev) (w : World) (hv : Evs w v h) (hl : h.length ≤ 65536) (hcap : ∀ a n c, v = .slice a n c → n ≤ c) :
    Calls Tryd.prog 22 #[v] w fun e w' => e = .returned (.int .i64 ((whyS h : Nat) : Int)) ∧ Below w.heap.size w w' := by
  have HR := Lib.hid (refRight_any v h w hv hl)
  have HV := Lib.hid hv
  have HFI : Hid (right h = true → ∀ W, Below w.heap.size w W → Calls Tryd.prog 45 #[v] W fun e w' => e = .returned (.int .i64 (firstS h)) ∧ Below W.heap.size W w') :=
    fun hr W hW => first_any v h W (hv.below hW (Nat.le_refl _)) hl (fun e he => ((right_evs hr).2 e he).1) hcap
  obtain ⟨a, c, rfl⟩ := hv.len
  unfold whyS
  clear hv
  cases hr : right h with
  | false =>
    rw [if_neg (by simp)]
    rw [hr] at HR
    clear HFI
    go_enter Tryd.func22, Tryd.ntmps22
    go_wp2_with fail
    refine HR.out.mono ?_
    rintro e w1 ⟨rfl, hb1⟩
    go_wp2
    go_ret
    exact ⟨rfl, hb1⟩
  | true =>
    rw [if_pos rfl]
    rw [hr] at HR
    have HF := Lib.hid (HFI.out hr)
    clear HFI hr
    generalize firstS h = f at *
    by_cases hlt : f < h.length
    · rw [if_pos hlt]
      have tl : decide (f < h.length) = true := decide_eq_true hlt
      go_enter Tryd.func22, Tryd.ntmps22
      go_wp2_with fail
      refine HR.out.mono ?_
      rintro e w1 ⟨rfl, hb1⟩
      have HB1 := Lib.hid hb1
      clear hb1
      go_wp2_with fail
      refine (HF.out _ HB1.out).mono ?_
      rintro e w2 ⟨rfl, hb2⟩
      go_wp2
      go_ret
      exact ⟨rfl, HB1.out.trans (hb2.mono HB1.out.size)⟩
    · rw [if_neg hlt]
      have tl : decide (f < h.length) = false := decide_eq_false hlt
      go_enter Tryd.func22, Tryd.ntmps22
      go_wp2_with fail
      refine HR.out.mono ?_
      rintro e w1 ⟨rfl, hb1⟩
      have HB1 := Lib.hid hb1
      clear hb1
      go_wp2_with fail
      refine (HF.out _ HB1.out).mono ?_
      rintro e w2 ⟨rfl, hb2⟩
      go_wp2
      go_ret
      exact ⟨rfl, HB1.out.trans (hb2.mono HB1.out.size)⟩
end Go.Proofs.YtoemcdcabamgiaaDoor
/- An argument that is a slice of bytes. -/
namespace Go.Proofs.YtoemcdcabamgiaaDoor
open Go.ChangeShapes Go.WideShapes Go.RowKit Go.Deep

/-- bytes as cells -/
def bs (l : List Nat) : List Value := l.map (fun (c : Nat) => Value.int .u8 (c : Int))
theorem bs_at {l : List Nat} {i : Nat} (h : i < l.length) : (bs l)[i]? = some (.int .u8 (l[i] : Int)) := by simp [bs, h]
theorem bs_len (l : List Nat) : (bs l).length = l.length := by simp [bs]

/-- cut to its first k -/
theorem Rd.cut {w : World} {a : Option Addr} {n c : Nat} {xs : List Value} (h : Rd w (.slice a n c) xs) (k : Nat) (hk : k ≤ n) : Rd w (.slice a k c) (xs.take k) := by
  rcases h with ⟨rfl, a', c', he⟩ | ⟨h0, b, o, c', he, hc⟩
  · simp only [Value.slice.injEq] at he
    obtain ⟨_, rfl, _⟩ := he
    exact .inl ⟨by simp, _, _, by rw [show k = 0 from by omega]⟩
  · simp only [Value.slice.injEq] at he
    obtain ⟨rfl, rfl, rfl⟩ := he
    by_cases hk0 : 0 < k
    · refine .inr ⟨by simp; omega, b, o, c, by simp; omega, fun i u hu => ?_⟩
      rw [List.getElem?_take] at hu
      split at hu
      · exact hc i u hu
      · cases hu
    · have : k = 0 := by omega
      subst this
      exact .inl ⟨by simp, _, _, rfl⟩
end Go.Proofs.YtoemcdcabamgiaaDoor
/- Small laws of memory, of no program: what only some blocks have turned; bytes that lie below. -/
namespace Go.Proofs.YtoemcdcabamgiaaDoor.WPlain
end Go.Proofs.YtoemcdcabamgiaaDoor.WPlain
namespace Go.Proofs.YtoemcdcabamgiaaDoor.VPlain
end Go.Proofs.YtoemcdcabamgiaaDoor.VPlain
namespace Go.Proofs.YtoemcdcabamgiaaDoor.BPlain
end Go.Proofs.YtoemcdcabamgiaaDoor.BPlain
namespace Go.Proofs.YtoemcdcabamgiaaDoor
open Go.RowKit WPlain VPlain BPlain

/-- of the blocks that there were only those of s have turned -/
structure Only (s : Nat → Prop) (w w' : World) : Prop where
  os : w'.os = w.os
  tape : w'.tape = w.tape
  output : w'.output = w.output
  size : w.heap.size ≤ w'.heap.size
  block : ∀ k, k < w.heap.size → ¬ s k → w'.heap[k]? = w.heap[k]?
theorem Only.refl (s : Nat → Prop) (w : World) : Only s w w := ⟨rfl, rfl, rfl, Nat.le_refl _, fun _ _ _ => rfl⟩
theorem Only.trans {s t : Nat → Prop} {a b c : World} (h : Only s a b) (k : Only t b c) (hst : ∀ i, i < a.heap.size → t i → s i) : Only s a c :=
  ⟨k.os.trans h.os, k.tape.trans h.tape, k.output.trans h.output, Nat.le_trans h.size k.size,
   fun i hi hn => (k.block i (Nat.lt_of_lt_of_le hi h.size) (fun ht => hn (hst i hi ht))).trans (h.block i hi hn)⟩
theorem Only.mono {s t : Nat → Prop} {a b : World} (h : Only s a b) (hst : ∀ i, i < a.heap.size → s i → t i) : Only t a b :=
  ⟨h.os, h.tape, h.output, h.size, fun i hi hn => h.block i hi (fun hs => hn (hst i hi hs))⟩
theorem Only.drew {s : Nat → Prop} {a w : World} (h : Only s a w) : Only s a w.drew := ⟨h.os, h.tape, h.output, h.size, h.block⟩
theorem Only.drewN {s : Nat → Prop} {a w : World} (h : Only s a w) (n : Nat) : Only s a (w.drewN n) := ⟨h.os, h.tape, h.output, h.size, h.block⟩
theorem Only.alloc {s : Nat → Prop} {a w : World} (h : Only s a w) (o : Obj) : Only s a (w.alloc o) :=
  ⟨h.os, h.tape, h.output, Nat.le_trans h.size (by simp), fun i hi hn => (Below.heap_alloc w o i (Nat.lt_of_lt_of_le hi h.size)).trans (h.block i hi hn)⟩
theorem Only.setCell {s : Nat → Prop} {a w : World} (h : Only s a w) {p : Addr} (hp : p.block < a.heap.size → s p.block) (u : Value) : Only s a (w.setCell p u) :=
  ⟨h.os, h.tape, h.output, by simpa [World.setCell] using h.size, fun i hi hn => (Below.heap_setCell w p u i (by rintro rfl; exact hn (hp hi))).trans (h.block i hi hn)⟩
theorem Only.of_below {s : Nat → Prop} {a w : World} (h : Below a.heap.size a w) : Only s a w := ⟨h.os, h.tape, h.output, h.size, fun i hi _ => h.block i hi⟩
theorem Only.call {s : Nat → Prop} {a b c : World} (h : Only s a b) (k : Below b.heap.size b c) : Only s a c :=
  h.trans (t := fun _ => False) (Only.of_below k) (fun _ _ hf => hf.elim)
theorem Only.grown {s : Nat → Prop} {a w w' : World} {row : Option Nat} (h : Only s a w) (hg : w.grownBy w' row) (hr : ∀ k, k < a.heap.size → row = some k → s k) : Only s a w' :=
  ⟨hg.os.trans h.os, hg.tape.trans h.tape, hg.output.trans h.output, Nat.le_trans h.size hg.size,
   fun i hi hn => (hg.block i (Nat.lt_of_lt_of_le hi h.size) (fun e => hn (hr i hi e.symm))).trans (h.block i hi hn)⟩
theorem Only.below {s : Nat → Prop} {w w' : World} (h : Only s w w') {B : Nat} (hB : B ≤ w.heap.size) (hs : ∀ k, k < w.heap.size → s k → B ≤ k) : Below B w w' :=
  ⟨h.os, h.tape, h.output, h.size, fun k hk => h.block k (Nat.lt_of_lt_of_le hk hB) (fun hsk => by have := hs k (Nat.lt_of_lt_of_le hk hB) hsk; omega)⟩
theorem At.only {s : Nat → Prop} {w w' : World} {b : Nat} {cs : Array Value} {t : TypeId} (h : At w b cs t) (ho : Only s w w') (hn : ¬ s b) : At w' b cs t := by
  have := h.lt; unfold At at *; rw [ho.block b this hn]; exact h
theorem own_only {s : Nat → Prop} {w w' : World} {B : Nat} {e : TypeId} {z : Nat} {v : Value} {n : Nat} {xs : List Value} (h : w.ownsRow B e z v n xs) (ho : Only s w w') (hn : ∀ k, v.ownBlock = some k → ¬ s k) : w'.ownsRow B e z v n xs := by
  refine ⟨h.1, ?_⟩
  rcases h.2 with h0 | ⟨g, cap, cur, rfl, hb, hg, hr⟩
  · exact .inl h0
  · refine .inr ⟨g, cap, cur, rfl, hb, ?_, hr⟩
    rw [ho.block g (Array.getElem?_eq_some_iff.1 hg).1 (hn g (by simp [Value.ownBlock]))]
    exact hg
theorem own_base {w : World} {B : Nat} {e : TypeId} {z : Nat} {v : Value} {n : Nat} {xs : List Value} (h : w.ownsRow B e z v n xs) {k : Nat} (hk : v.ownBlock = some k) : B ≤ k ∧ k < w.heap.size := by
  rcases h.2 with ⟨rfl, _⟩ | ⟨g, cap, cur, rfl, hb, hg, hr⟩
  · simp [Value.ownBlock] at hk
  · simp only [Value.ownBlock, Option.some.injEq] at hk
    subst hk
    exact ⟨hb, (Array.getElem?_eq_some_iff.1 hg).1⟩
/-- an append's row lies where it lay, or anew -/
theorem own_turned {w : World} {B : Nat} {e : TypeId} {z : Nat} {v : Value} {n : Nat} {xs : List Value} (h : w.ownsRow B e z v n xs) (_ : B ≤ w.heap.size) {k : Nat} (hk : v.ownBlock = some k) : B ≤ k := (own_base h hk).1

/-- bytes that lie below B -/
structure Bin (B : Nat) (w : World) (a : Option Addr) (c : Nat) (L : List Nat) : Prop where
  fit : L.length ≤ c
  cap : c ≤ 9223372036854775807
  small : L.length ≤ 65536
  byte : ∀ x ∈ L, x < 256
  none_ : a = none → c = 0
  read : 0 < L.length → ∃ b o, a = some ⟨b, o, none⟩ ∧ b < B ∧ ∀ j u, (bs L)[j]? = some u → w.cell? ⟨b, o + j, none⟩ = some u
theorem Bin.rd {B : Nat} {w : World} {a : Option Addr} {c : Nat} {L : List Nat} (h : Bin B w a c L) : Rd w (.slice a L.length c) (bs L) := by
  by_cases h0 : 0 < L.length
  · obtain ⟨b, o, rfl, _, hc⟩ := h.read h0
    exact .inr ⟨by rw [bs_len]; exact h0, b, o, c, by rw [bs_len], hc⟩
  · have : L = [] := List.length_eq_zero_iff.1 (by omega)
    subst this
    exact .inl ⟨rfl, _, _, rfl⟩
theorem Bin.below {B : Nat} {w w' : World} {a : Option Addr} {c : Nat} {L : List Nat} (h : Bin B w a c L) (hb : Below B w w') : Bin B w' a c L :=
  ⟨h.fit, h.cap, h.small, h.byte, h.none_, fun h0 => by
    obtain ⟨b, o, rfl, hlt, hc⟩ := h.read h0
    exact ⟨b, o, rfl, hlt, fun j u hu => (hb.cell (p := ⟨b, o + j, none⟩) hlt).trans (hc j u hu)⟩⟩
theorem Bin.cut {B : Nat} {w : World} {a : Option Addr} {c : Nat} {L : List Nat} (h : Bin B w a c L) (k : Nat) : Bin B w a c (L.take k) :=
  ⟨by have := h.fit; rw [List.length_take]; omega, h.cap, by have := h.small; rw [List.length_take]; omega, fun x hx => h.byte x (List.mem_of_mem_take hx), h.none_, fun h0 => by
    rw [List.length_take] at h0
    obtain ⟨b, o, rfl, hlt, hc⟩ := h.read (by omega)
    refine ⟨b, o, rfl, hlt, fun j u hu => hc j u ?_⟩
    simp only [bs, List.map_take] at hu ⊢
    rw [List.getElem?_take] at hu
    split at hu
    · exact hu
    · cases hu⟩
theorem Bin.of_rd {w : World} {a : Option Addr} {c : Nat} {L : List Nat} (h : Rd w (.slice a L.length c) (bs L)) (hc : L.length ≤ c) (hcap : c ≤ 9223372036854775807) (hsm : L.length ≤ 65536) (hb : ∀ x ∈ L, x < 256) (hn : a = none → c = 0) {B : Nat} (hB : w.heap.size ≤ B) : Bin B w a c L :=
  ⟨hc, hcap, hsm, hb, hn, fun h0 => by
    rcases h with ⟨e0, _⟩ | ⟨_, b, o, c', he, hcell⟩
    · have := bs_len L; rw [e0] at this; simp at this; omega
    · simp only [Value.slice.injEq] at he
      obtain ⟨rfl, _, rfl⟩ := he
      refine ⟨b, o, rfl, ?_, hcell⟩
      exact Nat.lt_of_lt_of_le (World.block_lt_of_cell? w _ (hcell 0 _ (bs_at h0))) hB⟩
end Go.Proofs.YtoemcdcabamgiaaDoor
/- Small laws of memory, of no program: where a row of the call's own lies behind an append. -/
namespace Go.Proofs.YtoemcdcabamgiaaDoor
open Go.RowKit

section
variable {P : Program}
/-- behind an append a row lies where it lay, or in a new block -/
def Lies (w : World) (v v' : Value) : Prop := v'.ownBlock = v.ownBlock ∨ ∀ k, v'.ownBlock = some k → w.heap.size ≤ k
theorem run_append_apart (w : World) (base : Nat) (t ty e : TypeId) (i : TypeInfo) (z : Value) (size bytes : Nat) (ht : P.underlying t = some (.slice e)) (hi : P.info? e = some i) (hz : i.zero = some z)
    (hsize : i.size = size) (hby : i.bytes = bytes) (hzs : z.cells.size = size) (hsz : 0 < size) (v : Value) (n : Nat) (xs : List Value) (hown : w.ownsRow base e size v n xs)
    (a : Addr) (m c : Nat) (news : List Value) (hl : news.length = m * size) (hnews : ∀ j u, news[j]? = some u → w.cell? (a.add j) = some u) (h1 : ∀ u ∈ news, u.oneCell' = true)
    (h63 : n + m ≤ maxLen) (hbytes : (n + m) * bytes ≤ 140737488355328) (hbase : base ≤ w.heap.size) :
    ∃ v' w', (Builtin.append_ #[t, t] ty #[v, .slice (some a) m c]).run P w = .ok v' w' ∧ w'.ownsRow base e size v' (n + m) (xs ++ news) ∧ w.grownBy w' v.ownBlock ∧ Lies w v v' := by
  obtain ⟨v', w', hr, h2, h3, _⟩ := run_append_own w base t ty e i z size bytes ht hi hz hsize hby hzs hsz v n xs hown a m c news hl hnews h1 h63 hbytes hbase
  refine ⟨v', w', hr, h2, h3, ?_⟩
  rcases hown.2 with ⟨rfl, rfl⟩ | ⟨g, cap, cur, rfl, hbg, hg, hnc, hcm, hcs, htake⟩
  · have hx : xs = [] := List.eq_nil_of_length_eq_zero (by simpa using hown.1)
    subst hx
    obtain ⟨v2, w2, hr2, h22, _, _⟩ := run_append_own w w.heap.size t ty e i z size bytes ht hi hz hsize hby hzs hsz (.slice none 0 0) 0 [] (World.ownsRow_nil _ _ _ _) a m c news hl hnews h1 h63 hbytes (Nat.le_refl _)
    rw [hr] at hr2
    obtain ⟨rfl, rfl⟩ : v' = v2 ∧ w' = w2 := by simpa using hr2
    exact .inr fun k hk => (h22.lt k hk).1
  · by_cases hroom : n + m ≤ cap
    · have hfit : n * i.size + news.length ≤ cur.size := by rw [hl, hcs, hsize, ← Nat.add_mul]; exact Nat.mul_le_mul_right _ hroom
      have hr2 := run_append_room (P := P) w t ty e i ht hi g n cap cur hg a m c news (by rw [hl, hsize]) hnews h1 hroom hfit
      rw [hr] at hr2
      simp only [Result.ok.injEq] at hr2
      rw [hr2.1]
      exact .inl rfl
    · have holds : ∀ j u, xs[j]? = some u → w.cell? ((⟨g, 0, none⟩ : Addr).add j) = some u := hown.cells (g := g) rfl
      have hr2 := run_append_grow (P := P) w t ty e i z ht hi hz ⟨g, 0, none⟩ n cap xs (by rw [hown.1, hsize]) holds a m c news (by rw [hl, hsize]) hnews (by omega) (by simp only [maxLen] at h63; omega) (growslice_fits (by omega) (by rw [hby]; exact hbytes))
      rw [hr] at hr2
      simp only [Result.ok.injEq] at hr2
      rw [hr2.1]
      refine .inr fun k hk => ?_
      simp only [Value.ownBlock, Option.some.injEq] at hk
      omega
theorem wp_append_apart {o : Oper} {a : Act} {w : World} {K : Act → World → Prop} {Q : Exit → Act → World → Prop} (s x : Operand) (t : TypeId)
    (ho : o.op = .call { callee := .builtin .append, args := #[s, x], argTypes := #[t, t] })
    (base : Nat) (e : TypeId) (i : TypeInfo) (z : Value) (size bytes : Nat) (ht : P.underlying t = some (.slice e)) (hi : P.info? e = some i) (hz : i.zero = some z)
    (hsize : i.size = size) (hby : i.bytes = bytes) (hzs : z.cells.size = size) (hsz : 0 < size)
    (v : Value) (n : Nat) (xs : List Value) (hs : a.eval s = v) (hown : w.ownsRow base e size v n xs)
    (ad : Addr) (m c : Nat) (news : List Value) (hx : a.eval x = .slice (some ad) m c) (hl : news.length = m * size) (hnews : ∀ j u, news[j]? = some u → w.cell? (ad.add j) = some u) (h1 : ∀ u ∈ news, u.oneCell' = true)
    (h63 : n + m ≤ maxLen) (hbytes : (n + m) * bytes ≤ 140737488355328) (hbase : base ≤ w.heap.size)
    (h : ∀ v' w', w'.ownsRow base e size v' (n + m) (xs ++ news) → w.grownBy w' v.ownBlock → Lies w v v' → K (a.put o.dst v') w') : o.wp P a w K Q := by
  obtain ⟨v', w', hr, h2, h3, h4⟩ := run_append_apart (P := P) w base t o.type e i z size bytes ht hi hz hsize hby hzs hsz v n xs hown ad m c news hl hnews h1 h63 hbytes hbase
  unfold Oper.wp execOp
  simp only [ho, resolve, invoke, builtin, Sem.run_bind, Sem.run_pure, Result.andThen_ok, List.map_toArray, List.map_cons, List.map_nil, hs, hx, hr]
  exact h v' w' h2 h3 h4
theorem wpList_append_apart (w : World) {ops : Array Oper} {rest : List Oper} {o : Oper} {a : Act} {Q : Exit → Act → World → Prop} (hgd : o.guard = none) (s x : Operand) (t : TypeId)
    (ho : o.op = .call { callee := .builtin .append, args := #[s, x], argTypes := #[t, t] })
    (base : Nat) (e : TypeId) (i : TypeInfo) (z : Value) (size bytes : Nat) (ht : P.underlying t = some (.slice e)) (hi : P.info? e = some i) (hz : i.zero = some z)
    (hsize : i.size = size) (hby : i.bytes = bytes) (hzs : z.cells.size = size) (hsz : 0 < size)
    (v : Value) (n : Nat) (xs : List Value) (hs : a.eval s = v) (hown : w.ownsRow base e size v n xs)
    (ad : Addr) (m c : Nat) (news : List Value) (hx : a.eval x = .slice (some ad) m c) (hl : news.length = m * size) (hnews : ∀ j u, news[j]? = some u → w.cell? (ad.add j) = some u) (h1 : ∀ u ∈ news, u.oneCell' = true)
    (h63 : n + m ≤ maxLen) (hbytes : (n + m) * bytes ≤ 140737488355328) (hbase : base ≤ w.heap.size)
    (h : ∀ v' w', w'.ownsRow base e size v' (n + m) (xs ++ news) → w.grownBy w' v.ownBlock → Lies w v v' → wpList P ops Q rest (a.put o.dst v') w') : wpList P ops Q (o :: rest) a w :=
  wpList_plain hgd fun _ hK => wp_append_apart s x t ho base e i z size bytes ht hi hz hsize hby hzs hsz v n xs hs hown ad m c news hx hl hnews h1 h63 hbytes hbase fun v' w' h2 h3 h4 => hK _ _ (h v' w' h2 h3 h4)
theorem step_append_apart {ops : Array Oper} {o : Oper} {a : Act} {w : World} {K : Act → World → Prop} {Q : Exit → Act → World → Prop} {E : Prop}
    (hg : o.guard = none) (s x : Operand) (t : TypeId) (ho : o.op = Op.call { callee := Callee.builtin Builtin.append, args := #[s, x], argTypes := #[t, t] })
    (base : Nat) (e : TypeId) (i : TypeInfo) (z : Value) (size bytes : Nat) (ht : P.underlying t = some (.slice e)) (hi : P.info? e = some i) (hz : i.zero = some z)
    (hsize : i.size = size) (hby : i.bytes = bytes) (hzs : z.cells.size = size) (hsz : 0 < size)
    (v : Value) (n : Nat) (xs : List Value) (hs : a.eval s = v) (hown : w.ownsRow base e size v n xs)
    (ad : Addr) (m c : Nat) (news : List Value) (hx : a.eval x = .slice (some ad) m c) (hl : news.length = m * size) (hnews : ∀ j u, news[j]? = some u → w.cell? (ad.add j) = some u) (h1 : ∀ u ∈ news, u.oneCell' = true)
    (h63 : n + m ≤ maxLen) (hbytes : (n + m) * bytes ≤ 140737488355328) (hbase : base ≤ w.heap.size)
    (hK : ∀ v' w', w'.ownsRow base e size v' (n + m) (xs ++ news) → w.grownBy w' v.ownBlock → Lies w v v' → K (a.put o.dst v') w') :
    if Region.wanted o (yielded ops a.tmps) = true then Oper.wp P o a w K Q else E := by
  have hw : Region.wanted o (yielded ops a.tmps) = true := by simp [Region.wanted, hg]
  rw [if_pos hw]
  exact wp_append_apart s x t ho base e i z size bytes ht hi hz hsize hby hzs hsz v n xs hs hown ad m c news hx hl hnews h1 h63 hbytes hbase hK
end
theorem Lies.later {w w' : World} {v v' : Value} (h : Lies w' v v') (hs : w.heap.size ≤ w'.heap.size) : Lies w v v' := h.elim .inl fun hh => .inr fun k hk => Nat.le_trans hs (hh k hk)
end Go.Proofs.YtoemcdcabamgiaaDoor
/- How transactions, and their reads and writes, lie in memory. -/
namespace Go.Proofs.YtoemcdcabamgiaaDoor.WPlain
end Go.Proofs.YtoemcdcabamgiaaDoor.WPlain
namespace Go.Proofs.YtoemcdcabamgiaaDoor.RPlain
end Go.Proofs.YtoemcdcabamgiaaDoor.RPlain
namespace Go.Proofs.YtoemcdcabamgiaaDoor
open Go.RowKit WPlain RPlain

/-- the cells of a read or a write; of a transaction, whose row of them is a value -/
def opC (o : Rwo) : List Value := [.bool o.w, .int .i64 o.v, .int .i64 o.x]
def txC (p : Tx × Value) : List Value := [.int .i64 p.1.n, .int .i64 p.1.f, .int .i64 p.1.l, .int .i64 p.1.s, p.2]
theorem opC_len (o : Rwo) : (opC o).length = 3 := rfl
theorem txC_len (p : Tx × Value) : (txC p).length = 5 := rfl
def Opv (w : World) (v : Value) (l : List Rwo) : Prop := Rws 3 opC w v l ∧ ∃ a n c, v = .slice a n c ∧ n ≤ c
theorem Opv.len {w : World} {v : Value} {l : List Rwo} (h : Opv w v l) : ∃ a c, v = .slice a l.length c ∧ l.length ≤ c := by
  obtain ⟨hr, a, n, c, rfl, hc⟩ := h
  obtain rfl := hr.length
  exact ⟨a, c, rfl, hc⟩
theorem Opv.below {w w' : World} {B : Nat} {v : Value} {l : List Rwo} (h : Opv w v l) (hb : Below B w w') (hB : w.heap.size ≤ B) : Opv w' v l := ⟨h.1.below hb hB, h.2⟩
theorem Opv.cut {w : World} {a : Option Addr} {n c : Nat} {l : List Rwo} (h : Opv w (.slice a n c) l) (m : Nat) (hm : m ≤ l.length) : Opv w (.slice a m c) (l.take m) := by
  obtain ⟨a', c', he, hc⟩ := h.len
  simp only [Value.slice.injEq] at he
  exact ⟨h.1.cut m hm, a, m, c, rfl, by omega⟩
theorem Opv.nil (w : World) (a : Option Addr) (c : Nat) : Opv w (.slice a 0 c) [] := ⟨Rws.nil _ _ _, a, 0, c, rfl, Nat.zero_le _⟩
theorem Opv.of_row {w : World} {B : Nat} {e : TypeId} {v : Value} {l : List Rwo} (h : w.ownsRow B e 3 v l.length (l.flatMap opC)) : Opv w v l := by
  refine ⟨Rws.of_row opC_len h, ?_⟩
  rcases h.2 with ⟨rfl, hn⟩ | ⟨g, cap, cur, rfl, _, _, hn, _⟩
  · exact ⟨_, _, _, rfl, by omega⟩
  · exact ⟨_, _, _, rfl, hn⟩
/-- a slice value reads as transactions -/
def Txs (w : World) (v : Value) (l : List Tx) : Prop := ∃ ps : List (Tx × Value), ps.map (·.1) = l ∧ Rws 5 txC w v ps ∧ ∀ p ∈ ps, Opv w p.2 p.1.o
theorem Txs.len {w : World} {v : Value} {l : List Tx} (h : Txs w v l) : ∃ a c, v = .slice a l.length c := by
  obtain ⟨ps, rfl, hr, _⟩ := h
  rw [List.length_map]
  exact hr.len
theorem Txs.below {w w' : World} {B : Nat} {v : Value} {l : List Tx} (h : Txs w v l) (hb : Below B w w') (hB : w.heap.size ≤ B) : Txs w' v l := by
  obtain ⟨ps, rfl, hr, ho⟩ := h
  exact ⟨ps, rfl, hr.below hb hB, fun p hp => (ho p hp).below hb hB⟩
theorem Txs.nil (w : World) (a : Option Addr) (c : Nat) : Txs w (.slice a 0 c) [] := ⟨[], rfl, Rws.nil _ _ _, fun _ h => by cases h⟩
theorem Txs.cut {w : World} {a : Option Addr} {n c : Nat} {l : List Tx} (h : Txs w (.slice a n c) l) (m : Nat) (hm : m ≤ l.length) : Txs w (.slice a m c) (l.take m) := by
  obtain ⟨ps, rfl, hr, ho⟩ := h
  rw [List.length_map] at hm
  exact ⟨ps.take m, by rw [List.map_take], hr.cut m hm, fun p hp => ho p (List.mem_of_mem_take hp)⟩
/-- one of them: its cells, and its reads and writes -/
theorem Txs.get {w : World} {b o n c : Nat} {l : List Tx} (h : Txs w (.slice (some ⟨b, o, none⟩) n c) l) (i : Nat) (hi : i < l.length) :
    ∃ u, w.cell? ⟨b, o + i * 5, none⟩ = some (.int .i64 l[i].n) ∧ w.cell? ⟨b, o + i * 5 + 1, none⟩ = some (.int .i64 l[i].f) ∧ w.cell? ⟨b, o + i * 5 + 2, none⟩ = some (.int .i64 l[i].l) ∧ w.cell? ⟨b, o + i * 5 + 3, none⟩ = some (.int .i64 l[i].s) ∧ w.cell? ⟨b, o + i * 5 + 4, none⟩ = some u ∧ Opv w u l[i].o := by
  obtain ⟨ps, rfl, hr, ho⟩ := h
  have hip : i < ps.length := by simpa using hi
  simp only [List.getElem_map]
  rcases hr with ⟨rfl, _⟩ | ⟨_, b', o', c', he, _, hc⟩
  · simp at hip
  · simp only [Value.slice.injEq, Option.some.injEq, Addr.mk.injEq, and_true] at he
    obtain ⟨⟨rfl, rfl⟩, _, _⟩ := he
    exact ⟨ps[i].2, hc i hip 0 _ (by omega) rfl, hc i hip 1 _ (by omega) rfl, hc i hip 2 _ (by omega) rfl, hc i hip 3 _ (by omega) rfl, hc i hip 4 _ (by omega) rfl, ho _ (List.getElem_mem _)⟩
theorem Opv.get {w : World} {b o n c : Nat} {l : List Rwo} (h : Opv w (.slice (some ⟨b, o, none⟩) n c) l) (i : Nat) (hi : i < l.length) :
    w.cell? ⟨b, o + i * 3, none⟩ = some (.bool l[i].w) ∧ w.cell? ⟨b, o + i * 3 + 1, none⟩ = some (.int .i64 l[i].v) ∧ w.cell? ⟨b, o + i * 3 + 2, none⟩ = some (.int .i64 l[i].x) := by
  rcases h.1 with ⟨rfl, _⟩ | ⟨_, b', o', c', he, _, hc⟩
  · simp at hi
  · simp only [Value.slice.injEq, Option.some.injEq, Addr.mk.injEq, and_true] at he
    obtain ⟨⟨rfl, rfl⟩, _, _⟩ := he
    exact ⟨hc i hi 0 _ (by omega) rfl, hc i hi 1 _ (by omega) rfl, hc i hi 2 _ (by omega) rfl⟩
end Go.Proofs.YtoemcdcabamgiaaDoor
