/- slices.IndexFunc and ContainsFunc at Ops. (Written by gen_legF.py.) -/
import Derived.Test.YtceipdmplnlogaaDoorLegC
namespace Go.Proofs.YtceipdmplnlogaaDoor.WPlain
end Go.Proofs.YtceipdmplnlogaaDoor.WPlain
namespace Go.Proofs.YtceipdmplnlogaaDoor.QPlain
end Go.Proofs.YtceipdmplnlogaaDoor.QPlain
namespace Go.Proofs.YtceipdmplnlogaaDoor.RPlain
end Go.Proofs.YtceipdmplnlogaaDoor.RPlain
namespace Go.Proofs.YtceipdmplnlogaaDoor
open Go.RowKit WPlain QPlain RPlain

set_option maxRecDepth 100000 in
set_option maxHeartbeats 1000000 in
theorem indexNV_any (u : Value) (ops : List Rwo) (w : World) (hv : Opv w u ops) (hl : ops.length ≤ 65536) :
    Calls Tryd.prog 40 #[u, .func (.func 37) #[] #[]] w fun e w' => (∃ z : Int, e = .returned (.int .i64 z) ∧ decide (0 ≤ z) = ops.any noVar) ∧ Below w.heap.size w w' := by
  have HV := Lib.hid hv
  have HCL := Lib.hid (fun (o : Rwo) (W : World) (_ : Below w.heap.size w W) => noVar_any o W)
  obtain ⟨a, c, rfl, -⟩ := hv.len
  clear hv
  go_enter Tryd.func40, Tryd.ntmps40
  go_wp2_with fail
  go_loopw [8] (fun x wr => ∃ k : Nat, k ≤ ops.length ∧ x = .int .i64 k ∧ Hid ((ops.take k).any noVar = false) ∧ Hid (Below w.heap.size w wr)) (fun x _ => ops.length - (intOf x).toNat)
  case atStart => exact ⟨0, by omega, rfl, rfl, Below.refl _ _⟩
  case round =>
    obtain ⟨k, hk, rfl, HA, HB⟩ := hrel
    by_cases hlt : k < ops.length
    · have HT : Hid (ops.take (k + 1) = ops.take k ++ [ops[k]]) := List.take_succ_eq_append_getElem hlt
      have HM : Hid (ops[k] ∈ ops) := List.getElem_mem hlt
      obtain ⟨b, o, rfl, hbl, c0, c1, c2⟩ := Opv.at (HV.out.below HB.out (Nat.le_refl _)) k hlt
      have HC1 := Lib.hid (HCL.out ops[k] wr HB.out)
      generalize ops[k] = y at *
      cases hnb : noVar y with
      | false =>
        rw [hnb] at HC1
        have HA2 : Hid ((ops.take (k + 1)).any noVar = false) := by
          unfold Hid
          rw [HT.out, List.any_append, HA.out]
          simp [hnb]
        clear hnb HT HM HA
        go_wp2_with (go_at_call 37; refine HC1.out.mono ?_; rintro e w3 ⟨rfl, hb3⟩; have HB3 := Lib.hid (HB.out.trans (hb3.mono HB.out.size)); clear hb3)
        go_roundw
        case rel => exact ⟨k + 1, by omega, by go_num, HA2, HB3⟩
        case measure => simp [intOf]; omega
      | true =>
        rw [hnb] at HC1
        have HA2 : Hid (ops.any noVar = true) := List.any_eq_true.2 ⟨y, HM.out, hnb⟩
        clear hnb HT HM HA
        go_wp2_with (go_at_call 37; refine HC1.out.mono ?_; rintro e w3 ⟨rfl, hb3⟩; have HB3 := Lib.hid (HB.out.trans (hb3.mono HB.out.size)); clear hb3)
        go_ret
        exact ⟨⟨_, rfl, by rw [HA2.out]; exact decide_eq_true (by omega)⟩, HB3.out⟩
    · obtain rfl : k = ops.length := by omega
      have HA2 : Hid (ops.any noVar = false) := by have := HA.out; rwa [List.take_length] at this
      clear HA
      go_wp2
      go_ret
      exact ⟨⟨_, rfl, by rw [HA2.out]; rfl⟩, HB.out⟩
theorem containsNV_any (u : Value) (ops : List Rwo) (w : World) (hv : Opv w u ops) (hl : ops.length ≤ 65536) :
    Calls Tryd.prog 23 #[u, .func (.func 37) #[] #[]] w fun e w' => e = .returned (.bool (ops.any noVar)) ∧ Below w.heap.size w w' := by
  have HI := Lib.hid (indexNV_any u ops  w hv hl)
  clear hv hl
  go_enter Tryd.func23, Tryd.ntmps23
  go_wp2_with fail
  refine HI.out.mono ?_
  rintro e w1 ⟨⟨z, rfl, hz⟩, hb⟩
  go_wp2
  all_goals go_ret
  all_goals exact ⟨ret_bool (by rw [← hz]), hb⟩
/-- LegalSwap's closure: is a variable that of the captured Op? -/
def sameVar (x : Int) (p : Rwo) : Bool := p.v == x
theorem swapC_any (p : Rwo) (N : Nat) (x : Int) (w : World) (hc : w.cell? ⟨N, 1, none⟩ = some (.int .i64 x)) :
    Calls Tryd.prog 24 #[.agg #[.bool p.w, .int .i64 p.v, .int .i64 p.x], .pointer (some ⟨N, 0, none⟩)] w fun e w' => e = .returned (.bool (sameVar x p)) ∧ Below w.heap.size w w' := by
  have hN := cell_lt hc
  go_enter Tryd.func24, Tryd.ntmps24
  go_wp2
  go_ret
  exact ⟨rfl, (Below.refl _ _).alloc (Nat.le_refl _) _⟩
set_option maxRecDepth 100000 in
set_option maxHeartbeats 1000000 in
theorem indexSV_any (u : Value) (ops : List Rwo) (N : Nat) (xv : Int) (w : World) (hv : Opv w u ops) (hl : ops.length ≤ 65536) (hc : w.cell? ⟨N, 1, none⟩ = some (.int .i64 xv)) :
    Calls Tryd.prog 40 #[u, .func (.func 24) #[] #[.pointer (some ⟨N, 0, none⟩)]] w fun e w' => (∃ z : Int, e = .returned (.int .i64 z) ∧ decide (0 ≤ z) = ops.any (sameVar xv)) ∧ Below w.heap.size w w' := by
  have HV := Lib.hid hv
  have HCL := Lib.hid (fun (o : Rwo) (W : World) (hW : Below w.heap.size w W) => swapC_any o N xv W ((hW.cell (p := ⟨N, 1, none⟩) (cell_lt hc)).trans hc))
  obtain ⟨a, c, rfl, -⟩ := hv.len
  clear hv hc
  go_enter Tryd.func40, Tryd.ntmps40
  go_wp2_with fail
  go_loopw [8] (fun x wr => ∃ k : Nat, k ≤ ops.length ∧ x = .int .i64 k ∧ Hid ((ops.take k).any (sameVar xv) = false) ∧ Hid (Below w.heap.size w wr)) (fun x _ => ops.length - (intOf x).toNat)
  case atStart => exact ⟨0, by omega, rfl, rfl, Below.refl _ _⟩
  case round =>
    obtain ⟨k, hk, rfl, HA, HB⟩ := hrel
    by_cases hlt : k < ops.length
    · have HT : Hid (ops.take (k + 1) = ops.take k ++ [ops[k]]) := List.take_succ_eq_append_getElem hlt
      have HM : Hid (ops[k] ∈ ops) := List.getElem_mem hlt
      obtain ⟨b, o, rfl, hbl, c0, c1, c2⟩ := Opv.at (HV.out.below HB.out (Nat.le_refl _)) k hlt
      have HC1 := Lib.hid (HCL.out ops[k] wr HB.out)
      generalize ops[k] = y at *
      cases hnb : (sameVar xv) y with
      | false =>
        rw [hnb] at HC1
        have HA2 : Hid ((ops.take (k + 1)).any (sameVar xv) = false) := by
          unfold Hid
          rw [HT.out, List.any_append, HA.out]
          simp [hnb]
        clear hnb HT HM HA
        go_wp2_with (go_at_call 24; refine HC1.out.mono ?_; rintro e w3 ⟨rfl, hb3⟩; have HB3 := Lib.hid (HB.out.trans (hb3.mono HB.out.size)); clear hb3)
        go_roundw
        case rel => exact ⟨k + 1, by omega, by go_num, HA2, HB3⟩
        case measure => simp [intOf]; omega
      | true =>
        rw [hnb] at HC1
        have HA2 : Hid (ops.any (sameVar xv) = true) := List.any_eq_true.2 ⟨y, HM.out, hnb⟩
        clear hnb HT HM HA
        go_wp2_with (go_at_call 24; refine HC1.out.mono ?_; rintro e w3 ⟨rfl, hb3⟩; have HB3 := Lib.hid (HB.out.trans (hb3.mono HB.out.size)); clear hb3)
        go_ret
        exact ⟨⟨_, rfl, by rw [HA2.out]; exact decide_eq_true (by omega)⟩, HB3.out⟩
    · obtain rfl : k = ops.length := by omega
      have HA2 : Hid (ops.any (sameVar xv) = false) := by have := HA.out; rwa [List.take_length] at this
      clear HA
      go_wp2
      go_ret
      exact ⟨⟨_, rfl, by rw [HA2.out]; rfl⟩, HB.out⟩
theorem containsSV_any (u : Value) (ops : List Rwo) (N : Nat) (xv : Int) (w : World) (hv : Opv w u ops) (hl : ops.length ≤ 65536) (hc : w.cell? ⟨N, 1, none⟩ = some (.int .i64 xv)) :
    Calls Tryd.prog 23 #[u, .func (.func 24) #[] #[.pointer (some ⟨N, 0, none⟩)]] w fun e w' => e = .returned (.bool (ops.any (sameVar xv))) ∧ Below w.heap.size w w' := by
  have HI := Lib.hid (indexSV_any u ops N xv w hv hl hc)
  clear hv hl hc
  go_enter Tryd.func23, Tryd.ntmps23
  go_wp2_with fail
  refine HI.out.mono ?_
  rintro e w1 ⟨⟨z, rfl, hz⟩, hb⟩
  go_wp2
  all_goals go_ret
  all_goals exact ⟨ret_bool (by rw [← hz]), hb⟩
end Go.Proofs.YtceipdmplnlogaaDoor
