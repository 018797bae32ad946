/- The walks of recantlaw10's alive, and of LegalRows. -/
import Derived.Test.YtceipdmplnlogaaDoorLegK
import Derived.Test.YtceipdmplnlogaaDoorMg12
import Derived.Test.YtceipdmplnlogaaDoorPrpJ
import Derived.Test.YtceipdmplnlogaaDoorWalkG
namespace Go.Proofs.YtceipdmplnlogaaDoor.WPlain
end Go.Proofs.YtceipdmplnlogaaDoor.WPlain
namespace Go.Proofs.YtceipdmplnlogaaDoor.QPlain
end Go.Proofs.YtceipdmplnlogaaDoor.QPlain
namespace Go.Proofs.YtceipdmplnlogaaDoor.RPlain
end Go.Proofs.YtceipdmplnlogaaDoor.RPlain
namespace Go.Proofs.YtceipdmplnlogaaDoor.RPlain
open WPlain QPlain

theorem legR_bad {h : List Ev} {row : List Int} (n : Nat) (h0 : ¬ errL h row = 0) : legR h row n = 0 := by unfold legR; rw [if_neg h0]
end Go.Proofs.YtceipdmplnlogaaDoor.RPlain
namespace Go.Proofs.YtceipdmplnlogaaDoor
open Go.RowKit WPlain QPlain RPlain

theorem alive_err : errL [⟨0, 1, 0, 0⟩, ⟨1, 1, 0, 0⟩, ⟨4, 1, 0, 5⟩, ⟨5, 1, 0, 0⟩, ⟨6, 1, 0, 0⟩, ⟨0, 2, 0, 0⟩, ⟨1, 2, 0, 0⟩, ⟨2, 2, 0, 0⟩, ⟨3, 2, 0, 5⟩] [0, 1] = 0 := by decide +kernel
theorem alive_two : legR [⟨0, 1, 0, 0⟩, ⟨1, 1, 0, 0⟩, ⟨4, 1, 0, 5⟩, ⟨5, 1, 0, 0⟩, ⟨6, 1, 0, 0⟩, ⟨0, 2, 0, 0⟩, ⟨1, 2, 0, 0⟩, ⟨2, 2, 0, 0⟩, ⟨3, 2, 0, 5⟩] [0, 1] 1 = 2 := by decide +kernel
theorem alive_one : legR [⟨0, 1, 0, 0⟩, ⟨1, 1, 0, 0⟩, ⟨4, 1, 0, 5⟩, ⟨5, 1, 0, 0⟩, ⟨6, 1, 0, 0⟩, ⟨0, 2, 0, 0⟩, ⟨1, 2, 0, 0⟩, ⟨2, 2, 0, 0⟩, ⟨3, 2, 0, 5⟩] [0, 1] 0 = 1 := by decide +kernel
set_option maxRecDepth 100000 in
set_option maxHeartbeats 1000000 in
theorem aliveG_any (w : World) (hK : HasK w) : Calls Tryd.prog 12 #[] w fun e w' => e = .returned (.bool true) ∧ Below w.heap.size w w' := by
  have hb0 := (Below.refl w.heap.size w).alloc (Nat.le_refl _) (.cells (evsCells [⟨0, 1, 0, 0⟩, ⟨1, 1, 0, 0⟩, ⟨4, 1, 0, 5⟩, ⟨5, 1, 0, 0⟩, ⟨6, 1, 0, 0⟩, ⟨0, 2, 0, 0⟩, ⟨1, 2, 0, 0⟩, ⟨2, 2, 0, 0⟩, ⟨3, 2, 0, 5⟩]).toArray 73)
  have hE := evs_at 9 [⟨0, 1, 0, 0⟩, ⟨1, 1, 0, 0⟩, ⟨4, 1, 0, 5⟩, ⟨5, 1, 0, 0⟩, ⟨6, 1, 0, 0⟩, ⟨0, 2, 0, 0⟩, ⟨1, 2, 0, 0⟩, ⟨2, 2, 0, 0⟩, ⟨3, 2, 0, 5⟩] (At.new w (evsCells [⟨0, 1, 0, 0⟩, ⟨1, 1, 0, 0⟩, ⟨4, 1, 0, 5⟩, ⟨5, 1, 0, 0⟩, ⟨6, 1, 0, 0⟩, ⟨0, 2, 0, 0⟩, ⟨1, 2, 0, 0⟩, ⟨2, 2, 0, 0⟩, ⟨3, 2, 0, 5⟩]).toArray 73)
  have hL1 := fun (n : Nat) (hn : n < 4294967296) (W : World) (v rv : Value) (hW : Below w.heap.size w W) (hv : Evs W v [⟨0, 1, 0, 0⟩, ⟨1, 1, 0, 0⟩, ⟨4, 1, 0, 5⟩, ⟨5, 1, 0, 0⟩, ⟨6, 1, 0, 0⟩, ⟨0, 2, 0, 0⟩, ⟨1, 2, 0, 0⟩, ⟨2, 2, 0, 0⟩, ⟨3, 2, 0, 5⟩]) (hr : Rd W rv (ints [0, 1])) => legal_any v rv [⟨0, 1, 0, 0⟩, ⟨1, 1, 0, 0⟩, ⟨4, 1, 0, 5⟩, ⟨5, 1, 0, 0⟩, ⟨6, 1, 0, 0⟩, ⟨0, 2, 0, 0⟩, ⟨1, 2, 0, 0⟩, ⟨2, 2, 0, 0⟩, ⟨3, 2, 0, 5⟩] [0, 1] n W (hK.later hW (Nat.le_refl _)) hv (by simp) hr (by simp) hn
  simp only [alive_err] at hL1
  have HL2 := Lib.hid (hL1 1 (by decide))
  have HL1 := Lib.hid (hL1 0 (by decide))
  rw [alive_two] at HL2
  rw [alive_one] at HL1
  simp only [evsCells, evCells, List.flatMap_cons, List.flatMap_nil, List.append_nil, List.cons_append, List.nil_append, List.length_cons, List.length_nil, Nat.zero_add, Nat.reduceAdd] at hb0 hE
  obtain ⟨EL, hEL⟩ : ∃ EL : List Ev, [⟨0, 1, 0, 0⟩, ⟨1, 1, 0, 0⟩, ⟨4, 1, 0, 5⟩, ⟨5, 1, 0, 0⟩, ⟨6, 1, 0, 0⟩, ⟨0, 2, 0, 0⟩, ⟨1, 2, 0, 0⟩, ⟨2, 2, 0, 0⟩, ⟨3, 2, 0, 5⟩] = EL := ⟨_, rfl⟩
  rw [hEL] at hE HL1 HL2
  clear hEL hL1
  have HE := Lib.hid hE
  have HB0 := Lib.hid hb0
  clear hE hb0 hK
  go_enter Tryd.func12, Tryd.ntmps12
  go_wp2_with fail
  generalize hw1 : w.alloc (.cells _ 73) = w1 at *
  have HN1 : Hid (w1.heap.size = w.heap.size + 1) := by rw [← hw1]; simp [Hid]
  clear hw1
  have hr1 := Rd.of_at 2 (At.new w1 (ints [0, 1]).toArray 3)
  rw [HN1.out] at hr1
  have hba := (Below.refl w1.heap.size w1).alloc (Nat.le_refl _) (.cells (ints [0, 1]).toArray 3)
  refine (HL2.out _ _ _ (HB0.out.trans (hba.mono HB0.out.size)) (HE.out.below hba (Nat.le_refl _)) hr1).mono ?_
  rintro e w2 ⟨rfl, hb2⟩
  have HB2 := Lib.hid ((HB0.out.trans (hba.mono HB0.out.size)).trans (hb2.mono (HB0.out.trans (hba.mono HB0.out.size)).size))
  have HE2 := Lib.hid ((HE.out.below hba (Nat.le_refl _)).below hb2 (Nat.le_refl _))
  clear hb2 hba hr1 HE HB0 HL2 HN1
  go_wp2_with fail
  have hr2 := Rd.of_at 2 (At.new w2 (ints [0, 1]).toArray 3)
  have hba := (Below.refl w2.heap.size w2).alloc (Nat.le_refl _) (.cells (ints [0, 1]).toArray 3)
  refine (HL1.out _ _ _ (HB2.out.trans (hba.mono HB2.out.size)) (HE2.out.below hba (Nat.le_refl _)) hr2).mono ?_
  rintro e w3 ⟨rfl, hb3⟩
  have HB3 := Lib.hid ((HB2.out.trans (hba.mono HB2.out.size)).trans (hb3.mono (HB2.out.trans (hba.mono HB2.out.size)).size))
  clear hb3 hba hr2
  go_wp2
  go_ret
  exact ⟨rfl, HB3.out⟩
end Go.Proofs.YtceipdmplnlogaaDoor
