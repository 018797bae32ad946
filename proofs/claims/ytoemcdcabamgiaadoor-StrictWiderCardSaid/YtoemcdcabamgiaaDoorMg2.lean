/- Merged: PrpC, WalkA, TxtB, KitC, TxtD, TxtG. -/
import Derived.Test.YtoemcdcabamgiaaDoorMg1
import Derived.Test.YtoemcdcabamgiaaDoorRows
import Derived.Test.YtoemcdcabamgiaaDoorShelf
import Derived.Below
import Derived.Deep.QuietTactic
import Derived.BigQuiet
import Derived.Laws.Rows
import Derived.Lib.SplitLaws
/- The walk of moves. (Written by gen_prpC.py.) -/
namespace Go.Proofs.YtoemcdcabamgiaaDoor.WPlain
end Go.Proofs.YtoemcdcabamgiaaDoor.WPlain
namespace Go.Proofs.YtoemcdcabamgiaaDoor.QPlain
end Go.Proofs.YtoemcdcabamgiaaDoor.QPlain
namespace Go.Proofs.YtoemcdcabamgiaaDoor
open Go.RowKit WPlain QPlain
open Go.Maps (Keyed)

theorem grown_below {B : Nat} {w0 w w' : World} {b : Nat} (h : Below B w0 w) (hg : w.grownBy w' (some b)) (hB : B ≤ w.heap.size) (hb : B ≤ b) : Below B w0 w' :=
  h.grown hg hB (fun k hk => by cases hk; exact hb)
theorem mapE_some (b : Nat) : mapE (.map (some b)) = some (.lit (.int .i64 (b : Int)), []) := rfl
set_option maxRecDepth 100000 in
set_option maxHeartbeats 4000000 in
theorem moves_any (w : World) : Calls Tryd.prog 83 #[] w fun e w' => ∃ b, e = .returned (.map (some b)) ∧ Mov w.heap.size w'.heap.size w' b ∧ Below w.heap.size w w' := by
  have hmm := @run_makeMap Tryd.prog
  have hO := World.ownsMap_made w Tryd.prog 128 mapE
  have hB := (Below.refl w.heap.size w).alloc (Nat.le_refl _) (.map #[] 0)
  have hsz : (w.alloc (.map #[] 0)).heap.size = w.heap.size + 1 := World.size_alloc _ _
  have hl0 : w.heap.size < w.heap.size + 1 := Nat.lt_succ_self _
  have hI0 := World.ownsMap_made (w.alloc (.map #[] 0)) Tryd.prog 3 (plainElem (H := Unit) Tryd.prog 128)
  rw [hsz] at hI0
  replace hO := hO.alloc (.map #[] 0)
  replace hB := hB.alloc hB.size (.map #[] 0)
  obtain ⟨w1, hr1, hI0', hg⟩ := hI0.update intK Tryd.underlying103 (by unfold maxLen; omega) (key_int (i := 0) (by decide)) (elem_state (i := 1) (by decide))
  replace hO := hO.kept hg (fun hh => by have hh := Option.some.inj hh; omega)
  replace hB := grown_below hB hg hB.size (by omega)
  clear hg hI0
  have hI0 := hI0'
  clear hI0'
  obtain ⟨w2, hr2, hO', hg⟩ := hO.update stateK Tryd.underlying126 (by unfold maxLen; omega) (key_state (i := 0) (by decide)) (mapE_some (w.heap.size + 1))
  replace hI0 := hI0.kept hg (fun hh => by have hh := Option.some.inj hh; omega)
  replace hB := grown_below hB hg hB.size (Nat.le_refl _)
  clear hg hO
  have hO := hO'
  clear hO'
  obtain ⟨b1, hb1⟩ : ∃ b, w2.heap.size = b := ⟨_, rfl⟩
  have hI1 := World.ownsMap_made w2 Tryd.prog 3 (plainElem (H := Unit) Tryd.prog 128)
  rw [hb1] at hI1
  have hl1 : (w.heap.size + 1) < b1 := by have := hI0.lt; omega
  replace hI0 := hI0.alloc (.map #[] 0)
  replace hO := hO.alloc (.map #[] 0)
  replace hB := hB.alloc hB.size (.map #[] 0)
  obtain ⟨w3, hr3, hI1', hg⟩ := hI1.update intK Tryd.underlying103 (by unfold maxLen; omega) (key_int (i := 1) (by decide)) (elem_state (i := 2) (by decide))
  replace hI0 := hI0.kept hg (fun hh => by have hh := Option.some.inj hh; omega)
  replace hO := hO.kept hg (fun hh => by have hh := Option.some.inj hh; omega)
  replace hB := grown_below hB hg hB.size (by omega)
  clear hg hI1
  have hI1 := hI1'
  clear hI1'
  obtain ⟨w4, hr4, hI1', hg⟩ := hI1.update intK Tryd.underlying103 (by unfold maxLen; omega) (key_int (i := 9) (by decide)) (elem_state (i := 7) (by decide))
  replace hI0 := hI0.kept hg (fun hh => by have hh := Option.some.inj hh; omega)
  replace hO := hO.kept hg (fun hh => by have hh := Option.some.inj hh; omega)
  replace hB := grown_below hB hg hB.size (by omega)
  clear hg hI1
  have hI1 := hI1'
  clear hI1'
  obtain ⟨w5, hr5, hO', hg⟩ := hO.update stateK Tryd.underlying126 (by unfold maxLen; omega) (key_state (i := 1) (by decide)) (mapE_some b1)
  replace hI0 := hI0.kept hg (fun hh => by have hh := Option.some.inj hh; omega)
  replace hI1 := hI1.kept hg (fun hh => by have hh := Option.some.inj hh; omega)
  replace hB := grown_below hB hg hB.size (Nat.le_refl _)
  clear hg hO
  have hO := hO'
  clear hO'
  obtain ⟨b2, hb2⟩ : ∃ b, w5.heap.size = b := ⟨_, rfl⟩
  have hI2 := World.ownsMap_made w5 Tryd.prog 3 (plainElem (H := Unit) Tryd.prog 128)
  rw [hb2] at hI2
  have hl2 : b1 < b2 := by have := hI1.lt; omega
  replace hI0 := hI0.alloc (.map #[] 0)
  replace hI1 := hI1.alloc (.map #[] 0)
  replace hO := hO.alloc (.map #[] 0)
  replace hB := hB.alloc hB.size (.map #[] 0)
  obtain ⟨w6, hr6, hI2', hg⟩ := hI2.update intK Tryd.underlying103 (by unfold maxLen; omega) (key_int (i := 2) (by decide)) (elem_state (i := 3) (by decide))
  replace hI0 := hI0.kept hg (fun hh => by have hh := Option.some.inj hh; omega)
  replace hI1 := hI1.kept hg (fun hh => by have hh := Option.some.inj hh; omega)
  replace hO := hO.kept hg (fun hh => by have hh := Option.some.inj hh; omega)
  replace hB := grown_below hB hg hB.size (by omega)
  clear hg hI2
  have hI2 := hI2'
  clear hI2'
  obtain ⟨w7, hr7, hI2', hg⟩ := hI2.update intK Tryd.underlying103 (by unfold maxLen; omega) (key_int (i := 4) (by decide)) (elem_state (i := 4) (by decide))
  replace hI0 := hI0.kept hg (fun hh => by have hh := Option.some.inj hh; omega)
  replace hI1 := hI1.kept hg (fun hh => by have hh := Option.some.inj hh; omega)
  replace hO := hO.kept hg (fun hh => by have hh := Option.some.inj hh; omega)
  replace hB := grown_below hB hg hB.size (by omega)
  clear hg hI2
  have hI2 := hI2'
  clear hI2'
  obtain ⟨w8, hr8, hI2', hg⟩ := hI2.update intK Tryd.underlying103 (by unfold maxLen; omega) (key_int (i := 6) (by decide)) (elem_state (i := 5) (by decide))
  replace hI0 := hI0.kept hg (fun hh => by have hh := Option.some.inj hh; omega)
  replace hI1 := hI1.kept hg (fun hh => by have hh := Option.some.inj hh; omega)
  replace hO := hO.kept hg (fun hh => by have hh := Option.some.inj hh; omega)
  replace hB := grown_below hB hg hB.size (by omega)
  clear hg hI2
  have hI2 := hI2'
  clear hI2'
  obtain ⟨w9, hr9, hI2', hg⟩ := hI2.update intK Tryd.underlying103 (by unfold maxLen; omega) (key_int (i := 8) (by decide)) (elem_state (i := 6) (by decide))
  replace hI0 := hI0.kept hg (fun hh => by have hh := Option.some.inj hh; omega)
  replace hI1 := hI1.kept hg (fun hh => by have hh := Option.some.inj hh; omega)
  replace hO := hO.kept hg (fun hh => by have hh := Option.some.inj hh; omega)
  replace hB := grown_below hB hg hB.size (by omega)
  clear hg hI2
  have hI2 := hI2'
  clear hI2'
  obtain ⟨w10, hr10, hO', hg⟩ := hO.update stateK Tryd.underlying126 (by unfold maxLen; omega) (key_state (i := 2) (by decide)) (mapE_some b2)
  replace hI0 := hI0.kept hg (fun hh => by have hh := Option.some.inj hh; omega)
  replace hI1 := hI1.kept hg (fun hh => by have hh := Option.some.inj hh; omega)
  replace hI2 := hI2.kept hg (fun hh => by have hh := Option.some.inj hh; omega)
  replace hB := grown_below hB hg hB.size (Nat.le_refl _)
  clear hg hO
  have hO := hO'
  clear hO'
  obtain ⟨b3, hb3⟩ : ∃ b, w10.heap.size = b := ⟨_, rfl⟩
  have hI3 := World.ownsMap_made w10 Tryd.prog 3 (plainElem (H := Unit) Tryd.prog 128)
  rw [hb3] at hI3
  have hl3 : b2 < b3 := by have := hI2.lt; omega
  replace hI0 := hI0.alloc (.map #[] 0)
  replace hI1 := hI1.alloc (.map #[] 0)
  replace hI2 := hI2.alloc (.map #[] 0)
  replace hO := hO.alloc (.map #[] 0)
  replace hB := hB.alloc hB.size (.map #[] 0)
  obtain ⟨w11, hr11, hI3', hg⟩ := hI3.update intK Tryd.underlying103 (by unfold maxLen; omega) (key_int (i := 3) (by decide)) (elem_state (i := 2) (by decide))
  replace hI0 := hI0.kept hg (fun hh => by have hh := Option.some.inj hh; omega)
  replace hI1 := hI1.kept hg (fun hh => by have hh := Option.some.inj hh; omega)
  replace hI2 := hI2.kept hg (fun hh => by have hh := Option.some.inj hh; omega)
  replace hO := hO.kept hg (fun hh => by have hh := Option.some.inj hh; omega)
  replace hB := grown_below hB hg hB.size (by omega)
  clear hg hI3
  have hI3 := hI3'
  clear hI3'
  obtain ⟨w12, hr12, hI3', hg⟩ := hI3.update intK Tryd.underlying103 (by unfold maxLen; omega) (key_int (i := 9) (by decide)) (elem_state (i := 7) (by decide))
  replace hI0 := hI0.kept hg (fun hh => by have hh := Option.some.inj hh; omega)
  replace hI1 := hI1.kept hg (fun hh => by have hh := Option.some.inj hh; omega)
  replace hI2 := hI2.kept hg (fun hh => by have hh := Option.some.inj hh; omega)
  replace hO := hO.kept hg (fun hh => by have hh := Option.some.inj hh; omega)
  replace hB := grown_below hB hg hB.size (by omega)
  clear hg hI3
  have hI3 := hI3'
  clear hI3'
  obtain ⟨w13, hr13, hO', hg⟩ := hO.update stateK Tryd.underlying126 (by unfold maxLen; omega) (key_state (i := 3) (by decide)) (mapE_some b3)
  replace hI0 := hI0.kept hg (fun hh => by have hh := Option.some.inj hh; omega)
  replace hI1 := hI1.kept hg (fun hh => by have hh := Option.some.inj hh; omega)
  replace hI2 := hI2.kept hg (fun hh => by have hh := Option.some.inj hh; omega)
  replace hI3 := hI3.kept hg (fun hh => by have hh := Option.some.inj hh; omega)
  replace hB := grown_below hB hg hB.size (Nat.le_refl _)
  clear hg hO
  have hO := hO'
  clear hO'
  obtain ⟨b4, hb4⟩ : ∃ b, w13.heap.size = b := ⟨_, rfl⟩
  have hI4 := World.ownsMap_made w13 Tryd.prog 3 (plainElem (H := Unit) Tryd.prog 128)
  rw [hb4] at hI4
  have hl4 : b3 < b4 := by have := hI3.lt; omega
  replace hI0 := hI0.alloc (.map #[] 0)
  replace hI1 := hI1.alloc (.map #[] 0)
  replace hI2 := hI2.alloc (.map #[] 0)
  replace hI3 := hI3.alloc (.map #[] 0)
  replace hO := hO.alloc (.map #[] 0)
  replace hB := hB.alloc hB.size (.map #[] 0)
  obtain ⟨w14, hr14, hI4', hg⟩ := hI4.update intK Tryd.underlying103 (by unfold maxLen; omega) (key_int (i := 5) (by decide)) (elem_state (i := 2) (by decide))
  replace hI0 := hI0.kept hg (fun hh => by have hh := Option.some.inj hh; omega)
  replace hI1 := hI1.kept hg (fun hh => by have hh := Option.some.inj hh; omega)
  replace hI2 := hI2.kept hg (fun hh => by have hh := Option.some.inj hh; omega)
  replace hI3 := hI3.kept hg (fun hh => by have hh := Option.some.inj hh; omega)
  replace hO := hO.kept hg (fun hh => by have hh := Option.some.inj hh; omega)
  replace hB := grown_below hB hg hB.size (by omega)
  clear hg hI4
  have hI4 := hI4'
  clear hI4'
  obtain ⟨w15, hr15, hI4', hg⟩ := hI4.update intK Tryd.underlying103 (by unfold maxLen; omega) (key_int (i := 9) (by decide)) (elem_state (i := 7) (by decide))
  replace hI0 := hI0.kept hg (fun hh => by have hh := Option.some.inj hh; omega)
  replace hI1 := hI1.kept hg (fun hh => by have hh := Option.some.inj hh; omega)
  replace hI2 := hI2.kept hg (fun hh => by have hh := Option.some.inj hh; omega)
  replace hI3 := hI3.kept hg (fun hh => by have hh := Option.some.inj hh; omega)
  replace hO := hO.kept hg (fun hh => by have hh := Option.some.inj hh; omega)
  replace hB := grown_below hB hg hB.size (by omega)
  clear hg hI4
  have hI4 := hI4'
  clear hI4'
  obtain ⟨w16, hr16, hO', hg⟩ := hO.update stateK Tryd.underlying126 (by unfold maxLen; omega) (key_state (i := 4) (by decide)) (mapE_some b4)
  replace hI0 := hI0.kept hg (fun hh => by have hh := Option.some.inj hh; omega)
  replace hI1 := hI1.kept hg (fun hh => by have hh := Option.some.inj hh; omega)
  replace hI2 := hI2.kept hg (fun hh => by have hh := Option.some.inj hh; omega)
  replace hI3 := hI3.kept hg (fun hh => by have hh := Option.some.inj hh; omega)
  replace hI4 := hI4.kept hg (fun hh => by have hh := Option.some.inj hh; omega)
  replace hB := grown_below hB hg hB.size (Nat.le_refl _)
  clear hg hO
  have hO := hO'
  clear hO'
  obtain ⟨b5, hb5⟩ : ∃ b, w16.heap.size = b := ⟨_, rfl⟩
  have hI5 := World.ownsMap_made w16 Tryd.prog 3 (plainElem (H := Unit) Tryd.prog 128)
  rw [hb5] at hI5
  have hl5 : b4 < b5 := by have := hI4.lt; omega
  replace hI0 := hI0.alloc (.map #[] 0)
  replace hI1 := hI1.alloc (.map #[] 0)
  replace hI2 := hI2.alloc (.map #[] 0)
  replace hI3 := hI3.alloc (.map #[] 0)
  replace hI4 := hI4.alloc (.map #[] 0)
  replace hO := hO.alloc (.map #[] 0)
  replace hB := hB.alloc hB.size (.map #[] 0)
  obtain ⟨w17, hr17, hI5', hg⟩ := hI5.update intK Tryd.underlying103 (by unfold maxLen; omega) (key_int (i := 7) (by decide)) (elem_state (i := 7) (by decide))
  replace hI0 := hI0.kept hg (fun hh => by have hh := Option.some.inj hh; omega)
  replace hI1 := hI1.kept hg (fun hh => by have hh := Option.some.inj hh; omega)
  replace hI2 := hI2.kept hg (fun hh => by have hh := Option.some.inj hh; omega)
  replace hI3 := hI3.kept hg (fun hh => by have hh := Option.some.inj hh; omega)
  replace hI4 := hI4.kept hg (fun hh => by have hh := Option.some.inj hh; omega)
  replace hO := hO.kept hg (fun hh => by have hh := Option.some.inj hh; omega)
  replace hB := grown_below hB hg hB.size (by omega)
  clear hg hI5
  have hI5 := hI5'
  clear hI5'
  obtain ⟨w18, hr18, hI5', hg⟩ := hI5.update intK Tryd.underlying103 (by unfold maxLen; omega) (key_int (i := 9) (by decide)) (elem_state (i := 7) (by decide))
  replace hI0 := hI0.kept hg (fun hh => by have hh := Option.some.inj hh; omega)
  replace hI1 := hI1.kept hg (fun hh => by have hh := Option.some.inj hh; omega)
  replace hI2 := hI2.kept hg (fun hh => by have hh := Option.some.inj hh; omega)
  replace hI3 := hI3.kept hg (fun hh => by have hh := Option.some.inj hh; omega)
  replace hI4 := hI4.kept hg (fun hh => by have hh := Option.some.inj hh; omega)
  replace hO := hO.kept hg (fun hh => by have hh := Option.some.inj hh; omega)
  replace hB := grown_below hB hg hB.size (by omega)
  clear hg hI5
  have hI5 := hI5'
  clear hI5'
  obtain ⟨w19, hr19, hO', hg⟩ := hO.update stateK Tryd.underlying126 (by unfold maxLen; omega) (key_state (i := 5) (by decide)) (mapE_some b5)
  replace hI0 := hI0.kept hg (fun hh => by have hh := Option.some.inj hh; omega)
  replace hI1 := hI1.kept hg (fun hh => by have hh := Option.some.inj hh; omega)
  replace hI2 := hI2.kept hg (fun hh => by have hh := Option.some.inj hh; omega)
  replace hI3 := hI3.kept hg (fun hh => by have hh := Option.some.inj hh; omega)
  replace hI4 := hI4.kept hg (fun hh => by have hh := Option.some.inj hh; omega)
  replace hI5 := hI5.kept hg (fun hh => by have hh := Option.some.inj hh; omega)
  replace hB := grown_below hB hg hB.size (Nat.le_refl _)
  clear hg hO
  have hO := hO'
  clear hO'
  obtain ⟨b6, hb6⟩ : ∃ b, w19.heap.size = b := ⟨_, rfl⟩
  have hI6 := World.ownsMap_made w19 Tryd.prog 3 (plainElem (H := Unit) Tryd.prog 128)
  rw [hb6] at hI6
  have hl6 : b5 < b6 := by have := hI5.lt; omega
  replace hI0 := hI0.alloc (.map #[] 0)
  replace hI1 := hI1.alloc (.map #[] 0)
  replace hI2 := hI2.alloc (.map #[] 0)
  replace hI3 := hI3.alloc (.map #[] 0)
  replace hI4 := hI4.alloc (.map #[] 0)
  replace hI5 := hI5.alloc (.map #[] 0)
  replace hO := hO.alloc (.map #[] 0)
  replace hB := hB.alloc hB.size (.map #[] 0)
  obtain ⟨w20, hr20, hI6', hg⟩ := hI6.update intK Tryd.underlying103 (by unfold maxLen; omega) (key_int (i := 9) (by decide)) (elem_state (i := 7) (by decide))
  replace hI0 := hI0.kept hg (fun hh => by have hh := Option.some.inj hh; omega)
  replace hI1 := hI1.kept hg (fun hh => by have hh := Option.some.inj hh; omega)
  replace hI2 := hI2.kept hg (fun hh => by have hh := Option.some.inj hh; omega)
  replace hI3 := hI3.kept hg (fun hh => by have hh := Option.some.inj hh; omega)
  replace hI4 := hI4.kept hg (fun hh => by have hh := Option.some.inj hh; omega)
  replace hI5 := hI5.kept hg (fun hh => by have hh := Option.some.inj hh; omega)
  replace hO := hO.kept hg (fun hh => by have hh := Option.some.inj hh; omega)
  replace hB := grown_below hB hg hB.size (by omega)
  clear hg hI6
  have hI6 := hI6'
  clear hI6'
  obtain ⟨w21, hr21, hO', hg⟩ := hO.update stateK Tryd.underlying126 (by unfold maxLen; omega) (key_state (i := 6) (by decide)) (mapE_some b6)
  replace hI0 := hI0.kept hg (fun hh => by have hh := Option.some.inj hh; omega)
  replace hI1 := hI1.kept hg (fun hh => by have hh := Option.some.inj hh; omega)
  replace hI2 := hI2.kept hg (fun hh => by have hh := Option.some.inj hh; omega)
  replace hI3 := hI3.kept hg (fun hh => by have hh := Option.some.inj hh; omega)
  replace hI4 := hI4.kept hg (fun hh => by have hh := Option.some.inj hh; omega)
  replace hI5 := hI5.kept hg (fun hh => by have hh := Option.some.inj hh; omega)
  replace hI6 := hI6.kept hg (fun hh => by have hh := Option.some.inj hh; omega)
  replace hB := grown_below hB hg hB.size (Nat.le_refl _)
  clear hg hO
  have hO := hO'
  clear hO'
  obtain ⟨b7, hb7⟩ : ∃ b, w21.heap.size = b := ⟨_, rfl⟩
  have hI7 := World.ownsMap_made w21 Tryd.prog 3 (plainElem (H := Unit) Tryd.prog 128)
  rw [hb7] at hI7
  have hl7 : b6 < b7 := by have := hI6.lt; omega
  replace hI0 := hI0.alloc (.map #[] 0)
  replace hI1 := hI1.alloc (.map #[] 0)
  replace hI2 := hI2.alloc (.map #[] 0)
  replace hI3 := hI3.alloc (.map #[] 0)
  replace hI4 := hI4.alloc (.map #[] 0)
  replace hI5 := hI5.alloc (.map #[] 0)
  replace hI6 := hI6.alloc (.map #[] 0)
  replace hO := hO.alloc (.map #[] 0)
  replace hB := hB.alloc hB.size (.map #[] 0)
  obtain ⟨w22, hr22, hO', hg⟩ := hO.update stateK Tryd.underlying126 (by unfold maxLen; omega) (key_state (i := 7) (by decide)) (mapE_some b7)
  replace hI0 := hI0.kept hg (fun hh => by have hh := Option.some.inj hh; omega)
  replace hI1 := hI1.kept hg (fun hh => by have hh := Option.some.inj hh; omega)
  replace hI2 := hI2.kept hg (fun hh => by have hh := Option.some.inj hh; omega)
  replace hI3 := hI3.kept hg (fun hh => by have hh := Option.some.inj hh; omega)
  replace hI4 := hI4.kept hg (fun hh => by have hh := Option.some.inj hh; omega)
  replace hI5 := hI5.kept hg (fun hh => by have hh := Option.some.inj hh; omega)
  replace hI6 := hI6.kept hg (fun hh => by have hh := Option.some.inj hh; omega)
  replace hI7 := hI7.kept hg (fun hh => by have hh := Option.some.inj hh; omega)
  replace hB := grown_below hB hg hB.size (Nat.le_refl _)
  clear hg hO
  have hO := hO'
  clear hO'
  have hM : Mov w.heap.size w22.heap.size w22 w.heap.size := by
    refine ⟨Nat.le_refl _, hO.lt, _, _, hO, fun s hs => ?_⟩
    rcases eight hs with rfl | rfl | rfl | rfl | rfl | rfl | rfl | rfl
    · exact ⟨(w.heap.size + 1), _, by omega, hI0.lt, fun _ => rfl, hI0⟩
    · exact ⟨b1, _, by omega, hI1.lt, fun _ => rfl, hI1⟩
    · exact ⟨b2, _, by omega, hI2.lt, fun _ => rfl, hI2⟩
    · exact ⟨b3, _, by omega, hI3.lt, fun _ => rfl, hI3⟩
    · exact ⟨b4, _, by omega, hI4.lt, fun _ => rfl, hI4⟩
    · exact ⟨b5, _, by omega, hI5.lt, fun _ => rfl, hI5⟩
    · exact ⟨b6, _, by omega, hI6.lt, fun _ => rfl, hI6⟩
    · exact ⟨b7, _, by omega, hI7.lt, fun _ => rfl, hI7⟩
  have HM := Lib.hid hM
  have HB := Lib.hid hB
  clear hM hB hO hI0 hI1 hI2 hI3 hI4 hI5 hI6 hI7 hl0 hl1 hl2 hl3 hl4 hl5 hl6 hl7
  go_enter Tryd.func83, Tryd.ntmps83
  go_wp2
  go_ret
  exact ⟨_, rfl, HM.out, HB.out⟩
end Go.Proofs.YtoemcdcabamgiaaDoor
/- The walks of package word's Words and of what it calls. -/
namespace Go.Proofs.YtoemcdcabamgiaaDoor.WPlain
end Go.Proofs.YtoemcdcabamgiaaDoor.WPlain
namespace Go.Proofs.YtoemcdcabamgiaaDoor
open Go.RowKit WPlain

theorem info3 : (Tryd.prog.info? 3).map (fun i => (i.zero, i.size, i.bytes)) = some (some (.int .i64 0), 1, 8) := by kernel_rfl

end Go.Proofs.YtoemcdcabamgiaaDoor
/- The walks of package text's within, place and number. -/
namespace Go.Proofs.YtoemcdcabamgiaaDoor.WPlain
end Go.Proofs.YtoemcdcabamgiaaDoor.WPlain
namespace Go.Proofs.YtoemcdcabamgiaaDoor
open Go.RowKit WPlain

theorem within_any (n lo hi : Int) (w : World) :
    Calls Tryd.prog 95 #[.int .i64 n, .int .i64 lo, .int .i64 hi] w fun e w' => e = .returned (.bool (inB n lo hi)) ∧ w = w' := by
  unfold inB
  go_enter Tryd.func95, Tryd.ntmps95
  go_wp2
  all_goals
    go_ret
    exact ⟨ret_bool (by first | (simp [*]; done) | (simp; omega)), rfl⟩

end Go.Proofs.YtoemcdcabamgiaaDoor
/- The table of kinds in memory. -/
namespace Go.Proofs.YtoemcdcabamgiaaDoor.WPlain
end Go.Proofs.YtoemcdcabamgiaaDoor.WPlain
namespace Go.Proofs.YtoemcdcabamgiaaDoor
open Go.RowKit WPlain

/-- a kind's word as bytes -/
def kbytes (k : Nat) : ByteArray := ⟨(kwords.getD k []).toArray⟩
def kindCell (k : Nat) : List Value := [.string (kbytes k), .bool (hasV k), .bool (hasX k)]
def kindCells : Array Value := ((List.range 10).flatMap kindCell).toArray
/-- The program's table of kinds lies in its variable. -/
def HasK (w : World) : Prop := ∀ j v, kindCells[j]? = some v → w.cell? ⟨0, j, none⟩ = some v
theorem HasK.lt {w : World} (h : HasK w) : 0 < w.heap.size := cell_lt (h 0 _ (by rfl))
theorem HasK.later {B : Nat} {w w' : World} (h : HasK w) (hb : Below B w w') (hB : w.heap.size ≤ B) : HasK w' := by
  have hlt := h.lt
  intro j v hj
  exact (hb.cell (p := ⟨0, j, none⟩) (Nat.lt_of_lt_of_le hlt hB)).trans (h j v hj)
theorem kindCells_size : kindCells.size = 30 := by decide
theorem kindCells_at (k : Nat) (h : k < 10) : kindCells[k * 3]? = some (.string (kbytes k)) ∧ kindCells[k * 3 + 1]? = some (.bool (hasV k)) ∧ kindCells[k * 3 + 2]? = some (.bool (hasX k)) := by
  match k, h with
  | 0, _ => exact ⟨rfl, rfl, rfl⟩
  | 1, _ => exact ⟨rfl, rfl, rfl⟩
  | 2, _ => exact ⟨rfl, rfl, rfl⟩
  | 3, _ => exact ⟨rfl, rfl, rfl⟩
  | 4, _ => exact ⟨rfl, rfl, rfl⟩
  | 5, _ => exact ⟨rfl, rfl, rfl⟩
  | 6, _ => exact ⟨rfl, rfl, rfl⟩
  | 7, _ => exact ⟨rfl, rfl, rfl⟩
  | 8, _ => exact ⟨rfl, rfl, rfl⟩
  | 9, _ => exact ⟨rfl, rfl, rfl⟩
theorem HasK.word {w : World} (h : HasK w) {k : Nat} (hk : k < 10) : w.cell? ⟨0, k * 3, none⟩ = some (.string (kbytes k)) := h _ _ (kindCells_at k hk).1
theorem HasK.hasV {w : World} (h : HasK w) {k : Nat} (hk : k < 10) : w.cell? ⟨0, k * 3 + 1, none⟩ = some (.bool (WPlain.hasV k)) := h _ _ (kindCells_at k hk).2.1
theorem HasK.hasX {w : World} (h : HasK w) {k : Nat} (hk : k < 10) : w.cell? ⟨0, k * 3 + 2, none⟩ = some (.bool (WPlain.hasX k)) := h _ _ (kindCells_at k hk).2.2

end Go.Proofs.YtoemcdcabamgiaaDoor
/- The walks of package text's names and isTooMany. -/
namespace Go.Proofs.YtoemcdcabamgiaaDoor.WPlain
end Go.Proofs.YtoemcdcabamgiaaDoor.WPlain
namespace Go.Proofs.YtoemcdcabamgiaaDoor
open Go.RowKit WPlain

def ints (xs : List Int) : List Value := xs.map (Value.int .i64)
theorem ints_len (xs : List Int) : (ints xs).length = xs.length := List.length_map _

theorem contains_any (v : Value) (xs : List Int) (x : Int) (w : World) (h : Rd w v (ints xs)) (hl : xs.length ≤ 2147483648) :
    Calls Tryd.prog 15 #[v, .int .i64 x] w fun e w' => e = .returned (.bool (xs.contains x)) ∧ w = w' := by
  by_cases h0 : 0 < xs.length
  · obtain ⟨b, o, c, rfl, hb, hc⟩ := h.opened (by rw [ints_len]; exact h0)
    rw [ints_len]
    refine (Tryd.slices_Contains_int b o xs.length c xs x w (Nat.le_refl _) (by omega) (fun j hj => hc j _ (by unfold ints; rw [List.getElem?_map, List.getElem?_eq_getElem hj]; simp [hj]))).mono ?_
    rintro e w' ⟨rfl, rfl⟩
    rw [List.take_length]
    exact ⟨rfl, rfl⟩
  · obtain rfl : xs = [] := List.length_eq_zero_iff.1 (by omega)
    obtain ⟨a, c, rfl⟩ := h.len
    refine (Tryd.slices_Contains_int_empty a c x w).mono ?_
    rintro e w' ⟨rfl, rfl⟩
    exact ⟨rfl, rfl⟩

theorem names_take (h : List Ev) (k : Nat) (hk : k < h.length) : namesOf (h.take (k + 1)) = addName (namesOf (h.take k)) h[k].t := by
  rw [List.take_succ_eq_append_getElem hk, namesOf_snoc]

set_option maxHeartbeats 1000000 in
theorem names_any (v : Value) (h : List Ev) (w : World) (hv : Evs w v h) (hl : h.length ≤ 65536) :
    Calls Tryd.prog 93 #[v] w fun e w' => ∃ v', e = .returned v' ∧ w'.ownsRow w.heap.size 3 1 v' (namesOf h).length (ints (namesOf h)) ∧ Below w.heap.size w w' := by
  obtain ⟨j0, hj0, hy0, hy1', hy2'⟩ := info_parts info3
  have hb0 := Below.refl w.heap.size w
  have HV := Lib.hid hv
  obtain ⟨a, c, rfl⟩ := hv.len
  clear hv
  go_enter Tryd.func93, Tryd.ntmps93
  go_wp2_with fail
  go_loopw [3, 8] (fun y x wr => ∃ k : Nat, k ≤ h.length ∧ x = .int .i64 k ∧ wr.ownsRow w.heap.size 3 1 y (namesOf (h.take k)).length (ints (namesOf (h.take k))) ∧ Below w.heap.size w wr) (fun _ x _ => h.length - (intOf x).toNat)
  case atStart => exact ⟨0, by omega, rfl, World.ownsRow_nil _ _ _ _, hb0⟩
  case round =>
    clear hb0
    obtain ⟨k, hk, rfl, hy, hb⟩ := hrel
    have hnl := namesOf_len (h.take k)
    have hnl2 : (namesOf (h.take k)).length ≤ 65536 := Nat.le_trans hnl (Nat.le_trans (List.length_take_le _ _) (by omega))
    clear hnl
    by_cases hlt : k < h.length
    · have HT := Lib.hid (names_take h k hlt)
      have hv2 := HV.out.below hb (Nat.le_refl _)
      have hbs := hb.size
      rcases hv2 with ⟨e0, _⟩ | ⟨l0, b, o, c', he, hbl, hc⟩
      · rw [e0] at hlt; simp at hlt
      · obtain ⟨rfl, rfl⟩ : a = some ⟨b, o, none⟩ ∧ c = c' := by simpa using he
        clear he
        obtain ⟨c0, c1, c2, c3⟩ := hc k hlt
        clear hc
        generalize h[k] = ev at *
        generalize namesOf (h.take k) = ns at *
        generalize h.length = n at *
        cases hcon : ns.contains ev.t with
        | true =>
          have HC := Lib.hid hcon
          have HA : Hid (namesOf (h.take (k + 1)) = ns) := by unfold Hid; rw [HT.out]; unfold addName; rw [if_pos hcon]
          clear hcon HT
          go_wp2_with fail
          refine (contains_any _ ns ev.t _ ((Rd.of_row hy).below ((Below.refl _ wr).alloc (Nat.le_refl _) (.cells #[.int .i64 ev.k, .int .i64 ev.t, .int .i64 ev.v, .int .i64 ev.x] 45)) (Nat.le_refl _)) (by omega)).mono ?_
          rintro e w' ⟨rfl, rfl⟩
          rw [HC.out]
          go_wp2
          go_roundw
          case rel => exact ⟨k + 1, by omega, by go_num, by rw [HA.out]; exact hy.alloc _, hb.alloc hb.size _⟩
          case measure => simp [intOf]; omega
        | false =>
          have HC := Lib.hid hcon
          have HA : Hid (namesOf (h.take (k + 1)) = ns ++ [ev.t]) := by unfold Hid; rw [HT.out]; unfold addName; rw [if_neg (by rw [hcon]; simp)]
          clear hcon HT
          go_wp2_with fail
          refine (contains_any _ ns ev.t _ ((Rd.of_row hy).below ((Below.refl _ wr).alloc (Nat.le_refl _) (.cells #[.int .i64 ev.k, .int .i64 ev.t, .int .i64 ev.v, .int .i64 ev.x] 45)) (Nat.le_refl _)) (by omega)).mono ?_
          rintro e w' ⟨rfl, rfl⟩
          rw [HC.out]
          have hy1 := hy.alloc (.cells #[.int .i64 ev.k, .int .i64 ev.t, .int .i64 ev.v, .int .i64 ev.x] 45)
          have hb1 := hb.alloc hb.size (.cells #[.int .i64 ev.k, .int .i64 ev.t, .int .i64 ev.v, .int .i64 ev.x] 45)
          have hE := At.new wr #[.int .i64 ev.k, .int .i64 ev.t, .int .i64 ev.v, .int .i64 ev.x] 45
          have hE1 := hE.cell (i := 1) rfl
          clear hy hb c0 c1 c2 c3 hE
          generalize wr.heap.size = N at *
          generalize wr.alloc (.cells #[.int .i64 ev.k, .int .i64 ev.t, .int .i64 ev.v, .int .i64 ev.x] 45) = w1 at *
          go_wp2_with (at_builtin; refine wpList_append_own _ rfl _ _ 24 rfl w.heap.size 3 j0 (.int .i64 0) 1 8 Tryd.underlying24 hj0 hy0 hy1' hy2' rfl (by decide) _ _ _ rfl (hy1.alloc _) ⟨w1.heap.size, 0, none⟩ 1 1 [.int .i64 ev.t] rfl rfl ?d1 ?d2 ?d3 ?d4 ?d5 ?_)
          case d1 => exact cell_one_at _ _ _
          case d2 => intro u hu; simp at hu; subst hu; rfl
          case d3 => unfold maxLen; omega
          case d4 => omega
          case d5 => have := hb1.size; simp; omega
          intro v2 w3 hy3 hg3 _
          have hb3 : Below w.heap.size w w3 := (hb1.alloc hb1.size _).grown hg3 (by have := hb1.size; simp; omega) (fun k' hk' => (hy1.lt k' hk').1)
          have HY : Hid (w3.ownsRow w.heap.size 3 1 v2 (namesOf (h.take (k + 1))).length (ints (namesOf (h.take (k + 1))))) := by
            unfold Hid
            rw [HA.out, List.length_append]
            unfold ints at *
            rw [List.map_append]
            exact hy3
          clear hy1 hy3 hg3 hb1
          go_wp2
          go_roundw
          case rel => exact ⟨k + 1, by omega, by go_num, HY.out, hb3⟩
          case measure => simp [intOf]; omega
    · go_wp2
      obtain rfl : k = h.length := by omega
      rw [List.take_length] at hy
      go_ret
      exact ⟨_, rfl, hy, hb⟩

end Go.Proofs.YtoemcdcabamgiaaDoor
/- The walk of package text's Parse. -/
namespace Go.Proofs.YtoemcdcabamgiaaDoor.WPlain
end Go.Proofs.YtoemcdcabamgiaaDoor.WPlain
namespace Go.Proofs.YtoemcdcabamgiaaDoor
open Go.RowKit WPlain

theorem info45 : (Tryd.prog.info? 45).map (fun i => (i.zero, i.size, i.bytes)) = some (some (.agg #[.int .i64 0, .int .i64 0, .int .i64 0, .int .i64 0]), 4, 32) := by kernel_rfl

/-- nil, or a slice with an address -/
def Src (v : Value) : Prop := v = .slice none 0 0 ∨ ∃ a n c, v = .slice (some a) n c
theorem Src.of_row {w : World} {B : Nat} {e : TypeId} {s : Nat} {v : Value} {n : Nat} {xs : List Value} (h : w.ownsRow B e s v n xs) : Src v := by
  rcases h.2 with ⟨rfl, _⟩ | ⟨g, cap, cur, rfl, _⟩
  · exact .inl rfl
  · exact .inr ⟨_, _, _, rfl⟩

end Go.Proofs.YtoemcdcabamgiaaDoor
