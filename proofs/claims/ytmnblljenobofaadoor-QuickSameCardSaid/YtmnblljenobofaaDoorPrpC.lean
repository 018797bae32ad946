/- The walk of moves. (Written by gen_prpC.py.) -/
import Derived.Test.YtmnblljenobofaaDoorMg9
namespace Go.Proofs.YtmnblljenobofaaDoor.WPlain
end Go.Proofs.YtmnblljenobofaaDoor.WPlain
namespace Go.Proofs.YtmnblljenobofaaDoor.QPlain
end Go.Proofs.YtmnblljenobofaaDoor.QPlain
namespace Go.Proofs.YtmnblljenobofaaDoor
open Go.RowKit WPlain QPlain
open Go.Maps (Keyed)

theorem grown_below {B : Nat} {w0 w w' : World} {b : Nat} (h : Below B w0 w) (hg : w.grownBy w' (some b)) (hB : B ≤ w.heap.size) (hb : B ≤ b) : Below B w0 w' :=
  h.grown hg hB (fun k hk => by cases hk; exact hb)
theorem mapE_some (b : Nat) : mapE (.map (some b)) = some (.lit (.int .i64 (b : Int)), []) := rfl
set_option maxRecDepth 100000 in
set_option maxHeartbeats 4000000 in
theorem moves_any (w : World) : Calls Tryd.prog 81 #[] w fun e w' => ∃ b, e = .returned (.map (some b)) ∧ Mov w.heap.size w'.heap.size w' b ∧ Below w.heap.size w w' := by
  have hmm := @run_makeMap Tryd.prog
  have hO := World.ownsMap_made w Tryd.prog 134 mapE
  have hB := (Below.refl w.heap.size w).alloc (Nat.le_refl _) (.map #[] 0)
  have hsz : (w.alloc (.map #[] 0)).heap.size = w.heap.size + 1 := World.size_alloc _ _
  have hl0 : w.heap.size < w.heap.size + 1 := Nat.lt_succ_self _
  have hI0 := World.ownsMap_made (w.alloc (.map #[] 0)) Tryd.prog 3 (plainElem (H := Unit) Tryd.prog 134)
  rw [hsz] at hI0
  replace hO := hO.alloc (.map #[] 0)
  replace hB := hB.alloc hB.size (.map #[] 0)
  obtain ⟨w1, hr1, hI0', hg⟩ := hI0.update intK Tryd.underlying110 (by unfold maxLen; omega) (key_int (i := 0) (by decide)) (elem_state (i := 1) (by decide))
  replace hO := hO.kept hg (fun hh => by have hh := Option.some.inj hh; omega)
  replace hB := grown_below hB hg hB.size (by omega)
  clear hg hI0
  have hI0 := hI0'
  clear hI0'
  obtain ⟨w2, hr2, hO', hg⟩ := hO.update stateK Tryd.underlying132 (by unfold maxLen; omega) (key_state (i := 0) (by decide)) (mapE_some (w.heap.size + 1))
  replace hI0 := hI0.kept hg (fun hh => by have hh := Option.some.inj hh; omega)
  replace hB := grown_below hB hg hB.size (Nat.le_refl _)
  clear hg hO
  have hO := hO'
  clear hO'
  obtain ⟨b1, hb1⟩ : ∃ b, w2.heap.size = b := ⟨_, rfl⟩
  have hI1 := World.ownsMap_made w2 Tryd.prog 3 (plainElem (H := Unit) Tryd.prog 134)
  rw [hb1] at hI1
  have hl1 : (w.heap.size + 1) < b1 := by have := hI0.lt; omega
  replace hI0 := hI0.alloc (.map #[] 0)
  replace hO := hO.alloc (.map #[] 0)
  replace hB := hB.alloc hB.size (.map #[] 0)
  obtain ⟨w3, hr3, hI1', hg⟩ := hI1.update intK Tryd.underlying110 (by unfold maxLen; omega) (key_int (i := 1) (by decide)) (elem_state (i := 2) (by decide))
  replace hI0 := hI0.kept hg (fun hh => by have hh := Option.some.inj hh; omega)
  replace hO := hO.kept hg (fun hh => by have hh := Option.some.inj hh; omega)
  replace hB := grown_below hB hg hB.size (by omega)
  clear hg hI1
  have hI1 := hI1'
  clear hI1'
  obtain ⟨w4, hr4, hI1', hg⟩ := hI1.update intK Tryd.underlying110 (by unfold maxLen; omega) (key_int (i := 9) (by decide)) (elem_state (i := 7) (by decide))
  replace hI0 := hI0.kept hg (fun hh => by have hh := Option.some.inj hh; omega)
  replace hO := hO.kept hg (fun hh => by have hh := Option.some.inj hh; omega)
  replace hB := grown_below hB hg hB.size (by omega)
  clear hg hI1
  have hI1 := hI1'
  clear hI1'
  obtain ⟨w5, hr5, hO', hg⟩ := hO.update stateK Tryd.underlying132 (by unfold maxLen; omega) (key_state (i := 1) (by decide)) (mapE_some b1)
  replace hI0 := hI0.kept hg (fun hh => by have hh := Option.some.inj hh; omega)
  replace hI1 := hI1.kept hg (fun hh => by have hh := Option.some.inj hh; omega)
  replace hB := grown_below hB hg hB.size (Nat.le_refl _)
  clear hg hO
  have hO := hO'
  clear hO'
  obtain ⟨b2, hb2⟩ : ∃ b, w5.heap.size = b := ⟨_, rfl⟩
  have hI2 := World.ownsMap_made w5 Tryd.prog 3 (plainElem (H := Unit) Tryd.prog 134)
  rw [hb2] at hI2
  have hl2 : b1 < b2 := by have := hI1.lt; omega
  replace hI0 := hI0.alloc (.map #[] 0)
  replace hI1 := hI1.alloc (.map #[] 0)
  replace hO := hO.alloc (.map #[] 0)
  replace hB := hB.alloc hB.size (.map #[] 0)
  obtain ⟨w6, hr6, hI2', hg⟩ := hI2.update intK Tryd.underlying110 (by unfold maxLen; omega) (key_int (i := 2) (by decide)) (elem_state (i := 3) (by decide))
  replace hI0 := hI0.kept hg (fun hh => by have hh := Option.some.inj hh; omega)
  replace hI1 := hI1.kept hg (fun hh => by have hh := Option.some.inj hh; omega)
  replace hO := hO.kept hg (fun hh => by have hh := Option.some.inj hh; omega)
  replace hB := grown_below hB hg hB.size (by omega)
  clear hg hI2
  have hI2 := hI2'
  clear hI2'
  obtain ⟨w7, hr7, hI2', hg⟩ := hI2.update intK Tryd.underlying110 (by unfold maxLen; omega) (key_int (i := 4) (by decide)) (elem_state (i := 4) (by decide))
  replace hI0 := hI0.kept hg (fun hh => by have hh := Option.some.inj hh; omega)
  replace hI1 := hI1.kept hg (fun hh => by have hh := Option.some.inj hh; omega)
  replace hO := hO.kept hg (fun hh => by have hh := Option.some.inj hh; omega)
  replace hB := grown_below hB hg hB.size (by omega)
  clear hg hI2
  have hI2 := hI2'
  clear hI2'
  obtain ⟨w8, hr8, hI2', hg⟩ := hI2.update intK Tryd.underlying110 (by unfold maxLen; omega) (key_int (i := 6) (by decide)) (elem_state (i := 5) (by decide))
  replace hI0 := hI0.kept hg (fun hh => by have hh := Option.some.inj hh; omega)
  replace hI1 := hI1.kept hg (fun hh => by have hh := Option.some.inj hh; omega)
  replace hO := hO.kept hg (fun hh => by have hh := Option.some.inj hh; omega)
  replace hB := grown_below hB hg hB.size (by omega)
  clear hg hI2
  have hI2 := hI2'
  clear hI2'
  obtain ⟨w9, hr9, hI2', hg⟩ := hI2.update intK Tryd.underlying110 (by unfold maxLen; omega) (key_int (i := 8) (by decide)) (elem_state (i := 6) (by decide))
  replace hI0 := hI0.kept hg (fun hh => by have hh := Option.some.inj hh; omega)
  replace hI1 := hI1.kept hg (fun hh => by have hh := Option.some.inj hh; omega)
  replace hO := hO.kept hg (fun hh => by have hh := Option.some.inj hh; omega)
  replace hB := grown_below hB hg hB.size (by omega)
  clear hg hI2
  have hI2 := hI2'
  clear hI2'
  obtain ⟨w10, hr10, hO', hg⟩ := hO.update stateK Tryd.underlying132 (by unfold maxLen; omega) (key_state (i := 2) (by decide)) (mapE_some b2)
  replace hI0 := hI0.kept hg (fun hh => by have hh := Option.some.inj hh; omega)
  replace hI1 := hI1.kept hg (fun hh => by have hh := Option.some.inj hh; omega)
  replace hI2 := hI2.kept hg (fun hh => by have hh := Option.some.inj hh; omega)
  replace hB := grown_below hB hg hB.size (Nat.le_refl _)
  clear hg hO
  have hO := hO'
  clear hO'
  obtain ⟨b3, hb3⟩ : ∃ b, w10.heap.size = b := ⟨_, rfl⟩
  have hI3 := World.ownsMap_made w10 Tryd.prog 3 (plainElem (H := Unit) Tryd.prog 134)
  rw [hb3] at hI3
  have hl3 : b2 < b3 := by have := hI2.lt; omega
  replace hI0 := hI0.alloc (.map #[] 0)
  replace hI1 := hI1.alloc (.map #[] 0)
  replace hI2 := hI2.alloc (.map #[] 0)
  replace hO := hO.alloc (.map #[] 0)
  replace hB := hB.alloc hB.size (.map #[] 0)
  obtain ⟨w11, hr11, hI3', hg⟩ := hI3.update intK Tryd.underlying110 (by unfold maxLen; omega) (key_int (i := 3) (by decide)) (elem_state (i := 2) (by decide))
  replace hI0 := hI0.kept hg (fun hh => by have hh := Option.some.inj hh; omega)
  replace hI1 := hI1.kept hg (fun hh => by have hh := Option.some.inj hh; omega)
  replace hI2 := hI2.kept hg (fun hh => by have hh := Option.some.inj hh; omega)
  replace hO := hO.kept hg (fun hh => by have hh := Option.some.inj hh; omega)
  replace hB := grown_below hB hg hB.size (by omega)
  clear hg hI3
  have hI3 := hI3'
  clear hI3'
  obtain ⟨w12, hr12, hI3', hg⟩ := hI3.update intK Tryd.underlying110 (by unfold maxLen; omega) (key_int (i := 9) (by decide)) (elem_state (i := 7) (by decide))
  replace hI0 := hI0.kept hg (fun hh => by have hh := Option.some.inj hh; omega)
  replace hI1 := hI1.kept hg (fun hh => by have hh := Option.some.inj hh; omega)
  replace hI2 := hI2.kept hg (fun hh => by have hh := Option.some.inj hh; omega)
  replace hO := hO.kept hg (fun hh => by have hh := Option.some.inj hh; omega)
  replace hB := grown_below hB hg hB.size (by omega)
  clear hg hI3
  have hI3 := hI3'
  clear hI3'
  obtain ⟨w13, hr13, hO', hg⟩ := hO.update stateK Tryd.underlying132 (by unfold maxLen; omega) (key_state (i := 3) (by decide)) (mapE_some b3)
  replace hI0 := hI0.kept hg (fun hh => by have hh := Option.some.inj hh; omega)
  replace hI1 := hI1.kept hg (fun hh => by have hh := Option.some.inj hh; omega)
  replace hI2 := hI2.kept hg (fun hh => by have hh := Option.some.inj hh; omega)
  replace hI3 := hI3.kept hg (fun hh => by have hh := Option.some.inj hh; omega)
  replace hB := grown_below hB hg hB.size (Nat.le_refl _)
  clear hg hO
  have hO := hO'
  clear hO'
  obtain ⟨b4, hb4⟩ : ∃ b, w13.heap.size = b := ⟨_, rfl⟩
  have hI4 := World.ownsMap_made w13 Tryd.prog 3 (plainElem (H := Unit) Tryd.prog 134)
  rw [hb4] at hI4
  have hl4 : b3 < b4 := by have := hI3.lt; omega
  replace hI0 := hI0.alloc (.map #[] 0)
  replace hI1 := hI1.alloc (.map #[] 0)
  replace hI2 := hI2.alloc (.map #[] 0)
  replace hI3 := hI3.alloc (.map #[] 0)
  replace hO := hO.alloc (.map #[] 0)
  replace hB := hB.alloc hB.size (.map #[] 0)
  obtain ⟨w14, hr14, hI4', hg⟩ := hI4.update intK Tryd.underlying110 (by unfold maxLen; omega) (key_int (i := 5) (by decide)) (elem_state (i := 2) (by decide))
  replace hI0 := hI0.kept hg (fun hh => by have hh := Option.some.inj hh; omega)
  replace hI1 := hI1.kept hg (fun hh => by have hh := Option.some.inj hh; omega)
  replace hI2 := hI2.kept hg (fun hh => by have hh := Option.some.inj hh; omega)
  replace hI3 := hI3.kept hg (fun hh => by have hh := Option.some.inj hh; omega)
  replace hO := hO.kept hg (fun hh => by have hh := Option.some.inj hh; omega)
  replace hB := grown_below hB hg hB.size (by omega)
  clear hg hI4
  have hI4 := hI4'
  clear hI4'
  obtain ⟨w15, hr15, hI4', hg⟩ := hI4.update intK Tryd.underlying110 (by unfold maxLen; omega) (key_int (i := 9) (by decide)) (elem_state (i := 7) (by decide))
  replace hI0 := hI0.kept hg (fun hh => by have hh := Option.some.inj hh; omega)
  replace hI1 := hI1.kept hg (fun hh => by have hh := Option.some.inj hh; omega)
  replace hI2 := hI2.kept hg (fun hh => by have hh := Option.some.inj hh; omega)
  replace hI3 := hI3.kept hg (fun hh => by have hh := Option.some.inj hh; omega)
  replace hO := hO.kept hg (fun hh => by have hh := Option.some.inj hh; omega)
  replace hB := grown_below hB hg hB.size (by omega)
  clear hg hI4
  have hI4 := hI4'
  clear hI4'
  obtain ⟨w16, hr16, hO', hg⟩ := hO.update stateK Tryd.underlying132 (by unfold maxLen; omega) (key_state (i := 4) (by decide)) (mapE_some b4)
  replace hI0 := hI0.kept hg (fun hh => by have hh := Option.some.inj hh; omega)
  replace hI1 := hI1.kept hg (fun hh => by have hh := Option.some.inj hh; omega)
  replace hI2 := hI2.kept hg (fun hh => by have hh := Option.some.inj hh; omega)
  replace hI3 := hI3.kept hg (fun hh => by have hh := Option.some.inj hh; omega)
  replace hI4 := hI4.kept hg (fun hh => by have hh := Option.some.inj hh; omega)
  replace hB := grown_below hB hg hB.size (Nat.le_refl _)
  clear hg hO
  have hO := hO'
  clear hO'
  obtain ⟨b5, hb5⟩ : ∃ b, w16.heap.size = b := ⟨_, rfl⟩
  have hI5 := World.ownsMap_made w16 Tryd.prog 3 (plainElem (H := Unit) Tryd.prog 134)
  rw [hb5] at hI5
  have hl5 : b4 < b5 := by have := hI4.lt; omega
  replace hI0 := hI0.alloc (.map #[] 0)
  replace hI1 := hI1.alloc (.map #[] 0)
  replace hI2 := hI2.alloc (.map #[] 0)
  replace hI3 := hI3.alloc (.map #[] 0)
  replace hI4 := hI4.alloc (.map #[] 0)
  replace hO := hO.alloc (.map #[] 0)
  replace hB := hB.alloc hB.size (.map #[] 0)
  obtain ⟨w17, hr17, hI5', hg⟩ := hI5.update intK Tryd.underlying110 (by unfold maxLen; omega) (key_int (i := 7) (by decide)) (elem_state (i := 7) (by decide))
  replace hI0 := hI0.kept hg (fun hh => by have hh := Option.some.inj hh; omega)
  replace hI1 := hI1.kept hg (fun hh => by have hh := Option.some.inj hh; omega)
  replace hI2 := hI2.kept hg (fun hh => by have hh := Option.some.inj hh; omega)
  replace hI3 := hI3.kept hg (fun hh => by have hh := Option.some.inj hh; omega)
  replace hI4 := hI4.kept hg (fun hh => by have hh := Option.some.inj hh; omega)
  replace hO := hO.kept hg (fun hh => by have hh := Option.some.inj hh; omega)
  replace hB := grown_below hB hg hB.size (by omega)
  clear hg hI5
  have hI5 := hI5'
  clear hI5'
  obtain ⟨w18, hr18, hI5', hg⟩ := hI5.update intK Tryd.underlying110 (by unfold maxLen; omega) (key_int (i := 9) (by decide)) (elem_state (i := 7) (by decide))
  replace hI0 := hI0.kept hg (fun hh => by have hh := Option.some.inj hh; omega)
  replace hI1 := hI1.kept hg (fun hh => by have hh := Option.some.inj hh; omega)
  replace hI2 := hI2.kept hg (fun hh => by have hh := Option.some.inj hh; omega)
  replace hI3 := hI3.kept hg (fun hh => by have hh := Option.some.inj hh; omega)
  replace hI4 := hI4.kept hg (fun hh => by have hh := Option.some.inj hh; omega)
  replace hO := hO.kept hg (fun hh => by have hh := Option.some.inj hh; omega)
  replace hB := grown_below hB hg hB.size (by omega)
  clear hg hI5
  have hI5 := hI5'
  clear hI5'
  obtain ⟨w19, hr19, hO', hg⟩ := hO.update stateK Tryd.underlying132 (by unfold maxLen; omega) (key_state (i := 5) (by decide)) (mapE_some b5)
  replace hI0 := hI0.kept hg (fun hh => by have hh := Option.some.inj hh; omega)
  replace hI1 := hI1.kept hg (fun hh => by have hh := Option.some.inj hh; omega)
  replace hI2 := hI2.kept hg (fun hh => by have hh := Option.some.inj hh; omega)
  replace hI3 := hI3.kept hg (fun hh => by have hh := Option.some.inj hh; omega)
  replace hI4 := hI4.kept hg (fun hh => by have hh := Option.some.inj hh; omega)
  replace hI5 := hI5.kept hg (fun hh => by have hh := Option.some.inj hh; omega)
  replace hB := grown_below hB hg hB.size (Nat.le_refl _)
  clear hg hO
  have hO := hO'
  clear hO'
  obtain ⟨b6, hb6⟩ : ∃ b, w19.heap.size = b := ⟨_, rfl⟩
  have hI6 := World.ownsMap_made w19 Tryd.prog 3 (plainElem (H := Unit) Tryd.prog 134)
  rw [hb6] at hI6
  have hl6 : b5 < b6 := by have := hI5.lt; omega
  replace hI0 := hI0.alloc (.map #[] 0)
  replace hI1 := hI1.alloc (.map #[] 0)
  replace hI2 := hI2.alloc (.map #[] 0)
  replace hI3 := hI3.alloc (.map #[] 0)
  replace hI4 := hI4.alloc (.map #[] 0)
  replace hI5 := hI5.alloc (.map #[] 0)
  replace hO := hO.alloc (.map #[] 0)
  replace hB := hB.alloc hB.size (.map #[] 0)
  obtain ⟨w20, hr20, hI6', hg⟩ := hI6.update intK Tryd.underlying110 (by unfold maxLen; omega) (key_int (i := 9) (by decide)) (elem_state (i := 7) (by decide))
  replace hI0 := hI0.kept hg (fun hh => by have hh := Option.some.inj hh; omega)
  replace hI1 := hI1.kept hg (fun hh => by have hh := Option.some.inj hh; omega)
  replace hI2 := hI2.kept hg (fun hh => by have hh := Option.some.inj hh; omega)
  replace hI3 := hI3.kept hg (fun hh => by have hh := Option.some.inj hh; omega)
  replace hI4 := hI4.kept hg (fun hh => by have hh := Option.some.inj hh; omega)
  replace hI5 := hI5.kept hg (fun hh => by have hh := Option.some.inj hh; omega)
  replace hO := hO.kept hg (fun hh => by have hh := Option.some.inj hh; omega)
  replace hB := grown_below hB hg hB.size (by omega)
  clear hg hI6
  have hI6 := hI6'
  clear hI6'
  obtain ⟨w21, hr21, hO', hg⟩ := hO.update stateK Tryd.underlying132 (by unfold maxLen; omega) (key_state (i := 6) (by decide)) (mapE_some b6)
  replace hI0 := hI0.kept hg (fun hh => by have hh := Option.some.inj hh; omega)
  replace hI1 := hI1.kept hg (fun hh => by have hh := Option.some.inj hh; omega)
  replace hI2 := hI2.kept hg (fun hh => by have hh := Option.some.inj hh; omega)
  replace hI3 := hI3.kept hg (fun hh => by have hh := Option.some.inj hh; omega)
  replace hI4 := hI4.kept hg (fun hh => by have hh := Option.some.inj hh; omega)
  replace hI5 := hI5.kept hg (fun hh => by have hh := Option.some.inj hh; omega)
  replace hI6 := hI6.kept hg (fun hh => by have hh := Option.some.inj hh; omega)
  replace hB := grown_below hB hg hB.size (Nat.le_refl _)
  clear hg hO
  have hO := hO'
  clear hO'
  obtain ⟨b7, hb7⟩ : ∃ b, w21.heap.size = b := ⟨_, rfl⟩
  have hI7 := World.ownsMap_made w21 Tryd.prog 3 (plainElem (H := Unit) Tryd.prog 134)
  rw [hb7] at hI7
  have hl7 : b6 < b7 := by have := hI6.lt; omega
  replace hI0 := hI0.alloc (.map #[] 0)
  replace hI1 := hI1.alloc (.map #[] 0)
  replace hI2 := hI2.alloc (.map #[] 0)
  replace hI3 := hI3.alloc (.map #[] 0)
  replace hI4 := hI4.alloc (.map #[] 0)
  replace hI5 := hI5.alloc (.map #[] 0)
  replace hI6 := hI6.alloc (.map #[] 0)
  replace hO := hO.alloc (.map #[] 0)
  replace hB := hB.alloc hB.size (.map #[] 0)
  obtain ⟨w22, hr22, hO', hg⟩ := hO.update stateK Tryd.underlying132 (by unfold maxLen; omega) (key_state (i := 7) (by decide)) (mapE_some b7)
  replace hI0 := hI0.kept hg (fun hh => by have hh := Option.some.inj hh; omega)
  replace hI1 := hI1.kept hg (fun hh => by have hh := Option.some.inj hh; omega)
  replace hI2 := hI2.kept hg (fun hh => by have hh := Option.some.inj hh; omega)
  replace hI3 := hI3.kept hg (fun hh => by have hh := Option.some.inj hh; omega)
  replace hI4 := hI4.kept hg (fun hh => by have hh := Option.some.inj hh; omega)
  replace hI5 := hI5.kept hg (fun hh => by have hh := Option.some.inj hh; omega)
  replace hI6 := hI6.kept hg (fun hh => by have hh := Option.some.inj hh; omega)
  replace hI7 := hI7.kept hg (fun hh => by have hh := Option.some.inj hh; omega)
  replace hB := grown_below hB hg hB.size (Nat.le_refl _)
  clear hg hO
  have hO := hO'
  clear hO'
  have hM : Mov w.heap.size w22.heap.size w22 w.heap.size := by
    refine ⟨Nat.le_refl _, hO.lt, _, _, hO, fun s hs => ?_⟩
    rcases eight hs with rfl | rfl | rfl | rfl | rfl | rfl | rfl | rfl
    · exact ⟨(w.heap.size + 1), _, by omega, hI0.lt, fun _ => rfl, hI0⟩
    · exact ⟨b1, _, by omega, hI1.lt, fun _ => rfl, hI1⟩
    · exact ⟨b2, _, by omega, hI2.lt, fun _ => rfl, hI2⟩
    · exact ⟨b3, _, by omega, hI3.lt, fun _ => rfl, hI3⟩
    · exact ⟨b4, _, by omega, hI4.lt, fun _ => rfl, hI4⟩
    · exact ⟨b5, _, by omega, hI5.lt, fun _ => rfl, hI5⟩
    · exact ⟨b6, _, by omega, hI6.lt, fun _ => rfl, hI6⟩
    · exact ⟨b7, _, by omega, hI7.lt, fun _ => rfl, hI7⟩
  have HM := Lib.hid hM
  have HB := Lib.hid hB
  clear hM hB hO hI0 hI1 hI2 hI3 hI4 hI5 hI6 hI7 hl0 hl1 hl2 hl3 hl4 hl5 hl6 hl7
  go_enter Tryd.func81, Tryd.ntmps81
  go_wp2
  go_ret
  exact ⟨_, rfl, HM.out, HB.out⟩
end Go.Proofs.YtmnblljenobofaaDoor
