/- The walk of package text's kindOf. -/
import Derived.Test.YtnbecfgoambbpaaDoorKitC
import Derived.Deep.QuietTactic
import Derived.BigQuiet
namespace Go.Proofs.YtnbecfgoambbpaaDoor
open Go.RowKit WPlain

theorem idxOf_first : ∀ (ws : List (List UInt8)) (l : List UInt8) (k : Nat), (∀ j, j < k → ws.getD j [] ≠ l ∧ j < ws.length) → ws.getD k [] = l → k < ws.length → ws.idxOf l = k := by
  intro ws
  induction ws with
  | nil => intro l k h h1 h2; simp at h2
  | cons x r ih =>
    intro l k h h1 h2
    cases k with
    | zero => simp at h1; simp [h1]
    | succ k =>
      have h0 := (h 0 (by omega)).1
      simp at h0
      rw [List.idxOf_cons]
      have hb : (x == l) = false := by simpa using h0
      simp only [hb, cond_false]
      rw [ih l k (fun j hj => by have := h (j + 1) (by omega); simpa using this) (by simpa using h1) (by simpa using h2)]
theorem idxOf_none : ∀ (ws : List (List UInt8)) (l : List UInt8), (∀ j, j < ws.length → ws.getD j [] ≠ l) → ws.idxOf l = ws.length := by
  intro ws
  induction ws with
  | nil => intro l h; rfl
  | cons x r ih =>
    intro l h
    have h0 := h 0 (by simp)
    simp at h0
    have hb : (x == l) = false := by simpa using h0
    rw [List.idxOf_cons]
    simp only [hb, cond_false, List.length_cons]
    rw [ih l (fun j hj => by have := h (j + 1) (by simpa using hj); simpa using this)]

/-- what kindOf answers -/
def kindAns (l : List UInt8) : Value := if kindIx l = 10 then .tuple #[.int .i64 0, .bool false] else .tuple #[.int .i64 (kindIx l), .bool true]

set_option maxHeartbeats 1000000 in
theorem kindOf_any (s : ByteArray) (w : World) (hk : HasK w) :
    Calls Tryd.prog 37 #[.string s] w fun e w' => e = .returned (kindAns s.data.toList) ∧ Below w.heap.size w w' := by
  have HK := Lib.hid hk
  have hlt0 := hk.lt
  have hb0 := Below.refl w.heap.size w
  clear hk
  go_enter Tryd.func37, Tryd.ntmps37
  go_wp2_with (refine wpList_load_cells rfl 85 _ rfl 0 rfl kindCells _ HK.out Tryd.underlying85 rfl kind_size ?_)
  go_loopw [7] (fun x wr => ∃ k : Nat, k ≤ 10 ∧ x = .int .i64 k ∧ Hid (∀ j, j < k → kwords.getD j [] ≠ s.data.toList) ∧ Below w.heap.size w wr) (fun x _ => 10 - (intOf x).toNat)
  case atStart => exact ⟨0, by omega, rfl, fun j hj => absurd hj (Nat.not_lt_zero _), hb0⟩
  case round =>
    clear hb0
    obtain ⟨k, hk, rfl, HN, hb⟩ := hrel
    by_cases hlt : k < 10
    · have hidx := kind_index k hlt
      by_cases heq : kwords.getD k [] = s.data.toList
      · have hs : kbytes k = s := by unfold kbytes; rw [heq]
        have HA : Hid (kindAns s.data.toList = .tuple #[.int .i64 k, .bool true]) := by
          unfold Hid kindAns
          have hki : kindIx s.data.toList = k := idxOf_first kwords _ k (fun j hj => ⟨HN.out j hj, by show j < 10; omega⟩) heq hlt
          rw [hki, if_neg (by omega)]
        rw [hs] at hidx
        clear heq hs
        go_wp2
        go_ret2
        exact ⟨HA.out.symm ▸ rfl, hb.alloc hb.size _⟩
      · have hs : ¬ kbytes k = s := by intro h; apply heq; rw [← h]; rfl
        have h2 : ((kbytes k).toList == s.toList) = false := by
          rw [Lib.toList_data, Lib.toList_data]
          refine beq_eq_false_iff_ne.2 fun h => heq ?_
          simpa [kbytes] using h
        have HN2 : Hid (∀ j, j < k + 1 → kwords.getD j [] ≠ s.data.toList) := by
          intro j hj
          by_cases hj' : j < k
          · exact HN.out j hj'
          · obtain rfl : j = k := by omega
            exact heq
        clear heq hs
        generalize kbytes k = kb at *
        go_wp2
        go_roundw
        case rel => exact ⟨k + 1, by omega, by go_num, HN2, hb.alloc hb.size _⟩
        case measure => simp [intOf]; omega
    · go_wp2
      obtain rfl : k = 10 := by omega
      have hki : kindIx s.data.toList = 10 := idxOf_none kwords _ (fun j hj => HN.out j hj)
      go_ret2
      exact ⟨by unfold kindAns; rw [if_pos hki]; rfl, hb⟩
end Go.Proofs.YtnbecfgoambbpaaDoor
