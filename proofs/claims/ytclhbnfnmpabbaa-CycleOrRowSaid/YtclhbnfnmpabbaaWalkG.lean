/- The walks of the reference's Texts and Ints, at two rows that are the same. -/
import Derived.Test.YtclhbnfnmpabbaaRows
import Derived.Test.YtclhbnfnmpabbaaShelf
import Derived.Test.YtclhbnfnmpabbaaKit
import Derived.Deep.QuietTactic
import Derived.BigQuiet
import Derived.Below
namespace Go.Proofs.Ytclhbnfnmpabbaa.WPlain
end Go.Proofs.Ytclhbnfnmpabbaa.WPlain
namespace Go.Proofs.Ytclhbnfnmpabbaa
open Go.RowKit WPlain

set_option maxHeartbeats 400000 in
theorem ints_same (xs : List Int) (v1 v2 : Value) (w : World) (hx : xs.length ≤ 2147483648) (h1 : Rd w v1 (xs.map (.int .i64))) (h2 : Rd w v2 (xs.map (.int .i64))) :
    Calls Try.prog 11 #[v1, v2] w fun e w' => e = .returned (.bool true) ∧ ∃ n, w' = w.drewN n := by
  rcases h1 with ⟨e1, a1, c1, rfl⟩ | ⟨l1, b1, o1, c1, rfl, g1⟩
  · have hx0 : xs = [] := by simpa using e1
    subst hx0
    rcases h2 with ⟨e2, a2, c2, rfl⟩ | ⟨l2, _⟩
    · go_enter Try.func11, Try.ntmps11
      go_wp2
      refine wp_loop_rounds 1 ?_
      rw [rounds_succ]
      go_wp2
      go_ret
      exact ⟨rfl, 0, rfl⟩
    · simp at l2
  · rcases h2 with ⟨e2, _⟩ | ⟨l2, b2, o2, c2, rfl, g2⟩
    · rw [e2] at l1; simp at l1
    · have HG : Hid (∀ i (h : i < xs.length), w.cell? ⟨b1, o1 + i, none⟩ = some (.int .i64 xs[i]) ∧ w.cell? ⟨b2, o2 + i, none⟩ = some (.int .i64 xs[i])) := by
        intro i h
        exact ⟨g1 i _ (by rw [List.getElem?_map, List.getElem?_eq_getElem h]; rfl), g2 i _ (by rw [List.getElem?_map, List.getElem?_eq_getElem h]; rfl)⟩
      clear g1 g2
      simp only [List.length_map] at l1 l2 ⊢
      go_enter Try.func11, Try.ntmps11
      go_wp2
      go_loopw [13] (fun x wr => ∃ k n : Nat, k ≤ xs.length ∧ x = .int .i64 k ∧ wr = w.drewN n) (fun x _ => xs.length - (intOf x).toNat)
      case atStart => exact ⟨0, 0, by omega, rfl, rfl⟩
      case round =>
        obtain ⟨k, n, hk, rfl, rfl⟩ := hrel
        by_cases hlt : k < xs.length
        · obtain ⟨hc1, hc2⟩ := HG.out k hlt
          generalize xs[k] = y at *
          have k1 : (k : Int) < (xs.length : Int) := by omega
          go_wp2
          go_quiet (fail)
          go_wp2
          go_roundw
          case rel => exact ⟨k + 1, _, by omega, by go_num, rfl⟩
          case measure => simp [intOf]; omega
        · go_wp2
          go_ret
          exact ⟨rfl, n, rfl⟩
end Go.Proofs.Ytclhbnfnmpabbaa
