/- The walks of the law's alive, and of Ints at rows of places. -/
import Derived.Test.YtclhbnfnmpabbaaExtJ
import Derived.Test.YtclhbnfnmpabbaaExtO
import Derived.Test.YtclhbnfnmpabbaaWalkG
namespace Go.Proofs.Ytclhbnfnmpabbaa.RPlain
end Go.Proofs.Ytclhbnfnmpabbaa.RPlain
namespace Go.Proofs.Ytclhbnfnmpabbaa
open Go.RowKit RPlain

theorem belowDrewN {w : World} {n : Nat} : Below w.heap.size w (w.drewN n) := ⟨rfl, rfl, rfl, Nat.le_refl _, fun _ _ => rfl⟩
theorem intsN_any (v1 v2 : Value) (L : List Nat) (w : World) (h1 : Rd w v1 (nats L)) (h2 : Rd w v2 (nats L)) (hl : L.length ≤ 65536) :
    Calls Try.prog 11 #[v1, v2] w fun e w' => e = .returned (.bool true) ∧ Below w.heap.size w w' := by
  have he : nats L = (L.map fun (x : Nat) => (x : Int)).map (.int .i64) := by simp [nats, Function.comp_def]
  rw [he] at h1 h2
  refine (ints_same _ v1 v2 w (by simp; omega) h1 h2).mono ?_
  rintro e w' ⟨rfl, n, rfl⟩
  exact ⟨rfl, belowDrewN⟩
theorem may_alive : mayE [4, 0, 0] = 0 := by decide
theorem all_alive : allS [4, 0, 0] = [[0, 1, 2], [0, 2, 1], [1, 0, 2]] := by decide
end Go.Proofs.Ytclhbnfnmpabbaa
