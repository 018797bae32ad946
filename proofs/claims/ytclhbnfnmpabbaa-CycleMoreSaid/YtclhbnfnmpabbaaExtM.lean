/- The walk of the reference's May. -/
import Derived.Test.YtclhbnfnmpabbaaExtL
namespace Go.Proofs.Ytclhbnfnmpabbaa.RPlain
end Go.Proofs.Ytclhbnfnmpabbaa.RPlain
namespace Go.Proofs.Ytclhbnfnmpabbaa
open Go.RowKit RPlain

theorem any_take {α : Type} {p : α → Bool} {l : List α} {k : Nat} (h : k < l.length) : (l.take (k + 1)).any p = ((l.take k).any p || p l[k]) := by
  rw [List.take_succ_eq_append_getElem h, List.any_append]
  simp
theorem any_range (p : Nat → Bool) (k : Nat) : (List.range (k + 1)).any p = ((List.range k).any p || p k) := by
  rw [List.range_succ, List.any_append]
  simp
end Go.Proofs.Ytclhbnfnmpabbaa
