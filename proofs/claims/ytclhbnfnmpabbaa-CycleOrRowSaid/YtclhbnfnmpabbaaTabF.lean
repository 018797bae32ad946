/- The walk of Table. -/
import Derived.Test.YtclhbnfnmpabbaaKitR
import Derived.Test.YtclhbnfnmpabbaaKitT
import Derived.Test.YtclhbnfnmpabbaaKitB
import Derived.Test.YtclhbnfnmpabbaaRows
import Derived.Test.YtclhbnfnmpabbaaKit
import Derived.Test.YtclhbnfnmpabbaaShelf
import Derived.Test.YtclhbnfnmpabbaaTxtD
import Derived.Deep.DeepCutAuto
import Derived.Deep.RegionHeldLaw
import Derived.Deep.RegionHeld
import Derived.Deep.DeepMust
import Derived.Sort.KeysCollected
import Derived.Maps.OwnSet
import Derived.Lib.ItoaLen
import Derived.Below
import Derived.Lib.Strings
import Derived.Deep.Slices
import Derived.ChangeSame
import Derived.OpenShut
import Derived.Laws.AppendOwnNone
import Derived.Lib.SplitLaws
import Derived.Deep.QuietTactic
import Derived.BigQuiet
import Derived.Laws.Rows
import Derived.Deep.RegionLaw
import Derived.Maps.RangeWalk
namespace Go.Proofs.Ytclhbnfnmpabbaa.WPlain
end Go.Proofs.Ytclhbnfnmpabbaa.WPlain
namespace Go.Proofs.Ytclhbnfnmpabbaa.QPlain
end Go.Proofs.Ytclhbnfnmpabbaa.QPlain
namespace Go.Proofs.Ytclhbnfnmpabbaa.RPlain
end Go.Proofs.Ytclhbnfnmpabbaa.RPlain
namespace Go.Proofs.Ytclhbnfnmpabbaa
open Go.RowKit WPlain QPlain RPlain

/-- what lies from B on lies as it lay -/
def Above (B : Nat) (w w' : World) : Prop := ∀ k, B ≤ k → k < w.heap.size → w'.heap[k]? = w.heap[k]?
theorem Above.refl (B : Nat) (w : World) : Above B w w := fun _ _ _ => rfl
theorem Above.mono {B C : Nat} {w w' : World} (h : Above B w w') (hB : B ≤ C) : Above C w w' := fun k h1 h2 => h k (Nat.le_trans hB h1) h2
end Go.Proofs.Ytclhbnfnmpabbaa
