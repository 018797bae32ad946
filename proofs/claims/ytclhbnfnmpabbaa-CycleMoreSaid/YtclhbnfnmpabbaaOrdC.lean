/- The walks of package order's bit and isBefore. -/
import Derived.Test.YtclhbnfnmpabbaaKitR
import Derived.Test.YtclhbnfnmpabbaaKitT
import Derived.Test.YtclhbnfnmpabbaaKitB
import Derived.Test.YtclhbnfnmpabbaaRows
import Derived.Test.YtclhbnfnmpabbaaKit
import Derived.Test.YtclhbnfnmpabbaaShelf
import Derived.Test.YtclhbnfnmpabbaaTxtD
import Derived.Test.YtclhbnfnmpabbaaTabF
import Derived.Test.YtclhbnfnmpabbaaTxtS
import Derived.Laws.BitsAllLaws
import Derived.Sort.KeysCollected
import Derived.Maps.OwnSet
import Derived.Lib.ItoaLen
import Derived.Below
import Derived.Lib.Strings
import Derived.Deep.QuietTactic
import Derived.BigQuiet
import Derived.Laws.StructEq
import Derived.Deep.DeepCutAuto
import Derived.Deep.RegionHeldLaw
import Derived.Deep.RegionHeld
import Derived.Deep.DeepMust
import Derived.Deep.Slices
import Derived.ChangeSame
import Derived.OpenShut
import Derived.Laws.AppendOwnNone
import Derived.Lib.SplitLaws
import Derived.Laws.Rows
import Derived.Deep.CutRange
import Derived.Deep.RegionWith
import Derived.Lib.Join
import Derived.RegionTactic
import Derived.Lib.ItoaMem
import Derived.Lib.SmallJoins
import Derived.Sort.OwnSortedInts
import Derived.Deep.Cut
import Derived.Maps.RangeWalk
import Derived.Deep.RegionLaw
namespace Go.Proofs.Ytclhbnfnmpabbaa.WPlain
end Go.Proofs.Ytclhbnfnmpabbaa.WPlain
namespace Go.Proofs.Ytclhbnfnmpabbaa.QPlain
end Go.Proofs.Ytclhbnfnmpabbaa.QPlain
namespace Go.Proofs.Ytclhbnfnmpabbaa.RPlain
end Go.Proofs.Ytclhbnfnmpabbaa.RPlain
namespace Go.Proofs.Ytclhbnfnmpabbaa
open Go.RowKit WPlain QPlain RPlain

theorem pow_u32 {k : Nat} (hk : k < 32) : (2 : Int) ^ k % 4294967296 = ((2 ^ k : Nat) : Int) := by
  have h1 : 2 ^ k < 4294967296 := Nat.pow_lt_pow_right (a := 2) (m := k) (n := 32) (by decide) hk
  have h2 : (2 : Int) ^ k = ((2 ^ k : Nat) : Int) := (Int.natCast_pow 2 k).symm
  rw [h2]
  generalize 2 ^ k = x at *
  omega
end Go.Proofs.Ytclhbnfnmpabbaa
