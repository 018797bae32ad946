/- An argument that is a slice of events. -/
import Derived.Test.YtclhbnfnmpabbaaRows
import Derived.Test.YtclhbnfnmpabbaaKitB
import Derived.Deep.Slices
import Derived.Deep.Fields
import Derived.ChangeSame
import Derived.OpenShut
namespace Go.Proofs.Ytclhbnfnmpabbaa.WPlain
end Go.Proofs.Ytclhbnfnmpabbaa.WPlain
namespace Go.Proofs.Ytclhbnfnmpabbaa
open Go.ChangeShapes Go.WideShapes Go.RowKit Go.Deep WPlain

theorem cells_int : Try.prog.cellsOf 3 = 1 := by kernel_rfl
end Go.Proofs.Ytclhbnfnmpabbaa
