/- ExtendAll's walk. -/
import Derived.Test.YtclhbnfnmpabbaaExtP
import Derived.Deep.DeepMust
import Derived.BigQuiet
namespace Go.Proofs.Ytclhbnfnmpabbaa.RPlain
end Go.Proofs.Ytclhbnfnmpabbaa.RPlain
namespace Go.Proofs.Ytclhbnfnmpabbaa
open Go.RowKit RPlain

theorem belowDr11 (w : World) : Below w.heap.size w w.drew := (Below.refl _ w).drew
end Go.Proofs.Ytclhbnfnmpabbaa
