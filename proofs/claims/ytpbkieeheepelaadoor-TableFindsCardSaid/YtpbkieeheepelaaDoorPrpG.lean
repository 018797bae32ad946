/- The walk of Next. -/
import Derived.Test.YtpbkieeheepelaaDoorPrpE
import Derived.Test.YtpbkieeheepelaaDoorPrpF
import Derived.Test.YtpbkieeheepelaaDoorTxtD
import Derived.Sort.OwnSortedInts
import Derived.Deep.RegionHeld
import Derived.Deep.DeepMust
import Derived.Deep.Cut
import Derived.Deep.DeepCutAuto
import Derived.Maps.RangeWalk
namespace Go.Proofs.YtpbkieeheepelaaDoor.WPlain
end Go.Proofs.YtpbkieeheepelaaDoor.WPlain
namespace Go.Proofs.YtpbkieeheepelaaDoor.QPlain
end Go.Proofs.YtpbkieeheepelaaDoor.QPlain
namespace Go.Proofs.YtpbkieeheepelaaDoor
open Go.RowKit WPlain QPlain
open Go.Maps (Keyed)

theorem below_drP (w : World) : Below w.heap.size w w.drew := (Below.refl _ _).drew
end Go.Proofs.YtpbkieeheepelaaDoor
