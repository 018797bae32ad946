/- The walks of package word's Words and of what it calls. -/
import Derived.Test.YtidgpphapehgnaaDoorRows
import Derived.Test.YtidgpphapehgnaaDoorShelf
import Derived.Test.YtidgpphapehgnaaDoorKit
import Derived.Below
namespace Go.Proofs.YtidgpphapehgnaaDoor.WPlain
end Go.Proofs.YtidgpphapehgnaaDoor.WPlain
namespace Go.Proofs.YtidgpphapehgnaaDoor
open Go.RowKit WPlain

theorem info3 : (Tryd.prog.info? 3).map (fun i => (i.zero, i.size, i.bytes)) = some (some (.int .i64 0), 1, 8) := by kernel_rfl

end Go.Proofs.YtidgpphapehgnaaDoor
