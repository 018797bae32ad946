/- The walks of package word's Words and of what it calls. -/
import Derived.Test.YtgdijlmfpboecaaDoorRows
import Derived.Test.YtgdijlmfpboecaaDoorShelf
import Derived.Test.YtgdijlmfpboecaaDoorKit
import Derived.Below
namespace Go.Proofs.YtgdijlmfpboecaaDoor.WPlain
end Go.Proofs.YtgdijlmfpboecaaDoor.WPlain
namespace Go.Proofs.YtgdijlmfpboecaaDoor
open Go.RowKit WPlain

theorem info3 : (Tryd.prog.info? 3).map (fun i => (i.zero, i.size, i.bytes)) = some (some (.int .i64 0), 1, 8) := by kernel_rfl

end Go.Proofs.YtgdijlmfpboecaaDoor
