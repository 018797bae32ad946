/- The walks of package word's Words and of what it calls. -/
import Derived.Test.YtpbkieeheepelaaDoorRows
import Derived.Test.YtpbkieeheepelaaDoorShelf
import Derived.Test.YtpbkieeheepelaaDoorKit
import Derived.Below
namespace Go.Proofs.YtpbkieeheepelaaDoor.WPlain
end Go.Proofs.YtpbkieeheepelaaDoor.WPlain
namespace Go.Proofs.YtpbkieeheepelaaDoor
open Go.RowKit WPlain

theorem info3 : (Tryd.prog.info? 3).map (fun i => (i.zero, i.size, i.bytes)) = some (some (.int .i64 0), 1, 8) := by kernel_rfl

end Go.Proofs.YtpbkieeheepelaaDoor
