/- The walks of package text's within, place and number. -/
import Derived.Test.YtpbkieeheepelaaDoorKitB
import Derived.Test.YtpbkieeheepelaaDoorWalkA
import Derived.Test.YtpbkieeheepelaaDoorPlainB
import Derived.Deep.QuietTactic
import Derived.BigQuiet
namespace Go.Proofs.YtpbkieeheepelaaDoor.WPlain
end Go.Proofs.YtpbkieeheepelaaDoor.WPlain
namespace Go.Proofs.YtpbkieeheepelaaDoor
open Go.RowKit WPlain

theorem within_any (n lo hi : Int) (w : World) :
    Calls Tryd.prog 47 #[.int .i64 n, .int .i64 lo, .int .i64 hi] w fun e w' => e = .returned (.bool (inB n lo hi)) ∧ w = w' := by
  unfold inB
  go_enter Tryd.func47, Tryd.ntmps47
  go_wp2
  all_goals
    go_ret
    exact ⟨ret_bool (by first | (simp [*]; done) | (simp; omega)), rfl⟩

end Go.Proofs.YtpbkieeheepelaaDoor
