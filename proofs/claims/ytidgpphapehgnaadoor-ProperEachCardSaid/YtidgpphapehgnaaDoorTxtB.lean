/- The walks of package text's within, place and number. -/
import Derived.Test.YtidgpphapehgnaaDoorKitB
import Derived.Test.YtidgpphapehgnaaDoorWalkA
import Derived.Test.YtidgpphapehgnaaDoorPlainB
import Derived.Deep.QuietTactic
import Derived.BigQuiet
namespace Go.Proofs.YtidgpphapehgnaaDoor.WPlain
end Go.Proofs.YtidgpphapehgnaaDoor.WPlain
namespace Go.Proofs.YtidgpphapehgnaaDoor
open Go.RowKit WPlain

theorem within_any (n lo hi : Int) (w : World) :
    Calls Tryd.prog 50 #[.int .i64 n, .int .i64 lo, .int .i64 hi] w fun e w' => e = .returned (.bool (inB n lo hi)) ∧ w = w' := by
  unfold inB
  go_enter Tryd.func50, Tryd.ntmps50
  go_wp2
  all_goals
    go_ret
    exact ⟨ret_bool (by first | (simp [*]; done) | (simp; omega)), rfl⟩

end Go.Proofs.YtidgpphapehgnaaDoor
