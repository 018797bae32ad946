/- The walks of package word's Text and of the reference's Text and Number. -/
import Derived.Test.YtidgpphapehgnaaDoorWalkA
import Derived.Test.YtidgpphapehgnaaDoorPlainB
import Derived.Lib.ItoaMem
import Derived.Lib.ItoaLen
import Derived.Lib.SmallJoins
namespace Go.Proofs.YtidgpphapehgnaaDoor.WPlain
end Go.Proofs.YtidgpphapehgnaaDoor.WPlain
namespace Go.Proofs.YtidgpphapehgnaaDoor
open Go.RowKit WPlain

theorem refNumber_any (n : Int) (w : World) :
    Calls Tryd.prog 31 #[.int .i64 n] w fun e w' => e = .returned (.bool (inR n)) ∧ w = w' := by
  by_cases h1 : -2147483648 ≤ n
  · by_cases h2 : n ≤ 2147483647
    · have HT : Hid (inR n = true) := by unfold Hid inR; simp [h1, h2]
      go_enter Tryd.func31, Tryd.ntmps31
      go_wp2
      go_ret
      exact ⟨ret_bool HT.out.symm, rfl⟩
    · have HT : Hid (inR n = false) := by unfold Hid inR; simp [h2]
      have t2 : decide (n ≤ 2147483647) = false := by simp; omega
      go_enter Tryd.func31, Tryd.ntmps31
      go_wp2
      go_ret
      exact ⟨ret_bool HT.out.symm, rfl⟩
  · have HT : Hid (inR n = false) := by unfold Hid inR; simp [h1]
    have t2 : decide (-2147483648 ≤ n) = false := by simp; omega
    go_enter Tryd.func31, Tryd.ntmps31
    go_wp2
    go_ret
    exact ⟨ret_bool HT.out.symm, rfl⟩

end Go.Proofs.YtidgpphapehgnaaDoor
