/- The walks of package word's Int and of what it calls. -/
import Derived.Test.YtgebmjbfeakpgaaDoorWalkA
import Derived.Test.YtgebmjbfeakpgaaDoorPlainB
namespace Go.Proofs.YtgebmjbfeakpgaaDoor.WPlain
end Go.Proofs.YtgebmjbfeakpgaaDoor.WPlain
namespace Go.Proofs.YtgebmjbfeakpgaaDoor
open Go.RowKit WPlain

theorem isNumber_any (n : Int) (w : World) :
    Calls Tryd.prog 73 #[.int .i64 n] w fun e w' => e = .returned (.bool (inR n)) ∧ w = w' := by
  by_cases h1 : -2147483648 ≤ n
  · by_cases h2 : n ≤ 2147483647
    · have HT : Hid (inR n = true) := by unfold Hid inR; simp [h1, h2]
      go_enter Tryd.func73, Tryd.ntmps73
      go_wp2
      go_ret
      exact ⟨ret_bool HT.out.symm, rfl⟩
    · have HT : Hid (inR n = false) := by unfold Hid inR; simp [h2]
      have t2 : decide (n ≤ 2147483647) = false := by simp; omega
      go_enter Tryd.func73, Tryd.ntmps73
      go_wp2
      go_ret
      exact ⟨ret_bool HT.out.symm, rfl⟩
  · have HT : Hid (inR n = false) := by unfold Hid inR; simp [h1]
    have t2 : decide (-2147483648 ≤ n) = false := by simp; omega
    go_enter Tryd.func73, Tryd.ntmps73
    go_wp2
    go_ret
    exact ⟨ret_bool HT.out.symm, rfl⟩

end Go.Proofs.YtgebmjbfeakpgaaDoor
