/- The walks of package word's Text and of the reference's Text and Number. -/
import Derived.Test.YtgebmjbfeakpgaaDoorWalkE
import Derived.Lib.ItoaMem
import Derived.Lib.ItoaLen
import Derived.Lib.SmallJoins
namespace Go.Proofs.YtgebmjbfeakpgaaDoor.WPlain
end Go.Proofs.YtgebmjbfeakpgaaDoor.WPlain
namespace Go.Proofs.YtgebmjbfeakpgaaDoor
open Go.RowKit WPlain

theorem refNumber_any (n : Int) (w : World) :
    Calls Tryd.prog 50 #[.int .i64 n] w fun e w' => e = .returned (.bool (inR n)) ∧ w = w' := by
  by_cases h1 : -2147483648 ≤ n
  · by_cases h2 : n ≤ 2147483647
    · have HT : Hid (inR n = true) := by unfold Hid inR; simp [h1, h2]
      go_enter Tryd.func50, Tryd.ntmps50
      go_wp2
      go_ret
      exact ⟨ret_bool HT.out.symm, rfl⟩
    · have HT : Hid (inR n = false) := by unfold Hid inR; simp [h2]
      have t2 : decide (n ≤ 2147483647) = false := by simp; omega
      go_enter Tryd.func50, Tryd.ntmps50
      go_wp2
      go_ret
      exact ⟨ret_bool HT.out.symm, rfl⟩
  · have HT : Hid (inR n = false) := by unfold Hid inR; simp [h1]
    have t2 : decide (-2147483648 ≤ n) = false := by simp; omega
    go_enter Tryd.func50, Tryd.ntmps50
    go_wp2
    go_ret
    exact ⟨ret_bool HT.out.symm, rfl⟩

theorem below_grow (w : World) (k : Nat) (os : Array Obj) : Below w.heap.size w (Go.Sort.grow (w.drewN k) os) := by
  refine ⟨rfl, rfl, rfl, ?_, ?_⟩
  · simp [Go.Sort.grow]
  · intro j hj
    simp only [Go.Sort.grow]
    exact Array.getElem?_append_left hj

theorem text_yes (n : Int) (w : World) (h1 : -2147483648 ≤ n) (h2 : n ≤ 2147483647) (htab : Lib.TabIs Tryd.prog w "internal/strconv.uint64pow10" .u64 Lib.pow10Tab) :
    Calls Tryd.prog 67 #[.int .i64 n] w fun e w' => e = .returned (.tuple #[.string ⟨(Lib.itoa n).toArray⟩, .int .i64 0]) ∧ Below w.heap.size w w' := by
  have HT : Hid (inR n = true) := by unfold Hid inR; simp [h1, h2]
  go_enter Tryd.func67, Tryd.ntmps67
  go_wp2_with fail
  refine (isNumber_any _ _).mono ?_
  rintro e w' ⟨rfl, rfl⟩
  rw [HT.out]
  go_wp2_with fail
  refine (Tryd.strconv_Itoa n (by omega) (by omega) _ htab).mono ?_
  rintro e w' ⟨rfl, k, os, rfl⟩
  have hb := below_grow w k os
  generalize Go.Sort.grow (w.drewN k) os = w1 at *
  go_wp2_with fail
  go_ret2
  exact ⟨rfl, hb⟩
end Go.Proofs.YtgebmjbfeakpgaaDoor
