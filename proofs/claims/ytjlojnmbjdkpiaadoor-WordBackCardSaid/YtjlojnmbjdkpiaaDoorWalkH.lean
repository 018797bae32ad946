/- The walk of the statements' own 'alive'. -/
import Derived.Test.YtjlojnmbjdkpiaaDoorWalkC
import Derived.Test.YtjlojnmbjdkpiaaDoorWalkF
import Derived.Deep.QuietTactic
import Derived.BigQuiet
namespace Go.Proofs.YtjlojnmbjdkpiaaDoor
open Go.RowKit WPlain

set_option maxHeartbeats 800000 in
theorem alive_any (w : World) (hm : HasM w) : Calls Tryd.prog 8 #[] w fun e w' => e = .returned (.bool true) ∧ Below w.heap.size w w' := by
  have hi1 : (intSpec [45, 50, 49, 52, 55, 52, 56, 51, 54, 52, 56]).1 = -2147483648 := by decide +kernel
  have hi2 : (intSpec [45, 50, 49, 52, 55, 52, 56, 51, 54, 52, 56]).2 = 0 := by decide +kernel
  have hw : words (lineOf [114, 101, 97, 100, 32, 32, 49, 32, 35, 32, 99]) = [(0, 4), (6, 7)] := by decide +kernel
  have H1 := Lib.hid hi1
  have H2 := Lib.hid hi2
  have HW := Lib.hid hw
  clear hi1 hi2 hw
  go_enter Tryd.func8, Tryd.ntmps8
  go_wp2_with fail
  refine (int_any _ _ (by decide)).mono ?_
  rintro e w1 ⟨rfl, hb1⟩
  have hm1 := hm.later hb1 (Nat.le_refl _)
  rw [H1.out, H2.out]
  go_wp2_with fail
  refine (words_any _ _ (by decide) hm1).mono ?_
  rintro e w2 ⟨v1, v2, rfl, hx, hy, hb2⟩
  rw [HW.out] at hx hy
  have hb3 := hb1.trans (hb2.mono hb1.size)
  obtain ⟨xa, xc, rfl⟩ := row_slice hx
  rcases Rd.of_row hy with ⟨e0, _⟩ | ⟨_, b, o, c, hv, hc⟩
  · simp [begsOf] at e0
  · subst hv
    have hc1 : w2.cell? ⟨b, o + 1, none⟩ = some (.int .i64 6) := hc 1 _ rfl
    clear hc hx hy
    go_wp2
    go_ret
    exact ⟨rfl, hb3⟩
end Go.Proofs.YtjlojnmbjdkpiaaDoor
