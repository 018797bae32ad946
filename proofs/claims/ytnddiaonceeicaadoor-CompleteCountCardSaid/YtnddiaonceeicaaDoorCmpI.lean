/- The walk of math/bits.OnesCount32 at numbers below 64. -/
import Derived.Test.YtnddiaonceeicaaDoorCmpB
import Derived.Test.YtnddiaonceeicaaDoorMg14
import Derived.Lib.BitFns
import Derived.Deep.QuietTactic
import Derived.BigQuiet
namespace Go.Proofs.YtnddiaonceeicaaDoor.WPlain
end Go.Proofs.YtnddiaonceeicaaDoor.WPlain
namespace Go.Proofs.YtnddiaonceeicaaDoor.QPlain
end Go.Proofs.YtnddiaonceeicaaDoor.QPlain
namespace Go.Proofs.YtnddiaonceeicaaDoor.RPlain
end Go.Proofs.YtnddiaonceeicaaDoor.RPlain
namespace Go.Proofs.YtnddiaonceeicaaDoor
open Go.RowKit WPlain QPlain RPlain

theorem ones_pc : ∀ x < 64, Lib.pop8 ((x : Nat) : Int) = ((pcN x : Nat) : Int) ∧ pcN x ≤ 6 := by decide +kernel
set_option maxRecDepth 100000 in
set_option maxHeartbeats 1000000 in
theorem ones_any (x : Nat) (hx : x < 64) (w : World) : Calls Tryd.prog 19 #[.int .u32 (x : Int)] w fun e w' => e = .returned (.int .i64 (pcN x : Nat)) ∧ ∃ z, w' = w.drewN z := by
  have e24 : (x : Int) / 16777216 = 0 := by omega
  have e16 : (x : Int) / 65536 = 0 := by omega
  have e8 : (x : Int) / 256 = 0 := by omega
  have x0 : (0 : Int) ≤ (x : Int) := by omega
  have x255 : (x : Int) ≤ 255 := by omega
  have ax : bits .and .u32 (x : Int) 255 = (x : Int) := by
    have h := u32_and_nat x 255 (by omega) (by decide)
    rw [show (255 : Nat) = 2 ^ 8 - 1 from rfl, Nat.and_two_pow_sub_one_eq_mod, Nat.mod_eq_of_lt (by omega)] at h
    exact h
  have a0 : bits .and .u32 0 255 = 0 := by decide +kernel
  have hp := (ones_pc x hx).1
  have hl := (ones_pc x hx).2
  have p0 : Lib.pop8 0 = 0 := by decide +kernel
  generalize pcN x = y at *
  go_enter Tryd.func19, Tryd.ntmps19
  go_wp2_with fail
  go_quiet (fail)
  clear ax a0
  go_wp2
  go_ret
  exact ⟨ret_int (by omega), _, rfl⟩
end Go.Proofs.YtnddiaonceeicaaDoor
