/- The walks of the reference's Bit, Choice and Choices. -/
import Derived.Test.YtclhbnfnmpabbaaKitR
import Derived.Test.YtclhbnfnmpabbaaKitT
import Derived.Test.YtclhbnfnmpabbaaKitB
import Derived.Test.YtclhbnfnmpabbaaRows
import Derived.Test.YtclhbnfnmpabbaaKit
import Derived.Test.YtclhbnfnmpabbaaShelf
import Derived.Test.YtclhbnfnmpabbaaTxtD
import Derived.Test.YtclhbnfnmpabbaaOrdC
import Derived.Test.YtclhbnfnmpabbaaOrdE
import Derived.Test.YtclhbnfnmpabbaaTabF
import Derived.Sort.KeysCollected
import Derived.Maps.OwnSet
import Derived.Lib.ItoaLen
import Derived.Below
import Derived.Lib.Strings
import Derived.Deep.QuietTactic
import Derived.BigQuiet
import Derived.Laws.StructEq
import Derived.Deep.DeepCutAuto
import Derived.Deep.RegionHeldLaw
import Derived.Deep.RegionHeld
import Derived.Deep.DeepMust
import Derived.Deep.Slices
import Derived.ChangeSame
import Derived.OpenShut
import Derived.Laws.AppendOwnNone
import Derived.Lib.SplitLaws
import Derived.Laws.Rows
namespace Go.Proofs.Ytclhbnfnmpabbaa.WPlain
end Go.Proofs.Ytclhbnfnmpabbaa.WPlain
namespace Go.Proofs.Ytclhbnfnmpabbaa.QPlain
end Go.Proofs.Ytclhbnfnmpabbaa.QPlain
namespace Go.Proofs.Ytclhbnfnmpabbaa.RPlain
end Go.Proofs.Ytclhbnfnmpabbaa.RPlain
namespace Go.Proofs.Ytclhbnfnmpabbaa
open Go.RowKit WPlain QPlain RPlain

set_option maxRecDepth 100000 in
theorem refBit9_any (n k : Nat) (hn : n < 4294967296) (hk : k ≤ 65536) (w : World) : Calls Try.prog 29 #[.int .u32 (n : Int), .int .i64 (k : Int)] w fun e w' => e = .returned (.bool (n.testBit k)) ∧ w' = w := by
  have HFIN : Hid (n.testBit k = decide (n / 2 ^ k % 2 = 1)) := Nat.testBit_eq_decide_div_mod_eq
  go_enter Try.func29, Try.ntmps29
  go_wp2_with fail
  go_loopw [0, 5] (fun y x wr => ∃ i : Nat, i ≤ k ∧ x = .int .i64 i ∧ (∃ p : Nat, y = .int .u32 p ∧ p < 4294967296 ∧ Hid (p = n / 2 ^ i)) ∧ wr = w) (fun _ x _ => k - (intOf x).toNat)
  case atStart => exact ⟨0, by omega, rfl, ⟨n, rfl, hn, by unfold Hid; rw [Nat.pow_zero, Nat.div_one]⟩, rfl⟩
  case round =>
    obtain ⟨i, hi, rfl, ⟨p, rfl, hp, HP⟩, rfl⟩ := hrel
    by_cases hlt : i < k
    · have HP2 : Hid (p / 2 = n / 2 ^ (i + 1)) := by unfold Hid; rw [HP.out, Nat.div_div_eq_div_mul, Nat.pow_succ]
      clear HP
      go_wp2
      go_roundw
      case rel => exact ⟨i + 1, by omega, by go_num, ⟨p / 2, by go_num, by omega, HP2⟩, trivial⟩
      case measure => simp [intOf]; omega
    · obtain rfl : i = k := by omega
      rw [← HP.out] at HFIN
      clear HP
      go_wp2
      go_ret
      exact ⟨ret_bool (by rw [HFIN.out, Bool.eq_iff_iff]; simp; omega), rfl⟩
end Go.Proofs.Ytclhbnfnmpabbaa
