/- The walks of Zig and Zag, the program's and the reference's. -/
import Derived.Test.YtgdijlmfpboecaaDoorRows
import Derived.Test.YtgdijlmfpboecaaDoorVarA
import Derived.Test.YtgdijlmfpboecaaDoorKit
import Derived.RegionTactic
import Derived.Laws.BitsAllLaws
namespace Go.Proofs.YtgdijlmfpboecaaDoor.VPlain
end Go.Proofs.YtgdijlmfpboecaaDoor.VPlain
namespace Go.Proofs.YtgdijlmfpboecaaDoor
open Go.RowKit VPlain

theorem refZag_any (n : Nat) (h1 : n < 18446744073709551616) (w : World) :
    Calls Tryd.prog 25 #[.int .u64 n] w fun e w' => e = .returned (.int .i64 (zagI n)) ∧ w = w' := by
  obtain ⟨r, hr⟩ : ∃ r : Int, r = zagI n := ⟨_, rfl⟩
  rw [← hr]
  unfold zagI at hr
  by_cases hm : n % 2 = 0
  · rw [if_pos hm] at hr
    have a : ((n : Int) % 2 == 0) = true := by simp; omega
    go_enter Tryd.func25, Tryd.ntmps25
    go_wp2
    all_goals go_ret
    all_goals exact ⟨by go_num, rfl⟩
  · rw [if_neg hm] at hr
    have a : ((n : Int) % 2 == 0) = false := by simp; omega
    go_enter Tryd.func25, Tryd.ntmps25
    go_wp2
    all_goals go_ret
    all_goals exact ⟨by go_num, rfl⟩
theorem or_one (q : Nat) (h : q < 9223372036854775808) : bits .or .u64 ((q : Int) * 2) 1 = 2 * (q : Int) + 1 := by
  have h1 := u64_or_nat (q * 2) 1 (by omega) (by decide)
  have h2 := nat_join 1 (q * 2) 1 (by omega) (by decide)
  rw [h2] at h1
  rw [show ((q : Int) * 2) = ((q * 2 : Nat) : Int) from by omega, show (1 : Int) = ((1 : Nat) : Int) from rfl, h1]
  omega
theorem and_one (n : Nat) (h : n < 18446744073709551616) : bits .and .u64 (n : Int) 1 = ((n % 2 : Nat) : Int) := by
  have h1 := u64_and_nat n 1 h (by decide)
  rw [Nat.and_one_is_mod] at h1
  exact h1
theorem zig_any (m : Int) (h0 : -9223372036854775808 ≤ m) (h1 : m ≤ 9223372036854775807) (w : World) :
    Calls Tryd.prog 32 #[.int .i64 m] w fun e w' => e = .returned (.int .u64 (zigI m : Nat)) ∧ w = w' := by
  obtain ⟨r, hr⟩ : ∃ r : Int, r = (zigI m : Nat) := ⟨_, rfl⟩
  rw [← hr]
  unfold zigI at hr
  by_cases hm : 0 ≤ m
  · rw [if_pos hm] at hr
    go_enter Tryd.func32, Tryd.ntmps32
    go_wp2
    all_goals go_ret
    all_goals exact ⟨by go_num, rfl⟩
  · rw [if_neg hm] at hr
    have hor : bits .or .u64 (-(m + 1) * 2) 1 = r := by
      obtain ⟨q, hq⟩ : ∃ q : Nat, -(m + 1) = (q : Int) := ⟨(-(m + 1)).toNat, by omega⟩
      rw [hq, or_one q (by omega)]
      omega
    have HR := Lib.hid hr
    clear hr
    go_enter Tryd.func32, Tryd.ntmps32
    go_wp2
    all_goals go_ret
    all_goals exact ⟨by first | rfl | (rw [hor]) | (rw [← hor]), rfl⟩
theorem zag_any (n : Nat) (h1 : n < 18446744073709551616) (w : World) :
    Calls Tryd.prog 33 #[.int .u64 n] w fun e w' => e = .returned (.int .i64 (zagI n)) ∧ w = w' := by
  obtain ⟨r, hr⟩ : ∃ r : Int, r = zagI n := ⟨_, rfl⟩
  rw [← hr]
  unfold zagI at hr
  have hand := and_one n h1
  by_cases hm : n % 2 = 0
  · rw [if_pos hm] at hr
    rw [hm] at hand
    have a : (n : Int) % 2 = 0 := by omega
    have hand0 : bits .and .u64 (n : Int) 1 = 0 := hand
    clear hand
    go_enter Tryd.func33, Tryd.ntmps33
    go_wp2
    all_goals go_ret
    all_goals exact ⟨by go_num, rfl⟩
  · rw [if_neg hm] at hr
    rw [show n % 2 = 1 from by omega] at hand
    have a : (n : Int) % 2 = 1 := by omega
    have hand0 : bits .and .u64 (n : Int) 1 = 1 := hand
    clear hand
    go_enter Tryd.func33, Tryd.ntmps33
    go_wp2
    all_goals go_ret
    all_goals exact ⟨by go_num, rfl⟩
end Go.Proofs.YtgdijlmfpboecaaDoor
