/- The walk of VarintLength. -/
import Derived.Test.YtkclbgpkmkdhjaaVarP
import Derived.Test.YtkclbgpkmkdhjaaVarL
import Derived.Test.YtkclbgpkmkdhjaaShelf
import Derived.Lib.BitFns
namespace Go.Proofs.Ytkclbgpkmkdhjaa
open Go.RowKit VPlain

theorem bl_aux : ∀ (f x : Nat), x < 2 ^ f → Lib.bitLenAux f x = if x = 0 then 0 else x.log2 + 1
  | 0, x, h => by
    have : x = 0 := by simpa using h
    subst this; rfl
  | f + 1, x, h => by
    unfold Lib.bitLenAux
    by_cases h0 : x = 0
    · simp [h0]
    · rw [if_neg h0, if_neg h0, bl_aux f (x / 2) (by rw [Nat.pow_succ] at h; omega)]
      rw [Nat.log2_def x]
      by_cases h2 : 2 ≤ x
      · rw [if_pos h2, if_neg (by omega)]; omega
      · have : x = 1 := by omega
        subst this; rfl
theorem len64_any (x : Nat) (hx : x < 18446744073709551616) (w : World) :
    Calls Try.prog 18 #[.int .u64 (x : Int)] w fun e w' => e = .returned (.int .i64 (Lib.bitLen x : Nat)) ∧ w = w' := by
  have h := Try.bits_Len64 (x : Int) w (by omega) (by omega)
  exact h.mono fun e w' ⟨he, hw⟩ => ⟨by rw [he, Int.toNat_natCast], hw.symm⟩
theorem bl_log (x : Nat) (hx : x < 18446744073709551616) : Lib.bitLen x = if x = 0 then 0 else x.log2 + 1 := bl_aux 64 x hx
/-- as many bytes as the law asks -/
theorem nb_quo (x : Nat) (hx : x < 18446744073709551616) : max (((Lib.bitLen x : Nat) : Int) + 6) 7 / 7 = ((nb x).length : Int) := by
  rw [bl_log x hx, nb_log]
  split
  · subst_vars; rw [show Nat.log2 0 = 0 from by decide]; rfl
  · omega
theorem nb_max (x : Nat) (hx : x < 18446744073709551616) : max ((((Lib.bitLen x : Nat) : Int) + 6) / 7) 1 = ((nb x).length : Int) := by
  rw [bl_log x hx, nb_log]
  split
  · subst_vars; rw [show Nat.log2 0 = 0 from by decide]; rfl
  · omega
theorem nb_tmax (x : Nat) (hx : x < 18446744073709551616) : max ((((Lib.bitLen x : Nat) : Int) + 6).tdiv 7) 1 = ((nb x).length : Int) := by
  rw [bl_log x hx, nb_log, Int.tdiv_eq_ediv_of_nonneg (by omega)]
  split
  · subst_vars; rw [show Nat.log2 0 = 0 from by decide]; rfl
  · omega
set_option maxHeartbeats 1000000 in
theorem length_core (x m lx lm bl : Nat) (_ : bl ≤ 64) (HMX : Hid (max (((bl : Int) + 6) / 7) 1 = (lx : Int)))
    (HX : Hid (∀ w, Calls Try.prog 9 #[.int .u64 (x : Int)] w fun e w' => ∃ a c, e = .returned (.slice a lx c) ∧ Below w.heap.size w w'))
    (HM : Hid (∀ w, Calls Try.prog 9 #[.int .u64 (m : Int)] w fun e w' => ∃ a c, e = .returned (.slice a lm c) ∧ Below w.heap.size w w'))
    (HL : Hid (∀ w, Calls Try.prog 18 #[.int .u64 (x : Int)] w fun e w' => e = .returned (.int .i64 (bl : Nat)) ∧ w = w'))
    (g1 g2 : Bool) (hg1 : decide (m < x) = g1) (hg2 : decide (x < m) = g2) (h1 : g1 = false → decide (lx ≤ lm) = true) (h2 : g2 = false → decide (lm ≤ lx) = true) (w : World) :
    Calls Try.prog 6 #[.int .u64 (x : Int), .int .u64 (m : Int)] w fun e w' => e = .returned (.bool true) ∧ Below w.heap.size w w' := by
  have ht : ((lx : Int) == max (((bl : Int) + 6) / 7) 1) = true := by rw [HMX.out]; simp
  clear HMX
  cases g1
  all_goals cases g2
  all_goals first | replace h1 := h1 rfl | clear h1
  all_goals first | replace h2 := h2 rfl | clear h2
  all_goals
    go_enter Try.func6, Try.ntmps6
    go_wp2_with fail
    refine (HX.out _).mono ?_
    rintro e w1 ⟨a1, c1, rfl, hb1⟩
    go_wp2_with fail
    refine (HM.out _).mono ?_
    rintro e w2 ⟨a2, c2, rfl, hb2⟩
    have hb3 := hb1.trans (hb2.mono hb1.size)
    clear hb1 hb2
    go_wp2_with fail
    refine (alive_any _).mono ?_
    rintro e w3 ⟨rfl, hb4⟩
    have hb5 := hb3.trans (hb4.mono hb3.size)
    clear hb3 hb4
    go_wp2_with fail
    refine (HL.out _).mono ?_
    rintro e w4 ⟨rfl, rfl⟩
    go_wp2
    go_ret
    exact ⟨by first | rfl | (simp; done) | (simp; omega), hb5⟩
theorem length_any (x m : Nat) (hx : x < 18446744073709551616) (hm : m < 18446744073709551616) (w : World) :
    Calls Try.prog 6 #[.int .u64 (x : Int), .int .u64 (m : Int)] w fun e w' => e = .returned (.bool true) ∧ Below w.heap.size w w' := by
  have hbl : Lib.bitLen x ≤ 64 := by
    rw [bl_log x hx]
    split
    · omega
    · rename_i h
      have := (Nat.log2_lt h).2 (show x < 2 ^ 64 from hx)
      omega
  have hput : ∀ y : Nat, y < 18446744073709551616 → ∀ w, Calls Try.prog 9 #[.int .u64 (y : Int)] w fun e w' => ∃ a c, e = .returned (.slice a (nb y).length c) ∧ Below w.heap.size w w' := by
    intro y hy w
    refine (put_any y hy w).mono ?_
    rintro e w1 ⟨v1, rfl, ho1, hb1⟩
    obtain ⟨a1, c1, rfl⟩ := row_slice ho1
    exact ⟨a1, c1, rfl, hb1⟩
  refine length_core x m (nb x).length (nb m).length (Lib.bitLen x) hbl (nb_max x hx) (hput x hx) (hput m hm) (len64_any x hx) _ _ rfl rfl ?_ ?_ w
  · intro h
    have h' := of_decide_eq_false h
    have := nb_mono (show x ≤ m by omega)
    exact decide_eq_true (by omega)
  · intro h
    have h' := of_decide_eq_false h
    have := nb_mono (show m ≤ x by omega)
    exact decide_eq_true (by omega)
end Go.Proofs.Ytkclbgpkmkdhjaa
