/- Plain texts of events: how long they are, what they are joined of. -/
import Derived.Test.YtgebmjbfeakpgaaDoorTxtN
import Derived.Lib.Join
namespace Go.Proofs.YtgebmjbfeakpgaaDoor.WPlain

theorem dec_len (k : Nat) : ∀ u : Nat, u < 10 ^ (k + 1) → (Lib.decDigits u).length ≤ k + 1 := by
  induction k with
  | zero => intro u hu; rw [Lib.decDigits_one (by simpa using hu)]; simp
  | succ k ih =>
    intro u hu
    by_cases h10 : u < 10
    · rw [Lib.decDigits_one h10]; simp
    · rw [Lib.decDigits, dif_neg h10]
      have := ih (u / 10) (by rw [Nat.pow_succ] at hu; omega)
      simp
      omega
theorem itoa_len_nat (k : Nat) (n : Int) (h0 : 0 ≤ n) (h : n < 10 ^ (k + 1)) : (Lib.itoa n).length ≤ k + 1 := by
  obtain ⟨u, rfl⟩ : ∃ u : Nat, n = (u : Int) := ⟨n.toNat, by omega⟩
  rw [Lib.itoa_nonneg]
  exact dec_len k u (by exact_mod_cast h)
theorem itoa_len (n : Int) (h1 : -2147483648 ≤ n) (h2 : n ≤ 2147483647) : (Lib.itoa n).length ≤ 11 := by
  by_cases h0 : 0 ≤ n
  · have := itoa_len_nat 9 n h0 (by have e : (10 : Int) ^ (9 + 1) = 10000000000 := by decide
                                    omega)
    omega
  · obtain ⟨u, rfl⟩ : ∃ u : Nat, n = -(u : Int) := ⟨n.natAbs, by omega⟩
    have hd := dec_len 9 u (by have e : (10 : Nat) ^ (9 + 1) = 10000000000 := by decide
                               omega)
    rw [Lib.itoa_neg _ (by omega), List.length_cons]
    omega
theorem kword_len (k : Nat) : (kwords.getD k []).length ≤ 9 := by
  by_cases h : k < 10
  · have hc : k = 0 ∨ k = 1 ∨ k = 2 ∨ k = 3 ∨ k = 4 ∨ k = 5 ∨ k = 6 ∨ k = 7 ∨ k = 8 ∨ k = 9 := by omega
    rcases hc with rfl | rfl | rfl | rfl | rfl | rfl | rfl | rfl | rfl | rfl <;> decide
  · have hn : kwords[k]? = none := List.getElem?_eq_none (by show 10 ≤ k; omega)
    rw [List.getD_eq_getElem?_getD, hn]; simp
theorem evTxt_len (e : Ev) (he : evOk e = true) : (evTxt e).length ≤ 50 := by
  obtain ⟨k, t, v, x⟩ := e
  simp only [evOk, inB, Bool.and_eq_true, decide_eq_true_eq] at he
  have h1 := kword_len k.toNat
  have h2 := itoa_len_nat 3 t (by omega) (by have e : (10 : Int) ^ (3 + 1) = 10000 := by decide
                                             omega)
  have h3 := itoa_len_nat 0 v (by omega) (by have e : (10 : Int) ^ (0 + 1) = 10 := by decide
                                             omega)
  have h4 := itoa_len x (by omega) (by omega)
  unfold evTxt numTxt
  cases hasV k.toNat <;> cases hasX k.toNat <;> simp only [if_true, if_false, Bool.false_eq_true, List.length_append, List.length_cons, List.length_nil] <;> omega
theorem printTxt_snoc (h : List Ev) (e : Ev) : printTxt (h ++ [e]) = printTxt h ++ evTxt e := by simp [printTxt]
theorem printTxt_len (h : List Ev) (hh : h.all evOk = true) : (printTxt h).length ≤ h.length * 50 := by
  induction h with
  | nil => simp [printTxt]
  | cons e r ih =>
    simp only [List.all_cons, Bool.and_eq_true] at hh
    have h1 := evTxt_len e hh.1
    have h2 := ih hh.2
    have e1 : printTxt (e :: r) = evTxt e ++ printTxt r := by simp [printTxt]
    rw [e1, List.length_append, List.length_cons]
    omega
theorem evTxt_join (e : Ev) : Lib.join (evWords e) [32] ++ [10] = evTxt e := by
  unfold evWords evTxt numTxt
  rw [Lib.join_cons]
  cases hasV e.k.toNat <;> cases hasX e.k.toNat <;> simp [Lib.joinTail]
end Go.Proofs.YtgebmjbfeakpgaaDoor.WPlain
