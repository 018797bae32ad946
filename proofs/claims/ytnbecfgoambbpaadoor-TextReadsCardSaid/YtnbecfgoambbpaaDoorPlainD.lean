/- Plain: the reference's way to a number. -/
import Derived.Test.YtnbecfgoambbpaaDoorPlainB
import GoSem.Op.String
namespace Go.Proofs.YtnbecfgoambbpaaDoor.WPlain

def refDigs (l : List UInt8) : Bool := l.all isDig && (decide (l.length = 1) || (decide (1 < l.length) && !(l.head? == some 48)))

theorem refDigs_eq (d : List UInt8) (b : Bool) : (digs d = true ∧ leadZ d b = false) ↔ (refDigs d = true ∧ ¬ (b = true ∧ d = [48])) := by
  unfold digs refDigs leadZ
  cases ha : d.all isDig with
  | false => simp
  | true =>
    match d with
    | [] => simp
    | [x] =>
      cases b <;> simp
    | x :: y :: r =>
      cases b <;> simp

theorem val_cons_aux (l : List UInt8) : ∀ n : Int, l.foldl vstep n = n * 10 ^ l.length + val l := by
  induction l with
  | nil => intro n; simp [val]
  | cons x l ih =>
    intro n
    have h1 : (x :: l).foldl vstep n = l.foldl vstep (vstep n x) := rfl
    have h2 : val (x :: l) = l.foldl vstep (vstep 0 x) := rfl
    rw [h1, h2, ih, ih (vstep 0 x)]
    unfold vstep
    rw [List.length_cons, Int.pow_succ]
    have e : (0 : Int) * 10 + ((x.toNat : Int) - 48) = (x.toNat : Int) - 48 := by omega
    rw [e, Int.add_mul, Int.add_assoc, Int.mul_assoc, Int.mul_comm 10 (10 ^ l.length)]
theorem val_cons (x : UInt8) (l : List UInt8) : val (x :: l) = ((x.toNat : Int) - 48) * 10 ^ l.length + val l := by
  have h2 : val (x :: l) = l.foldl vstep (vstep 0 x) := rfl
  rw [h2, val_cons_aux]
  unfold vstep
  have e : (0 : Int) * 10 + ((x.toNat : Int) - 48) = (x.toNat : Int) - 48 := by omega
  rw [e]
theorem val_lt (l : List UInt8) : l.all isDig = true → 0 ≤ val l ∧ val l < 10 ^ l.length := by
  induction l with
  | nil => intro _; simp [val]
  | cons x l ih =>
    intro h
    simp only [List.all_cons, Bool.and_eq_true] at h
    have h1 := ih h.2
    have h2 := isDig_lo h.1
    rw [val_cons, List.length_cons, Int.pow_succ]
    generalize (10 : Int) ^ l.length = P at *
    have h3 : ((x.toNat : Int) - 48) * P ≤ 9 * P := Int.mul_le_mul_of_nonneg_right (by omega) (by omega)
    have h4 : 0 ≤ ((x.toNat : Int) - 48) * P := Int.mul_nonneg (by omega) (by omega)
    omega
theorem val_ge (x : UInt8) (l : List UInt8) (h : (x :: l).all isDig = true) (hx : ¬ x = 48) : 10 ^ l.length ≤ val (x :: l) := by
  simp only [List.all_cons, Bool.and_eq_true] at h
  have h1 := val_lt l h.2
  have h2 := isDig_lo h.1
  have h3 : ¬ (x.toNat : Int) = 48 := by
    intro hc; exact hx (UInt8.toNat_inj.1 (by show x.toNat = 48; omega))
  rw [val_cons]
  generalize (10 : Int) ^ l.length = P at *
  have h4 : 1 * P ≤ ((x.toNat : Int) - 48) * P := Int.mul_le_mul_of_nonneg_right (by omega) (by omega)
  omega
theorem less_val : ∀ a b : List UInt8, a.length = b.length → a.all isDig = true → b.all isDig = true → (Op.bytesLess a b = true ↔ val a < val b)
  | [], [], _, _, _ => by simp [Op.bytesLess, val]
  | x :: a, y :: b, hl, ha, hb => by
    simp only [List.all_cons, Bool.and_eq_true] at ha hb
    have ih := less_val a b (by simpa using hl) ha.2 hb.2
    have h1 := val_lt a ha.2
    have h2 := val_lt b hb.2
    have h3 := isDig_lo ha.1
    have h4 := isDig_lo hb.1
    have hle : a.length = b.length := by simpa using hl
    rw [val_cons, val_cons, ← hle]
    rw [← hle] at h2
    simp only [Op.bytesLess]
    generalize (10 : Int) ^ a.length = P at *
    by_cases hxy : x = y
    · subst hxy
      simp [ih]
    · have hne : ¬ (x.toNat : Int) = (y.toNat : Int) := by intro hc; exact hxy (UInt8.toNat_inj.1 (by omega))
      by_cases hlt : (x.toNat : Int) < (y.toNat : Int)
      · have h5 : ((x.toNat : Int) - 48 + 1) * P ≤ ((y.toNat : Int) - 48) * P := Int.mul_le_mul_of_nonneg_right (by omega) (by omega)
        have h6 : x < y := by rw [UInt8.lt_iff_toNat_lt]; omega
        rw [Int.add_mul] at h5
        simp [h6]
        omega
      · have h5 : ((y.toNat : Int) - 48 + 1) * P ≤ ((x.toNat : Int) - 48) * P := Int.mul_le_mul_of_nonneg_right (by omega) (by omega)
        have h6 : ¬ x < y := by rw [UInt8.lt_iff_toNat_lt]; omega
        rw [Int.add_mul] at h5
        simp [h6, hxy]
        omega

theorem bytes_eq : ∀ a b : List UInt8, a.length = b.length → Op.bytesLess a b = false → Op.bytesLess b a = false → a = b
  | [], [], _, _, _ => rfl
  | x :: a, y :: b, hl, h1, h2 => by
    simp only [Op.bytesLess, Bool.or_eq_false_iff, decide_eq_false_iff_not, Bool.and_eq_false_iff] at h1 h2
    have hxy : x = y := by
      apply UInt8.toNat_inj.1
      have e1 := h1.1
      have e2 := h2.1
      rw [UInt8.lt_iff_toNat_lt] at e1 e2
      omega
    subst hxy
    have e1 : Op.bytesLess a b = false := by rcases h1.2 with h | h; · simp at h
                                             · exact h
    have e2 : Op.bytesLess b a = false := by rcases h2.2 with h | h; · simp at h
                                             · exact h
    rw [bytes_eq a b (by simpa using hl) e1 e2]

def most (b : Bool) : List UInt8 := if b = true then [50, 49, 52, 55, 52, 56, 51, 54, 52, 56] else [50, 49, 52, 55, 52, 56, 51, 54, 52, 55]
def aboveB (a b : List UInt8) : Bool := if a.length = b.length then (!Op.bytesLess a b && !(a == b)) else decide (b.length < a.length)

theorem above_inR (d : List UInt8) (b : Bool) (h : refDigs d = true) : aboveB d (most b) = !inR (sgn b (val d)) := by
  unfold refDigs at h
  simp only [Bool.and_eq_true, Bool.or_eq_true, decide_eq_true_eq] at h
  obtain ⟨ha, hd⟩ := h
  have hv := val_lt d ha
  have hml : (most b).length = 10 := by cases b <;> rfl
  have hmv : val (most b) = if b = true then 2147483648 else 2147483647 := by cases b <;> decide
  have hmd : (most b).all isDig = true := by cases b <;> decide
  have hin : inR (sgn b (val d)) = decide (val d ≤ val (most b)) := by
    rw [hmv]
    unfold inR sgn
    cases b
    · simp; omega
    · simp; omega
  rw [hin]
  unfold aboveB
  rw [hml]
  by_cases h10 : d.length = 10
  · rw [if_pos h10]
    have hl := less_val d (most b) (by rw [hml]; exact h10) ha hmd
    by_cases hlt : Op.bytesLess d (most b) = true
    · have := hl.1 hlt
      rw [hlt]; simp; omega
    · have hlf : Op.bytesLess d (most b) = false := by simpa using hlt
      have hnl : ¬ val d < val (most b) := fun hc => hlt (hl.2 hc)
      rw [hlf]
      have heq : d = most b ↔ val d = val (most b) := by
        constructor
        · intro h; rw [h]
        · intro hveq
          have hl2 := less_val (most b) d (by rw [hml]; exact h10.symm) hmd ha
          have hn2 : Op.bytesLess (most b) d = false := by
            cases hc : Op.bytesLess (most b) d with
            | false => rfl
            | true => have := hl2.1 hc; omega
          exact bytes_eq d (most b) (by rw [hml]; exact h10) hlf hn2
      by_cases he : d = most b
      · rw [he]; simp
      · have : ¬ val d = val (most b) := fun hc => he (heq.2 hc)
        have hgt : ¬ val d ≤ val (most b) := by omega
        rw [show (d == most b) = false from beq_eq_false_iff_ne.2 he, decide_eq_false hgt]
        rfl
  · rw [if_neg h10]
    by_cases hlt : d.length < 10
    · have h9 : (10 : Int) ^ d.length ≤ 10 ^ 9 := by
        have : d.length ≤ 9 := by omega
        exact_mod_cast Nat.pow_le_pow_right (by decide) this
      have : val d < 1000000000 := by omega
      have hm : 2147483647 ≤ val (most b) := by rw [hmv]; cases b <;> simp
      have : ¬ 10 < d.length := by omega
      simp [this]; omega
    · have hgt : 10 < d.length := by omega
      match d, hd, ha, hv, hgt with
      | x :: r, hd, ha, hv, hgt =>
        have hx : ¬ x = 48 := by
          rcases hd with hd | hd
          · have := List.length_cons (a := x) (as := r); omega
          · intro hc; simp [hc] at hd
        have h1 := val_ge x r ha hx
        have h9 : (10 : Int) ^ 10 ≤ 10 ^ r.length := by
          have : 10 ≤ r.length := by simp at hgt; omega
          exact_mod_cast Nat.pow_le_pow_right (by decide) this
        have hm : val (most b) ≤ 2147483648 := by rw [hmv]; cases b <;> simp
        have e10 : (10 : Int) ^ 10 = 10000000000 := by decide
        have hgt2 : ¬ val (x :: r) ≤ val (most b) := by
          rw [e10] at h9
          generalize (10 : Int) ^ r.length = P at *
          omega
        rw [decide_eq_true hgt, decide_eq_false hgt2]
        rfl
end Go.Proofs.YtnbecfgoambbpaaDoor.WPlain
