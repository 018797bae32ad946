/- Plain numbers' texts: no program in sight. -/
import Derived.Below
import Derived.Lib.Strings
namespace Go.Proofs.YtnbecfgoambbpaaDoor.WPlain

def isDig (c : UInt8) : Bool := decide (48 ≤ (c.toNat : Int)) && decide ((c.toNat : Int) ≤ 57)
def digs (l : List UInt8) : Bool := l.all isDig && !l.isEmpty
def gstep (n : Int) (c : UInt8) : Int := if n ≤ 2147483648 then n * 10 + ((c.toNat : Int) - 48) else n
def gath (l : List UInt8) : Int := l.foldl gstep 0
def vstep (n : Int) (c : UInt8) : Int := n * 10 + ((c.toNat : Int) - 48)
def val (l : List UInt8) : Int := l.foldl vstep 0
def leadZ (l : List UInt8) (b : Bool) : Bool := (l.head? == some 48) && (b || decide (1 < l.length))
def inR (n : Int) : Bool := decide (-2147483648 ≤ n) && decide (n ≤ 2147483647)
def sgn (b : Bool) (n : Int) : Int := if b = true then -n else n
/-- the number that a text is, and the error -/
def intSpec (l : List UInt8) : Int × Int :=
  if digs (Lib.trimPrefix l [45]) = false then (0, 2)
  else if leadZ (Lib.trimPrefix l [45]) (Lib.hasPrefix l [45]) = true then (0, 2)
  else if inR (sgn (Lib.hasPrefix l [45]) (val (Lib.trimPrefix l [45]))) = true then (sgn (Lib.hasPrefix l [45]) (val (Lib.trimPrefix l [45])), 0) else (0, 3)

theorem isDig_lo {c : UInt8} (h : isDig c = true) : 48 ≤ (c.toNat : Int) ∧ (c.toNat : Int) ≤ 57 := by
  simpa [isDig] using h
theorem gath_snoc (l : List UInt8) (c : UInt8) : gath (l ++ [c]) = gstep (gath l) c := by simp [gath]
theorem val_snoc (l : List UInt8) (c : UInt8) : val (l ++ [c]) = vstep (val l) c := by simp [val]

/-- a rule of growing lists -/
theorem snoc_ind {P : List UInt8 → Prop} (h0 : P []) (h1 : ∀ l c, P l → P (l ++ [c])) (l : List UInt8) : P l := by
  have : ∀ n, ∀ l : List UInt8, l.length = n → P l := by
    intro n
    induction n with
    | zero => intro l hl; rw [List.length_eq_zero_iff.1 hl]; exact h0
    | succ n ih =>
      intro l hl
      have hne : l ≠ [] := by intro h; rw [h] at hl; simp at hl
      rw [← List.dropLast_concat_getLast hne]
      exact h1 _ _ (ih _ (by rw [List.length_dropLast]; omega))
  exact this _ l rfl

theorem gath_bd (l : List UInt8) : l.all isDig = true → 0 ≤ gath l ∧ gath l ≤ 21474836489 := by
  induction l using snoc_ind with
  | h0 => intro _; simp [gath]
  | h1 l c ih =>
    intro h
    rw [List.all_append] at h
    simp at h
    have h1 := ih (by simpa using h.1)
    have h2 := isDig_lo h.2
    rw [gath_snoc]
    unfold gstep
    split <;> omega
theorem gath_val (l : List UInt8) : l.all isDig = true → 0 ≤ val l ∧ ((gath l ≤ 2147483648 ∧ gath l = val l) ∨ (2147483648 < gath l ∧ 2147483648 < val l)) := by
  induction l using snoc_ind with
  | h0 => intro _; simp [gath, val]
  | h1 l c ih =>
    intro h
    rw [List.all_append] at h
    simp at h
    have h1 := ih (by simpa using h.1)
    have h2 := isDig_lo h.2
    rw [gath_snoc, val_snoc]
    unfold gstep vstep
    split <;> omega
theorem gath_inR (l : List UInt8) (b : Bool) (h : l.all isDig = true) : inR (sgn b (gath l)) = inR (sgn b (val l)) ∧ (inR (sgn b (val l)) = true → sgn b (gath l) = sgn b (val l)) := by
  have h1 := gath_val l h
  have h0 := gath_bd l h
  rcases h1 with ⟨hv, ⟨ha, hb⟩ | ⟨ha, hb⟩⟩
  · rw [hb]; exact ⟨rfl, fun _ => rfl⟩
  · have e1 : inR (sgn b (gath l)) = false := by cases b <;> simp [inR, sgn] <;> omega
    have e2 : inR (sgn b (val l)) = false := by cases b <;> simp [inR, sgn] <;> omega
    rw [e1, e2]; exact ⟨rfl, by intro h; simp at h⟩
theorem intSpec_e (l : List UInt8) : (intSpec l).2 = 0 ∨ (intSpec l).2 = 2 ∨ (intSpec l).2 = 3 := by
  unfold intSpec
  repeat' split
  all_goals simp
theorem intSpec_n (l : List UInt8) : -2147483648 ≤ (intSpec l).1 ∧ (intSpec l).1 ≤ 2147483647 := by
  unfold intSpec
  repeat' split
  all_goals first | (simp; done) | skip
  rename_i h
  simpa [inR] using h
end Go.Proofs.YtnbecfgoambbpaaDoor.WPlain
