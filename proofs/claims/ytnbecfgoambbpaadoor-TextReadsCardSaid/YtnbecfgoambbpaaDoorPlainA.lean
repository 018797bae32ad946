/- Plain words of a line: no program in sight. -/
import Derived.Below
namespace Go.Proofs.YtnbecfgoambbpaaDoor.WPlain

/-- the two bytes that part words -/
def gap (c : UInt8) : Bool := c == 9 || c == 32

/-- where the word that stands at i ends -/
def wend (l : List UInt8) (i : Nat) : Nat := i + ((l.drop i).takeWhile (fun c => !gap c)).length

/-- begins and ends of the words of r, which stands from p on; o: the begin of a word that is open -/
def wsl : Nat → Option Nat → List UInt8 → List (Nat × Nat)
  | _, none, [] => []
  | p, some b, [] => [(b, p)]
  | p, none, x :: r => if gap x = true then wsl (p + 1) none r else wsl (p + 1) (some p) r
  | p, some b, x :: r => if gap x = true then (b, p) :: wsl (p + 1) none r else wsl (p + 1) (some b) r

theorem wend_ge (l : List UInt8) (i : Nat) : i ≤ wend l i := Nat.le_add_right _ _
theorem wend_le (l : List UInt8) (i : Nat) (h : i ≤ l.length) : wend l i ≤ l.length := by
  unfold wend
  have h1 : ((l.drop i).takeWhile (fun c => !gap c)).length ≤ (l.drop i).length := (List.takeWhile_prefix _).length_le
  simp at h1; omega
theorem wend_end (l : List UInt8) (i : Nat) (h : l.length ≤ i) : wend l i = i := by
  unfold wend; rw [List.drop_eq_nil_of_le h]; simp
theorem drop_at (l : List UInt8) (i : Nat) (h : i < l.length) : l.drop i = l[i] :: l.drop (i + 1) := List.drop_eq_getElem_cons h
theorem wend_gap (l : List UInt8) (i : Nat) (h : i < l.length) (g : gap l[i] = true) : wend l i = i := by
  unfold wend; rw [drop_at l i h]; simp only [List.takeWhile_cons, g, Bool.not_true, Bool.false_eq_true, if_false, List.length_nil, Nat.add_zero]
theorem wend_step (l : List UInt8) (i : Nat) (h : i < l.length) (g : gap l[i] = false) : wend l (i + 1) = wend l i := by
  unfold wend; rw [drop_at l i h]; simp only [List.takeWhile_cons, g, Bool.not_false, if_true, List.length_cons]; omega
theorem wend_gt (l : List UInt8) (i : Nat) (h : i < l.length) (g : gap l[i] = false) : i < wend l i := by
  rw [← wend_step l i h g]; exact wend_ge l (i + 1)

theorem wsl_open (r : List UInt8) : ∀ p b, wsl p (some b) r = (b, p + (r.takeWhile (fun c => !gap c)).length) :: wsl (p + (r.takeWhile (fun c => !gap c)).length) none (r.drop (r.takeWhile (fun c => !gap c)).length) := by
  induction r with
  | nil => intro p b; simp [wsl]
  | cons x r ih =>
    intro p b
    by_cases g : gap x = true
    · simp [wsl, g]
    · have g' : gap x = false := by simpa using g
      simp only [wsl, g', if_false, Bool.false_eq_true, List.takeWhile_cons, Bool.not_false, if_true, List.length_cons, List.drop_succ_cons]
      rw [ih]
      rw [show p + 1 + (List.takeWhile (fun c => !gap c) r).length = p + ((List.takeWhile (fun c => !gap c) r).length + 1) from by omega]

theorem ws_end (l : List UInt8) (i : Nat) (h : l.length ≤ i) : wsl i none (l.drop i) = [] := by
  rw [List.drop_eq_nil_of_le h]; rfl
theorem ws_gap (l : List UInt8) (i : Nat) (h : i < l.length) (g : gap l[i] = true) : wsl i none (l.drop i) = wsl (i + 1) none (l.drop (i + 1)) := by
  rw [drop_at l i h]; simp [wsl, g]
theorem ws_word (l : List UInt8) (i : Nat) (h : i < l.length) (g : gap l[i] = false) :
    wsl i none (l.drop i) = (i, wend l i) :: wsl (wend l i) none (l.drop (wend l i)) := by
  rw [drop_at l i h]
  simp only [wsl, g, if_false, Bool.false_eq_true]
  rw [wsl_open]
  have e : i + 1 + ((l.drop (i + 1)).takeWhile (fun c => !gap c)).length = wend l i := by rw [← wend_step l i h g]; rfl
  rw [e]
  have e2 : ((l.drop (i + 1)).drop ((l.drop (i + 1)).takeWhile (fun c => !gap c)).length) = l.drop (wend l i) := by rw [List.drop_drop, e]
  rw [e2]

/-- the words' bytes -/
def cutAt (l : List UInt8) (q : Nat × Nat) : List UInt8 := (l.drop q.1).take (q.2 - q.1)

/-- a line's words -/
def words (l : List UInt8) : List (Nat × Nat) := wsl 0 none l

theorem words_0 (l : List UInt8) : words l = wsl 0 none (l.drop 0) := rfl
/-- each word lies in the line -/
theorem wsl_in (r : List UInt8) : ∀ p o, (∀ b, o = some b → b ≤ p) → ∀ q ∈ wsl p o r, q.1 ≤ q.2 ∧ q.2 ≤ p + r.length := by
  induction r with
  | nil => intro p o ho q hq; cases o with
    | none => simp [wsl] at hq
    | some b => simp [wsl] at hq; subst hq; exact ⟨ho b rfl, by simp⟩
  | cons x r ih =>
    intro p o ho q hq
    cases o with
    | none =>
      by_cases g : gap x = true
      · simp [wsl, g] at hq; have := ih (p+1) none (by simp) q hq; simp at this ⊢; omega
      · simp [wsl, g] at hq; have := ih (p+1) (some p) (by intro b hb; injection hb; omega) q hq; simp at this ⊢; omega
    | some b =>
      have hb := ho b rfl
      by_cases g : gap x = true
      · simp [wsl, g] at hq
        rcases hq with rfl | hq
        · simp; omega
        · have := ih (p+1) none (by simp) q hq; simp at this ⊢; omega
      · simp [wsl, g] at hq; have := ih (p+1) (some b) (by intro b' hb'; injection hb'; omega) q hq; simp at this ⊢; omega
theorem wsl_len (r : List UInt8) : ∀ p o, (wsl p o r).length ≤ r.length + (if o = none then 0 else 1) := by
  induction r with
  | nil => intro p o; cases o <;> simp [wsl]
  | cons x r ih =>
    intro p o
    cases o with
    | none =>
      by_cases g : gap x = true
      · have := ih (p+1) none; simp [wsl, g] at this ⊢; omega
      · have := ih (p+1) (some p); simp [wsl, g] at this ⊢; omega
    | some b =>
      by_cases g : gap x = true
      · have := ih (p+1) none; simp [wsl, g] at this ⊢; omega
      · have := ih (p+1) (some b); simp [wsl, g] at this ⊢; omega
theorem words_len (l : List UInt8) : (words l).length ≤ l.length := by have := wsl_len l 0 none; simpa [words] using this
end Go.Proofs.YtnbecfgoambbpaaDoor.WPlain
