/- The walk of the statement WordBack. -/
import Derived.Test.YtjlojnmbjdkpiaaDoorWalkK
import Derived.Test.YtjlojnmbjdkpiaaDoorWalkC
import Derived.Test.YtjlojnmbjdkpiaaDoorWalkH
import Derived.Test.YtjlojnmbjdkpiaaDoorLibA
import Derived.Test.YtjlojnmbjdkpiaaDoorPlainE
namespace Go.Proofs.YtjlojnmbjdkpiaaDoor
open Go.RowKit WPlain

/-- words rise, and none is empty -/
def rise : Nat → List (Nat × Nat) → Prop
  | _, [] => True
  | lo, q :: r => lo ≤ q.1 ∧ q.1 < q.2 ∧ rise (q.2 + 1) r

theorem rise_wsl (r : List UInt8) : ∀ p, rise p (wsl p none r) ∧ ∀ b, b < p → rise b (wsl p (some b) r) := by
  induction r with
  | nil => intro p; exact ⟨trivial, fun b hb => ⟨Nat.le_refl _, hb, trivial⟩⟩
  | cons x r ih =>
    intro p
    obtain ⟨i1, i2⟩ := ih (p + 1)
    by_cases g : gap x = true
    · refine ⟨?_, fun b hb => ?_⟩
      · simp only [wsl, g, if_true]
        exact rise_mono i1 (by omega)
      · simp only [wsl, g, if_true]
        exact ⟨Nat.le_refl _, hb, i1⟩
    · have g' : gap x = false := by simpa using g
      refine ⟨?_, fun b hb => ?_⟩
      · simp only [wsl, g', Bool.false_eq_true, if_false]
        exact i2 p (by omega)
      · simp only [wsl, g', Bool.false_eq_true, if_false]
        exact i2 b (by omega)
where
  rise_mono {lo lo' : Nat} {q : List (Nat × Nat)} (h : rise lo q) (hl : lo' ≤ lo) : rise lo' q := by
    cases q with
    | nil => trivial
    | cons a q => exact ⟨Nat.le_trans hl h.1, h.2⟩

theorem nogap_wsl (L : List UInt8) (r : List UInt8) : ∀ p (o : Option Nat), L.drop p = r → (∀ b, o = some b → ∀ j (h : j < L.length), b ≤ j → j < p → gap L[j] = false) →
    ∀ q ∈ wsl p o r, ∀ j (h : j < L.length), q.1 ≤ j → j < q.2 → gap L[j] = false := by
  induction r with
  | nil =>
    intro p o hd ho q hq
    cases o with
    | none => simp [wsl] at hq
    | some b => simp [wsl] at hq; subst hq; exact ho b rfl
  | cons x r ih =>
    intro p o hd ho q hq
    have hp : p < L.length := by
      rcases Nat.lt_or_ge p L.length with h | h
      · exact h
      · rw [List.drop_eq_nil_of_le h] at hd; cases hd
    have hc := drop_at L p hp
    rw [hd] at hc
    simp only [List.cons.injEq] at hc
    obtain ⟨hx, hr⟩ := hc
    by_cases g : gap x = true
    · cases o with
      | none =>
        simp only [wsl, g, if_true] at hq
        exact ih (p + 1) none hr.symm (by simp) q hq
      | some b =>
        simp only [wsl, g, if_true, List.mem_cons] at hq
        rcases hq with rfl | hq
        · exact ho b rfl
        · exact ih (p + 1) none hr.symm (by simp) q hq
    · have g' : gap x = false := by simpa using g
      cases o with
      | none =>
        simp only [wsl, g', Bool.false_eq_true, if_false] at hq
        refine ih (p + 1) (some p) hr.symm ?_ q hq
        intro b hb j hj h1 h2
        simp at hb; subst hb
        have : j = p := by omega
        subst this; rw [← hx]; exact g'
      | some b =>
        simp only [wsl, g', Bool.false_eq_true, if_false] at hq
        refine ih (p + 1) (some b) hr.symm ?_ q hq
        intro b' hb j hj h1 h2
        simp at hb; subst hb
        by_cases hjp : j = p
        · subst hjp; rw [← hx]; exact g'
        · exact ho b rfl j hj h1 (by omega)

/-- what a word is, byte by byte -/
theorem word_bytes (l : List UInt8) (q : Nat × Nat) (hq : q ∈ words (lineOf l)) :
    q.2 ≤ l.length ∧ (cutAt (lineOf l) q).length = q.2 - q.1 ∧ (∀ x ∈ cutAt (lineOf l) q, gap x = false ∧ ¬ x = 35) ∧ Lib.hasPrefix (l.drop q.1) (cutAt (lineOf l) q) = true := by
  have hin := wsl_in (lineOf l) 0 none (by simp) q hq
  have hle := lineOf_le l
  have hng := nogap_wsl (lineOf l) (lineOf l) 0 none rfl (by simp) q hq
  have hlen : (cutAt (lineOf l) q).length = q.2 - q.1 := by unfold cutAt; rw [List.length_take, List.length_drop]; omega
  refine ⟨by omega, hlen, ?_, ?_⟩
  · intro x hx
    obtain ⟨j, hj, rfl⟩ := List.mem_iff_getElem.1 hx
    rw [hlen] at hj
    have hj2 : q.1 + j < (lineOf l).length := by omega
    have e : (cutAt (lineOf l) q)[j] = (lineOf l)[q.1 + j] := by
      simp only [cutAt, List.getElem_take, List.getElem_drop]
    rw [e]
    obtain ⟨h', h1, h2⟩ := lineOf_get l (q.1 + j) hj2
    exact ⟨hng (q.1 + j) hj2 (by omega) (by omega), by rw [h1]; exact h2⟩
  · have e : cutAt (lineOf l) q = cutAt l q := cutAt_line l q.1 q.2 (by omega)
    rw [e]
    unfold Lib.hasPrefix cutAt
    rw [List.isPrefixOf_iff_prefix]
    exact List.take_prefix _ _
theorem rise_words (l : List UInt8) : rise 0 (words (lineOf l)) := (rise_wsl (lineOf l) 0).1
theorem rise_at : ∀ (q : List (Nat × Nat)) (lo k : Nat) (h : k < q.length), rise lo (q.drop k) → lo ≤ q[k].1 ∧ q[k].1 < q[k].2 ∧ rise (q[k].2 + 1) (q.drop (k + 1)) := by
  intro q lo k h hr
  rw [List.drop_eq_getElem_cons h] at hr
  exact hr

end Go.Proofs.YtjlojnmbjdkpiaaDoor
