/- Plain: a blank ahead of a line, or behind it. -/
import Derived.Test.YtjlojnmbjdkpiaaWalkC
namespace Go.Proofs.Ytjlojnmbjdkpiaa
open WPlain

def up (q : Nat × Nat) : Nat × Nat := (q.1 + 1, q.2 + 1)
theorem wsl_shift (r : List UInt8) : ∀ p (o : Option Nat), wsl (p + 1) (o.map (· + 1)) r = (wsl p o r).map up := by
  induction r with
  | nil => intro p o; cases o <;> simp [wsl, up]
  | cons x r ih =>
    intro p o
    cases o with
    | none =>
      by_cases g : gap x = true
      · have := ih (p + 1) none; simp [wsl, g] at this ⊢; exact this
      · have := ih (p + 1) (some p); simp [wsl, g] at this ⊢; exact this
    | some b =>
      by_cases g : gap x = true
      · have := ih (p + 1) none; simp [wsl, g, up] at this ⊢; exact this
      · have := ih (p + 1) (some b); simp [wsl, g] at this ⊢; exact this
theorem wsl_tab (r : List UInt8) : ∀ p (o : Option Nat), wsl p o (r ++ [9]) = wsl p o r := by
  have g9 : gap 9 = true := by decide
  induction r with
  | nil => intro p o; cases o <;> simp [wsl, g9]
  | cons x r ih =>
    intro p o
    cases o with
    | none =>
      by_cases g : gap x = true
      · simp [wsl, g, ih]
      · simp [wsl, g, ih]
    | some b =>
      by_cases g : gap x = true
      · simp [wsl, g, ih]
      · simp [wsl, g, ih]
theorem lineOf_blank (l : List UInt8) : lineOf (32 :: l) = 32 :: lineOf l := by simp [lineOf]
theorem words_blank (l : List UInt8) : words (lineOf (32 :: l)) = (words (lineOf l)).map up := by
  have g : gap 32 = true := by decide
  rw [lineOf_blank]
  unfold words
  have := wsl_shift (lineOf l) 0 none
  simp [wsl, g] at this ⊢
  exact this
theorem lineOf_tab (l : List UInt8) : lineOf (l ++ [9]) = lineOf l ∨ lineOf (l ++ [9]) = lineOf l ++ [9] := by
  induction l with
  | nil => right; simp [lineOf]
  | cons x l ih =>
    by_cases h : x = 35
    · left; simp [lineOf, h]
    · have e1 : lineOf (x :: l ++ [9]) = x :: lineOf (l ++ [9]) := by simp [lineOf, h]
      have e2 : lineOf (x :: l) = x :: lineOf l := by simp [lineOf, h]
      rw [e1, e2]
      rcases ih with ih | ih
      · left; rw [ih]
      · right; rw [ih]; simp
theorem words_tab (l : List UInt8) : words (lineOf (l ++ [9])) = words (lineOf l) := by
  rcases lineOf_tab l with h | h
  · rw [h]
  · rw [h]; exact wsl_tab _ 0 none
theorem strs_blank (l : List UInt8) : strsOf (lineOf (32 :: l)) (words (lineOf (32 :: l))) = strsOf (lineOf l) (words (lineOf l)) := by
  rw [words_blank, lineOf_blank]
  unfold strsOf
  rw [List.map_map]
  apply List.map_congr_left
  intro q _
  simp [Function.comp, cutAt, up]
theorem strs_tab (l : List UInt8) : strsOf (lineOf (l ++ [9])) (words (lineOf (l ++ [9]))) = strsOf (lineOf l) (words (lineOf l)) := by
  rw [words_tab]
  rcases lineOf_tab l with h | h
  · rw [h]
  · rw [h]
    unfold strsOf
    apply List.map_congr_left
    intro q hq
    have hin := wsl_in (lineOf l) 0 none (by simp) q hq
    have e : cutAt (lineOf l ++ [9]) q = cutAt (lineOf l) q := by
      unfold cutAt
      rw [List.drop_append, List.take_append]
      have : q.2 - q.1 - (List.drop q.1 (lineOf l)).length = 0 := by rw [List.length_drop]; omega
      rw [this]; simp
    rw [e]
theorem begs_blank (l : List UInt8) : begsOf (words (lineOf (32 :: l))) = (words (lineOf l)).map fun q => Value.int .i64 ((q.1 : Int) + 1) := by
  rw [words_blank]; unfold begsOf; rw [List.map_map]
  apply List.map_congr_left
  intro q _
  simp [up]
end Go.Proofs.Ytjlojnmbjdkpiaa
