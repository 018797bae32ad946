/- Plain words: rows of events that are in order block by block. -/
import Derived.Test.YtnggadcoepieaaaDoorMg12
namespace Go.Proofs.YtnggadcoepieaaaDoor.WPlain
end Go.Proofs.YtnggadcoepieaaaDoor.WPlain
namespace Go.Proofs.YtnggadcoepieaaaDoor.QPlain
end Go.Proofs.YtnggadcoepieaaaDoor.QPlain
namespace Go.Proofs.YtnggadcoepieaaaDoor.RPlain
open WPlain QPlain

theorem srt_iff {l : List Ev} : Srt l ↔ ∀ i j, i ≤ j → j < l.length → (l[i]!).t ≤ (l[j]!).t := by
  constructor
  · intro h i j hij hj
    rcases Nat.lt_or_ge i j with hlt | hge
    · rw [getElem!_pos l i (by omega), getElem!_pos l j hj]
      exact List.pairwise_iff_getElem.1 h i j (by omega) hj hlt
    · obtain rfl : i = j := by omega
      exact Int.le_refl _
  · intro h
    refine List.pairwise_iff_getElem.2 fun i j hi hj hij => ?_
    have := h i j (by omega) hj
    rwa [getElem!_pos l i hi, getElem!_pos l j hj] at this
/-- in order within each block of so many -/
def Blk (s : Nat) (l : List Ev) : Prop := ∀ i j, i ≤ j → j < l.length → i / s = j / s → (l[i]!).t ≤ (l[j]!).t
theorem blk_nil (s : Nat) : Blk s [] := by intro i j _ h; simp at h
theorem get_left {a b : List Ev} {i : Nat} (h : i < a.length) : (a ++ b)[i]! = a[i]! := by rw [getElem!_pos (a ++ b) i (by simp; omega), getElem!_pos a i h, List.getElem_append_left h]
theorem get_right {a b : List Ev} {i : Nat} (h : a.length ≤ i) (hb : i < a.length + b.length) : (a ++ b)[i]! = b[i - a.length]! := by rw [getElem!_pos (a ++ b) i (by simp; omega), getElem!_pos b (i - a.length) (by omega), List.getElem_append_right h]
theorem blk_app {s q : Nat} {a y : List Ev} (hs : 0 < s) (hq : a.length = q * s) (ha : Blk s a) (hy : Srt y) : Blk s (a ++ y) := by
  intro i j hij hj he
  rw [List.length_append] at hj
  rcases Nat.lt_or_ge j a.length with h1 | h1
  · rw [get_left h1, get_left (by omega)]
    exact ha i j hij h1 he
  · rcases Nat.lt_or_ge i a.length with h2 | h2
    · exfalso
      have h3 : i / s < q := (Nat.div_lt_iff_lt_mul hs).2 (by omega)
      have h4 : q ≤ j / s := (Nat.le_div_iff_mul_le hs).2 (by omega)
      omega
    · rw [get_right h1 hj, get_right h2 (by omega)]
      exact srt_iff.1 hy _ _ (by omega) (by omega)
theorem blk_one {s : Nat} {l : List Ev} (h : Blk s l) (hl : l.length ≤ s) : Srt l := by
  rw [srt_iff]
  intro i j hij hj
  refine h i j hij hj ?_
  rw [Nat.div_eq_of_lt (by omega), Nat.div_eq_of_lt (by omega)]
theorem blk_take {s : Nat} {l : List Ev} (h : Blk s l) (k : Nat) : Blk s (l.take k) := by
  intro i j hij hj he
  rw [List.length_take] at hj
  have := h i j hij (by omega) he
  rw [getElem!_pos l i (by omega), getElem!_pos l j (by omega)] at this
  rw [getElem!_pos (l.take k) i (by rw [List.length_take]; omega), getElem!_pos (l.take k) j (by rw [List.length_take]; omega), List.getElem_take, List.getElem_take]
  exact this
theorem blk_drop {s : Nat} {l : List Ev} (hs : 0 < s) (h : Blk s l) : Blk s (l.drop s) := by
  intro i j hij hj he
  rw [List.length_drop] at hj
  have h1 : (s + i) / s = (s + j) / s := by rw [Nat.add_div_left _ hs, Nat.add_div_left _ hs, he]
  have := h (s + i) (s + j) (by omega) (by omega) h1
  rw [getElem!_pos l (s + i) (by omega), getElem!_pos l (s + j) (by omega)] at this
  rw [getElem!_pos (l.drop s) i (by rw [List.length_drop]; omega), getElem!_pos (l.drop s) j (by rw [List.length_drop]; omega), List.getElem_drop, List.getElem_drop]
  exact this
/-- a row with its first two blocks told apart -/
theorem blk_two {s : Nat} {l : List Ev} (hs : 0 < s) (h : Blk s l) (hl : s < l.length) :
    ∃ u v z, l = u ++ (v ++ z) ∧ u.length = s ∧ v.length = min s (l.length - s) ∧ Srt u ∧ Srt v ∧ Blk s z := by
  have hd := blk_drop hs h
  refine ⟨l.take s, (l.drop s).take s, (l.drop s).drop s, by rw [List.take_append_drop, List.take_append_drop], by rw [List.length_take]; omega, by rw [List.length_take, List.length_drop], ?_, ?_, blk_drop hs hd⟩
  · exact blk_one (blk_take h s) (by rw [List.length_take]; omega)
  · exact blk_one (blk_take hd s) (by rw [List.length_take]; omega)
end Go.Proofs.YtnggadcoepieaaaDoor.RPlain
