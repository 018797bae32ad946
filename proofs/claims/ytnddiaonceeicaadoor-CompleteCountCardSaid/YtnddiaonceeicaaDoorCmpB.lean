/- Plain words: how many choices there are, the first and the last. -/
import Derived.Test.YtnddiaonceeicaaDoorCmpA
import Derived.Test.YtnddiaonceeicaaDoorOrdD
namespace Go.Proofs.YtnddiaonceeicaaDoor.WPlain
end Go.Proofs.YtnddiaonceeicaaDoor.WPlain
namespace Go.Proofs.YtnddiaonceeicaaDoor.QPlain
end Go.Proofs.YtnddiaonceeicaaDoor.QPlain
namespace Go.Proofs.YtnddiaonceeicaaDoor.RPlain
open WPlain QPlain

def isOpen (X : Tx) : Bool := decide (X.s = 1)
def openN (l : List Tx) : Nat := (l.filter isOpen).length
theorem choiceG_snoc (m : Nat) : ∀ (l : List Tx) (i : Nat) (X : Tx), choiceG m i (l ++ [X]) = (choiceG m i l && okBit X.s (m.testBit (i + l.length))) := by
  intro l
  induction l with
  | nil => intro i X; simp [choiceG]
  | cons Y r ih => intro i X; rw [List.cons_append, choiceG, choiceG, ih, List.length_cons, show i + 1 + r.length = i + (r.length + 1) from by omega, Bool.and_assoc]
theorem choiceG_congr {m m' : Nat} : ∀ (l : List Tx) (i : Nat), (∀ j, j < i + l.length → m.testBit j = m'.testBit j) → choiceG m i l = choiceG m' i l := by
  intro l
  induction l with
  | nil => intro i _; rfl
  | cons Y r ih =>
    intro i h
    rw [List.length_cons] at h
    rw [choiceG, choiceG, ih (i + 1) (fun j hj => h j (by omega)), h i (by omega)]
def chL (l : List Tx) : List Nat := (List.range (2 ^ l.length)).filter fun m => choiceG m 0 l
theorem chL_snoc (l : List Tx) (X : Tx) : chL (l ++ [X]) = (if X.s = 2 then [] else chL l) ++ (if X.s = 1 ∨ X.s = 2 then (chL l).map (2 ^ l.length + ·) else []) := by
  unfold chL
  rw [List.length_append, List.length_singleton, Nat.pow_succ, Nat.mul_two, List.range_add, List.filter_append, List.filter_map]
  have h1 : ∀ m ∈ List.range (2 ^ l.length), choiceG m 0 (l ++ [X]) = (choiceG m 0 l && !decide (X.s = 2)) := fun m hm => by
    have hlt := List.mem_range.1 hm
    rw [choiceG_snoc, Nat.zero_add, Nat.testBit_lt_two_pow hlt]
    rfl
  have h2 : ∀ m ∈ List.range (2 ^ l.length), ((fun m => choiceG m 0 (l ++ [X])) ∘ (2 ^ l.length + ·)) m = (choiceG m 0 l && (decide (X.s = 1) || decide (X.s = 2))) := fun m hm => by
    have hlt := List.mem_range.1 hm
    show choiceG (2 ^ l.length + m) 0 (l ++ [X]) = _
    rw [choiceG_snoc, Nat.zero_add, Nat.testBit_two_pow_add_eq, Nat.testBit_lt_two_pow hlt, choiceG_congr (m' := m) l 0 (fun j hj => Nat.testBit_two_pow_add_gt (by omega) m)]
    rfl
  rw [List.filter_congr h1, List.filter_congr h2]
  congr 1
  · by_cases h : X.s = 2
    · simp [h]
    · simp [h]
  · by_cases h : X.s = 1 ∨ X.s = 2
    · rw [if_pos h]
      have : (decide (X.s = 1) || decide (X.s = 2)) = true := by simpa using h
      rw [this]
      simp
    · rw [if_neg h]
      have : (decide (X.s = 1) || decide (X.s = 2)) = false := by simpa using h
      rw [this]
      simp
theorem snocT {p : List Tx → Prop} (h0 : p []) (h1 : ∀ l X, p l → p (l ++ [X])) (l : List Tx) : p l := by
  rw [← List.reverse_reverse l]
  induction l.reverse with
  | nil => exact h0
  | cons e r ih => rw [List.reverse_cons]; exact h1 _ _ ih
theorem chL_len (l : List Tx) : (chL l).length = 2 ^ openN l := by
  refine snocT (p := fun l => (chL l).length = 2 ^ openN l) rfl ?_ l
  intro l X ih
  rw [chL_snoc, List.length_append]
  unfold openN at *
  rw [List.filter_append, List.length_append]
  by_cases h1 : X.s = 1
  · rw [if_neg (by omega), if_pos (.inl h1), List.length_map, ih]
    have : [X].filter isOpen = [X] := by simp [isOpen, h1]
    rw [this, List.length_singleton, Nat.pow_succ]
    omega
  · have : [X].filter isOpen = [] := by simp [isOpen, h1]
    rw [this, List.length_nil, Nat.add_zero]
    by_cases h2 : X.s = 2
    · rw [if_pos h2, if_pos (.inr h2), List.length_map, ih]; simp
    · rw [if_neg h2, if_neg (by omega), ih]; simp
theorem choices_chL {l : List Tx} (h6 : l.length ≤ 6) : choicesS l = chL l := by
  unfold choicesS chL choiceS
  have hp : 2 ^ l.length ≤ 64 := Nat.pow_le_pow_right (n := 2) (i := l.length) (j := 6) (by decide) h6
  obtain ⟨d, hd⟩ : ∃ d, 64 = 2 ^ l.length + d := ⟨64 - 2 ^ l.length, by omega⟩
  rw [hd, List.range_add, List.filter_append]
  have h1 : ((List.range d).map (2 ^ l.length + ·)).filter (fun n => choiceG n 0 l && decide (n < 2 ^ l.length)) = [] := by
    rw [List.filter_eq_nil_iff]
    intro m hm
    obtain ⟨x, _, rfl⟩ := List.mem_map.1 hm
    simp
  rw [h1, List.append_nil]
  refine List.filter_congr fun m hm => ?_
  rw [decide_eq_true (List.mem_range.1 hm), Bool.and_true]
theorem chL_rise (l : List Tx) : (chL l).Pairwise (· < ·) := List.Pairwise.filter _ List.pairwise_lt_range
theorem mem_chL {l : List Tx} {m : Nat} : m ∈ chL l ↔ m < 2 ^ l.length ∧ choiceG m 0 l = true := by unfold chL; rw [List.mem_filter, List.mem_range]
/-- those that must be in, those that may -/
def loN (l : List Tx) : Nat := bitsN (fun k => match l[k]? with | some X => decide (X.s = 2) | none => false) l.length
def hiN (l : List Tx) : Nat := bitsN (fun k => match l[k]? with | some X => decide (X.s = 1) || decide (X.s = 2) | none => false) l.length
theorem choiceG_of {m : Nat} : ∀ {l : List Tx} {i : Nat}, (∀ j (hj : j < l.length), okBit l[j].s (m.testBit (i + j)) = true) → choiceG m i l = true := by
  intro l
  induction l with
  | nil => intro i _; rfl
  | cons X r ih =>
    intro i h
    rw [choiceG, Bool.and_eq_true]
    refine ⟨h 0 (by simp), ih fun j hj => ?_⟩
    have := h (j + 1) (by simpa using hj)
    rwa [List.getElem_cons_succ, show i + (j + 1) = i + 1 + j from by omega] at this
theorem lo_mem (l : List Tx) : loN l ∈ chL l := by
  refine mem_chL.2 ⟨bitsN_lt _ _, choiceG_of fun j hj => ?_⟩
  unfold loN
  rw [Nat.zero_add, bitsN_test, List.getElem?_eq_getElem hj, decide_eq_true hj]
  by_cases h : l[j].s = 2 <;> simp [okBit, h]
theorem hi_mem (l : List Tx) : hiN l ∈ chL l := by
  refine mem_chL.2 ⟨bitsN_lt _ _, choiceG_of fun j hj => ?_⟩
  unfold hiN
  rw [Nat.zero_add, bitsN_test, List.getElem?_eq_getElem hj, decide_eq_true hj]
  by_cases h : l[j].s = 2
  · simp [okBit, h]
  · by_cases h1 : l[j].s = 1 <;> simp [okBit, h, h1]
theorem lo_in {l : List Tx} {m : Nat} (hm : m ∈ chL l) : m &&& loN l = loN l := by
  refine Nat.eq_of_testBit_eq fun j => ?_
  rw [Nat.testBit_and]
  unfold loN
  rw [bitsN_test]
  by_cases hj : j < l.length
  · have h1 := choice_at (mem_chL.1 hm).2 hj
    rw [Nat.zero_add] at h1
    rw [List.getElem?_eq_getElem hj, decide_eq_true hj]
    by_cases h : l[j].s = 2
    · cases hb : m.testBit j with
      | true => simp [h]
      | false => rw [hb] at h1; simp [okBit, h] at h1
    · simp [h]
  · simp [hj]
theorem in_hi {l : List Tx} {m : Nat} (hm : m ∈ chL l) : m &&& hiN l = m := by
  refine Nat.eq_of_testBit_eq fun j => ?_
  rw [Nat.testBit_and]
  unfold hiN
  rw [bitsN_test]
  by_cases hj : j < l.length
  · have h1 := choice_at (mem_chL.1 hm).2 hj
    rw [Nat.zero_add] at h1
    rw [List.getElem?_eq_getElem hj, decide_eq_true hj]
    cases hb : m.testBit j with
    | false => simp
    | true => rw [hb] at h1; simpa [okBit] using h1
  · have : m.testBit j = false := Nat.testBit_lt_two_pow (Nat.lt_of_lt_of_le (mem_chL.1 hm).1 (Nat.pow_le_pow_right (by decide) (by omega)))
    rw [this, Bool.false_and]
theorem chL_pos (l : List Tx) : 0 < (chL l).length := List.length_pos_of_mem (lo_mem l)
theorem rise_get {l : List Nat} (h : l.Pairwise (· < ·)) {i j : Nat} (hi : i ≤ j) (hj : j < l.length) : l[i]'(by omega) ≤ l[j] := by
  by_cases he : i = j
  · subst he; exact Nat.le_refl _
  · exact Nat.le_of_lt (List.pairwise_iff_getElem.1 h i j (by omega) hj (by omega))
theorem chL_first (l : List Tx) : (chL l)[0]'(chL_pos l) = loN l := by
  have hm := List.getElem_mem (chL_pos l)
  have h1 : loN l ≤ (chL l)[0]'(chL_pos l) := by have := lo_in hm; rw [← this]; exact Nat.and_le_left
  obtain ⟨j, hj, he⟩ := List.getElem_of_mem (lo_mem l)
  have h2 := rise_get (chL_rise l) (Nat.zero_le j) hj
  omega
theorem chL_last (l : List Tx) : (chL l)[(chL l).length - 1]'(by have := chL_pos l; omega) = hiN l := by
  have hlt : (chL l).length - 1 < (chL l).length := by have := chL_pos l; omega
  have hm := List.getElem_mem hlt
  have h1 : (chL l)[(chL l).length - 1]'hlt ≤ hiN l := by have := in_hi hm; rw [← this]; exact Nat.and_le_right
  obtain ⟨j, hj, he⟩ := List.getElem_of_mem (hi_mem l)
  have h2 := rise_get (chL_rise l) (show j ≤ (chL l).length - 1 by omega) hlt
  omega
/-- how many bits are 1, of the first six -/
def pcN (m : Nat) : Nat := ((List.range 6).filter m.testBit).length
theorem cnt_range (q : Tx → Bool) (l : List Tx) : ((List.range l.length).filter fun k => match l[k]? with | some X => q X | none => false).length = (l.filter q).length := by
  refine snocT (p := fun l => ((List.range l.length).filter fun k => match l[k]? with | some X => q X | none => false).length = (l.filter q).length) rfl ?_ l
  intro l X ih
  rw [List.length_append, List.length_singleton, List.range_succ, List.filter_append, List.length_append, List.filter_append, List.length_append]
  have h1 : ∀ k ∈ List.range l.length, (match (l ++ [X])[k]? with | some X => q X | none => false) = (match l[k]? with | some X => q X | none => false) := fun k hk => by
    rw [List.getElem?_append_left (List.mem_range.1 hk)]
  rw [List.filter_congr h1, ih]
  congr 1
  have h2 : (l ++ [X])[l.length]? = some X := by simp
  cases hq : q X <;> simp [hq]
theorem pc_bits (q : Tx → Bool) {l : List Tx} (h6 : l.length ≤ 6) : pcN (bitsN (fun k => match l[k]? with | some X => q X | none => false) l.length) = (l.filter q).length := by
  rw [← cnt_range]
  unfold pcN
  obtain ⟨d, hd⟩ : ∃ d, 6 = l.length + d := ⟨6 - l.length, by omega⟩
  rw [hd, List.range_add, List.filter_append]
  have h1 : ((List.range d).map (l.length + ·)).filter (bitsN (fun k => match l[k]? with | some X => q X | none => false) l.length).testBit = [] := by
    rw [List.filter_eq_nil_iff]
    intro m hm
    obtain ⟨x, _, rfl⟩ := List.mem_map.1 hm
    rw [bitsN_test]
    simp
  rw [h1, List.append_nil]
  congr 1
  refine List.filter_congr fun k hk => ?_
  rw [bitsN_test, decide_eq_true (List.mem_range.1 hk), Bool.true_and]
theorem pc_open {l : List Tx} (h6 : l.length ≤ 6) : pcN (hiN l) = pcN (loN l) + openN l := by
  unfold hiN loN openN
  rw [pc_bits (fun X => decide (X.s = 1) || decide (X.s = 2)) h6, pc_bits (fun X => decide (X.s = 2)) h6]
  clear h6
  induction l with
  | nil => rfl
  | cons X r ih =>
    rw [List.filter_cons, List.filter_cons, List.filter_cons]
    by_cases h1 : X.s = 1
    · simp [isOpen, h1, ih]; omega
    · by_cases h2 : X.s = 2
      · simp [isOpen, h2, ih]; omega
      · simp [isOpen, h1, h2, ih]
end Go.Proofs.YtnddiaonceeicaaDoor.RPlain
