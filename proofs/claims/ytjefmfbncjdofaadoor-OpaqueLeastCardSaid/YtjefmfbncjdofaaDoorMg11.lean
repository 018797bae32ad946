/- Merged: CmpB, CmpC. -/
import Derived.Test.YtjefmfbncjdofaaDoorMg10
import Derived.Test.YtjefmfbncjdofaaDoorMg9
/- Plain words: how many choices there are, the first and the last. -/
namespace Go.Proofs.YtjefmfbncjdofaaDoor.WPlain
end Go.Proofs.YtjefmfbncjdofaaDoor.WPlain
namespace Go.Proofs.YtjefmfbncjdofaaDoor.QPlain
end Go.Proofs.YtjefmfbncjdofaaDoor.QPlain
namespace Go.Proofs.YtjefmfbncjdofaaDoor.RPlain
open WPlain QPlain

def isOpen (X : Tx) : Bool := decide (X.s = 1)
def openN (l : List Tx) : Nat := (l.filter isOpen).length
theorem choiceG_snoc (m : Nat) : ∀ (l : List Tx) (i : Nat) (X : Tx), choiceG m i (l ++ [X]) = (choiceG m i l && okBit X.s (m.testBit (i + l.length))) := by
  intro l
  induction l with
  | nil => intro i X; simp [choiceG]
  | cons Y r ih => intro i X; rw [List.cons_append, choiceG, choiceG, ih, List.length_cons, show i + 1 + r.length = i + (r.length + 1) from by omega, Bool.and_assoc]
theorem choiceG_congr {m m' : Nat} : ∀ (l : List Tx) (i : Nat), (∀ j, j < i + l.length → m.testBit j = m'.testBit j) → choiceG m i l = choiceG m' i l := by
  intro l
  induction l with
  | nil => intro i _; rfl
  | cons Y r ih =>
    intro i h
    rw [List.length_cons] at h
    rw [choiceG, choiceG, ih (i + 1) (fun j hj => h j (by omega)), h i (by omega)]
def chL (l : List Tx) : List Nat := (List.range (2 ^ l.length)).filter fun m => choiceG m 0 l
theorem chL_snoc (l : List Tx) (X : Tx) : chL (l ++ [X]) = (if X.s = 2 then [] else chL l) ++ (if X.s = 1 ∨ X.s = 2 then (chL l).map (2 ^ l.length + ·) else []) := by
  unfold chL
  rw [List.length_append, List.length_singleton, Nat.pow_succ, Nat.mul_two, List.range_add, List.filter_append, List.filter_map]
  have h1 : ∀ m ∈ List.range (2 ^ l.length), choiceG m 0 (l ++ [X]) = (choiceG m 0 l && !decide (X.s = 2)) := fun m hm => by
    have hlt := List.mem_range.1 hm
    rw [choiceG_snoc, Nat.zero_add, Nat.testBit_lt_two_pow hlt]
    rfl
  have h2 : ∀ m ∈ List.range (2 ^ l.length), ((fun m => choiceG m 0 (l ++ [X])) ∘ (2 ^ l.length + ·)) m = (choiceG m 0 l && (decide (X.s = 1) || decide (X.s = 2))) := fun m hm => by
    have hlt := List.mem_range.1 hm
    show choiceG (2 ^ l.length + m) 0 (l ++ [X]) = _
    rw [choiceG_snoc, Nat.zero_add, Nat.testBit_two_pow_add_eq, Nat.testBit_lt_two_pow hlt, choiceG_congr (m' := m) l 0 (fun j hj => Nat.testBit_two_pow_add_gt (by omega) m)]
    rfl
  rw [List.filter_congr h1, List.filter_congr h2]
  congr 1
  · by_cases h : X.s = 2
    · simp [h]
    · simp [h]
  · by_cases h : X.s = 1 ∨ X.s = 2
    · rw [if_pos h]
      have : (decide (X.s = 1) || decide (X.s = 2)) = true := by simpa using h
      rw [this]
      simp
    · rw [if_neg h]
      have : (decide (X.s = 1) || decide (X.s = 2)) = false := by simpa using h
      rw [this]
      simp
theorem snocT {p : List Tx → Prop} (h0 : p []) (h1 : ∀ l X, p l → p (l ++ [X])) (l : List Tx) : p l := by
  rw [← List.reverse_reverse l]
  induction l.reverse with
  | nil => exact h0
  | cons e r ih => rw [List.reverse_cons]; exact h1 _ _ ih
theorem chL_len (l : List Tx) : (chL l).length = 2 ^ openN l := by
  refine snocT (p := fun l => (chL l).length = 2 ^ openN l) rfl ?_ l
  intro l X ih
  rw [chL_snoc, List.length_append]
  unfold openN at *
  rw [List.filter_append, List.length_append]
  by_cases h1 : X.s = 1
  · rw [if_neg (by omega), if_pos (.inl h1), List.length_map, ih]
    have : [X].filter isOpen = [X] := by simp [isOpen, h1]
    rw [this, List.length_singleton, Nat.pow_succ]
    omega
  · have : [X].filter isOpen = [] := by simp [isOpen, h1]
    rw [this, List.length_nil, Nat.add_zero]
    by_cases h2 : X.s = 2
    · rw [if_pos h2, if_pos (.inr h2), List.length_map, ih]; simp
    · rw [if_neg h2, if_neg (by omega), ih]; simp
theorem choices_chL {l : List Tx} (h6 : l.length ≤ 6) : choicesS l = chL l := by
  unfold choicesS chL choiceS
  have hp : 2 ^ l.length ≤ 64 := Nat.pow_le_pow_right (n := 2) (i := l.length) (j := 6) (by decide) h6
  obtain ⟨d, hd⟩ : ∃ d, 64 = 2 ^ l.length + d := ⟨64 - 2 ^ l.length, by omega⟩
  rw [hd, List.range_add, List.filter_append]
  have h1 : ((List.range d).map (2 ^ l.length + ·)).filter (fun n => choiceG n 0 l && decide (n < 2 ^ l.length)) = [] := by
    rw [List.filter_eq_nil_iff]
    intro m hm
    obtain ⟨x, _, rfl⟩ := List.mem_map.1 hm
    simp
  rw [h1, List.append_nil]
  refine List.filter_congr fun m hm => ?_
  rw [decide_eq_true (List.mem_range.1 hm), Bool.and_true]
theorem chL_rise (l : List Tx) : (chL l).Pairwise (· < ·) := List.Pairwise.filter _ List.pairwise_lt_range
theorem mem_chL {l : List Tx} {m : Nat} : m ∈ chL l ↔ m < 2 ^ l.length ∧ choiceG m 0 l = true := by unfold chL; rw [List.mem_filter, List.mem_range]
/-- those that must be in, those that may -/
def loN (l : List Tx) : Nat := bitsN (fun k => match l[k]? with | some X => decide (X.s = 2) | none => false) l.length
def hiN (l : List Tx) : Nat := bitsN (fun k => match l[k]? with | some X => decide (X.s = 1) || decide (X.s = 2) | none => false) l.length
theorem choiceG_of {m : Nat} : ∀ {l : List Tx} {i : Nat}, (∀ j (hj : j < l.length), okBit l[j].s (m.testBit (i + j)) = true) → choiceG m i l = true := by
  intro l
  induction l with
  | nil => intro i _; rfl
  | cons X r ih =>
    intro i h
    rw [choiceG, Bool.and_eq_true]
    refine ⟨h 0 (by simp), ih fun j hj => ?_⟩
    have := h (j + 1) (by simpa using hj)
    rwa [List.getElem_cons_succ, show i + (j + 1) = i + 1 + j from by omega] at this
theorem lo_mem (l : List Tx) : loN l ∈ chL l := by
  refine mem_chL.2 ⟨bitsN_lt _ _, choiceG_of fun j hj => ?_⟩
  unfold loN
  rw [Nat.zero_add, bitsN_test, List.getElem?_eq_getElem hj, decide_eq_true hj]
  by_cases h : l[j].s = 2 <;> simp [okBit, h]
theorem hi_mem (l : List Tx) : hiN l ∈ chL l := by
  refine mem_chL.2 ⟨bitsN_lt _ _, choiceG_of fun j hj => ?_⟩
  unfold hiN
  rw [Nat.zero_add, bitsN_test, List.getElem?_eq_getElem hj, decide_eq_true hj]
  by_cases h : l[j].s = 2
  · simp [okBit, h]
  · by_cases h1 : l[j].s = 1 <;> simp [okBit, h, h1]
theorem lo_in {l : List Tx} {m : Nat} (hm : m ∈ chL l) : m &&& loN l = loN l := by
  refine Nat.eq_of_testBit_eq fun j => ?_
  rw [Nat.testBit_and]
  unfold loN
  rw [bitsN_test]
  by_cases hj : j < l.length
  · have h1 := choice_at (mem_chL.1 hm).2 hj
    rw [Nat.zero_add] at h1
    rw [List.getElem?_eq_getElem hj, decide_eq_true hj]
    by_cases h : l[j].s = 2
    · cases hb : m.testBit j with
      | true => simp [h]
      | false => rw [hb] at h1; simp [okBit, h] at h1
    · simp [h]
  · simp [hj]
theorem in_hi {l : List Tx} {m : Nat} (hm : m ∈ chL l) : m &&& hiN l = m := by
  refine Nat.eq_of_testBit_eq fun j => ?_
  rw [Nat.testBit_and]
  unfold hiN
  rw [bitsN_test]
  by_cases hj : j < l.length
  · have h1 := choice_at (mem_chL.1 hm).2 hj
    rw [Nat.zero_add] at h1
    rw [List.getElem?_eq_getElem hj, decide_eq_true hj]
    cases hb : m.testBit j with
    | false => simp
    | true => rw [hb] at h1; simpa [okBit] using h1
  · have : m.testBit j = false := Nat.testBit_lt_two_pow (Nat.lt_of_lt_of_le (mem_chL.1 hm).1 (Nat.pow_le_pow_right (by decide) (by omega)))
    rw [this, Bool.false_and]
theorem chL_pos (l : List Tx) : 0 < (chL l).length := List.length_pos_of_mem (lo_mem l)
theorem rise_get {l : List Nat} (h : l.Pairwise (· < ·)) {i j : Nat} (hi : i ≤ j) (hj : j < l.length) : l[i]'(by omega) ≤ l[j] := by
  by_cases he : i = j
  · subst he; exact Nat.le_refl _
  · exact Nat.le_of_lt (List.pairwise_iff_getElem.1 h i j (by omega) hj (by omega))
theorem chL_first (l : List Tx) : (chL l)[0]'(chL_pos l) = loN l := by
  have hm := List.getElem_mem (chL_pos l)
  have h1 : loN l ≤ (chL l)[0]'(chL_pos l) := by have := lo_in hm; rw [← this]; exact Nat.and_le_left
  obtain ⟨j, hj, he⟩ := List.getElem_of_mem (lo_mem l)
  have h2 := rise_get (chL_rise l) (Nat.zero_le j) hj
  omega
theorem chL_last (l : List Tx) : (chL l)[(chL l).length - 1]'(by have := chL_pos l; omega) = hiN l := by
  have hlt : (chL l).length - 1 < (chL l).length := by have := chL_pos l; omega
  have hm := List.getElem_mem hlt
  have h1 : (chL l)[(chL l).length - 1]'hlt ≤ hiN l := by have := in_hi hm; rw [← this]; exact Nat.and_le_right
  obtain ⟨j, hj, he⟩ := List.getElem_of_mem (hi_mem l)
  have h2 := rise_get (chL_rise l) (show j ≤ (chL l).length - 1 by omega) hlt
  omega
/-- how many bits are 1, of the first six -/
def pcN (m : Nat) : Nat := ((List.range 6).filter m.testBit).length
theorem cnt_range (q : Tx → Bool) (l : List Tx) : ((List.range l.length).filter fun k => match l[k]? with | some X => q X | none => false).length = (l.filter q).length := by
  refine snocT (p := fun l => ((List.range l.length).filter fun k => match l[k]? with | some X => q X | none => false).length = (l.filter q).length) rfl ?_ l
  intro l X ih
  rw [List.length_append, List.length_singleton, List.range_succ, List.filter_append, List.length_append, List.filter_append, List.length_append]
  have h1 : ∀ k ∈ List.range l.length, (match (l ++ [X])[k]? with | some X => q X | none => false) = (match l[k]? with | some X => q X | none => false) := fun k hk => by
    rw [List.getElem?_append_left (List.mem_range.1 hk)]
  rw [List.filter_congr h1, ih]
  congr 1
  have h2 : (l ++ [X])[l.length]? = some X := by simp
  cases hq : q X <;> simp [hq]
theorem pc_bits (q : Tx → Bool) {l : List Tx} (h6 : l.length ≤ 6) : pcN (bitsN (fun k => match l[k]? with | some X => q X | none => false) l.length) = (l.filter q).length := by
  rw [← cnt_range]
  unfold pcN
  obtain ⟨d, hd⟩ : ∃ d, 6 = l.length + d := ⟨6 - l.length, by omega⟩
  rw [hd, List.range_add, List.filter_append]
  have h1 : ((List.range d).map (l.length + ·)).filter (bitsN (fun k => match l[k]? with | some X => q X | none => false) l.length).testBit = [] := by
    rw [List.filter_eq_nil_iff]
    intro m hm
    obtain ⟨x, _, rfl⟩ := List.mem_map.1 hm
    rw [bitsN_test]
    simp
  rw [h1, List.append_nil]
  congr 1
  refine List.filter_congr fun k hk => ?_
  rw [bitsN_test, decide_eq_true (List.mem_range.1 hk), Bool.true_and]
theorem pc_open {l : List Tx} (h6 : l.length ≤ 6) : pcN (hiN l) = pcN (loN l) + openN l := by
  unfold hiN loN openN
  rw [pc_bits (fun X => decide (X.s = 1) || decide (X.s = 2)) h6, pc_bits (fun X => decide (X.s = 2)) h6]
  clear h6
  induction l with
  | nil => rfl
  | cons X r ih =>
    rw [List.filter_cons, List.filter_cons, List.filter_cons]
    by_cases h1 : X.s = 1
    · simp [isOpen, h1, ih]; omega
    · by_cases h2 : X.s = 2
      · simp [isOpen, h2, ih]; omega
      · simp [isOpen, h1, h2, ih]
end Go.Proofs.YtjefmfbncjdofaaDoor.RPlain
/- Plain words: the subsets of bits, one after the other; choices as what must be and a subset of what may be. -/
namespace Go.Proofs.YtjefmfbncjdofaaDoor.WPlain
end Go.Proofs.YtjefmfbncjdofaaDoor.WPlain
namespace Go.Proofs.YtjefmfbncjdofaaDoor.QPlain
end Go.Proofs.YtjefmfbncjdofaaDoor.QPlain
namespace Go.Proofs.YtjefmfbncjdofaaDoor.RPlain
open WPlain QPlain

/-- the subset behind a subset: none, behind the last -/
def nxB (p s : Nat) : Nat := (s + 4294967296 - p) % 4294967296 &&& p
def inB6 (p m : Nat) : Bool := decide (m &&& p = m)
def subU (p s : Nat) : List Nat := (List.range s).filter (inB6 p)
theorem nx_step : ∀ p < 64, ∀ s < 64, inB6 p s = true → (nxB p s = 0 ∧ subU p (s + 1) = subU p 64) ∨ (s < nxB p s ∧ nxB p s < 64 ∧ inB6 p (nxB p s) = true ∧ subU p (s + 1) = subU p (nxB p s)) := by decide +kernel
theorem sub_snoc {p s : Nat} (h : inB6 p s = true) : subU p (s + 1) = subU p s ++ [s] := by unfold subU; rw [List.range_succ, List.filter_append]; simp [h]
theorem or_add6 : ∀ a < 64, ∀ b < 64, a &&& b = 0 → a ||| b = a + b := by decide +kernel
theorem or_lt6 : ∀ a < 64, ∀ b < 64, a ||| b < 64 := by decide +kernel
theorem and_lt6 (a : Nat) {b : Nat} (h : b < 64) : a &&& b < 64 := Nat.lt_of_le_of_lt Nat.and_le_right h
theorem rise_eq : ∀ {a b : List Nat}, a.Pairwise (· < ·) → b.Pairwise (· < ·) → (∀ x, x ∈ a ↔ x ∈ b) → a = b := by
  intro a
  induction a with
  | nil =>
    intro b _ _ h
    cases b with
    | nil => rfl
    | cons y s => exact absurd ((h y).2 (List.mem_cons_self ..)) (by simp)
  | cons x r ih =>
    intro b ha hb h
    cases b with
    | nil => exact absurd ((h x).1 (List.mem_cons_self ..)) (by simp)
    | cons y s =>
      obtain ⟨hx, hr⟩ := List.pairwise_cons.1 ha
      obtain ⟨hy, hs⟩ := List.pairwise_cons.1 hb
      have hxy : x = y := by
        rcases List.mem_cons.1 ((h x).1 (List.mem_cons_self ..)) with h1 | h1
        · exact h1
        · rcases List.mem_cons.1 ((h y).2 (List.mem_cons_self ..)) with h2 | h2
          · exact h2.symm
          · have := hx y h2; have := hy x h1; omega
      subst hxy
      rw [ih hr hs]
      intro z
      constructor
      · intro hz
        rcases List.mem_cons.1 ((h z).1 (List.mem_cons_of_mem _ hz)) with h1 | h1
        · have := hx z hz; omega
        · exact h1
      · intro hz
        rcases List.mem_cons.1 ((h z).2 (List.mem_cons_of_mem _ hz)) with h1 | h1
        · have := hy z hz; omega
        · exact h1
theorem not_test {p : Nat} (hp : p < 4294967296) (j : Nat) : (4294967295 - p).testBit j = (decide (j < 32) && !p.testBit j) := by
  have := Nat.testBit_two_pow_sub_succ (n := 32) (x := p) hp j
  rwa [show (2 : Nat) ^ 32 - (p + 1) = 4294967295 - p from by omega] at this
theorem and_pow (n k : Nat) : n &&& 2 ^ k = if n.testBit k = true then 2 ^ k else 0 := by
  refine Nat.eq_of_testBit_eq fun j => ?_
  rw [Nat.testBit_and, Nat.testBit_two_pow]
  by_cases h : k = j
  · subst h
    cases hb : n.testBit k <;> simp
  · cases hb : n.testBit k <;> simp [h]
/-- the bits of those of a state -/
def stB (l : List Tx) (s : Int) (k : Nat) : Bool := match l[k]? with | some X => decide (X.s = s) | none => false
def stN (l : List Tx) (s : Int) : Nat := bitsN (stB l s) l.length
theorem stN_lo (l : List Tx) : stN l 2 = loN l := rfl
theorem stN_test (l : List Tx) (s : Int) (j : Nat) : (stN l s).testBit j = true ↔ ∃ h : j < l.length, l[j].s = s := by
  unfold stN stB
  rw [bitsN_test]
  by_cases hj : j < l.length
  · rw [List.getElem?_eq_getElem hj]
    simp [hj]
  · simp [hj]
theorem stN_lt {l : List Tx} (h6 : l.length ≤ 6) (s : Int) : stN l s < 64 := Nat.lt_of_lt_of_le (bitsN_lt _ _) (Nat.pow_le_pow_right (n := 2) (i := l.length) (j := 6) (by decide) h6)
theorem st_apart (l : List Tx) {s t : Int} (h : s ≠ t) : stN l s &&& stN l t = 0 := by
  refine Nat.eq_of_testBit_eq fun j => ?_
  rw [Nat.testBit_and, Nat.zero_testBit, Bool.and_eq_false_iff]
  cases h1 : (stN l s).testBit j with
  | false => exact .inl rfl
  | true =>
    right
    cases h2 : (stN l t).testBit j with
    | false => rfl
    | true =>
      obtain ⟨_, e1⟩ := (stN_test l s j).1 h1
      obtain ⟨_, e2⟩ := (stN_test l t j).1 h2
      exact absurd (e1.symm.trans e2) h
theorem in_bit {p m j : Nat} (h : inB6 p m = true) (hj : m.testBit j = true) : p.testBit j = true := by
  have h1 : m &&& p = m := by simpa [inB6] using h
  rw [← h1, Nat.testBit_and, Bool.and_eq_true] at hj
  exact hj.2
theorem bool_iff {a b : Bool} (h : a = true ↔ b = true) : a = b := by cases a <;> cases b <;> simp_all
/-- a number that differs from a choice in nothing but what may be chosen is one -/
theorem choice_bits {l : List Tx} (h6 : l.length ≤ 6) {n : Nat} (hn : n < 4294967296) : (n &&& (4294967295 - stN l 1) = stN l 2) ↔ choiceS l n = true := by
  have hp := stN_lt h6 1
  unfold choiceS
  rw [Bool.and_eq_true, decide_eq_true_eq]
  constructor
  · intro h
    have hb : ∀ j, j < 32 → ((n.testBit j && !(stN l 1).testBit j) = (stN l 2).testBit j) := fun j hj => by
      rw [← h, Nat.testBit_and, not_test (by omega), decide_eq_true hj, Bool.true_and]
    refine ⟨choiceG_of fun j hj => ?_, Nat.lt_pow_two_of_testBit _ fun j hj => ?_⟩
    · rw [Nat.zero_add]
      have h1 := hb j (by omega)
      have e1 := stN_test l 1 j
      have e2 := stN_test l 2 j
      cases hx : n.testBit j with
      | true =>
        unfold okBit
        rw [if_pos rfl, Bool.or_eq_true, decide_eq_true_eq, decide_eq_true_eq]
        rw [hx, Bool.true_and] at h1
        cases hy : (stN l 1).testBit j with
        | true => exact .inl (e1.1 hy).2
        | false => rw [hy] at h1; exact .inr (e2.1 h1.symm).2
      | false =>
        rw [hx, Bool.false_and] at h1
        unfold okBit
        rw [if_neg (by decide)]
        by_cases hs : l[j].s = 2
        · rw [e2.2 ⟨hj, hs⟩] at h1; exact absurd h1 (by decide)
        · simp [hs]
    · by_cases hj2 : j < 32
      · have h1 := hb j hj2
        have e1 : (stN l 1).testBit j = false := by
          cases hc : (stN l 1).testBit j with
          | false => rfl
          | true => obtain ⟨hh, _⟩ := (stN_test l 1 j).1 hc; omega
        have e2 : (stN l 2).testBit j = false := by
          cases hc : (stN l 2).testBit j with
          | false => rfl
          | true => obtain ⟨hh, _⟩ := (stN_test l 2 j).1 hc; omega
        rw [e1, e2] at h1
        simpa using h1
      · exact Nat.testBit_lt_two_pow (Nat.lt_of_lt_of_le hn (Nat.pow_le_pow_right (n := 2) (i := 32) (j := j) (by decide) (by omega)))
  · rintro ⟨hc, hl⟩
    refine Nat.eq_of_testBit_eq fun j => ?_
    rw [Nat.testBit_and, not_test (by omega)]
    by_cases hj : j < l.length
    · have h1 := choice_at hc hj
      rw [Nat.zero_add] at h1
      rw [decide_eq_true (show j < 32 by omega), Bool.true_and]
      refine bool_iff ?_
      rw [Bool.and_eq_true, stN_test]
      constructor
      · rintro ⟨hx, hy⟩
        rw [hx] at h1
        unfold okBit at h1
        rw [if_pos rfl, Bool.or_eq_true, decide_eq_true_eq, decide_eq_true_eq] at h1
        refine ⟨hj, h1.resolve_left fun h1 => ?_⟩
        rw [(stN_test l 1 j).2 ⟨hj, h1⟩] at hy
        exact absurd hy (by decide)
      · rintro ⟨_, hs⟩
        constructor
        · cases hx : n.testBit j with
          | true => rfl
          | false => rw [hx] at h1; simp [okBit, hs] at h1
        · cases hy : (stN l 1).testBit j with
          | false => rfl
          | true => obtain ⟨_, h1⟩ := (stN_test l 1 j).1 hy; omega
    · have e1 : n.testBit j = false := Nat.testBit_lt_two_pow (Nat.lt_of_lt_of_le hl (Nat.pow_le_pow_right (n := 2) (by decide) (by omega)))
      have e2 : (stN l 2).testBit j = false := by
        cases hc : (stN l 2).testBit j with
        | false => rfl
        | true => obtain ⟨hh, _⟩ := (stN_test l 2 j).1 hc; omega
      rw [e1, e2, Bool.false_and]
/-- all choices: what must be, and each subset of what may be -/
theorem subs_chL {l : List Tx} (h6 : l.length ≤ 6) : (subU (stN l 1) 64).map (stN l 2 ||| ·) = chL l := by
  have hp := stN_lt h6 1
  have hq := stN_lt h6 2
  have hapart : ∀ s, inB6 (stN l 1) s = true → stN l 2 &&& s = 0 := fun s hs => by
    refine Nat.eq_of_testBit_eq fun j => ?_
    rw [Nat.testBit_and, Nat.zero_testBit, Bool.and_eq_false_iff]
    cases h2 : s.testBit j with
    | false => exact .inr rfl
    | true =>
      left
      have h3 := in_bit hs h2
      have h4 := st_apart l (s := 2) (t := 1) (by decide)
      cases h5 : (stN l 2).testBit j with
      | false => rfl
      | true =>
        have : (stN l 2 &&& stN l 1).testBit j = true := by rw [Nat.testBit_and, h5, h3]; rfl
        rw [h4, Nat.zero_testBit] at this
        exact absurd this (by decide)
  refine rise_eq ?_ (chL_rise l) fun m => ?_
  · rw [List.pairwise_map]
    refine List.Pairwise.imp_of_mem ?_ (List.Pairwise.filter (inB6 (stN l 1)) (List.pairwise_lt_range (n := 64)))
    intro a b ha hb hab
    obtain ⟨ha1, ha2⟩ := List.mem_filter.1 ha
    obtain ⟨hb1, hb2⟩ := List.mem_filter.1 hb
    rw [or_add6 _ hq a (List.mem_range.1 ha1) (hapart a ha2), or_add6 _ hq b (List.mem_range.1 hb1) (hapart b hb2)]
    omega
  · rw [List.mem_map]
    constructor
    · rintro ⟨s, hs, rfl⟩
      obtain ⟨h1, h2⟩ := List.mem_filter.1 hs
      have hbit : ∀ j, (stN l 2 ||| s).testBit j = true → ∃ h : j < l.length, l[j].s = 2 ∨ l[j].s = 1 := fun j hj => by
        rw [Nat.testBit_or, Bool.or_eq_true] at hj
        rcases hj with hj | hj
        · obtain ⟨h3, h4⟩ := (stN_test l 2 j).1 hj
          exact ⟨h3, .inl h4⟩
        · obtain ⟨h3, h4⟩ := (stN_test l 1 j).1 (in_bit h2 hj)
          exact ⟨h3, .inr h4⟩
      refine mem_chL.2 ⟨Nat.lt_pow_two_of_testBit _ fun j hj => ?_, choiceG_of fun j hj => ?_⟩
      · cases hc : (stN l 2 ||| s).testBit j with
        | false => rfl
        | true => obtain ⟨hh, _⟩ := hbit j hc; omega
      · rw [Nat.zero_add]
        cases hc : (stN l 2 ||| s).testBit j with
        | true =>
          obtain ⟨_, hh | hh⟩ := hbit j hc
          · simp [okBit, hh]
          · simp [okBit, hh]
        | false =>
          by_cases hs2 : l[j].s = 2
          · rw [Nat.testBit_or, (stN_test l 2 j).2 ⟨hj, hs2⟩] at hc; exact absurd hc (by simp)
          · simp [okBit, hs2]
    · intro hm
      refine ⟨m &&& stN l 1, List.mem_filter.2 ⟨List.mem_range.2 (and_lt6 m hp), ?_⟩, ?_⟩
      · unfold inB6
        rw [decide_eq_true_eq, Nat.and_assoc, Nat.and_self]
      · have hm2 := mem_chL.1 hm
        refine Nat.eq_of_testBit_eq fun j => ?_
        rw [Nat.testBit_or, Nat.testBit_and]
        refine bool_iff ?_
        rw [Bool.or_eq_true, Bool.and_eq_true, stN_test, stN_test]
        by_cases hj : j < l.length
        · have h1 := choice_at hm2.2 hj
          rw [Nat.zero_add] at h1
          constructor
          · rintro (⟨_, hs⟩ | ⟨hx, _⟩)
            · cases hx : m.testBit j with
              | true => rfl
              | false => rw [hx] at h1; simp [okBit, hs] at h1
            · exact hx
          · intro hx
            rw [hx] at h1
            unfold okBit at h1
            rw [if_pos rfl, Bool.or_eq_true, decide_eq_true_eq, decide_eq_true_eq] at h1
            rcases h1 with h1 | h1
            · exact .inr ⟨hx, hj, h1⟩
            · exact .inl ⟨hj, h1⟩
        · have e1 : m.testBit j = false := Nat.testBit_lt_two_pow (Nat.lt_of_lt_of_le hm2.1 (Nat.pow_le_pow_right (n := 2) (by decide) (by omega)))
          rw [e1]
          constructor
          · rintro (⟨hh, _⟩ | ⟨hh, _⟩)
            · exact absurd hh hj
            · exact absurd hh (by decide)
          · intro hh; exact absurd hh (by decide)
/-- the kinds that end a transaction -/
def endK (k : Int) (b : Bool) : List Int := if k = 7 ∨ k = 9 then [] else if k = 6 ∧ b = true then [7] else if k = 1 ∨ k = 3 ∨ k = 5 then [8, 9] else [9]
theorem endS_endK (h : List Ev) (t : Int) (b : Bool) : endS h t b = (endK (lastOf h t) b).map fun k => ⟨k, t, 0, 0⟩ := by
  unfold endS endK
  split
  · rfl
  · split
    · rfl
    · split <;> rfl
theorem endK_len (k : Int) (b : Bool) : (endK k b).length ≤ 2 := by
  unfold endK
  split
  · simp
  · split
    · simp
    · split <;> simp
theorem complete_len (h : List Ev) (n : Nat) (h6 : (namesOf h).length ≤ 6) : (completeS h n).length ≤ h.length + 12 := by
  have := tailG_len h n (namesOf h) 0
  unfold completeS
  rw [List.length_append]
  omega
theorem tailG_take (h : List Ev) (n : Nat) {ns : List Int} {j : Nat} (hj : j < ns.length) : tailG h n 0 (ns.take (j + 1)) = tailG h n 0 (ns.take j) ++ endS h ns[j] (n.testBit j) := by
  rw [List.take_succ_eq_append_getElem hj, tailG_snoc, List.length_take, Nat.min_eq_left (by omega), Nat.zero_add]
end Go.Proofs.YtjefmfbncjdofaaDoor.RPlain
