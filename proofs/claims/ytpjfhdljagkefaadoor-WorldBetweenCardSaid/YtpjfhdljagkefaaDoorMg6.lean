/- Merged: TabK, OrdB, OrdD, ExtA. -/
import Derived.Test.YtpjfhdljagkefaaDoorTabD
import Derived.Test.YtpjfhdljagkefaaDoorMg3
import Derived.Test.YtpjfhdljagkefaaDoorRows
import Derived.Deep.QuietTactic
import Derived.BigQuiet
import Derived.Laws.StructEq
/- The walks of the reference's Same, of isSame, of slices.EqualFunc with it, and of Like. (Written by gen_tabK.py.) -/
namespace Go.Proofs.YtpjfhdljagkefaaDoor.WPlain
end Go.Proofs.YtpjfhdljagkefaaDoor.WPlain
namespace Go.Proofs.YtpjfhdljagkefaaDoor.RPlain
end Go.Proofs.YtpjfhdljagkefaaDoor.RPlain
namespace Go.Proofs.YtpjfhdljagkefaaDoor
open Go.RowKit WPlain RPlain

theorem Opv.drewN {w : World} {v : Value} {l : List Rwo} (h : Opv w v l) (n : Nat) : Opv (w.drewN n) v l := h
theorem Txs.drewN {w : World} {v : Value} {l : List Tx} (h : Txs w v l) (n : Nat) : Txs (w.drewN n) v l := h
theorem Txs.opened {w : World} {v : Value} {l : List Tx} (h : Txs w v l) (h0 : 0 < l.length) : ∃ b o c, v = .slice (some ⟨b, o, none⟩) l.length c := by
  obtain ⟨ps, rfl, hr, _⟩ := h
  rcases hr with ⟨rfl, _⟩ | ⟨_, b, o, c, rfl, _⟩
  · simp at h0
  · exact ⟨b, o, c, by simp⟩
theorem below_drN {B : Nat} {w w' : World} (h : Below B w w') (n : Nat) : Below B w (w'.drewN n) := ⟨h.os, h.tape, h.output, h.size, h.block⟩
end Go.Proofs.YtpjfhdljagkefaaDoor
/- Plain words: what is before what, as bits; up to a place; rows that keep it. -/
namespace Go.Proofs.YtpjfhdljagkefaaDoor.WPlain
end Go.Proofs.YtpjfhdljagkefaaDoor.WPlain
namespace Go.Proofs.YtpjfhdljagkefaaDoor.QPlain
end Go.Proofs.YtpjfhdljagkefaaDoor.QPlain
namespace Go.Proofs.YtpjfhdljagkefaaDoor.RPlain
open WPlain QPlain

/-- the number whose bit k is p k -/
def bitsN (p : Nat → Bool) : Nat → Nat
  | 0 => 0
  | n + 1 => bitsN p n + (if p n = true then 2 ^ n else 0)
theorem bitsN_lt (p : Nat → Bool) : ∀ n, bitsN p n < 2 ^ n := by
  intro n
  induction n with
  | zero => simp [bitsN]
  | succ n ih => unfold bitsN; rw [Nat.pow_succ]; split <;> omega
theorem bitsN_congr {p q : Nat → Bool} : ∀ n, (∀ k, k < n → p k = q k) → bitsN p n = bitsN q n := by
  intro n
  induction n with
  | zero => intro _; rfl
  | succ n ih => intro h; unfold bitsN; rw [ih (fun k hk => h k (by omega)), h n (by omega)]
theorem bitsN_mod (p : Nat → Bool) {m : Nat} : ∀ n, m ≤ n → bitsN p n % 2 ^ m = bitsN p m := by
  intro n
  induction n with
  | zero => intro h; rw [show m = 0 from by omega]; rfl
  | succ n ih =>
    intro h
    by_cases hm : m = n + 1
    · rw [hm]; exact Nat.mod_eq_of_lt (bitsN_lt p (n + 1))
    · have hmn : m ≤ n := by omega
      rw [show bitsN p (n + 1) = bitsN p n + (if p n = true then 2 ^ n else 0) from rfl]
      have hd : (if p n = true then 2 ^ n else 0) % 2 ^ m = 0 := by
        split
        · obtain ⟨d, rfl⟩ : ∃ d, n = m + d := ⟨n - m, by omega⟩
          rw [Nat.pow_add, Nat.mul_mod_right]
        · exact Nat.zero_mod _
      rw [Nat.add_mod, hd, Nat.add_zero, Nat.mod_mod, ih hmn]
theorem bitsN_bit (p : Nat → Bool) {n k : Nat} (hk : k < n) : bitsN p n / 2 ^ k % 2 = if p k = true then 1 else 0 := by
  have h1 := bitsN_mod p (m := k + 1) n (by omega)
  have h2 : bitsN p n / 2 ^ k % 2 = bitsN p n % 2 ^ (k + 1) / 2 ^ k := by rw [Nat.pow_succ, Nat.mod_mul_right_div_self]
  rw [h2, h1, show bitsN p (k + 1) = bitsN p k + (if p k = true then 2 ^ k else 0) from rfl]
  have h3 := bitsN_lt p k
  split
  · rw [Nat.add_div_right _ (Nat.two_pow_pos k), Nat.div_eq_of_lt h3]
  · rw [Nat.add_zero, Nat.div_eq_of_lt h3]
/-- a transaction's bits, in a table; those of all -/
def afterN (l : List Tx) (X : Tx) : Nat := bitsN (fun k => match l[k]? with | some Y => bfr X Y | none => false) l.length
def afterS (l : List Tx) : List Nat := l.map (afterN l)
theorem afterN_lt (l : List Tx) (X : Tx) : afterN l X < 2 ^ l.length := bitsN_lt _ _
theorem afterS_len (l : List Tx) : (afterS l).length = l.length := List.length_map _
/-- a row of places: is any not there; is any there twice, or behind one that it is before -/
def thereS (l : List Tx) (row : List Int) : Bool := row.all fun i => decide (0 ≤ i) && decide (i < l.length)
def badP (l : List Tx) (a b : Int) : Bool := decide (a = b) || (match l[a.toNat]?, l[b.toNat]? with | some X, some Y => bfr X Y | _, _ => false)
def keepsS (l : List Tx) (row : List Int) : Bool := (List.range row.length).all fun i => (row.take i).all fun b => !(badP l (row.getD i 0) b)
theorem thereS_iff (l : List Tx) (row : List Int) : thereS l row = true ↔ ∀ i ∈ row, 0 ≤ i ∧ i < l.length := by
  unfold thereS
  simp [List.all_eq_true]
theorem keepsS_iff (l : List Tx) (row : List Int) : keepsS l row = true ↔ ∀ i (hi : i < row.length) j (hj : j < i), badP l row[i] (row[j]'(by omega)) = false := by
  unfold keepsS
  rw [List.all_eq_true]
  constructor
  · intro h i hi j hj
    have h1 := h i (List.mem_range.2 hi)
    rw [List.all_eq_true] at h1
    have h2 := h1 (row[j]'(by omega)) (List.mem_take_iff_getElem.2 ⟨j, by omega, rfl⟩)
    rw [List.getD_eq_getElem?_getD, List.getElem?_eq_getElem hi] at h2
    simpa using h2
  · intro h i hi
    rw [List.all_eq_true]
    intro b hb
    obtain ⟨j, hj, rfl⟩ := List.mem_take_iff_getElem.1 hb
    have hi' := List.mem_range.1 hi
    rw [List.getD_eq_getElem?_getD, List.getElem?_eq_getElem hi']
    simpa using h i hi' j (by omega)
end Go.Proofs.YtpjfhdljagkefaaDoor.RPlain
/- Plain words: the bits of what is before what, gathered pair by pair; rows of places as bits. -/
namespace Go.Proofs.YtpjfhdljagkefaaDoor.WPlain
end Go.Proofs.YtpjfhdljagkefaaDoor.WPlain
namespace Go.Proofs.YtpjfhdljagkefaaDoor.QPlain
end Go.Proofs.YtpjfhdljagkefaaDoor.QPlain
namespace Go.Proofs.YtpjfhdljagkefaaDoor.RPlain
open WPlain QPlain

/-- is the one at a place before the one at another? -/
def bfrAt (l : List Tx) (i k : Nat) : Bool := match l[i]?, l[k]? with | some X, some Y => bfr X Y | _, _ => false
/-- all of two places, in order -/
def pairsF (n : Nat) : List (Fin n × Fin n) := (List.finRange n).flatMap fun i => (List.finRange n).map fun k => (i, k)
/-- a place's bits, gathered pair by pair -/
def accF {n : Nat} (g : Nat → Nat → Bool) (i : Nat) (pre : List (Fin n × Fin n)) : Nat := pre.foldl (fun a p => if p.1.val = i ∧ g p.1.val p.2.val = true then a ||| 2 ^ p.2.val else a) 0
theorem accF_snoc {n : Nat} (g : Nat → Nat → Bool) (i : Nat) (pre : List (Fin n × Fin n)) (x : Fin n × Fin n) : accF g i (pre ++ [x]) = if x.1.val = i ∧ g x.1.val x.2.val = true then accF g i pre ||| 2 ^ x.2.val else accF g i pre := by simp [accF]
theorem snoc_ind {α : Type} {p : List α → Prop} (h0 : p []) (h1 : ∀ h e, p h → p (h ++ [e])) (h : List α) : p h := by
  rw [← List.reverse_reverse h]
  induction h.reverse with
  | nil => exact h0
  | cons e r ih => rw [List.reverse_cons]; exact h1 _ _ ih
theorem accF_bit {n : Nat} (g : Nat → Nat → Bool) (i j : Nat) (pre : List (Fin n × Fin n)) : (accF g i pre).testBit j = true ↔ ∃ p ∈ pre, p.1.val = i ∧ p.2.val = j ∧ g p.1.val p.2.val = true := by
  refine snoc_ind (p := fun pre => (accF g i pre).testBit j = true ↔ ∃ p ∈ pre, p.1.val = i ∧ p.2.val = j ∧ g p.1.val p.2.val = true) ?_ ?_ pre
  · simp [accF]
  · intro pre x ih
    rw [accF_snoc]
    constructor
    · intro h
      split at h
      · rename_i hx
        rw [Nat.testBit_or, Bool.or_eq_true, Nat.testBit_two_pow] at h
        rcases h with h | h
        · obtain ⟨p, hp, hq⟩ := ih.1 h
          exact ⟨p, List.mem_append_left _ hp, hq⟩
        · exact ⟨x, by simp, hx.1, by simpa using h, hx.2⟩
      · obtain ⟨p, hp, hq⟩ := ih.1 h
        exact ⟨p, List.mem_append_left _ hp, hq⟩
    · rintro ⟨p, hp, h1, h2, h3⟩
      rcases List.mem_append.1 hp with hp | hp
      · have := ih.2 ⟨p, hp, h1, h2, h3⟩
        split
        · rw [Nat.testBit_or, this]; rfl
        · exact this
      · rw [List.mem_singleton.1 hp] at h1 h2 h3
        rw [if_pos ⟨h1, h3⟩, Nat.testBit_or, Nat.testBit_two_pow]
        simp [h2]
theorem accF_lt {n : Nat} (g : Nat → Nat → Bool) (i : Nat) (pre : List (Fin n × Fin n)) : accF g i pre < 2 ^ n := by
  refine Nat.lt_pow_two_of_testBit _ fun j hj => ?_
  cases hc : (accF g i pre).testBit j with
  | false => rfl
  | true =>
    obtain ⟨p, _, _, h2, _⟩ := (accF_bit g i j pre).1 hc
    have := p.2.isLt
    omega
theorem bitsN_test (p : Nat → Bool) (n j : Nat) : (bitsN p n).testBit j = (decide (j < n) && p j) := by
  by_cases hj : j < n
  · rw [Nat.testBit_eq_decide_div_mod_eq, bitsN_bit p hj]
    cases p j <;> simp [hj]
  · have h1 := bitsN_lt p n
    have h2 : 2 ^ n ≤ 2 ^ j := Nat.pow_le_pow_right (by decide) (by omega)
    rw [Nat.testBit_lt_two_pow (by omega)]
    simp [hj]
theorem pairsF_mem {n : Nat} (p : Fin n × Fin n) : p ∈ pairsF n := by
  unfold pairsF
  rw [List.mem_flatMap]
  exact ⟨p.1, List.mem_finRange _, List.mem_map.2 ⟨p.2, List.mem_finRange _, rfl⟩⟩
theorem accF_all (g : Nat → Nat → Bool) {n i : Nat} (hi : i < n) : accF g i (pairsF n) = bitsN (g i) n := by
  refine Nat.eq_of_testBit_eq fun j => ?_
  rw [bitsN_test]
  by_cases hj : j < n ∧ g i j = true
  · rw [(accF_bit g i j (pairsF n)).2 ⟨(⟨i, hi⟩, ⟨j, hj.1⟩), pairsF_mem _, rfl, rfl, hj.2⟩]
    simp [hj.1, hj.2]
  · cases hc : (accF g i (pairsF n)).testBit j with
    | true =>
      obtain ⟨p, _, h1, h2, h3⟩ := (accF_bit g i j (pairsF n)).1 hc
      rw [h1, h2] at h3
      exact absurd ⟨h2 ▸ p.2.isLt, h3⟩ hj
    | false =>
      symm
      rw [Bool.and_eq_false_iff]
      by_cases h1 : j < n
      · right
        cases hg : g i j with
        | false => rfl
        | true => exact absurd ⟨h1, hg⟩ hj
      · left
        simp [h1]
theorem accF_after (l : List Tx) {i : Nat} (hi : i < l.length) : accF (bfrAt l) i (pairsF l.length) = afterN l l[i] := by
  rw [accF_all _ hi]
  unfold afterN
  refine bitsN_congr _ fun k hk => ?_
  unfold bfrAt
  rw [List.getElem?_eq_getElem hi, List.getElem?_eq_getElem hk]
/-- the pairs up to a place -/
def preF (n i : Nat) : List (Fin n × Fin n) := ((List.finRange n).take i).flatMap fun i => (List.finRange n).map fun k => (i, k)
def midF (n i k : Nat) (hi : i < n) : List (Fin n × Fin n) := preF n i ++ ((List.finRange n).take k).map fun k => (⟨i, hi⟩, k)
theorem preF_all (n : Nat) : preF n n = pairsF n := by
  unfold preF pairsF
  rw [List.take_of_length_le (by simp)]
theorem midF_zero {n i : Nat} (hi : i < n) : midF n i 0 hi = preF n i := by simp [midF]
theorem midF_all {n i : Nat} (hi : i < n) : midF n i n hi = preF n (i + 1) := by
  unfold midF preF
  rw [List.take_of_length_le (l := List.finRange n) (i := n) (by simp), List.take_succ_eq_append_getElem (l := List.finRange n) (i := i) (by simpa using hi), List.flatMap_append]
  simp
theorem midF_snoc {n i k : Nat} (hi : i < n) (hk : k < n) : midF n i (k + 1) hi = midF n i k hi ++ [(⟨i, hi⟩, ⟨k, hk⟩)] := by
  unfold midF
  rw [List.take_succ_eq_append_getElem (l := List.finRange n) (i := k) (by simpa using hk), List.map_append, ← List.append_assoc]
  simp
theorem preF_len (n i : Nat) (hi : i ≤ n) : (preF n i).length = i * n := by
  unfold preF
  rw [List.length_flatMap]
  simp only [List.length_map, List.length_finRange]
  rw [List.map_const', List.sum_replicate_nat]
  simp
  rw [Nat.min_eq_left hi]
theorem midF_len {n i k : Nat} (hi : i < n) (hk : k < n) : (midF n i k hi).length < n * n := by
  unfold midF
  rw [List.length_append, preF_len n i (by omega), List.length_map, List.length_take, List.length_finRange]
  have h1 : (i + 1) * n ≤ n * n := Nat.mul_le_mul_right n hi
  rw [Nat.add_mul] at h1
  omega
/-- rows of places -/
def aheadN (row : List Nat) : Nat := row.foldl (fun a p => a ||| 2 ^ p) 0
theorem aheadN_snoc (row : List Nat) (p : Nat) : aheadN (row ++ [p]) = aheadN row ||| 2 ^ p := by simp [aheadN]
theorem aheadN_bit (row : List Nat) (j : Nat) : (aheadN row).testBit j = true ↔ j ∈ row := by
  refine snoc_ind (p := fun row => (aheadN row).testBit j = true ↔ j ∈ row) ?_ ?_ row
  · simp [aheadN]
  · intro row p ih
    rw [aheadN_snoc, Nat.testBit_or, Bool.or_eq_true, ih, Nat.testBit_two_pow]
    simp [eq_comm]
theorem aheadN_lt {row : List Nat} {n : Nat} (h : ∀ p ∈ row, p < n) : aheadN row < 2 ^ n := by
  refine Nat.lt_pow_two_of_testBit _ fun j hj => ?_
  cases hc : (aheadN row).testBit j with
  | false => rfl
  | true =>
    have := h _ ((aheadN_bit row j).1 hc)
    omega
theorem afterN_test (l : List Tx) (X : Tx) {k : Nat} (hk : k < l.length) : (afterN l X).testBit k = bfr X l[k] := by
  unfold afterN
  rw [bitsN_test, List.getElem?_eq_getElem hk]
  simp [hk]
/-- does a place clash with what is ahead of it? -/
theorem clash_iff (l : List Tx) (row : List Nat) (hrow : ∀ b ∈ row, b < l.length) {p : Nat} (hp : p < l.length) :
    aheadN row &&& (2 ^ p ||| afterN l l[p]) = 0 ↔ ∀ b ∈ row, badP l (p : Int) (b : Int) = false := by
  have hb : ∀ b ∈ row, badP l (p : Int) (b : Int) = (2 ^ p ||| afterN l l[p]).testBit b := by
    intro b hb
    have hbl := hrow b hb
    unfold badP
    rw [Int.toNat_natCast, Int.toNat_natCast, List.getElem?_eq_getElem hp, List.getElem?_eq_getElem hbl, Nat.testBit_or, afterN_test l _ hbl, Nat.testBit_two_pow]
    congr 1
    exact decide_eq_decide.2 (by omega)
  constructor
  · intro h b hbm
    rw [hb b hbm]
    have h1 : (aheadN row &&& (2 ^ p ||| afterN l l[p])).testBit b = false := by rw [h]; exact Nat.zero_testBit b
    rw [Nat.testBit_and, (aheadN_bit row b).2 hbm, Bool.true_and] at h1
    exact h1
  · intro h
    refine Nat.eq_of_testBit_eq fun j => ?_
    rw [Nat.zero_testBit, Nat.testBit_and, Bool.and_eq_false_iff]
    cases hc : (aheadN row).testBit j with
    | false => exact .inl rfl
    | true =>
      have hm := (aheadN_bit row j).1 hc
      right
      rw [← hb j hm]
      exact h j hm
/-- a row keeps the order up to a place -/
def okTo (l : List Tx) (row : List Int) (i : Nat) : Prop := ∀ a (ha : a < row.length) b (hb : b < a), a < i → badP l row[a] (row[b]'(by omega)) = false
theorem okTo_zero (l : List Tx) (row : List Int) : okTo l row 0 := fun _ _ _ _ h => absurd h (Nat.not_lt_zero _)
theorem okTo_all {l : List Tx} {row : List Int} (h : okTo l row row.length) : keepsS l row = true := (keepsS_iff l row).2 fun a ha b hb => h a ha b hb ha
theorem okTo_next {l : List Tx} {row : List Int} {i : Nat} (hi : i < row.length) (h : okTo l row i) (hn : ∀ b (hb : b < i), badP l row[i] (row[b]'(by omega)) = false) : okTo l row (i + 1) := by
  intro a ha b hb hai
  by_cases h1 : a = i
  · subst h1; exact hn b hb
  · exact h a ha b hb (by omega)
theorem keeps_not {l : List Tx} {row : List Int} {i j : Nat} (hi : i < row.length) (hj : j < i) (hb : badP l row[i] (row[j]'(by omega)) = true) : keepsS l row = false := by
  cases hk : keepsS l row with
  | false => rfl
  | true => rw [(keepsS_iff l row).1 hk i hi j hj] at hb; cases hb
/-- well-formed events have few names -/
theorem table_six {h : List Ev} (h0 : (checkS h).2 = 0) : (tableS h).length ≤ 6 := by
  obtain ⟨hr, _, _⟩ := check_agree h0
  rw [tableS_len]
  unfold right at hr
  simp only [Bool.and_eq_true, decide_eq_true_eq] at hr
  exact hr.2
end Go.Proofs.YtpjfhdljagkefaaDoor.RPlain
/- Plain words: all rows that keep an order. -/
namespace Go.Proofs.YtpjfhdljagkefaaDoor.RPlain

/-- all rows of so many places below n, those first whose first other place is less -/
def allT (n : Nat) : Nat → List (List Nat)
  | 0 => [[]]
  | s + 1 => (List.range n).flatMap fun k => (allT n s).map (k :: ·)
/-- .. that go on from a row, by places that may come behind what is there -/
def extP (n : Nat) (p : List Nat → Nat → Bool) : Nat → List Nat → List (List Nat)
  | 0, row => [row]
  | s + 1, row => (List.range n).flatMap fun k => if p row k = true then extP n p s (row ++ [k]) else []
def stepsP (p : List Nat → Nat → Bool) : List Nat → List Nat → Bool
  | _, [] => true
  | row, k :: t => p row k && stepsP p (row ++ [k]) t
theorem ext_filter (n : Nat) (p : List Nat → Nat → Bool) : ∀ (s : Nat) (row : List Nat), extP n p s row = ((allT n s).filter (stepsP p row)).map (row ++ ·) := by
  intro s
  induction s with
  | zero =>
    intro row
    show [row] = (([[]] : List (List Nat)).filter (stepsP p row)).map (row ++ ·)
    have h1 : ([[]] : List (List Nat)).filter (stepsP p row) = [[]] := rfl
    rw [h1, List.map_cons, List.map_nil, List.append_nil]
  | succ s ih =>
    intro row
    rw [extP, allT, List.filter_flatMap, List.map_flatMap]
    refine congrArg (fun f => (List.range n).flatMap f) (funext fun k => ?_)
    rw [List.filter_map, List.map_map]
    by_cases hp : p row k = true
    · rw [if_pos hp, ih]
      have h1 : (stepsP p row ∘ (k :: ·)) = stepsP p (row ++ [k]) := by
        funext t
        show stepsP p row (k :: t) = _
        rw [stepsP, hp, Bool.true_and]
      have h2 : ((row ++ ·) ∘ (k :: ·)) = (row ++ [k] ++ ·) := by
        funext t
        show row ++ (k :: t) = _
        rw [List.append_assoc]; rfl
      rw [h1, h2]
    · rw [if_neg hp]
      have h1 : (allT n s).filter (stepsP p row ∘ (k :: ·)) = [] := by
        rw [List.filter_eq_nil_iff]
        intro t _ hc
        have hc' : stepsP p row (k :: t) = true := hc
        rw [stepsP, Bool.and_eq_true] at hc'
        exact hp hc'.1
      rw [h1]; rfl
theorem allT_mem {n : Nat} : ∀ {s : Nat} {t : List Nat}, t ∈ allT n s ↔ t.length = s ∧ ∀ k ∈ t, k < n := by
  intro s
  induction s with
  | zero =>
    intro t
    rw [allT, List.mem_singleton]
    constructor
    · rintro rfl; exact ⟨rfl, fun k hk => by cases hk⟩
    · rintro ⟨h, _⟩; exact List.length_eq_zero_iff.1 h
  | succ s ih =>
    intro t
    rw [allT, List.mem_flatMap]
    constructor
    · rintro ⟨k, hk, ht⟩
      obtain ⟨u, hu, rfl⟩ := List.mem_map.1 ht
      obtain ⟨h1, h2⟩ := ih.1 hu
      refine ⟨by simp [h1], fun x hx => ?_⟩
      rcases List.mem_cons.1 hx with rfl | hx
      · exact List.mem_range.1 hk
      · exact h2 x hx
    · rintro ⟨h1, h2⟩
      cases t with
      | nil => simp at h1
      | cons k u =>
        exact ⟨k, List.mem_range.2 (h2 k (List.mem_cons_self ..)), List.mem_map.2 ⟨u, ih.2 ⟨by simpa using h1, fun x hx => h2 x (List.mem_cons_of_mem _ hx)⟩, rfl⟩⟩
/-- an order: bit b of number a is 1, if a is before b -/
def aft (L : List Nat) (a b : Nat) : Bool := (L.getD a 0).testBit b
def nxt (L : List Nat) (row : List Nat) (k : Nat) : Bool := row.all fun b => !decide (k = b) && !aft L k b
def allS (L : List Nat) : List (List Nat) := extP L.length (nxt L) L.length []
/-- may b stand ahead of a? -/
def goes (L : List Nat) (b a : Nat) : Prop := a ≠ b ∧ aft L a b = false
theorem nxt_iff (L row : List Nat) (k : Nat) : nxt L row k = true ↔ ∀ b ∈ row, goes L b k := by
  unfold nxt goes
  rw [List.all_eq_true]
  refine forall_congr' fun b => forall_congr' fun _ => ?_
  simp
theorem steps_iff (L : List Nat) : ∀ (t row : List Nat), stepsP (nxt L) row t = true ↔ t.Pairwise (goes L) ∧ ∀ b ∈ row, ∀ a ∈ t, goes L b a := by
  intro t
  induction t with
  | nil => intro row; simp [stepsP]
  | cons k r ih =>
    intro row
    rw [stepsP, Bool.and_eq_true, nxt_iff, ih, List.pairwise_cons]
    constructor
    · rintro ⟨h1, h2, h3⟩
      refine ⟨⟨fun a ha => h3 k (by simp) a ha, h2⟩, fun b hb a ha => ?_⟩
      rcases List.mem_cons.1 ha with rfl | ha
      · exact h1 b hb
      · exact h3 b (List.mem_append_left _ hb) a ha
    · rintro ⟨⟨h1, h2⟩, h3⟩
      refine ⟨fun b hb => h3 b hb k (List.mem_cons_self ..), h2, fun b hb a ha => ?_⟩
      rcases List.mem_append.1 hb with hb | hb
      · exact h3 b hb a (List.mem_cons_of_mem _ ha)
      · rw [List.mem_singleton.1 hb]; exact h1 a ha
theorem allS_filter (L : List Nat) : allS L = (allT L.length L.length).filter (stepsP (nxt L) []) := by
  unfold allS
  rw [ext_filter]
  simp
theorem allS_mem {L row : List Nat} : row ∈ allS L ↔ row.length = L.length ∧ (∀ k ∈ row, k < L.length) ∧ row.Pairwise (goes L) := by
  rw [allS_filter, List.mem_filter, allT_mem, steps_iff]
  simp [and_assoc]
/-- rows by any other rule, if it lets through the same whole rows -/
theorem ext_same (n : Nat) {p q : List Nat → Nat → Bool} (h : ∀ t : List Nat, t.length = n → (∀ k ∈ t, k < n) → stepsP p [] t = stepsP q [] t) : extP n p n [] = extP n q n [] := by
  rw [ext_filter, ext_filter]
  congr 1
  refine List.filter_congr fun t ht => ?_
  obtain ⟨h1, h2⟩ := allT_mem.1 ht
  exact h t h1 h2
/-- the ways from place to place; is there one back? -/
def Edge (L : List Nat) (a b : Nat) : Prop := a < L.length ∧ b < L.length ∧ aft L a b = true
def Free (L : List Nat) : Prop := ∀ a, ¬ Relation.TransGen (Edge L) a a
theorem has_min {L S : List Nat} (hf : Free L) (hS : ∀ x ∈ S, x < L.length) : ∀ (m : Nat) (x : Nat), x ∈ S → (S.countP fun y => @decide (Relation.TransGen (Edge L) y x) (Classical.propDecidable _)) ≤ m → ∃ z ∈ S, ∀ y ∈ S, aft L y z = false := by
  intro m
  induction m with
  | zero =>
    intro x hx hc
    refine ⟨x, hx, fun y hy => ?_⟩
    have h0 : (S.countP fun y => @decide (Relation.TransGen (Edge L) y x) (Classical.propDecidable _)) = 0 := by omega
    rw [List.countP_eq_zero] at h0
    have h1 := h0 y hy
    cases hb : aft L y x with
    | false => rfl
    | true => exact absurd (@decide_eq_true _ (Classical.propDecidable _) (Relation.TransGen.single ⟨hS y hy, hS x hx, hb⟩)) h1
  | succ m ih =>
    intro x hx hc
    by_cases hall : ∀ y ∈ S, aft L y x = false
    · exact ⟨x, hx, hall⟩
    · simp only [Classical.not_forall] at hall
      obtain ⟨y, hy, hb⟩ := hall
      have hb' : aft L y x = true := by simpa using hb
      have he : Edge L y x := ⟨hS y hy, hS x hx, hb'⟩
      refine ih y hy ?_
      have hlt : (S.countP fun z => @decide (Relation.TransGen (Edge L) z y) (Classical.propDecidable _)) < (S.countP fun z => @decide (Relation.TransGen (Edge L) z x) (Classical.propDecidable _)) := by
        have hmono : ∀ (T : List Nat), (T.countP fun z => @decide (Relation.TransGen (Edge L) z y) (Classical.propDecidable _)) ≤ (T.countP fun z => @decide (Relation.TransGen (Edge L) z x) (Classical.propDecidable _)) := fun T =>
          List.countP_mono_left fun z _ hz => @decide_eq_true _ (Classical.propDecidable _) ((@of_decide_eq_true _ (Classical.propDecidable _) hz).tail he)
        obtain ⟨s, t, rfl⟩ := List.append_of_mem hy
        rw [List.countP_append, List.countP_append, List.countP_cons, List.countP_cons]
        have h1 := hmono s
        have h2 := hmono t
        have h3 : @decide (Relation.TransGen (Edge L) y y) (Classical.propDecidable _) = false := @decide_eq_false _ (Classical.propDecidable _) (hf y)
        have h4 : @decide (Relation.TransGen (Edge L) y x) (Classical.propDecidable _) = true := @decide_eq_true _ (Classical.propDecidable _) (.single he)
        rw [h3, h4]
        simp
        omega
      omega
theorem goes_nodup {L row : List Nat} (h : row.Pairwise (goes L)) : row.Nodup := h.imp fun h => fun hc => h.1 hc.symm
theorem nodup_le : ∀ (l1 l2 : List Nat), l1.Nodup → (∀ x ∈ l1, x ∈ l2) → l1.length ≤ l2.length := by
  intro l1
  induction l1 with
  | nil => intro _ _ _; simp
  | cons x r ih =>
    intro l2 hn hs
    obtain ⟨hx, hr⟩ := List.nodup_cons.1 hn
    have h1 := ih (l2.erase x) hr (fun y hy => (List.mem_erase_of_ne (show y ≠ x from fun hc => hx (by rw [← hc]; exact hy))).2 (hs y (List.mem_cons_of_mem _ hy)))
    have hm := hs x (List.mem_cons_self ..)
    have h2 := List.length_erase_of_mem hm
    have h3 := List.length_pos_of_mem hm
    rw [List.length_cons]
    omega
theorem nodup_full (row : List Nat) (n : Nat) (hn : row.Nodup) (hlt : ∀ k ∈ row, k < n) (hl : row.length = n) (a : Nat) (ha : a < n) : a ∈ row := by
  by_cases hm : a ∈ row
  · exact hm
  · have h := nodup_le (a :: row) (List.range n) (List.nodup_cons.2 ⟨hm, hn⟩) (fun x hx => by
      rcases List.mem_cons.1 hx with rfl | hx
      · exact List.mem_range.2 ha
      · exact List.mem_range.2 (hlt x hx))
    rw [List.length_cons, List.length_range] at h
    omega
/-- places without any order: as many rows as there are ways to turn them -/
def factN : Nat → Nat
  | 0 => 1
  | n + 1 => factN n * (n + 1)
theorem sum_ite (q : Nat → Bool) (c : Nat) : ∀ l : List Nat, (l.map fun k => if q k = true then c else 0).sum = (l.filter q).length * c := by
  intro l
  induction l with
  | nil => simp
  | cons x r ih =>
    rw [List.map_cons, List.sum_cons, ih, List.filter_cons]
    split
    · rw [List.length_cons, Nat.succ_mul, Nat.add_comm]
    · rw [Nat.zero_add]
theorem filter_both (q : Nat → Bool) : ∀ l : List Nat, (l.filter fun k => !q k).length + (l.filter q).length = l.length := by
  intro l
  induction l with
  | nil => rfl
  | cons x r ih =>
    rw [List.filter_cons, List.filter_cons, List.length_cons]
    cases q x <;> simp <;> omega
end Go.Proofs.YtpjfhdljagkefaaDoor.RPlain
