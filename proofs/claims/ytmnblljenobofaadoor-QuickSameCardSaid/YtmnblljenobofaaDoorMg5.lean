/- Merged: TabK, UnqA, OrdA, OrdB, OrdD. -/
import Derived.Test.YtmnblljenobofaaDoorTabD
import Derived.Test.YtmnblljenobofaaDoorMg1
import Derived.Test.YtmnblljenobofaaDoorMg2
import Derived.Deep.QuietTactic
import Derived.BigQuiet
import Derived.Laws.StructEq
/- The walks of the reference's Same, of isSame, of slices.EqualFunc with it, and of Like. (Written by gen_tabK.py.) -/
namespace Go.Proofs.YtmnblljenobofaaDoor.WPlain
end Go.Proofs.YtmnblljenobofaaDoor.WPlain
namespace Go.Proofs.YtmnblljenobofaaDoor.RPlain
end Go.Proofs.YtmnblljenobofaaDoor.RPlain
namespace Go.Proofs.YtmnblljenobofaaDoor
open Go.RowKit WPlain RPlain

theorem Opv.drewN {w : World} {v : Value} {l : List Rwo} (h : Opv w v l) (n : Nat) : Opv (w.drewN n) v l := h
theorem Txs.drewN {w : World} {v : Value} {l : List Tx} (h : Txs w v l) (n : Nat) : Txs (w.drewN n) v l := h
theorem Txs.opened {w : World} {v : Value} {l : List Tx} (h : Txs w v l) (h0 : 0 < l.length) : ∃ b o c, v = .slice (some ⟨b, o, none⟩) l.length c := by
  obtain ⟨ps, rfl, hr, _⟩ := h
  rcases hr with ⟨rfl, _⟩ | ⟨_, b, o, c, rfl, _⟩
  · simp at h0
  · exact ⟨b, o, c, by simp⟩
theorem below_drN {B : Nat} {w w' : World} (h : Below B w w') (n : Nat) : Below B w (w'.drewN n) := ⟨h.os, h.tape, h.output, h.size, h.block⟩
end Go.Proofs.YtmnblljenobofaaDoor
/- Plain words: values that tell who wrote them. -/
namespace Go.Proofs.YtmnblljenobofaaDoor.WPlain
end Go.Proofs.YtmnblljenobofaaDoor.WPlain
namespace Go.Proofs.YtmnblljenobofaaDoor.QPlain
end Go.Proofs.YtmnblljenobofaaDoor.QPlain
namespace Go.Proofs.YtmnblljenobofaaDoor.RPlain
open WPlain QPlain

def ownsB (ops : List Rwo) (v : Int) : Bool := ops.any fun o => o.w && decide (o.v = v)
def writesB (ops : List Rwo) (v x : Int) : Bool := ops.any fun o => o.w && decide (o.v = v) && decide (o.x = x)
def uniqueS (l : List Tx) : Bool := (List.range l.length).all fun i => (opsAt l i).all fun o => !o.w || (!decide (o.x = 0) && (List.range l.length).all fun k => decide (k = i) || !writesB (opsAt l k) o.v o.x)
def srcS (l : List Tx) (t i : Nat) : Int := match (opsAt l t)[i]? with
  | none => 0
  | some o => if o.w = true ∨ ownsB ((opsAt l t).take i) o.v = true then (t : Int) else if o.x = 0 then -1
    else match (List.range l.length).find? (fun k => !decide (k = t) && writesB (opsAt l k) o.v o.x) with | some k => (k : Int) | none => -2
def sourcesS (l : List Tx) : List (List Int) := (List.range l.length).map fun t => (List.range (opsAt l t).length).map (srcS l t)

theorem writes_iff {ops : List Rwo} {v x : Int} : writesB ops v x = true ↔ ∃ o ∈ ops, o.w = true ∧ o.v = v ∧ o.x = x := by
  unfold writesB
  rw [List.any_eq_true]
  simp [and_assoc]
theorem owns_iff {ops : List Rwo} {v : Int} : ownsB ops v = true ↔ ∃ o ∈ ops, o.w = true ∧ o.v = v := by
  unfold ownsB
  rw [List.any_eq_true]
  simp
/-- values are unique -/
structure Uniq (l : List Tx) : Prop where
  zero : ∀ i, i < l.length → ∀ o ∈ opsAt l i, o.w = true → o.x ≠ 0
  one : ∀ i k, i < l.length → k < l.length → ∀ v x, writesB (opsAt l i) v x = true → writesB (opsAt l k) v x = true → i = k
theorem unique_iff {l : List Tx} : uniqueS l = true ↔ Uniq l := by
  unfold uniqueS
  simp only [List.all_eq_true, List.mem_range, Bool.or_eq_true, Bool.and_eq_true, Bool.not_eq_true', decide_eq_true_eq, decide_eq_false_iff_not]
  constructor
  · intro h
    refine ⟨fun i hi o ho hw => ?_, fun i k hi hk v x h1 h2 => ?_⟩
    · rcases h i hi o ho with hc | hc
      · rw [hw] at hc; cases hc
      · exact hc.1
    · obtain ⟨o, ho, hw, hv, hx⟩ := writes_iff.1 h1
      rcases h i hi o ho with hc | hc
      · rw [hw] at hc; cases hc
      · rcases hc.2 k hk with h3 | h3
        · exact h3.symm
        · rw [hv, hx, h2] at h3; cases h3
  · intro h i hi o ho
    cases hw : o.w with
    | false => exact .inl rfl
    | true =>
      refine .inr ⟨h.zero i hi o ho hw, fun k hk => ?_⟩
      cases hb : writesB (opsAt l k) o.v o.x with
      | false => exact .inr rfl
      | true => exact .inl (h.one k i hk hi _ _ hb (writes_iff.2 ⟨o, ho, hw, rfl, rfl⟩))
theorem writes_pre {a b : List Rwo} (h : a <+: b) {v x : Int} (hw : writesB a v x = true) : writesB b v x = true := by
  obtain ⟨o, ho, hp⟩ := writes_iff.1 hw
  exact writes_iff.2 ⟨o, h.subset ho, hp⟩
theorem find_one {n t : Nat} {p : Nat → Bool} {k : Nat} (hk : k < n) (hne : k ≠ t) (hp : p k = true) (hone : ∀ j, j < n → p j = true → j = k) : (List.range n).find? (fun k => !decide (k = t) && p k) = some k := by
  have hsome : ((List.range n).find? (fun k => !decide (k = t) && p k)).isSome = true := by
    rw [List.find?_isSome]
    exact ⟨k, List.mem_range.2 hk, by simp [hne, hp]⟩
  obtain ⟨j, hj⟩ := Option.isSome_iff_exists.1 hsome
  have h1 := List.find?_some hj
  have h2 := List.mem_range.1 (List.mem_of_find?_eq_some hj)
  rw [Bool.and_eq_true] at h1
  rw [hj, hone j h2 h1.2]
end Go.Proofs.YtmnblljenobofaaDoor.RPlain
/- Plain words: what is before what. -/
namespace Go.Proofs.YtmnblljenobofaaDoor.WPlain
end Go.Proofs.YtmnblljenobofaaDoor.WPlain
namespace Go.Proofs.YtmnblljenobofaaDoor.QPlain
end Go.Proofs.YtmnblljenobofaaDoor.QPlain
namespace Go.Proofs.YtmnblljenobofaaDoor.RPlain
open WPlain QPlain

/-- is one transaction before another? -/
def bfr (a b : Tx) : Bool := (decide (a.s = 2) || decide (a.s = 3)) && decide (a.l < b.f)
theorem bfr_self (h : List Ev) {t : Int} (ht : t ∈ namesOf h) : bfr (txOf h t) (txOf h t) = false := by
  have := (fst_lst h t ht).1
  unfold bfr txOf
  simp
  omega
theorem bfr_trans (h : List Ev) {a b c : Int} (hb : b ∈ namesOf h) (h1 : bfr (txOf h a) (txOf h b) = true) (h2 : bfr (txOf h b) (txOf h c) = true) : bfr (txOf h a) (txOf h c) = true := by
  have := (fst_lst h b hb).1
  unfold bfr txOf at *
  simp only [Bool.and_eq_true, decide_eq_true_eq] at *
  exact ⟨h1.1, by omega⟩
end Go.Proofs.YtmnblljenobofaaDoor.RPlain
/- Plain words: what is before what, as bits; up to a place; rows that keep it. -/
namespace Go.Proofs.YtmnblljenobofaaDoor.WPlain
end Go.Proofs.YtmnblljenobofaaDoor.WPlain
namespace Go.Proofs.YtmnblljenobofaaDoor.QPlain
end Go.Proofs.YtmnblljenobofaaDoor.QPlain
namespace Go.Proofs.YtmnblljenobofaaDoor.RPlain
open WPlain QPlain

/-- the number whose bit k is p k -/
def bitsN (p : Nat → Bool) : Nat → Nat
  | 0 => 0
  | n + 1 => bitsN p n + (if p n = true then 2 ^ n else 0)
theorem bitsN_lt (p : Nat → Bool) : ∀ n, bitsN p n < 2 ^ n := by
  intro n
  induction n with
  | zero => simp [bitsN]
  | succ n ih => unfold bitsN; rw [Nat.pow_succ]; split <;> omega
theorem bitsN_congr {p q : Nat → Bool} : ∀ n, (∀ k, k < n → p k = q k) → bitsN p n = bitsN q n := by
  intro n
  induction n with
  | zero => intro _; rfl
  | succ n ih => intro h; unfold bitsN; rw [ih (fun k hk => h k (by omega)), h n (by omega)]
theorem bitsN_mod (p : Nat → Bool) {m : Nat} : ∀ n, m ≤ n → bitsN p n % 2 ^ m = bitsN p m := by
  intro n
  induction n with
  | zero => intro h; rw [show m = 0 from by omega]; rfl
  | succ n ih =>
    intro h
    by_cases hm : m = n + 1
    · rw [hm]; exact Nat.mod_eq_of_lt (bitsN_lt p (n + 1))
    · have hmn : m ≤ n := by omega
      rw [show bitsN p (n + 1) = bitsN p n + (if p n = true then 2 ^ n else 0) from rfl]
      have hd : (if p n = true then 2 ^ n else 0) % 2 ^ m = 0 := by
        split
        · obtain ⟨d, rfl⟩ : ∃ d, n = m + d := ⟨n - m, by omega⟩
          rw [Nat.pow_add, Nat.mul_mod_right]
        · exact Nat.zero_mod _
      rw [Nat.add_mod, hd, Nat.add_zero, Nat.mod_mod, ih hmn]
theorem bitsN_bit (p : Nat → Bool) {n k : Nat} (hk : k < n) : bitsN p n / 2 ^ k % 2 = if p k = true then 1 else 0 := by
  have h1 := bitsN_mod p (m := k + 1) n (by omega)
  have h2 : bitsN p n / 2 ^ k % 2 = bitsN p n % 2 ^ (k + 1) / 2 ^ k := by rw [Nat.pow_succ, Nat.mod_mul_right_div_self]
  rw [h2, h1, show bitsN p (k + 1) = bitsN p k + (if p k = true then 2 ^ k else 0) from rfl]
  have h3 := bitsN_lt p k
  split
  · rw [Nat.add_div_right _ (Nat.two_pow_pos k), Nat.div_eq_of_lt h3]
  · rw [Nat.add_zero, Nat.div_eq_of_lt h3]
/-- a transaction's bits, in a table; those of all -/
def afterN (l : List Tx) (X : Tx) : Nat := bitsN (fun k => match l[k]? with | some Y => bfr X Y | none => false) l.length
def afterS (l : List Tx) : List Nat := l.map (afterN l)
theorem afterN_lt (l : List Tx) (X : Tx) : afterN l X < 2 ^ l.length := bitsN_lt _ _
theorem afterS_len (l : List Tx) : (afterS l).length = l.length := List.length_map _
/-- a row of places: is any not there; is any there twice, or behind one that it is before -/
def thereS (l : List Tx) (row : List Int) : Bool := row.all fun i => decide (0 ≤ i) && decide (i < l.length)
def badP (l : List Tx) (a b : Int) : Bool := decide (a = b) || (match l[a.toNat]?, l[b.toNat]? with | some X, some Y => bfr X Y | _, _ => false)
def keepsS (l : List Tx) (row : List Int) : Bool := (List.range row.length).all fun i => (row.take i).all fun b => !(badP l (row.getD i 0) b)
theorem thereS_iff (l : List Tx) (row : List Int) : thereS l row = true ↔ ∀ i ∈ row, 0 ≤ i ∧ i < l.length := by
  unfold thereS
  simp [List.all_eq_true]
theorem keepsS_iff (l : List Tx) (row : List Int) : keepsS l row = true ↔ ∀ i (hi : i < row.length) j (hj : j < i), badP l row[i] (row[j]'(by omega)) = false := by
  unfold keepsS
  rw [List.all_eq_true]
  constructor
  · intro h i hi j hj
    have h1 := h i (List.mem_range.2 hi)
    rw [List.all_eq_true] at h1
    have h2 := h1 (row[j]'(by omega)) (List.mem_take_iff_getElem.2 ⟨j, by omega, rfl⟩)
    rw [List.getD_eq_getElem?_getD, List.getElem?_eq_getElem hi] at h2
    simpa using h2
  · intro h i hi
    rw [List.all_eq_true]
    intro b hb
    obtain ⟨j, hj, rfl⟩ := List.mem_take_iff_getElem.1 hb
    have hi' := List.mem_range.1 hi
    rw [List.getD_eq_getElem?_getD, List.getElem?_eq_getElem hi']
    simpa using h i hi' j (by omega)
end Go.Proofs.YtmnblljenobofaaDoor.RPlain
/- Plain words: the bits of what is before what, gathered pair by pair; rows of places as bits. -/
namespace Go.Proofs.YtmnblljenobofaaDoor.WPlain
end Go.Proofs.YtmnblljenobofaaDoor.WPlain
namespace Go.Proofs.YtmnblljenobofaaDoor.QPlain
end Go.Proofs.YtmnblljenobofaaDoor.QPlain
namespace Go.Proofs.YtmnblljenobofaaDoor.RPlain
open WPlain QPlain

/-- is the one at a place before the one at another? -/
def bfrAt (l : List Tx) (i k : Nat) : Bool := match l[i]?, l[k]? with | some X, some Y => bfr X Y | _, _ => false
/-- all of two places, in order -/
def pairsF (n : Nat) : List (Fin n × Fin n) := (List.finRange n).flatMap fun i => (List.finRange n).map fun k => (i, k)
/-- a place's bits, gathered pair by pair -/
def accF {n : Nat} (g : Nat → Nat → Bool) (i : Nat) (pre : List (Fin n × Fin n)) : Nat := pre.foldl (fun a p => if p.1.val = i ∧ g p.1.val p.2.val = true then a ||| 2 ^ p.2.val else a) 0
theorem accF_snoc {n : Nat} (g : Nat → Nat → Bool) (i : Nat) (pre : List (Fin n × Fin n)) (x : Fin n × Fin n) : accF g i (pre ++ [x]) = if x.1.val = i ∧ g x.1.val x.2.val = true then accF g i pre ||| 2 ^ x.2.val else accF g i pre := by simp [accF]
theorem snoc_ind {α : Type} {p : List α → Prop} (h0 : p []) (h1 : ∀ h e, p h → p (h ++ [e])) (h : List α) : p h := by
  rw [← List.reverse_reverse h]
  induction h.reverse with
  | nil => exact h0
  | cons e r ih => rw [List.reverse_cons]; exact h1 _ _ ih
theorem accF_bit {n : Nat} (g : Nat → Nat → Bool) (i j : Nat) (pre : List (Fin n × Fin n)) : (accF g i pre).testBit j = true ↔ ∃ p ∈ pre, p.1.val = i ∧ p.2.val = j ∧ g p.1.val p.2.val = true := by
  refine snoc_ind (p := fun pre => (accF g i pre).testBit j = true ↔ ∃ p ∈ pre, p.1.val = i ∧ p.2.val = j ∧ g p.1.val p.2.val = true) ?_ ?_ pre
  · simp [accF]
  · intro pre x ih
    rw [accF_snoc]
    constructor
    · intro h
      split at h
      · rename_i hx
        rw [Nat.testBit_or, Bool.or_eq_true, Nat.testBit_two_pow] at h
        rcases h with h | h
        · obtain ⟨p, hp, hq⟩ := ih.1 h
          exact ⟨p, List.mem_append_left _ hp, hq⟩
        · exact ⟨x, by simp, hx.1, by simpa using h, hx.2⟩
      · obtain ⟨p, hp, hq⟩ := ih.1 h
        exact ⟨p, List.mem_append_left _ hp, hq⟩
    · rintro ⟨p, hp, h1, h2, h3⟩
      rcases List.mem_append.1 hp with hp | hp
      · have := ih.2 ⟨p, hp, h1, h2, h3⟩
        split
        · rw [Nat.testBit_or, this]; rfl
        · exact this
      · rw [List.mem_singleton.1 hp] at h1 h2 h3
        rw [if_pos ⟨h1, h3⟩, Nat.testBit_or, Nat.testBit_two_pow]
        simp [h2]
theorem accF_lt {n : Nat} (g : Nat → Nat → Bool) (i : Nat) (pre : List (Fin n × Fin n)) : accF g i pre < 2 ^ n := by
  refine Nat.lt_pow_two_of_testBit _ fun j hj => ?_
  cases hc : (accF g i pre).testBit j with
  | false => rfl
  | true =>
    obtain ⟨p, _, _, h2, _⟩ := (accF_bit g i j pre).1 hc
    have := p.2.isLt
    omega
theorem bitsN_test (p : Nat → Bool) (n j : Nat) : (bitsN p n).testBit j = (decide (j < n) && p j) := by
  by_cases hj : j < n
  · rw [Nat.testBit_eq_decide_div_mod_eq, bitsN_bit p hj]
    cases p j <;> simp [hj]
  · have h1 := bitsN_lt p n
    have h2 : 2 ^ n ≤ 2 ^ j := Nat.pow_le_pow_right (by decide) (by omega)
    rw [Nat.testBit_lt_two_pow (by omega)]
    simp [hj]
theorem pairsF_mem {n : Nat} (p : Fin n × Fin n) : p ∈ pairsF n := by
  unfold pairsF
  rw [List.mem_flatMap]
  exact ⟨p.1, List.mem_finRange _, List.mem_map.2 ⟨p.2, List.mem_finRange _, rfl⟩⟩
theorem accF_all (g : Nat → Nat → Bool) {n i : Nat} (hi : i < n) : accF g i (pairsF n) = bitsN (g i) n := by
  refine Nat.eq_of_testBit_eq fun j => ?_
  rw [bitsN_test]
  by_cases hj : j < n ∧ g i j = true
  · rw [(accF_bit g i j (pairsF n)).2 ⟨(⟨i, hi⟩, ⟨j, hj.1⟩), pairsF_mem _, rfl, rfl, hj.2⟩]
    simp [hj.1, hj.2]
  · cases hc : (accF g i (pairsF n)).testBit j with
    | true =>
      obtain ⟨p, _, h1, h2, h3⟩ := (accF_bit g i j (pairsF n)).1 hc
      rw [h1, h2] at h3
      exact absurd ⟨h2 ▸ p.2.isLt, h3⟩ hj
    | false =>
      symm
      rw [Bool.and_eq_false_iff]
      by_cases h1 : j < n
      · right
        cases hg : g i j with
        | false => rfl
        | true => exact absurd ⟨h1, hg⟩ hj
      · left
        simp [h1]
theorem accF_after (l : List Tx) {i : Nat} (hi : i < l.length) : accF (bfrAt l) i (pairsF l.length) = afterN l l[i] := by
  rw [accF_all _ hi]
  unfold afterN
  refine bitsN_congr _ fun k hk => ?_
  unfold bfrAt
  rw [List.getElem?_eq_getElem hi, List.getElem?_eq_getElem hk]
/-- the pairs up to a place -/
def preF (n i : Nat) : List (Fin n × Fin n) := ((List.finRange n).take i).flatMap fun i => (List.finRange n).map fun k => (i, k)
def midF (n i k : Nat) (hi : i < n) : List (Fin n × Fin n) := preF n i ++ ((List.finRange n).take k).map fun k => (⟨i, hi⟩, k)
theorem preF_all (n : Nat) : preF n n = pairsF n := by
  unfold preF pairsF
  rw [List.take_of_length_le (by simp)]
theorem midF_zero {n i : Nat} (hi : i < n) : midF n i 0 hi = preF n i := by simp [midF]
theorem midF_all {n i : Nat} (hi : i < n) : midF n i n hi = preF n (i + 1) := by
  unfold midF preF
  rw [List.take_of_length_le (l := List.finRange n) (i := n) (by simp), List.take_succ_eq_append_getElem (l := List.finRange n) (i := i) (by simpa using hi), List.flatMap_append]
  simp
theorem midF_snoc {n i k : Nat} (hi : i < n) (hk : k < n) : midF n i (k + 1) hi = midF n i k hi ++ [(⟨i, hi⟩, ⟨k, hk⟩)] := by
  unfold midF
  rw [List.take_succ_eq_append_getElem (l := List.finRange n) (i := k) (by simpa using hk), List.map_append, ← List.append_assoc]
  simp
theorem preF_len (n i : Nat) (hi : i ≤ n) : (preF n i).length = i * n := by
  unfold preF
  rw [List.length_flatMap]
  simp only [List.length_map, List.length_finRange]
  rw [List.map_const', List.sum_replicate_nat]
  simp
  rw [Nat.min_eq_left hi]
theorem midF_len {n i k : Nat} (hi : i < n) (hk : k < n) : (midF n i k hi).length < n * n := by
  unfold midF
  rw [List.length_append, preF_len n i (by omega), List.length_map, List.length_take, List.length_finRange]
  have h1 : (i + 1) * n ≤ n * n := Nat.mul_le_mul_right n hi
  rw [Nat.add_mul] at h1
  omega
/-- rows of places -/
def aheadN (row : List Nat) : Nat := row.foldl (fun a p => a ||| 2 ^ p) 0
theorem aheadN_snoc (row : List Nat) (p : Nat) : aheadN (row ++ [p]) = aheadN row ||| 2 ^ p := by simp [aheadN]
theorem aheadN_bit (row : List Nat) (j : Nat) : (aheadN row).testBit j = true ↔ j ∈ row := by
  refine snoc_ind (p := fun row => (aheadN row).testBit j = true ↔ j ∈ row) ?_ ?_ row
  · simp [aheadN]
  · intro row p ih
    rw [aheadN_snoc, Nat.testBit_or, Bool.or_eq_true, ih, Nat.testBit_two_pow]
    simp [eq_comm]
theorem aheadN_lt {row : List Nat} {n : Nat} (h : ∀ p ∈ row, p < n) : aheadN row < 2 ^ n := by
  refine Nat.lt_pow_two_of_testBit _ fun j hj => ?_
  cases hc : (aheadN row).testBit j with
  | false => rfl
  | true =>
    have := h _ ((aheadN_bit row j).1 hc)
    omega
theorem afterN_test (l : List Tx) (X : Tx) {k : Nat} (hk : k < l.length) : (afterN l X).testBit k = bfr X l[k] := by
  unfold afterN
  rw [bitsN_test, List.getElem?_eq_getElem hk]
  simp [hk]
/-- does a place clash with what is ahead of it? -/
theorem clash_iff (l : List Tx) (row : List Nat) (hrow : ∀ b ∈ row, b < l.length) {p : Nat} (hp : p < l.length) :
    aheadN row &&& (2 ^ p ||| afterN l l[p]) = 0 ↔ ∀ b ∈ row, badP l (p : Int) (b : Int) = false := by
  have hb : ∀ b ∈ row, badP l (p : Int) (b : Int) = (2 ^ p ||| afterN l l[p]).testBit b := by
    intro b hb
    have hbl := hrow b hb
    unfold badP
    rw [Int.toNat_natCast, Int.toNat_natCast, List.getElem?_eq_getElem hp, List.getElem?_eq_getElem hbl, Nat.testBit_or, afterN_test l _ hbl, Nat.testBit_two_pow]
    congr 1
    exact decide_eq_decide.2 (by omega)
  constructor
  · intro h b hbm
    rw [hb b hbm]
    have h1 : (aheadN row &&& (2 ^ p ||| afterN l l[p])).testBit b = false := by rw [h]; exact Nat.zero_testBit b
    rw [Nat.testBit_and, (aheadN_bit row b).2 hbm, Bool.true_and] at h1
    exact h1
  · intro h
    refine Nat.eq_of_testBit_eq fun j => ?_
    rw [Nat.zero_testBit, Nat.testBit_and, Bool.and_eq_false_iff]
    cases hc : (aheadN row).testBit j with
    | false => exact .inl rfl
    | true =>
      have hm := (aheadN_bit row j).1 hc
      right
      rw [← hb j hm]
      exact h j hm
/-- a row keeps the order up to a place -/
def okTo (l : List Tx) (row : List Int) (i : Nat) : Prop := ∀ a (ha : a < row.length) b (hb : b < a), a < i → badP l row[a] (row[b]'(by omega)) = false
theorem okTo_zero (l : List Tx) (row : List Int) : okTo l row 0 := fun _ _ _ _ h => absurd h (Nat.not_lt_zero _)
theorem okTo_all {l : List Tx} {row : List Int} (h : okTo l row row.length) : keepsS l row = true := (keepsS_iff l row).2 fun a ha b hb => h a ha b hb ha
theorem okTo_next {l : List Tx} {row : List Int} {i : Nat} (hi : i < row.length) (h : okTo l row i) (hn : ∀ b (hb : b < i), badP l row[i] (row[b]'(by omega)) = false) : okTo l row (i + 1) := by
  intro a ha b hb hai
  by_cases h1 : a = i
  · subst h1; exact hn b hb
  · exact h a ha b hb (by omega)
theorem keeps_not {l : List Tx} {row : List Int} {i j : Nat} (hi : i < row.length) (hj : j < i) (hb : badP l row[i] (row[j]'(by omega)) = true) : keepsS l row = false := by
  cases hk : keepsS l row with
  | false => rfl
  | true => rw [(keepsS_iff l row).1 hk i hi j hj] at hb; cases hb
/-- well-formed events have few names -/
theorem table_six {h : List Ev} (h0 : (checkS h).2 = 0) : (tableS h).length ≤ 6 := by
  obtain ⟨hr, _, _⟩ := check_agree h0
  rw [tableS_len]
  unfold right at hr
  simp only [Bool.and_eq_true, decide_eq_true_eq] at hr
  exact hr.2
end Go.Proofs.YtmnblljenobofaaDoor.RPlain
