/- Merged: TabK, OrdB, OrdD, ExtA, CmpA, SerA, CmpB, ExtB. -/
import Derived.Test.YtpjfhdljagkefaaGreatDoorMg4
import Derived.Test.YtpjfhdljagkefaaGreatDoorMg2
import Derived.Test.YtpjfhdljagkefaaGreatDoorRows
import Derived.Deep.QuietTactic
import Derived.BigQuiet
import Derived.Laws.StructEq
/- The walks of the reference's Same, of isSame, of slices.EqualFunc with it, and of Like. (Written by gen_tabK.py.) -/
namespace Go.Proofs.YtpjfhdljagkefaaGreatDoor.WPlain
end Go.Proofs.YtpjfhdljagkefaaGreatDoor.WPlain
namespace Go.Proofs.YtpjfhdljagkefaaGreatDoor.RPlain
end Go.Proofs.YtpjfhdljagkefaaGreatDoor.RPlain
namespace Go.Proofs.YtpjfhdljagkefaaGreatDoor
open Go.RowKit WPlain RPlain

theorem Opv.drewN {w : World} {v : Value} {l : List Rwo} (h : Opv w v l) (n : Nat) : Opv (w.drewN n) v l := h
theorem Txs.drewN {w : World} {v : Value} {l : List Tx} (h : Txs w v l) (n : Nat) : Txs (w.drewN n) v l := h
theorem Txs.opened {w : World} {v : Value} {l : List Tx} (h : Txs w v l) (h0 : 0 < l.length) : ∃ b o c, v = .slice (some ⟨b, o, none⟩) l.length c := by
  obtain ⟨ps, rfl, hr, _⟩ := h
  rcases hr with ⟨rfl, _⟩ | ⟨_, b, o, c, rfl, _⟩
  · simp at h0
  · exact ⟨b, o, c, by simp⟩
theorem below_drN {B : Nat} {w w' : World} (h : Below B w w') (n : Nat) : Below B w (w'.drewN n) := ⟨h.os, h.tape, h.output, h.size, h.block⟩
end Go.Proofs.YtpjfhdljagkefaaGreatDoor
/- Plain words: what is before what, as bits; up to a place; rows that keep it. -/
namespace Go.Proofs.YtpjfhdljagkefaaGreatDoor.WPlain
end Go.Proofs.YtpjfhdljagkefaaGreatDoor.WPlain
namespace Go.Proofs.YtpjfhdljagkefaaGreatDoor.QPlain
end Go.Proofs.YtpjfhdljagkefaaGreatDoor.QPlain
namespace Go.Proofs.YtpjfhdljagkefaaGreatDoor.RPlain
open WPlain QPlain

/-- the number whose bit k is p k -/
def bitsN (p : Nat → Bool) : Nat → Nat
  | 0 => 0
  | n + 1 => bitsN p n + (if p n = true then 2 ^ n else 0)
theorem bitsN_lt (p : Nat → Bool) : ∀ n, bitsN p n < 2 ^ n := by
  intro n
  induction n with
  | zero => simp [bitsN]
  | succ n ih => unfold bitsN; rw [Nat.pow_succ]; split <;> omega
theorem bitsN_congr {p q : Nat → Bool} : ∀ n, (∀ k, k < n → p k = q k) → bitsN p n = bitsN q n := by
  intro n
  induction n with
  | zero => intro _; rfl
  | succ n ih => intro h; unfold bitsN; rw [ih (fun k hk => h k (by omega)), h n (by omega)]
theorem bitsN_mod (p : Nat → Bool) {m : Nat} : ∀ n, m ≤ n → bitsN p n % 2 ^ m = bitsN p m := by
  intro n
  induction n with
  | zero => intro h; rw [show m = 0 from by omega]; rfl
  | succ n ih =>
    intro h
    by_cases hm : m = n + 1
    · rw [hm]; exact Nat.mod_eq_of_lt (bitsN_lt p (n + 1))
    · have hmn : m ≤ n := by omega
      rw [show bitsN p (n + 1) = bitsN p n + (if p n = true then 2 ^ n else 0) from rfl]
      have hd : (if p n = true then 2 ^ n else 0) % 2 ^ m = 0 := by
        split
        · obtain ⟨d, rfl⟩ : ∃ d, n = m + d := ⟨n - m, by omega⟩
          rw [Nat.pow_add, Nat.mul_mod_right]
        · exact Nat.zero_mod _
      rw [Nat.add_mod, hd, Nat.add_zero, Nat.mod_mod, ih hmn]
theorem bitsN_bit (p : Nat → Bool) {n k : Nat} (hk : k < n) : bitsN p n / 2 ^ k % 2 = if p k = true then 1 else 0 := by
  have h1 := bitsN_mod p (m := k + 1) n (by omega)
  have h2 : bitsN p n / 2 ^ k % 2 = bitsN p n % 2 ^ (k + 1) / 2 ^ k := by rw [Nat.pow_succ, Nat.mod_mul_right_div_self]
  rw [h2, h1, show bitsN p (k + 1) = bitsN p k + (if p k = true then 2 ^ k else 0) from rfl]
  have h3 := bitsN_lt p k
  split
  · rw [Nat.add_div_right _ (Nat.two_pow_pos k), Nat.div_eq_of_lt h3]
  · rw [Nat.add_zero, Nat.div_eq_of_lt h3]
/-- a transaction's bits, in a table; those of all -/
def afterN (l : List Tx) (X : Tx) : Nat := bitsN (fun k => match l[k]? with | some Y => bfr X Y | none => false) l.length
def afterS (l : List Tx) : List Nat := l.map (afterN l)
theorem afterN_lt (l : List Tx) (X : Tx) : afterN l X < 2 ^ l.length := bitsN_lt _ _
theorem afterS_len (l : List Tx) : (afterS l).length = l.length := List.length_map _
/-- a row of places: is any not there; is any there twice, or behind one that it is before -/
def thereS (l : List Tx) (row : List Int) : Bool := row.all fun i => decide (0 ≤ i) && decide (i < l.length)
def badP (l : List Tx) (a b : Int) : Bool := decide (a = b) || (match l[a.toNat]?, l[b.toNat]? with | some X, some Y => bfr X Y | _, _ => false)
def keepsS (l : List Tx) (row : List Int) : Bool := (List.range row.length).all fun i => (row.take i).all fun b => !(badP l (row.getD i 0) b)
theorem thereS_iff (l : List Tx) (row : List Int) : thereS l row = true ↔ ∀ i ∈ row, 0 ≤ i ∧ i < l.length := by
  unfold thereS
  simp [List.all_eq_true]
theorem keepsS_iff (l : List Tx) (row : List Int) : keepsS l row = true ↔ ∀ i (hi : i < row.length) j (hj : j < i), badP l row[i] (row[j]'(by omega)) = false := by
  unfold keepsS
  rw [List.all_eq_true]
  constructor
  · intro h i hi j hj
    have h1 := h i (List.mem_range.2 hi)
    rw [List.all_eq_true] at h1
    have h2 := h1 (row[j]'(by omega)) (List.mem_take_iff_getElem.2 ⟨j, by omega, rfl⟩)
    rw [List.getD_eq_getElem?_getD, List.getElem?_eq_getElem hi] at h2
    simpa using h2
  · intro h i hi
    rw [List.all_eq_true]
    intro b hb
    obtain ⟨j, hj, rfl⟩ := List.mem_take_iff_getElem.1 hb
    have hi' := List.mem_range.1 hi
    rw [List.getD_eq_getElem?_getD, List.getElem?_eq_getElem hi']
    simpa using h i hi' j (by omega)
end Go.Proofs.YtpjfhdljagkefaaGreatDoor.RPlain
/- Plain words: the bits of what is before what, gathered pair by pair; rows of places as bits. -/
namespace Go.Proofs.YtpjfhdljagkefaaGreatDoor.WPlain
end Go.Proofs.YtpjfhdljagkefaaGreatDoor.WPlain
namespace Go.Proofs.YtpjfhdljagkefaaGreatDoor.QPlain
end Go.Proofs.YtpjfhdljagkefaaGreatDoor.QPlain
namespace Go.Proofs.YtpjfhdljagkefaaGreatDoor.RPlain
open WPlain QPlain

/-- is the one at a place before the one at another? -/
def bfrAt (l : List Tx) (i k : Nat) : Bool := match l[i]?, l[k]? with | some X, some Y => bfr X Y | _, _ => false
/-- all of two places, in order -/
def pairsF (n : Nat) : List (Fin n × Fin n) := (List.finRange n).flatMap fun i => (List.finRange n).map fun k => (i, k)
/-- a place's bits, gathered pair by pair -/
def accF {n : Nat} (g : Nat → Nat → Bool) (i : Nat) (pre : List (Fin n × Fin n)) : Nat := pre.foldl (fun a p => if p.1.val = i ∧ g p.1.val p.2.val = true then a ||| 2 ^ p.2.val else a) 0
theorem accF_snoc {n : Nat} (g : Nat → Nat → Bool) (i : Nat) (pre : List (Fin n × Fin n)) (x : Fin n × Fin n) : accF g i (pre ++ [x]) = if x.1.val = i ∧ g x.1.val x.2.val = true then accF g i pre ||| 2 ^ x.2.val else accF g i pre := by simp [accF]
theorem snoc_ind {α : Type} {p : List α → Prop} (h0 : p []) (h1 : ∀ h e, p h → p (h ++ [e])) (h : List α) : p h := by
  rw [← List.reverse_reverse h]
  induction h.reverse with
  | nil => exact h0
  | cons e r ih => rw [List.reverse_cons]; exact h1 _ _ ih
theorem accF_bit {n : Nat} (g : Nat → Nat → Bool) (i j : Nat) (pre : List (Fin n × Fin n)) : (accF g i pre).testBit j = true ↔ ∃ p ∈ pre, p.1.val = i ∧ p.2.val = j ∧ g p.1.val p.2.val = true := by
  refine snoc_ind (p := fun pre => (accF g i pre).testBit j = true ↔ ∃ p ∈ pre, p.1.val = i ∧ p.2.val = j ∧ g p.1.val p.2.val = true) ?_ ?_ pre
  · simp [accF]
  · intro pre x ih
    rw [accF_snoc]
    constructor
    · intro h
      split at h
      · rename_i hx
        rw [Nat.testBit_or, Bool.or_eq_true, Nat.testBit_two_pow] at h
        rcases h with h | h
        · obtain ⟨p, hp, hq⟩ := ih.1 h
          exact ⟨p, List.mem_append_left _ hp, hq⟩
        · exact ⟨x, by simp, hx.1, by simpa using h, hx.2⟩
      · obtain ⟨p, hp, hq⟩ := ih.1 h
        exact ⟨p, List.mem_append_left _ hp, hq⟩
    · rintro ⟨p, hp, h1, h2, h3⟩
      rcases List.mem_append.1 hp with hp | hp
      · have := ih.2 ⟨p, hp, h1, h2, h3⟩
        split
        · rw [Nat.testBit_or, this]; rfl
        · exact this
      · rw [List.mem_singleton.1 hp] at h1 h2 h3
        rw [if_pos ⟨h1, h3⟩, Nat.testBit_or, Nat.testBit_two_pow]
        simp [h2]
theorem accF_lt {n : Nat} (g : Nat → Nat → Bool) (i : Nat) (pre : List (Fin n × Fin n)) : accF g i pre < 2 ^ n := by
  refine Nat.lt_pow_two_of_testBit _ fun j hj => ?_
  cases hc : (accF g i pre).testBit j with
  | false => rfl
  | true =>
    obtain ⟨p, _, _, h2, _⟩ := (accF_bit g i j pre).1 hc
    have := p.2.isLt
    omega
theorem bitsN_test (p : Nat → Bool) (n j : Nat) : (bitsN p n).testBit j = (decide (j < n) && p j) := by
  by_cases hj : j < n
  · rw [Nat.testBit_eq_decide_div_mod_eq, bitsN_bit p hj]
    cases p j <;> simp [hj]
  · have h1 := bitsN_lt p n
    have h2 : 2 ^ n ≤ 2 ^ j := Nat.pow_le_pow_right (by decide) (by omega)
    rw [Nat.testBit_lt_two_pow (by omega)]
    simp [hj]
theorem pairsF_mem {n : Nat} (p : Fin n × Fin n) : p ∈ pairsF n := by
  unfold pairsF
  rw [List.mem_flatMap]
  exact ⟨p.1, List.mem_finRange _, List.mem_map.2 ⟨p.2, List.mem_finRange _, rfl⟩⟩
theorem accF_all (g : Nat → Nat → Bool) {n i : Nat} (hi : i < n) : accF g i (pairsF n) = bitsN (g i) n := by
  refine Nat.eq_of_testBit_eq fun j => ?_
  rw [bitsN_test]
  by_cases hj : j < n ∧ g i j = true
  · rw [(accF_bit g i j (pairsF n)).2 ⟨(⟨i, hi⟩, ⟨j, hj.1⟩), pairsF_mem _, rfl, rfl, hj.2⟩]
    simp [hj.1, hj.2]
  · cases hc : (accF g i (pairsF n)).testBit j with
    | true =>
      obtain ⟨p, _, h1, h2, h3⟩ := (accF_bit g i j (pairsF n)).1 hc
      rw [h1, h2] at h3
      exact absurd ⟨h2 ▸ p.2.isLt, h3⟩ hj
    | false =>
      symm
      rw [Bool.and_eq_false_iff]
      by_cases h1 : j < n
      · right
        cases hg : g i j with
        | false => rfl
        | true => exact absurd ⟨h1, hg⟩ hj
      · left
        simp [h1]
theorem accF_after (l : List Tx) {i : Nat} (hi : i < l.length) : accF (bfrAt l) i (pairsF l.length) = afterN l l[i] := by
  rw [accF_all _ hi]
  unfold afterN
  refine bitsN_congr _ fun k hk => ?_
  unfold bfrAt
  rw [List.getElem?_eq_getElem hi, List.getElem?_eq_getElem hk]
/-- the pairs up to a place -/
def preF (n i : Nat) : List (Fin n × Fin n) := ((List.finRange n).take i).flatMap fun i => (List.finRange n).map fun k => (i, k)
def midF (n i k : Nat) (hi : i < n) : List (Fin n × Fin n) := preF n i ++ ((List.finRange n).take k).map fun k => (⟨i, hi⟩, k)
theorem preF_all (n : Nat) : preF n n = pairsF n := by
  unfold preF pairsF
  rw [List.take_of_length_le (by simp)]
theorem midF_zero {n i : Nat} (hi : i < n) : midF n i 0 hi = preF n i := by simp [midF]
theorem midF_all {n i : Nat} (hi : i < n) : midF n i n hi = preF n (i + 1) := by
  unfold midF preF
  rw [List.take_of_length_le (l := List.finRange n) (i := n) (by simp), List.take_succ_eq_append_getElem (l := List.finRange n) (i := i) (by simpa using hi), List.flatMap_append]
  simp
theorem midF_snoc {n i k : Nat} (hi : i < n) (hk : k < n) : midF n i (k + 1) hi = midF n i k hi ++ [(⟨i, hi⟩, ⟨k, hk⟩)] := by
  unfold midF
  rw [List.take_succ_eq_append_getElem (l := List.finRange n) (i := k) (by simpa using hk), List.map_append, ← List.append_assoc]
  simp
theorem preF_len (n i : Nat) (hi : i ≤ n) : (preF n i).length = i * n := by
  unfold preF
  rw [List.length_flatMap]
  simp only [List.length_map, List.length_finRange]
  rw [List.map_const', List.sum_replicate_nat]
  simp
  rw [Nat.min_eq_left hi]
theorem midF_len {n i k : Nat} (hi : i < n) (hk : k < n) : (midF n i k hi).length < n * n := by
  unfold midF
  rw [List.length_append, preF_len n i (by omega), List.length_map, List.length_take, List.length_finRange]
  have h1 : (i + 1) * n ≤ n * n := Nat.mul_le_mul_right n hi
  rw [Nat.add_mul] at h1
  omega
/-- rows of places -/
def aheadN (row : List Nat) : Nat := row.foldl (fun a p => a ||| 2 ^ p) 0
theorem aheadN_snoc (row : List Nat) (p : Nat) : aheadN (row ++ [p]) = aheadN row ||| 2 ^ p := by simp [aheadN]
theorem aheadN_bit (row : List Nat) (j : Nat) : (aheadN row).testBit j = true ↔ j ∈ row := by
  refine snoc_ind (p := fun row => (aheadN row).testBit j = true ↔ j ∈ row) ?_ ?_ row
  · simp [aheadN]
  · intro row p ih
    rw [aheadN_snoc, Nat.testBit_or, Bool.or_eq_true, ih, Nat.testBit_two_pow]
    simp [eq_comm]
theorem aheadN_lt {row : List Nat} {n : Nat} (h : ∀ p ∈ row, p < n) : aheadN row < 2 ^ n := by
  refine Nat.lt_pow_two_of_testBit _ fun j hj => ?_
  cases hc : (aheadN row).testBit j with
  | false => rfl
  | true =>
    have := h _ ((aheadN_bit row j).1 hc)
    omega
theorem afterN_test (l : List Tx) (X : Tx) {k : Nat} (hk : k < l.length) : (afterN l X).testBit k = bfr X l[k] := by
  unfold afterN
  rw [bitsN_test, List.getElem?_eq_getElem hk]
  simp [hk]
/-- a row keeps the order up to a place -/
def okTo (l : List Tx) (row : List Int) (i : Nat) : Prop := ∀ a (ha : a < row.length) b (hb : b < a), a < i → badP l row[a] (row[b]'(by omega)) = false
theorem okTo_zero (l : List Tx) (row : List Int) : okTo l row 0 := fun _ _ _ _ h => absurd h (Nat.not_lt_zero _)
theorem okTo_all {l : List Tx} {row : List Int} (h : okTo l row row.length) : keepsS l row = true := (keepsS_iff l row).2 fun a ha b hb => h a ha b hb ha
theorem okTo_next {l : List Tx} {row : List Int} {i : Nat} (hi : i < row.length) (h : okTo l row i) (hn : ∀ b (hb : b < i), badP l row[i] (row[b]'(by omega)) = false) : okTo l row (i + 1) := by
  intro a ha b hb hai
  by_cases h1 : a = i
  · subst h1; exact hn b hb
  · exact h a ha b hb (by omega)
theorem keeps_not {l : List Tx} {row : List Int} {i j : Nat} (hi : i < row.length) (hj : j < i) (hb : badP l row[i] (row[j]'(by omega)) = true) : keepsS l row = false := by
  cases hk : keepsS l row with
  | false => rfl
  | true => rw [(keepsS_iff l row).1 hk i hi j hj] at hb; cases hb
/-- well-formed events have few names -/
theorem table_six {h : List Ev} (h0 : (checkS h).2 = 0) : (tableS h).length ≤ 6 := by
  obtain ⟨hr, _, _⟩ := check_agree h0
  rw [tableS_len]
  unfold right at hr
  simp only [Bool.and_eq_true, decide_eq_true_eq] at hr
  exact hr.2
end Go.Proofs.YtpjfhdljagkefaaGreatDoor.RPlain
/- Plain words: all rows that keep an order. -/
namespace Go.Proofs.YtpjfhdljagkefaaGreatDoor.RPlain

/-- all rows of so many places below n, those first whose first other place is less -/
def allT (n : Nat) : Nat → List (List Nat)
  | 0 => [[]]
  | s + 1 => (List.range n).flatMap fun k => (allT n s).map (k :: ·)
/-- .. that go on from a row, by places that may come behind what is there -/
def extP (n : Nat) (p : List Nat → Nat → Bool) : Nat → List Nat → List (List Nat)
  | 0, row => [row]
  | s + 1, row => (List.range n).flatMap fun k => if p row k = true then extP n p s (row ++ [k]) else []
def stepsP (p : List Nat → Nat → Bool) : List Nat → List Nat → Bool
  | _, [] => true
  | row, k :: t => p row k && stepsP p (row ++ [k]) t
theorem ext_filter (n : Nat) (p : List Nat → Nat → Bool) : ∀ (s : Nat) (row : List Nat), extP n p s row = ((allT n s).filter (stepsP p row)).map (row ++ ·) := by
  intro s
  induction s with
  | zero =>
    intro row
    show [row] = (([[]] : List (List Nat)).filter (stepsP p row)).map (row ++ ·)
    have h1 : ([[]] : List (List Nat)).filter (stepsP p row) = [[]] := rfl
    rw [h1, List.map_cons, List.map_nil, List.append_nil]
  | succ s ih =>
    intro row
    rw [extP, allT, List.filter_flatMap, List.map_flatMap]
    refine congrArg (fun f => (List.range n).flatMap f) (funext fun k => ?_)
    rw [List.filter_map, List.map_map]
    by_cases hp : p row k = true
    · rw [if_pos hp, ih]
      have h1 : (stepsP p row ∘ (k :: ·)) = stepsP p (row ++ [k]) := by
        funext t
        show stepsP p row (k :: t) = _
        rw [stepsP, hp, Bool.true_and]
      have h2 : ((row ++ ·) ∘ (k :: ·)) = (row ++ [k] ++ ·) := by
        funext t
        show row ++ (k :: t) = _
        rw [List.append_assoc]; rfl
      rw [h1, h2]
    · rw [if_neg hp]
      have h1 : (allT n s).filter (stepsP p row ∘ (k :: ·)) = [] := by
        rw [List.filter_eq_nil_iff]
        intro t _ hc
        have hc' : stepsP p row (k :: t) = true := hc
        rw [stepsP, Bool.and_eq_true] at hc'
        exact hp hc'.1
      rw [h1]; rfl
theorem allT_mem {n : Nat} : ∀ {s : Nat} {t : List Nat}, t ∈ allT n s ↔ t.length = s ∧ ∀ k ∈ t, k < n := by
  intro s
  induction s with
  | zero =>
    intro t
    rw [allT, List.mem_singleton]
    constructor
    · rintro rfl; exact ⟨rfl, fun k hk => by cases hk⟩
    · rintro ⟨h, _⟩; exact List.length_eq_zero_iff.1 h
  | succ s ih =>
    intro t
    rw [allT, List.mem_flatMap]
    constructor
    · rintro ⟨k, hk, ht⟩
      obtain ⟨u, hu, rfl⟩ := List.mem_map.1 ht
      obtain ⟨h1, h2⟩ := ih.1 hu
      refine ⟨by simp [h1], fun x hx => ?_⟩
      rcases List.mem_cons.1 hx with rfl | hx
      · exact List.mem_range.1 hk
      · exact h2 x hx
    · rintro ⟨h1, h2⟩
      cases t with
      | nil => simp at h1
      | cons k u =>
        exact ⟨k, List.mem_range.2 (h2 k (List.mem_cons_self ..)), List.mem_map.2 ⟨u, ih.2 ⟨by simpa using h1, fun x hx => h2 x (List.mem_cons_of_mem _ hx)⟩, rfl⟩⟩
/-- an order: bit b of number a is 1, if a is before b -/
def aft (L : List Nat) (a b : Nat) : Bool := (L.getD a 0).testBit b
def nxt (L : List Nat) (row : List Nat) (k : Nat) : Bool := row.all fun b => !decide (k = b) && !aft L k b
def allS (L : List Nat) : List (List Nat) := extP L.length (nxt L) L.length []
/-- may b stand ahead of a? -/
def goes (L : List Nat) (b a : Nat) : Prop := a ≠ b ∧ aft L a b = false
theorem nxt_iff (L row : List Nat) (k : Nat) : nxt L row k = true ↔ ∀ b ∈ row, goes L b k := by
  unfold nxt goes
  rw [List.all_eq_true]
  refine forall_congr' fun b => forall_congr' fun _ => ?_
  simp
theorem steps_iff (L : List Nat) : ∀ (t row : List Nat), stepsP (nxt L) row t = true ↔ t.Pairwise (goes L) ∧ ∀ b ∈ row, ∀ a ∈ t, goes L b a := by
  intro t
  induction t with
  | nil => intro row; simp [stepsP]
  | cons k r ih =>
    intro row
    rw [stepsP, Bool.and_eq_true, nxt_iff, ih, List.pairwise_cons]
    constructor
    · rintro ⟨h1, h2, h3⟩
      refine ⟨⟨fun a ha => h3 k (by simp) a ha, h2⟩, fun b hb a ha => ?_⟩
      rcases List.mem_cons.1 ha with rfl | ha
      · exact h1 b hb
      · exact h3 b (List.mem_append_left _ hb) a ha
    · rintro ⟨⟨h1, h2⟩, h3⟩
      refine ⟨fun b hb => h3 b hb k (List.mem_cons_self ..), h2, fun b hb a ha => ?_⟩
      rcases List.mem_append.1 hb with hb | hb
      · exact h3 b hb a (List.mem_cons_of_mem _ ha)
      · rw [List.mem_singleton.1 hb]; exact h1 a ha
theorem allS_filter (L : List Nat) : allS L = (allT L.length L.length).filter (stepsP (nxt L) []) := by
  unfold allS
  rw [ext_filter]
  simp
theorem allS_mem {L row : List Nat} : row ∈ allS L ↔ row.length = L.length ∧ (∀ k ∈ row, k < L.length) ∧ row.Pairwise (goes L) := by
  rw [allS_filter, List.mem_filter, allT_mem, steps_iff]
  simp [and_assoc]
/-- rows by any other rule, if it lets through the same whole rows -/
theorem ext_same (n : Nat) {p q : List Nat → Nat → Bool} (h : ∀ t : List Nat, t.length = n → (∀ k ∈ t, k < n) → stepsP p [] t = stepsP q [] t) : extP n p n [] = extP n q n [] := by
  rw [ext_filter, ext_filter]
  congr 1
  refine List.filter_congr fun t ht => ?_
  obtain ⟨h1, h2⟩ := allT_mem.1 ht
  exact h t h1 h2
/-- the ways from place to place; is there one back? -/
def Edge (L : List Nat) (a b : Nat) : Prop := a < L.length ∧ b < L.length ∧ aft L a b = true
def Free (L : List Nat) : Prop := ∀ a, ¬ Relation.TransGen (Edge L) a a
theorem has_min {L S : List Nat} (hf : Free L) (hS : ∀ x ∈ S, x < L.length) : ∀ (m : Nat) (x : Nat), x ∈ S → (S.countP fun y => @decide (Relation.TransGen (Edge L) y x) (Classical.propDecidable _)) ≤ m → ∃ z ∈ S, ∀ y ∈ S, aft L y z = false := by
  intro m
  induction m with
  | zero =>
    intro x hx hc
    refine ⟨x, hx, fun y hy => ?_⟩
    have h0 : (S.countP fun y => @decide (Relation.TransGen (Edge L) y x) (Classical.propDecidable _)) = 0 := by omega
    rw [List.countP_eq_zero] at h0
    have h1 := h0 y hy
    cases hb : aft L y x with
    | false => rfl
    | true => exact absurd (@decide_eq_true _ (Classical.propDecidable _) (Relation.TransGen.single ⟨hS y hy, hS x hx, hb⟩)) h1
  | succ m ih =>
    intro x hx hc
    by_cases hall : ∀ y ∈ S, aft L y x = false
    · exact ⟨x, hx, hall⟩
    · simp only [Classical.not_forall] at hall
      obtain ⟨y, hy, hb⟩ := hall
      have hb' : aft L y x = true := by simpa using hb
      have he : Edge L y x := ⟨hS y hy, hS x hx, hb'⟩
      refine ih y hy ?_
      have hlt : (S.countP fun z => @decide (Relation.TransGen (Edge L) z y) (Classical.propDecidable _)) < (S.countP fun z => @decide (Relation.TransGen (Edge L) z x) (Classical.propDecidable _)) := by
        have hmono : ∀ (T : List Nat), (T.countP fun z => @decide (Relation.TransGen (Edge L) z y) (Classical.propDecidable _)) ≤ (T.countP fun z => @decide (Relation.TransGen (Edge L) z x) (Classical.propDecidable _)) := fun T =>
          List.countP_mono_left fun z _ hz => @decide_eq_true _ (Classical.propDecidable _) ((@of_decide_eq_true _ (Classical.propDecidable _) hz).tail he)
        obtain ⟨s, t, rfl⟩ := List.append_of_mem hy
        rw [List.countP_append, List.countP_append, List.countP_cons, List.countP_cons]
        have h1 := hmono s
        have h2 := hmono t
        have h3 : @decide (Relation.TransGen (Edge L) y y) (Classical.propDecidable _) = false := @decide_eq_false _ (Classical.propDecidable _) (hf y)
        have h4 : @decide (Relation.TransGen (Edge L) y x) (Classical.propDecidable _) = true := @decide_eq_true _ (Classical.propDecidable _) (.single he)
        rw [h3, h4]
        simp
        omega
      omega
theorem goes_nodup {L row : List Nat} (h : row.Pairwise (goes L)) : row.Nodup := h.imp fun h => fun hc => h.1 hc.symm
theorem nodup_le : ∀ (l1 l2 : List Nat), l1.Nodup → (∀ x ∈ l1, x ∈ l2) → l1.length ≤ l2.length := by
  intro l1
  induction l1 with
  | nil => intro _ _ _; simp
  | cons x r ih =>
    intro l2 hn hs
    obtain ⟨hx, hr⟩ := List.nodup_cons.1 hn
    have h1 := ih (l2.erase x) hr (fun y hy => (List.mem_erase_of_ne (show y ≠ x from fun hc => hx (by rw [← hc]; exact hy))).2 (hs y (List.mem_cons_of_mem _ hy)))
    have hm := hs x (List.mem_cons_self ..)
    have h2 := List.length_erase_of_mem hm
    have h3 := List.length_pos_of_mem hm
    rw [List.length_cons]
    omega
theorem nodup_full (row : List Nat) (n : Nat) (hn : row.Nodup) (hlt : ∀ k ∈ row, k < n) (hl : row.length = n) (a : Nat) (ha : a < n) : a ∈ row := by
  by_cases hm : a ∈ row
  · exact hm
  · have h := nodup_le (a :: row) (List.range n) (List.nodup_cons.2 ⟨hm, hn⟩) (fun x hx => by
      rcases List.mem_cons.1 hx with rfl | hx
      · exact List.mem_range.2 ha
      · exact List.mem_range.2 (hlt x hx))
    rw [List.length_cons, List.length_range] at h
    omega
/-- places without any order: as many rows as there are ways to turn them -/
def factN : Nat → Nat
  | 0 => 1
  | n + 1 => factN n * (n + 1)
theorem sum_ite (q : Nat → Bool) (c : Nat) : ∀ l : List Nat, (l.map fun k => if q k = true then c else 0).sum = (l.filter q).length * c := by
  intro l
  induction l with
  | nil => simp
  | cons x r ih =>
    rw [List.map_cons, List.sum_cons, ih, List.filter_cons]
    split
    · rw [List.length_cons, Nat.succ_mul, Nat.add_comm]
    · rw [Nat.zero_add]
theorem filter_both (q : Nat → Bool) : ∀ l : List Nat, (l.filter fun k => !q k).length + (l.filter q).length = l.length := by
  intro l
  induction l with
  | nil => rfl
  | cons x r ih =>
    rw [List.filter_cons, List.filter_cons, List.length_cons]
    cases q x <;> simp <;> omega
end Go.Proofs.YtpjfhdljagkefaaGreatDoor.RPlain
/- Plain words: choices, and completions. -/
namespace Go.Proofs.YtpjfhdljagkefaaGreatDoor.WPlain
end Go.Proofs.YtpjfhdljagkefaaGreatDoor.WPlain
namespace Go.Proofs.YtpjfhdljagkefaaGreatDoor.QPlain
end Go.Proofs.YtpjfhdljagkefaaGreatDoor.QPlain
namespace Go.Proofs.YtpjfhdljagkefaaGreatDoor.RPlain
open WPlain QPlain

/-- is a number a choice? all choices -/
def okBit (s : Int) (b : Bool) : Bool := if b = true then decide (s = 1) || decide (s = 2) else !decide (s = 2)
def choiceG (n : Nat) : Nat → List Tx → Bool
  | _, [] => true
  | i, X :: r => okBit X.s (n.testBit i) && choiceG n (i + 1) r
def choiceS (l : List Tx) (n : Nat) : Bool := choiceG n 0 l && decide (n < 2 ^ l.length)
def choicesS (l : List Tx) : List Nat := (List.range 64).filter (choiceS l)

/-- states behind a completion -/
theorem choice_at {n : Nat} : ∀ {l : List Tx} {i j : Nat}, choiceG n i l = true → ∀ (hj : j < l.length), okBit l[j].s (n.testBit (i + j)) = true := by
  intro l
  induction l with
  | nil => intro i j _ hj; exact absurd hj (by simp)
  | cons X r ih =>
    intro i j hc hj
    rw [choiceG, Bool.and_eq_true] at hc
    cases j with
    | zero => exact hc.1
    | succ j =>
      rw [List.getElem_cons_succ, show i + (j + 1) = i + 1 + j from by omega]
      exact ih hc.2 (by simpa using hj)
end Go.Proofs.YtpjfhdljagkefaaGreatDoor.RPlain
/- Plain words: the search for a row that explains. -/
namespace Go.Proofs.YtpjfhdljagkefaaGreatDoor.WPlain
end Go.Proofs.YtpjfhdljagkefaaGreatDoor.WPlain
namespace Go.Proofs.YtpjfhdljagkefaaGreatDoor.QPlain
end Go.Proofs.YtpjfhdljagkefaaGreatDoor.QPlain
namespace Go.Proofs.YtpjfhdljagkefaaGreatDoor.RPlain
open WPlain QPlain

def leftS (l : List Tx) (who : Nat) (row : List Nat) : List Nat := (List.range l.length).filter fun k => who.testBit k && !row.contains k
def freeS (l : List Tx) (lft : List Nat) (k : Nat) : Bool := lft.all fun i => !bfrAt l i k
def okL (l : List Tx) (c : Nat) (row : List Nat) : Bool := decide (legalS l c row = row.length)
def loopS (B : Nat) (rec : List Nat → Nat → Nat × List Nat × Nat) (l : List Tx) (c : Nat) (lft row : List Nat) : List Nat → Nat → Nat × List Nat × Nat
  | [], s => (1, [], s)
  | k :: r, s => if freeS l lft k = false then loopS B rec l c lft row r s else if s = B then (2, [], s)
    else if okL l c (row ++ [k]) = true then (if (rec (row ++ [k]) (s + 1)).1 = 1 then loopS B rec l c lft row r (rec (row ++ [k]) (s + 1)).2.2 else rec (row ++ [k]) (s + 1)) else loopS B rec l c lft row r (s + 1)
def fromS (B : Nat) (l : List Tx) (who c : Nat) : Nat → List Nat → Nat → Nat × List Nat × Nat
  | 0, row, s => (0, row, s)
  | f + 1, row, s => if leftS l who row = [] then (0, row, s) else loopS B (fromS B l who c f) l c (leftS l who row) row (leftS l who row) s
/-- choice by choice, each with those that it has to do with -/
def searchG (B : Nat) (l : List Tx) (W : Nat → Nat) : List Nat → Nat → Nat × Nat × List Nat × Nat
  | [], s => (1, 0, [], s)
  | c :: r, s => if (fromS B l (W c) c (l.length + 1) [] s).1 = 1 then searchG B l W r (fromS B l (W c) c (l.length + 1) [] s).2.2
    else ((fromS B l (W c) c (l.length + 1) [] s).1, (if (fromS B l (W c) c (l.length + 1) [] s).1 = 0 then c else 0), (fromS B l (W c) c (l.length + 1) [] s).2)
/-- the search for all; for those that commit alone -/
def searchS (B : Nat) (l : List Tx) : Nat × Nat × List Nat × Nat := searchG B l (fun _ => 2 ^ l.length - 1) (choicesS l) 0
def strictS (B : Nat) (l : List Tx) : Nat × Nat × List Nat × Nat := searchG B l (fun c => c) (choicesS l) 0

theorem left_mem {l : List Tx} {who : Nat} {row : List Nat} {k : Nat} : k ∈ leftS l who row ↔ k < l.length ∧ who.testBit k = true ∧ k ∉ row := by
  unfold leftS
  rw [List.mem_filter, List.mem_range]
  simp
theorem left_nodup (l : List Tx) (who : Nat) (row : List Nat) : (leftS l who row).Nodup := List.nodup_range.filter _
theorem left_next (l : List Tx) (who : Nat) (row : List Nat) (k : Nat) : leftS l who (row ++ [k]) = (leftS l who row).filter fun x => !decide (x = k) := by
  unfold leftS
  rw [List.filter_filter]
  refine List.filter_congr fun x _ => ?_
  by_cases hx : x = k
  · subst hx; simp
  · simp [hx]
theorem left_len {l : List Tx} {who : Nat} {row : List Nat} {k : Nat} (hk : k ∈ leftS l who row) : (leftS l who (row ++ [k])).length + 1 = (leftS l who row).length := by
  rw [left_next]
  have hn := left_nodup l who row
  generalize leftS l who row = L at *
  obtain ⟨a, b, rfl⟩ := List.append_of_mem hk
  rw [List.nodup_append] at hn
  obtain ⟨_, hb, hab⟩ := hn
  obtain ⟨hkb, _⟩ := List.nodup_cons.1 hb
  have h1 : a.filter (fun x => !decide (x = k)) = a := List.filter_eq_self.2 fun x hx => by
    have := hab x hx k (List.mem_cons_self ..)
    simpa using this
  have h2 : b.filter (fun x => !decide (x = k)) = b := List.filter_eq_self.2 fun x hx => by
    have : x ≠ k := fun hc => hkb (hc ▸ hx)
    simpa using this
  rw [List.filter_append, List.filter_cons, h1, h2]
  simp
  omega
/-- how many steps there may be -/
def mostW : Nat → Nat
  | 0 => 0
  | m + 1 => (m + 1) * (1 + mostW m)
theorem mostW_six : mostW 6 = 1956 := rfl
theorem mostW_mono : ∀ {a b : Nat}, a ≤ b → mostW a ≤ mostW b := by
  have h1 : ∀ m, mostW m ≤ mostW (m + 1) := fun m => by
    rw [mostW, Nat.succ_mul]
    omega
  intro a b h
  induction b with
  | zero => rw [Nat.le_zero.1 h]; exact Nat.le_refl _
  | succ b ih =>
    rcases Nat.lt_or_ge a (b + 1) with h2 | h2
    · exact Nat.le_trans (ih (by omega)) (h1 b)
    · rw [show a = b + 1 from by omega]; exact Nat.le_refl _
/-- what is always so of an answer: steps, and the verdict -/
structure Ans (B s w : Nat) (x : Nat × List Nat × Nat) : Prop where
  v : x.1 = 0 ∨ x.1 = 1 ∨ x.1 = 2
  ge : s ≤ x.2.2
  le : x.2.2 ≤ B
  most : x.2.2 ≤ s + w
  full : x.1 = 2 → x.2.2 = B ∧ B < s + w
  none : x.1 ≠ 0 → x.2.1 = []
theorem loop_ans {B : Nat} {rec : List Nat → Nat → Nat × List Nat × Nat} {l : List Tx} {c : Nat} {lft row : List Nat} {W : Nat} :
    ∀ (r : List Nat) (s : Nat), s ≤ B → (∀ k ∈ r, ∀ s, s ≤ B → Ans B s W (rec (row ++ [k]) s)) → Ans B s (r.length * (1 + W)) (loopS B rec l c lft row r s) := by
  intro r
  induction r with
  | nil => intro s hs _; exact ⟨.inr (.inl rfl), Nat.le_refl _, hs, by simp [loopS], fun h => (by cases h), fun _ => rfl⟩
  | cons k r ih =>
    intro s hs hrec
    have hlen : (k :: r).length * (1 + W) = r.length * (1 + W) + (1 + W) := by rw [List.length_cons, Nat.succ_mul]
    have hnext : ∀ s', s ≤ s' → s' ≤ s + 1 + W → s' ≤ B → Ans B s ((k :: r).length * (1 + W)) (loopS B rec l c lft row r s') := fun s' h1 h2 h3 => by
      have h := ih s' h3 (fun x hx => hrec x (List.mem_cons_of_mem _ hx))
      exact ⟨h.v, Nat.le_trans h1 h.ge, h.le, by have := h.most; omega, fun he => by have := h.full he; exact ⟨this.1, by omega⟩, h.none⟩
    rw [loopS]
    by_cases hf : freeS l lft k = false
    · rw [if_pos hf]; exact hnext s (Nat.le_refl _) (by omega) hs
    · rw [if_neg hf]
      by_cases hB : s = B
      · rw [if_pos hB]
        exact ⟨.inr (.inr rfl), Nat.le_refl _, hs, by dsimp only; omega, fun _ => ⟨hB, by omega⟩, fun _ => rfl⟩
      · rw [if_neg hB]
        by_cases ho : okL l c (row ++ [k]) = true
        · rw [if_pos ho]
          have h := hrec k (List.mem_cons_self ..) (s + 1) (by omega)
          by_cases hv : (rec (row ++ [k]) (s + 1)).1 = 1
          · rw [if_pos hv]
            exact hnext _ (by have := h.ge; omega) (by have := h.most; omega) h.le
          · rw [if_neg hv]
            exact ⟨h.v, by have := h.ge; omega, h.le, by have := h.most; omega, fun he => by have := h.full he; exact ⟨this.1, by omega⟩, h.none⟩
        · rw [if_neg ho]
          exact hnext _ (by omega) (by omega) (by omega)
theorem from_ans {B : Nat} {l : List Tx} {who c : Nat} : ∀ (f : Nat) (row : List Nat) (s : Nat), s ≤ B → (leftS l who row).length < f → Ans B s (mostW (leftS l who row).length) (fromS B l who c f row s) := by
  intro f
  induction f with
  | zero => intro row s _ h; omega
  | succ f ih =>
    intro row s hs hf
    rw [fromS]
    by_cases hl : leftS l who row = []
    · rw [if_pos hl]
      exact ⟨.inl rfl, Nat.le_refl _, hs, Nat.le_add_right _ _, fun h => (by cases h), fun h => absurd rfl h⟩
    · rw [if_neg hl]
      have hpos : 0 < (leftS l who row).length := List.length_pos_iff.2 hl
      obtain ⟨m, hm⟩ : ∃ m, (leftS l who row).length = m + 1 := ⟨(leftS l who row).length - 1, by omega⟩
      rw [hm, mostW, ← hm]
      refine loop_ans _ s hs fun k hk s' hs' => ?_
      have h1 := left_len hk
      have h2 := ih (row ++ [k]) s' hs' (by omega)
      rw [show (leftS l who (row ++ [k])).length = m from by omega] at h2
      exact h2
end Go.Proofs.YtpjfhdljagkefaaGreatDoor.RPlain
/- Plain words: how many choices there are, the first and the last. -/
namespace Go.Proofs.YtpjfhdljagkefaaGreatDoor.WPlain
end Go.Proofs.YtpjfhdljagkefaaGreatDoor.WPlain
namespace Go.Proofs.YtpjfhdljagkefaaGreatDoor.QPlain
end Go.Proofs.YtpjfhdljagkefaaGreatDoor.QPlain
namespace Go.Proofs.YtpjfhdljagkefaaGreatDoor.RPlain
open WPlain QPlain

def isOpen (X : Tx) : Bool := decide (X.s = 1)
def openN (l : List Tx) : Nat := (l.filter isOpen).length
theorem choiceG_snoc (m : Nat) : ∀ (l : List Tx) (i : Nat) (X : Tx), choiceG m i (l ++ [X]) = (choiceG m i l && okBit X.s (m.testBit (i + l.length))) := by
  intro l
  induction l with
  | nil => intro i X; simp [choiceG]
  | cons Y r ih => intro i X; rw [List.cons_append, choiceG, choiceG, ih, List.length_cons, show i + 1 + r.length = i + (r.length + 1) from by omega, Bool.and_assoc]
theorem choiceG_congr {m m' : Nat} : ∀ (l : List Tx) (i : Nat), (∀ j, j < i + l.length → m.testBit j = m'.testBit j) → choiceG m i l = choiceG m' i l := by
  intro l
  induction l with
  | nil => intro i _; rfl
  | cons Y r ih =>
    intro i h
    rw [List.length_cons] at h
    rw [choiceG, choiceG, ih (i + 1) (fun j hj => h j (by omega)), h i (by omega)]
def chL (l : List Tx) : List Nat := (List.range (2 ^ l.length)).filter fun m => choiceG m 0 l
theorem chL_snoc (l : List Tx) (X : Tx) : chL (l ++ [X]) = (if X.s = 2 then [] else chL l) ++ (if X.s = 1 ∨ X.s = 2 then (chL l).map (2 ^ l.length + ·) else []) := by
  unfold chL
  rw [List.length_append, List.length_singleton, Nat.pow_succ, Nat.mul_two, List.range_add, List.filter_append, List.filter_map]
  have h1 : ∀ m ∈ List.range (2 ^ l.length), choiceG m 0 (l ++ [X]) = (choiceG m 0 l && !decide (X.s = 2)) := fun m hm => by
    have hlt := List.mem_range.1 hm
    rw [choiceG_snoc, Nat.zero_add, Nat.testBit_lt_two_pow hlt]
    rfl
  have h2 : ∀ m ∈ List.range (2 ^ l.length), ((fun m => choiceG m 0 (l ++ [X])) ∘ (2 ^ l.length + ·)) m = (choiceG m 0 l && (decide (X.s = 1) || decide (X.s = 2))) := fun m hm => by
    have hlt := List.mem_range.1 hm
    show choiceG (2 ^ l.length + m) 0 (l ++ [X]) = _
    rw [choiceG_snoc, Nat.zero_add, Nat.testBit_two_pow_add_eq, Nat.testBit_lt_two_pow hlt, choiceG_congr (m' := m) l 0 (fun j hj => Nat.testBit_two_pow_add_gt (by omega) m)]
    rfl
  rw [List.filter_congr h1, List.filter_congr h2]
  congr 1
  · by_cases h : X.s = 2
    · simp [h]
    · simp [h]
  · by_cases h : X.s = 1 ∨ X.s = 2
    · rw [if_pos h]
      have : (decide (X.s = 1) || decide (X.s = 2)) = true := by simpa using h
      rw [this]
      simp
    · rw [if_neg h]
      have : (decide (X.s = 1) || decide (X.s = 2)) = false := by simpa using h
      rw [this]
      simp
theorem snocT {p : List Tx → Prop} (h0 : p []) (h1 : ∀ l X, p l → p (l ++ [X])) (l : List Tx) : p l := by
  rw [← List.reverse_reverse l]
  induction l.reverse with
  | nil => exact h0
  | cons e r ih => rw [List.reverse_cons]; exact h1 _ _ ih
theorem chL_len (l : List Tx) : (chL l).length = 2 ^ openN l := by
  refine snocT (p := fun l => (chL l).length = 2 ^ openN l) rfl ?_ l
  intro l X ih
  rw [chL_snoc, List.length_append]
  unfold openN at *
  rw [List.filter_append, List.length_append]
  by_cases h1 : X.s = 1
  · rw [if_neg (by omega), if_pos (.inl h1), List.length_map, ih]
    have : [X].filter isOpen = [X] := by simp [isOpen, h1]
    rw [this, List.length_singleton, Nat.pow_succ]
    omega
  · have : [X].filter isOpen = [] := by simp [isOpen, h1]
    rw [this, List.length_nil, Nat.add_zero]
    by_cases h2 : X.s = 2
    · rw [if_pos h2, if_pos (.inr h2), List.length_map, ih]; simp
    · rw [if_neg h2, if_neg (by omega), ih]; simp
theorem choices_chL {l : List Tx} (h6 : l.length ≤ 6) : choicesS l = chL l := by
  unfold choicesS chL choiceS
  have hp : 2 ^ l.length ≤ 64 := Nat.pow_le_pow_right (n := 2) (i := l.length) (j := 6) (by decide) h6
  obtain ⟨d, hd⟩ : ∃ d, 64 = 2 ^ l.length + d := ⟨64 - 2 ^ l.length, by omega⟩
  rw [hd, List.range_add, List.filter_append]
  have h1 : ((List.range d).map (2 ^ l.length + ·)).filter (fun n => choiceG n 0 l && decide (n < 2 ^ l.length)) = [] := by
    rw [List.filter_eq_nil_iff]
    intro m hm
    obtain ⟨x, _, rfl⟩ := List.mem_map.1 hm
    simp
  rw [h1, List.append_nil]
  refine List.filter_congr fun m hm => ?_
  rw [decide_eq_true (List.mem_range.1 hm), Bool.and_true]
theorem chL_rise (l : List Tx) : (chL l).Pairwise (· < ·) := List.Pairwise.filter _ List.pairwise_lt_range
theorem mem_chL {l : List Tx} {m : Nat} : m ∈ chL l ↔ m < 2 ^ l.length ∧ choiceG m 0 l = true := by unfold chL; rw [List.mem_filter, List.mem_range]
theorem choiceG_of {m : Nat} : ∀ {l : List Tx} {i : Nat}, (∀ j (hj : j < l.length), okBit l[j].s (m.testBit (i + j)) = true) → choiceG m i l = true := by
  intro l
  induction l with
  | nil => intro i _; rfl
  | cons X r ih =>
    intro i h
    rw [choiceG, Bool.and_eq_true]
    refine ⟨h 0 (by simp), ih fun j hj => ?_⟩
    have := h (j + 1) (by simpa using hj)
    rwa [List.getElem_cons_succ, show i + (j + 1) = i + 1 + j from by omega] at this
/-- how many bits are 1, of the first six -/
def pcN (m : Nat) : Nat := ((List.range 6).filter m.testBit).length
end Go.Proofs.YtpjfhdljagkefaaGreatDoor.RPlain
/- Plain words: ways from place to place, and why an order may not be. -/
namespace Go.Proofs.YtpjfhdljagkefaaGreatDoor.RPlain

/-- one place more, if it can be come to from what is there -/
def addW (L : List Nat) (out : List Nat) (k : Nat) : List Nat := if (out.any fun x => aft L x k) = true ∧ out.contains k = false then out ++ [k] else out
def stepW (L : List Nat) (n : Nat) (out : List Nat) : List Nat := (List.range n).foldl (addW L) out
def startW (L : List Nat) (n i : Nat) : List Nat := (List.range n).filter fun k => aft L i k
def waysG (L : List Nat) (n : Nat) : Nat → List Nat → List Nat
  | 0, out => out
  | s + 1, out => waysG L n s (stepW L n out)
def waysS (L : List Nat) (i : Nat) : List Nat := waysG L L.length (L.length - 1) (startW L L.length i)
def mayE (L : List Nat) : Nat := if 6 < L.length ∨ (L.any fun a => decide (2 ^ L.length ≤ a)) = true then 1 else if ((List.range L.length).any fun i => (waysS L i).contains i) = true then 8 else 0

theorem addW_pre (L out : List Nat) (k : Nat) : out <+: addW L out k := by
  unfold addW
  split
  · exact List.prefix_append _ _
  · exact List.prefix_refl _
theorem fold_pre (L : List Nat) : ∀ (l out : List Nat), out <+: l.foldl (addW L) out := by
  intro l
  induction l with
  | nil => intro out; exact List.prefix_refl _
  | cons k r ih => intro out; exact (addW_pre L out k).trans (ih _)
theorem fold_same (L : List Nat) : ∀ (l out : List Nat), (l.foldl (addW L) out).length = out.length → ∀ k ∈ l, addW L out k = out := by
  intro l
  induction l with
  | nil => intro out _ k hk; cases hk
  | cons x r ih =>
    intro out h k hk
    have h1 := (addW_pre L out x).length_le
    have h2 := (fold_pre L r (addW L out x)).length_le
    rw [List.foldl_cons] at h
    have h3 : addW L out x = out := ((addW_pre L out x).eq_of_length (by omega)).symm
    rcases List.mem_cons.1 hk with rfl | hk
    · exact h3
    · rw [h3] at h
      exact ih out h k hk
/-- nothing more can be come to -/
def Closed (L out : List Nat) : Prop := ∀ x ∈ out, ∀ k, k < L.length → aft L x k = true → k ∈ out
theorem addW_closed {L out : List Nat} (h : ∀ k, k < L.length → addW L out k = out) : Closed L out := by
  intro x hx k hk he
  by_cases hm : k ∈ out
  · exact hm
  · have h1 := h k hk
    unfold addW at h1
    rw [if_pos ⟨List.any_eq_true.2 ⟨x, hx, he⟩, by simpa using hm⟩] at h1
    have := congrArg List.length h1
    simp at this
theorem closed_add {L out : List Nat} (hc : Closed L out) {k : Nat} (hk : k < L.length) : addW L out k = out := by
  unfold addW
  rw [if_neg]
  rintro ⟨h1, h2⟩
  obtain ⟨x, hx, he⟩ := List.any_eq_true.1 h1
  have := hc x hx k hk he
  simp [this] at h2
theorem closed_step {L out : List Nat} (hc : Closed L out) : stepW L L.length out = out := by
  unfold stepW
  have : ∀ l : List Nat, (∀ k ∈ l, k < L.length) → l.foldl (addW L) out = out := by
    intro l
    induction l with
    | nil => intro _; rfl
    | cons k r ih => intro h; rw [List.foldl_cons, closed_add hc (h k (List.mem_cons_self ..))]; exact ih fun x hx => h x (List.mem_cons_of_mem _ hx)
  exact this _ fun k hk => List.mem_range.1 hk
/-- places that can be come to from one -/
structure Way (L : List Nat) (i : Nat) (out : List Nat) : Prop where
  nodup : out.Nodup
  lt : ∀ k ∈ out, k < L.length
  way : ∀ k ∈ out, Relation.TransGen (Edge L) i k
  first : ∀ k, k < L.length → aft L i k = true → k ∈ out
theorem Way.add {L : List Nat} {i : Nat} {out : List Nat} (h : Way L i out) {k : Nat} (hk : k < L.length) : Way L i (addW L out k) := by
  unfold addW
  split
  · rename_i hc
    obtain ⟨x, hx, he⟩ := List.any_eq_true.1 hc.1
    have hm : k ∉ out := by simpa using hc.2
    refine ⟨List.nodup_append.2 ⟨h.nodup, by simp, fun a ha b hb => ?_⟩, fun y hy => ?_, fun y hy => ?_, fun y hy hb => List.mem_append_left _ (h.first y hy hb)⟩
    · rw [List.mem_singleton.1 hb]; exact fun hc => hm (hc ▸ ha)
    · rcases List.mem_append.1 hy with hy | hy
      · exact h.lt y hy
      · rw [List.mem_singleton.1 hy]; exact hk
    · rcases List.mem_append.1 hy with hy | hy
      · exact h.way y hy
      · rw [List.mem_singleton.1 hy]; exact (h.way x hx).tail ⟨h.lt x hx, hk, he⟩
  · exact h
theorem Way.step {L : List Nat} {i : Nat} {out : List Nat} (h : Way L i out) : Way L i (stepW L L.length out) := by
  unfold stepW
  have : ∀ (l out : List Nat), (∀ k ∈ l, k < L.length) → Way L i out → Way L i (l.foldl (addW L) out) := by
    intro l
    induction l with
    | nil => intro out _ h; exact h
    | cons k r ih => intro out hl h; exact ih _ (fun x hx => hl x (List.mem_cons_of_mem _ hx)) (h.add (hl k (List.mem_cons_self ..)))
  exact this _ _ (fun k hk => List.mem_range.1 hk) h
theorem Way.start {L : List Nat} {i : Nat} (hi : i < L.length) : Way L i (startW L L.length i) := by
  refine ⟨List.nodup_range.filter _, fun k hk => ?_, fun k hk => ?_, fun k hk hb => ?_⟩
  · exact List.mem_range.1 (List.mem_filter.1 hk).1
  · have h1 := List.mem_filter.1 hk
    exact .single ⟨hi, List.mem_range.1 h1.1, h1.2⟩
  · exact List.mem_filter.2 ⟨List.mem_range.2 hk, hb⟩
theorem step_grows {L out : List Nat} : Closed L out ∨ out.length < (stepW L L.length out).length := by
  by_cases h : (stepW L L.length out).length = out.length
  · exact .inl (addW_closed fun k hk => fold_same L _ _ h k (List.mem_range.2 hk))
  · have := (fold_pre L (List.range L.length) out).length_le
    exact .inr (by unfold stepW at h ⊢; omega)
theorem waysG_spec {L : List Nat} {i : Nat} : ∀ (s m : Nat) (out : List Nat), Way L i out → (Closed L out ∨ m ≤ out.length) → Way L i (waysG L L.length s out) ∧ (Closed L (waysG L L.length s out) ∨ m + s ≤ (waysG L L.length s out).length) := by
  intro s
  induction s with
  | zero => intro m out h hc; exact ⟨h, hc⟩
  | succ s ih =>
    intro m out h hc
    rw [waysG]
    have h1 : Closed L (stepW L L.length out) ∨ m + 1 ≤ (stepW L L.length out).length := by
      rcases step_grows (L := L) (out := out) with hg | hg
      · rw [closed_step hg]; exact .inl hg
      · rcases hc with hc | hc
        · rw [closed_step hc]; exact .inl hc
        · exact .inr (by omega)
    have h2 := ih (m + 1) _ h.step h1
    exact ⟨h2.1, h2.2.imp_right fun h => by omega⟩
theorem ways_spec {L : List Nat} {i : Nat} (hi : i < L.length) : Way L i (waysS L i) ∧ Closed L (waysS L i) := by
  unfold waysS
  have h0 : Closed L (startW L L.length i) ∨ 1 ≤ (startW L L.length i).length := by
    by_cases h : (startW L L.length i).length = 0
    · left
      intro x hx
      rw [List.length_eq_zero_iff.1 h] at hx
      cases hx
    · exact .inr (by omega)
  obtain ⟨h1, h2⟩ := waysG_spec (L.length - 1) 1 _ (Way.start hi) h0
  refine ⟨h1, h2.elim id fun h => ?_⟩
  intro x _ k hk _
  have hle := nodup_le _ (List.range L.length) h1.nodup (fun y hy => List.mem_range.2 (h1.lt y hy))
  rw [List.length_range] at hle
  exact nodup_full _ _ h1.nodup h1.lt (by omega) k hk
theorem ways_iff {L : List Nat} {i k : Nat} (hi : i < L.length) : k ∈ waysS L i ↔ Relation.TransGen (Edge L) i k := by
  obtain ⟨h1, h2⟩ := ways_spec hi
  constructor
  · exact h1.way k
  · intro h
    induction h with
    | single h => exact h1.first _ h.2.1 h.2.2
    | tail _ h ih => exact h2 _ ih _ h.2.1 h.2.2
theorem trans_lt {L : List Nat} {a b : Nat} (h : Relation.TransGen (Edge L) a b) : a < L.length := by
  induction h with
  | single h => exact h.1
  | tail _ _ ih => exact ih
theorem free_iff (L : List Nat) : ((List.range L.length).any fun i => (waysS L i).contains i) = false ↔ Free L := by
  rw [List.any_eq_false]
  constructor
  · intro h a ha
    have hlt := trans_lt ha
    exact h a (List.mem_range.2 hlt) (by simpa using (ways_iff hlt).2 ha)
  · intro h i hi hc
    have hlt := List.mem_range.1 hi
    exact h i ((ways_iff hlt).1 (by simpa using hc))
theorem mayE_zero {L : List Nat} : mayE L = 0 ↔ L.length ≤ 6 ∧ (∀ a ∈ L, a < 2 ^ L.length) ∧ Free L := by
  unfold mayE
  by_cases h : 6 < L.length ∨ (L.any fun a => decide (2 ^ L.length ≤ a)) = true
  · rw [if_pos h]
    constructor
    · intro hc; cases hc
    · rintro ⟨h1, h2, _⟩
      rcases h with h | h
      · omega
      · obtain ⟨a, ha, hb⟩ := List.any_eq_true.1 h
        have := h2 a ha
        simp at hb
        omega
  · rw [if_neg h]
    have h1 : L.length ≤ 6 := by
      have := fun hc => h (.inl hc)
      omega
    have h2 : ∀ a ∈ L, a < 2 ^ L.length := fun a ha => by
      have := fun hc => h (.inr (List.any_eq_true.2 ⟨a, ha, hc⟩))
      simp at this
      exact this
    rw [← free_iff]
    cases hb : ((List.range L.length).any fun i => (waysS L i).contains i) with
    | true => simp
    | false => simp [h1]; exact h2
/-- level by level -/
theorem ext_snoc (n : Nat) (p : List Nat → Nat → Bool) : ∀ (s : Nat) (row : List Nat), extP n p (s + 1) row = (extP n p s row).flatMap fun r => ((List.range n).filter (p r)).map fun k => r ++ [k] := by
  have hone : ∀ (row : List Nat) (l : List Nat), (l.flatMap fun k => if p row k = true then [row ++ [k]] else []) = (l.filter (p row)).map fun k => row ++ [k] := by
    intro row l
    induction l with
    | nil => rfl
    | cons k r ih =>
      rw [List.flatMap_cons, ih, List.filter_cons]
      split <;> rfl
  intro s
  induction s with
  | zero =>
    intro row
    rw [extP, extP, List.flatMap_cons, List.flatMap_nil, List.append_nil]
    exact hone row _
  | succ s ih =>
    intro row
    rw [extP, extP, List.flatMap_assoc]
    refine congrArg (fun f => (List.range n).flatMap f) (funext fun k => ?_)
    by_cases hp : p row k = true
    · rw [if_pos hp, if_pos hp, ih]
    · rw [if_neg hp, if_neg hp]; rfl
end Go.Proofs.YtpjfhdljagkefaaGreatDoor.RPlain
