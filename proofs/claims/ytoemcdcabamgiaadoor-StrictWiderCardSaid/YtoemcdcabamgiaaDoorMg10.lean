/- Merged: OrdA, OrdB, OrdD, OrdC, OrdK. -/
import Derived.Test.YtoemcdcabamgiaaDoorMg4
import Derived.Test.YtoemcdcabamgiaaDoorMg3
import Derived.Test.YtoemcdcabamgiaaDoorMg9
import Derived.Test.YtoemcdcabamgiaaDoorRows
import Derived.Laws.BitsAllLaws
import Derived.Deep.RegionHeld
import Derived.OrdersIn
import Derived.RangeFuncCalls
import Derived.OwnWalkIn
/- Plain words: what is before what. -/
namespace Go.Proofs.YtoemcdcabamgiaaDoor.WPlain
end Go.Proofs.YtoemcdcabamgiaaDoor.WPlain
namespace Go.Proofs.YtoemcdcabamgiaaDoor.QPlain
end Go.Proofs.YtoemcdcabamgiaaDoor.QPlain
namespace Go.Proofs.YtoemcdcabamgiaaDoor.RPlain
open WPlain QPlain

/-- is one transaction before another? -/
def bfr (a b : Tx) : Bool := (decide (a.s = 2) || decide (a.s = 3)) && decide (a.l < b.f)
theorem state_ended (k : Int) : (decide (stateS k = 2) || decide (stateS k = 3)) = (decide (k = 7) || decide (k = 9)) := by
  unfold stateS
  by_cases h7 : k = 7
  · subst h7; rfl
  · by_cases h9 : k = 9
    · subst h9; rfl
    · by_cases h6 : k = 6
      · subst h6; rfl
      · simp [h7, h9, h6]
theorem flw_ended {t : Int} : ∀ (r : List Ev) (F : Int → Nat) (i : Nat), (flw F i r).2.2 = true → F t = 7 → ∀ e ∈ r, e.t ≠ t := by
  intro r
  induction r with
  | nil => intro F i _ _ e he; cases he
  | cons x r ih =>
    intro F i hok hF e he
    cases hm : mv (F x.t) x.k.toNat with
    | none => rw [flw_none hm] at hok; simp at hok
    | some s =>
      rw [flw_some hm] at hok
      have hx : x.t ≠ t := by
        intro hc
        rw [hc, hF] at hm
        simp [mv, mvs] at hm
      rcases List.mem_cons.1 he with rfl | he
      · exact hx
      · refine ih _ _ hok ?_ e he
        unfold upd
        rw [if_neg (fun hc => hx hc.symm)]
        exact hF
theorem ended_stop {h : List Ev} (hc : (checkS h).2 = 0) {k : Nat} {t : Int} (hl : lastOf (h.take k) t = 7 ∨ lastOf (h.take k) t = 9) : ∀ e ∈ h.drop k, e.t ≠ t := by
  obtain ⟨hr, _, hok⟩ := check_agree hc
  have hek := (right_evs hr).2
  have hsp := flw_app (h.take k) (h.drop k) (fun _ => 0) 0
  rw [List.take_append_drop] at hsp
  obtain ⟨_, _, _, hA⟩ := flw_first (h.take k) [] _ Agree.start (fun _ hc => by cases hc) (fun e he => (hek e (List.mem_of_mem_take he)).1)
  unfold flw0 at hok
  cases h1 : (flw (fun _ => 0) 0 (h.take k)).2.2 with
  | false => rw [if_neg (by rw [h1]; simp)] at hsp; rw [hsp, h1] at hok; simp at hok
  | true =>
    rw [if_pos h1] at hsp
    rw [hsp] at hok
    have hF := hA h1 t
    simp only [List.length_nil, List.nil_append] at hF
    refine flw_ended _ _ _ hok ?_
    rw [hF]
    rcases hl with hl | hl <;> rw [hl] <;> rfl
theorem none_more {h : List Ev} {t : Int} : ∀ g : List Ev, (∀ e ∈ g, e.t ≠ t) → lstOf (h ++ g) t = lstOf h t ∧ lastOf (h ++ g) t = lastOf h t := by
  intro g
  refine rev_ind (p := fun g => (∀ e ∈ g, e.t ≠ t) → lstOf (h ++ g) t = lstOf h t ∧ lastOf (h ++ g) t = lastOf h t) ?_ ?_ g
  · intro _; simp
  · intro g e ih hall
    rw [← List.append_assoc, lstOf_snoc, lastOf_snoc, if_neg (hall e (by simp)), if_neg (hall e (by simp))]
    exact ih (fun x hx => hall x (by simp [hx]))
theorem some_more {h : List Ev} {t : Int} : ∀ g : List Ev, (∃ e ∈ g, e.t = t) → (h.length : Int) ≤ lstOf (h ++ g) t := by
  intro g
  refine rev_ind (p := fun g => (∃ e ∈ g, e.t = t) → (h.length : Int) ≤ lstOf (h ++ g) t) ?_ ?_ g
  · rintro ⟨e, he, _⟩; cases he
  · intro g e ih hex
    rw [← List.append_assoc, lstOf_snoc]
    by_cases he : e.t = t
    · rw [if_pos he, List.length_append]
      omega
    · rw [if_neg he]
      refine ih ?_
      obtain ⟨x, hx, hxt⟩ := hex
      rcases List.mem_append.1 hx with hx | hx
      · exact ⟨x, hx, hxt⟩
      · rw [List.mem_singleton.1 hx] at hxt; exact absurd hxt he
/-- up to a place: what is before what stays, and nothing is added -/
theorem bfr_take {h : List Ev} (hc : (checkS h).2 = 0) {k : Nat} (hk : k ≤ h.length) {t u : Int} (hu : u ∈ namesOf (h.take k)) : bfr (txOf h t) (txOf h u) = bfr (txOf (h.take k) t) (txOf (h.take k) u) := by
  have hsp : h.take k ++ h.drop k = h := List.take_append_drop k h
  have htl : (h.take k).length = k := by rw [List.length_take]; omega
  have hfu : fstOf h u = fstOf (h.take k) u := by
    have := (tx_more (h.take k) (h.drop k) u hu).1
    rwa [hsp] at this
  have hfk := (fst_range hu).2
  rw [htl] at hfk
  unfold bfr txOf
  simp only [state_ended, hfu]
  by_cases hl : lastOf (h.take k) t = 7 ∨ lastOf (h.take k) t = 9
  · have hn := none_more (h := h.take k) (t := t) (h.drop k) (ended_stop hc hl)
    rw [hsp] at hn
    rw [hn.1, hn.2]
  · have h2 : (decide (lastOf (h.take k) t = 7) || decide (lastOf (h.take k) t = 9)) = false := by simpa using hl
    rw [h2, Bool.false_and]
    by_cases hex : ∃ e ∈ h.drop k, e.t = t
    · have := some_more (h := h.take k) (h.drop k) hex
      rw [hsp, htl] at this
      have : decide (lstOf h t < fstOf (h.take k) u) = false := decide_eq_false (by omega)
      rw [this, Bool.and_false]
    · have hn := none_more (h := h.take k) (t := t) (h.drop k) (fun e he hte => hex ⟨e, he, hte⟩)
      rw [hsp] at hn
      rw [hn.2, h2, Bool.false_and]
theorem bfr_self (h : List Ev) {t : Int} (ht : t ∈ namesOf h) : bfr (txOf h t) (txOf h t) = false := by
  have := (fst_lst h t ht).1
  unfold bfr txOf
  simp
  omega
theorem bfr_trans (h : List Ev) {a b c : Int} (hb : b ∈ namesOf h) (h1 : bfr (txOf h a) (txOf h b) = true) (h2 : bfr (txOf h b) (txOf h c) = true) : bfr (txOf h a) (txOf h c) = true := by
  have := (fst_lst h b hb).1
  unfold bfr txOf at *
  simp only [Bool.and_eq_true, decide_eq_true_eq] at *
  exact ⟨h1.1, by omega⟩
theorem bfr_interval (h : List Ev) {a b c d : Int} (h1 : bfr (txOf h a) (txOf h b) = true) (h2 : bfr (txOf h c) (txOf h d) = true) : bfr (txOf h a) (txOf h d) = true ∨ bfr (txOf h c) (txOf h b) = true := by
  unfold bfr txOf at *
  simp only [Bool.and_eq_true, decide_eq_true_eq] at *
  by_cases h3 : lstOf h a < fstOf h d
  · exact .inl ⟨h1.1, h3⟩
  · exact .inr ⟨h2.1, by omega⟩
/-- the table's own row keeps the order -/
theorem bfr_row (h : List Ev) {i j : Nat} (hij : j < i) (hi : i < (namesOf h).length) : bfr (txOf h ((namesOf h)[i])) (txOf h ((namesOf h)[j])) = false := by
  have h1 := List.pairwise_iff_getElem.1 (fst_rise h) j i (by omega) hi hij
  have h2 := (fst_lst h _ (List.getElem_mem hi)).1
  unfold bfr txOf
  simp
  omega
end Go.Proofs.YtoemcdcabamgiaaDoor.RPlain
/- Plain words: what is before what, as bits; up to a place; rows that keep it. -/
namespace Go.Proofs.YtoemcdcabamgiaaDoor.WPlain
end Go.Proofs.YtoemcdcabamgiaaDoor.WPlain
namespace Go.Proofs.YtoemcdcabamgiaaDoor.QPlain
end Go.Proofs.YtoemcdcabamgiaaDoor.QPlain
namespace Go.Proofs.YtoemcdcabamgiaaDoor.RPlain
open WPlain QPlain

/-- the number whose bit k is p k -/
def bitsN (p : Nat → Bool) : Nat → Nat
  | 0 => 0
  | n + 1 => bitsN p n + (if p n = true then 2 ^ n else 0)
theorem bitsN_lt (p : Nat → Bool) : ∀ n, bitsN p n < 2 ^ n := by
  intro n
  induction n with
  | zero => simp [bitsN]
  | succ n ih => unfold bitsN; rw [Nat.pow_succ]; split <;> omega
theorem bitsN_congr {p q : Nat → Bool} : ∀ n, (∀ k, k < n → p k = q k) → bitsN p n = bitsN q n := by
  intro n
  induction n with
  | zero => intro _; rfl
  | succ n ih => intro h; unfold bitsN; rw [ih (fun k hk => h k (by omega)), h n (by omega)]
theorem bitsN_mod (p : Nat → Bool) {m : Nat} : ∀ n, m ≤ n → bitsN p n % 2 ^ m = bitsN p m := by
  intro n
  induction n with
  | zero => intro h; rw [show m = 0 from by omega]; rfl
  | succ n ih =>
    intro h
    by_cases hm : m = n + 1
    · rw [hm]; exact Nat.mod_eq_of_lt (bitsN_lt p (n + 1))
    · have hmn : m ≤ n := by omega
      rw [show bitsN p (n + 1) = bitsN p n + (if p n = true then 2 ^ n else 0) from rfl]
      have hd : (if p n = true then 2 ^ n else 0) % 2 ^ m = 0 := by
        split
        · obtain ⟨d, rfl⟩ : ∃ d, n = m + d := ⟨n - m, by omega⟩
          rw [Nat.pow_add, Nat.mul_mod_right]
        · exact Nat.zero_mod _
      rw [Nat.add_mod, hd, Nat.add_zero, Nat.mod_mod, ih hmn]
theorem bitsN_bit (p : Nat → Bool) {n k : Nat} (hk : k < n) : bitsN p n / 2 ^ k % 2 = if p k = true then 1 else 0 := by
  have h1 := bitsN_mod p (m := k + 1) n (by omega)
  have h2 : bitsN p n / 2 ^ k % 2 = bitsN p n % 2 ^ (k + 1) / 2 ^ k := by rw [Nat.pow_succ, Nat.mod_mul_right_div_self]
  rw [h2, h1, show bitsN p (k + 1) = bitsN p k + (if p k = true then 2 ^ k else 0) from rfl]
  have h3 := bitsN_lt p k
  split
  · rw [Nat.add_div_right _ (Nat.two_pow_pos k), Nat.div_eq_of_lt h3]
  · rw [Nat.add_zero, Nat.div_eq_of_lt h3]
/-- a transaction's bits, in a table; those of all -/
def afterN (l : List Tx) (X : Tx) : Nat := bitsN (fun k => match l[k]? with | some Y => bfr X Y | none => false) l.length
def afterS (l : List Tx) : List Nat := l.map (afterN l)
theorem afterN_lt (l : List Tx) (X : Tx) : afterN l X < 2 ^ l.length := bitsN_lt _ _
theorem afterS_len (l : List Tx) : (afterS l).length = l.length := List.length_map _
theorem afterN_bit {l : List Tx} (X : Tx) {k : Nat} (hk : k < l.length) : afterN l X / 2 ^ k % 2 = if bfr X l[k] = true then 1 else 0 := by
  unfold afterN
  rw [bitsN_bit _ hk]
  simp only [List.getElem?_eq_getElem hk]
theorem afterN_cut {h : List Ev} (hc : (checkS h).2 = 0) {K : Nat} (hK : K ≤ h.length) {i : Nat} (hi : i < (tableS (h.take K)).length) (hi2 : i < (tableS h).length) :
    afterN (tableS h) ((tableS h)[i]) % 2 ^ (tableS (h.take K)).length = afterN (tableS (h.take K)) ((tableS (h.take K))[i]) := by
  have hn := names_cut h K
  have hlg : ∀ j, j < (tableS (h.take K)).length → j < (namesOf (h.take K)).length := fun j hj => by rw [tableS_len] at hj; exact hj
  have hle : (tableS (h.take K)).length ≤ (tableS h).length := by rw [tableS_len, tableS_len]; exact hn.1
  unfold afterN
  rw [bitsN_mod _ _ hle]
  refine bitsN_congr _ fun k hk => ?_
  have hk2 : k < (tableS h).length := by omega
  rw [List.getElem?_eq_getElem hk, List.getElem?_eq_getElem hk2]
  have hlh : ∀ j, j < (tableS h).length → j < (namesOf h).length := fun j hj => by rw [tableS_len] at hj; exact hj
  rw [tableS_get (hlg i hi), tableS_get (hlg k hk), tableS_get (hlh i hi2), tableS_get (hlh k hk2), ← hn.2 i (hlg i hi) (hlh i hi2), ← hn.2 k (hlg k hk) (hlh k hk2)]
  exact bfr_take hc hK (List.getElem_mem _)
/-- a row of places: is any not there; is any there twice, or behind one that it is before -/
def thereS (l : List Tx) (row : List Int) : Bool := row.all fun i => decide (0 ≤ i) && decide (i < l.length)
def badP (l : List Tx) (a b : Int) : Bool := decide (a = b) || (match l[a.toNat]?, l[b.toNat]? with | some X, some Y => bfr X Y | _, _ => false)
def keepsS (l : List Tx) (row : List Int) : Bool := (List.range row.length).all fun i => (row.take i).all fun b => !(badP l (row.getD i 0) b)
theorem thereS_iff (l : List Tx) (row : List Int) : thereS l row = true ↔ ∀ i ∈ row, 0 ≤ i ∧ i < l.length := by
  unfold thereS
  simp [List.all_eq_true]
theorem keepsS_iff (l : List Tx) (row : List Int) : keepsS l row = true ↔ ∀ i (hi : i < row.length) j (hj : j < i), badP l row[i] (row[j]'(by omega)) = false := by
  unfold keepsS
  rw [List.all_eq_true]
  constructor
  · intro h i hi j hj
    have h1 := h i (List.mem_range.2 hi)
    rw [List.all_eq_true] at h1
    have h2 := h1 (row[j]'(by omega)) (List.mem_take_iff_getElem.2 ⟨j, by omega, rfl⟩)
    rw [List.getD_eq_getElem?_getD, List.getElem?_eq_getElem hi] at h2
    simpa using h2
  · intro h i hi
    rw [List.all_eq_true]
    intro b hb
    obtain ⟨j, hj, rfl⟩ := List.mem_take_iff_getElem.1 hb
    have hi' := List.mem_range.1 hi
    rw [List.getD_eq_getElem?_getD, List.getElem?_eq_getElem hi']
    simpa using h i hi' j (by omega)
/-- the table's own row keeps the order -/
theorem own_keeps (h : List Ev) : keepsS (tableS h) ((List.range (tableS h).length).map Int.ofNat) = true := by
  rw [keepsS_iff]
  intro i hi j hj
  have hi2 : i < (tableS h).length := by simpa using hi
  simp only [List.getElem_map, List.getElem_range]
  unfold badP
  have h1 : ((Int.ofNat i).toNat) = i := rfl
  have h2 : ((Int.ofNat j).toNat) = j := rfl
  rw [h1, h2, List.getElem?_eq_getElem hi2, List.getElem?_eq_getElem (by omega)]
  have hin : i < (namesOf h).length := by rw [tableS_len] at hi2; exact hi2
  have hne : decide (Int.ofNat i = Int.ofNat j) = false := by simp; omega
  rw [hne, tableS_get hin, tableS_get (by omega)]
  simpa using bfr_row h hj hin
end Go.Proofs.YtoemcdcabamgiaaDoor.RPlain
/- Plain words: the bits of what is before what, gathered pair by pair; rows of places as bits. -/
namespace Go.Proofs.YtoemcdcabamgiaaDoor.WPlain
end Go.Proofs.YtoemcdcabamgiaaDoor.WPlain
namespace Go.Proofs.YtoemcdcabamgiaaDoor.QPlain
end Go.Proofs.YtoemcdcabamgiaaDoor.QPlain
namespace Go.Proofs.YtoemcdcabamgiaaDoor.RPlain
open WPlain QPlain

/-- is the one at a place before the one at another? -/
def bfrAt (l : List Tx) (i k : Nat) : Bool := match l[i]?, l[k]? with | some X, some Y => bfr X Y | _, _ => false
/-- all of two places, in order -/
def pairsF (n : Nat) : List (Fin n × Fin n) := (List.finRange n).flatMap fun i => (List.finRange n).map fun k => (i, k)
/-- a place's bits, gathered pair by pair -/
def accF {n : Nat} (g : Nat → Nat → Bool) (i : Nat) (pre : List (Fin n × Fin n)) : Nat := pre.foldl (fun a p => if p.1.val = i ∧ g p.1.val p.2.val = true then a ||| 2 ^ p.2.val else a) 0
theorem accF_snoc {n : Nat} (g : Nat → Nat → Bool) (i : Nat) (pre : List (Fin n × Fin n)) (x : Fin n × Fin n) : accF g i (pre ++ [x]) = if x.1.val = i ∧ g x.1.val x.2.val = true then accF g i pre ||| 2 ^ x.2.val else accF g i pre := by simp [accF]
theorem snoc_ind {α : Type} {p : List α → Prop} (h0 : p []) (h1 : ∀ h e, p h → p (h ++ [e])) (h : List α) : p h := by
  rw [← List.reverse_reverse h]
  induction h.reverse with
  | nil => exact h0
  | cons e r ih => rw [List.reverse_cons]; exact h1 _ _ ih
theorem accF_bit {n : Nat} (g : Nat → Nat → Bool) (i j : Nat) (pre : List (Fin n × Fin n)) : (accF g i pre).testBit j = true ↔ ∃ p ∈ pre, p.1.val = i ∧ p.2.val = j ∧ g p.1.val p.2.val = true := by
  refine snoc_ind (p := fun pre => (accF g i pre).testBit j = true ↔ ∃ p ∈ pre, p.1.val = i ∧ p.2.val = j ∧ g p.1.val p.2.val = true) ?_ ?_ pre
  · simp [accF]
  · intro pre x ih
    rw [accF_snoc]
    constructor
    · intro h
      split at h
      · rename_i hx
        rw [Nat.testBit_or, Bool.or_eq_true, Nat.testBit_two_pow] at h
        rcases h with h | h
        · obtain ⟨p, hp, hq⟩ := ih.1 h
          exact ⟨p, List.mem_append_left _ hp, hq⟩
        · exact ⟨x, by simp, hx.1, by simpa using h, hx.2⟩
      · obtain ⟨p, hp, hq⟩ := ih.1 h
        exact ⟨p, List.mem_append_left _ hp, hq⟩
    · rintro ⟨p, hp, h1, h2, h3⟩
      rcases List.mem_append.1 hp with hp | hp
      · have := ih.2 ⟨p, hp, h1, h2, h3⟩
        split
        · rw [Nat.testBit_or, this]; rfl
        · exact this
      · rw [List.mem_singleton.1 hp] at h1 h2 h3
        rw [if_pos ⟨h1, h3⟩, Nat.testBit_or, Nat.testBit_two_pow]
        simp [h2]
theorem accF_lt {n : Nat} (g : Nat → Nat → Bool) (i : Nat) (pre : List (Fin n × Fin n)) : accF g i pre < 2 ^ n := by
  refine Nat.lt_pow_two_of_testBit _ fun j hj => ?_
  cases hc : (accF g i pre).testBit j with
  | false => rfl
  | true =>
    obtain ⟨p, _, _, h2, _⟩ := (accF_bit g i j pre).1 hc
    have := p.2.isLt
    omega
theorem bitsN_test (p : Nat → Bool) (n j : Nat) : (bitsN p n).testBit j = (decide (j < n) && p j) := by
  by_cases hj : j < n
  · rw [Nat.testBit_eq_decide_div_mod_eq, bitsN_bit p hj]
    cases p j <;> simp [hj]
  · have h1 := bitsN_lt p n
    have h2 : 2 ^ n ≤ 2 ^ j := Nat.pow_le_pow_right (by decide) (by omega)
    rw [Nat.testBit_lt_two_pow (by omega)]
    simp [hj]
theorem pairsF_mem {n : Nat} (p : Fin n × Fin n) : p ∈ pairsF n := by
  unfold pairsF
  rw [List.mem_flatMap]
  exact ⟨p.1, List.mem_finRange _, List.mem_map.2 ⟨p.2, List.mem_finRange _, rfl⟩⟩
theorem accF_all (g : Nat → Nat → Bool) {n i : Nat} (hi : i < n) : accF g i (pairsF n) = bitsN (g i) n := by
  refine Nat.eq_of_testBit_eq fun j => ?_
  rw [bitsN_test]
  by_cases hj : j < n ∧ g i j = true
  · rw [(accF_bit g i j (pairsF n)).2 ⟨(⟨i, hi⟩, ⟨j, hj.1⟩), pairsF_mem _, rfl, rfl, hj.2⟩]
    simp [hj.1, hj.2]
  · cases hc : (accF g i (pairsF n)).testBit j with
    | true =>
      obtain ⟨p, _, h1, h2, h3⟩ := (accF_bit g i j (pairsF n)).1 hc
      rw [h1, h2] at h3
      exact absurd ⟨h2 ▸ p.2.isLt, h3⟩ hj
    | false =>
      symm
      rw [Bool.and_eq_false_iff]
      by_cases h1 : j < n
      · right
        cases hg : g i j with
        | false => rfl
        | true => exact absurd ⟨h1, hg⟩ hj
      · left
        simp [h1]
theorem accF_after (l : List Tx) {i : Nat} (hi : i < l.length) : accF (bfrAt l) i (pairsF l.length) = afterN l l[i] := by
  rw [accF_all _ hi]
  unfold afterN
  refine bitsN_congr _ fun k hk => ?_
  unfold bfrAt
  rw [List.getElem?_eq_getElem hi, List.getElem?_eq_getElem hk]
/-- the pairs up to a place -/
def preF (n i : Nat) : List (Fin n × Fin n) := ((List.finRange n).take i).flatMap fun i => (List.finRange n).map fun k => (i, k)
def midF (n i k : Nat) (hi : i < n) : List (Fin n × Fin n) := preF n i ++ ((List.finRange n).take k).map fun k => (⟨i, hi⟩, k)
theorem preF_all (n : Nat) : preF n n = pairsF n := by
  unfold preF pairsF
  rw [List.take_of_length_le (by simp)]
theorem midF_zero {n i : Nat} (hi : i < n) : midF n i 0 hi = preF n i := by simp [midF]
theorem midF_all {n i : Nat} (hi : i < n) : midF n i n hi = preF n (i + 1) := by
  unfold midF preF
  rw [List.take_of_length_le (l := List.finRange n) (i := n) (by simp), List.take_succ_eq_append_getElem (l := List.finRange n) (i := i) (by simpa using hi), List.flatMap_append]
  simp
theorem midF_snoc {n i k : Nat} (hi : i < n) (hk : k < n) : midF n i (k + 1) hi = midF n i k hi ++ [(⟨i, hi⟩, ⟨k, hk⟩)] := by
  unfold midF
  rw [List.take_succ_eq_append_getElem (l := List.finRange n) (i := k) (by simpa using hk), List.map_append, ← List.append_assoc]
  simp
theorem preF_len (n i : Nat) (hi : i ≤ n) : (preF n i).length = i * n := by
  unfold preF
  rw [List.length_flatMap]
  simp only [List.length_map, List.length_finRange]
  rw [List.map_const', List.sum_replicate_nat]
  simp
  rw [Nat.min_eq_left hi]
theorem midF_len {n i k : Nat} (hi : i < n) (hk : k < n) : (midF n i k hi).length < n * n := by
  unfold midF
  rw [List.length_append, preF_len n i (by omega), List.length_map, List.length_take, List.length_finRange]
  have h1 : (i + 1) * n ≤ n * n := Nat.mul_le_mul_right n hi
  rw [Nat.add_mul] at h1
  omega
/-- rows of places -/
def aheadN (row : List Nat) : Nat := row.foldl (fun a p => a ||| 2 ^ p) 0
theorem aheadN_snoc (row : List Nat) (p : Nat) : aheadN (row ++ [p]) = aheadN row ||| 2 ^ p := by simp [aheadN]
theorem aheadN_bit (row : List Nat) (j : Nat) : (aheadN row).testBit j = true ↔ j ∈ row := by
  refine snoc_ind (p := fun row => (aheadN row).testBit j = true ↔ j ∈ row) ?_ ?_ row
  · simp [aheadN]
  · intro row p ih
    rw [aheadN_snoc, Nat.testBit_or, Bool.or_eq_true, ih, Nat.testBit_two_pow]
    simp [eq_comm]
theorem aheadN_lt {row : List Nat} {n : Nat} (h : ∀ p ∈ row, p < n) : aheadN row < 2 ^ n := by
  refine Nat.lt_pow_two_of_testBit _ fun j hj => ?_
  cases hc : (aheadN row).testBit j with
  | false => rfl
  | true =>
    have := h _ ((aheadN_bit row j).1 hc)
    omega
theorem afterN_test (l : List Tx) (X : Tx) {k : Nat} (hk : k < l.length) : (afterN l X).testBit k = bfr X l[k] := by
  unfold afterN
  rw [bitsN_test, List.getElem?_eq_getElem hk]
  simp [hk]
/-- does a place clash with what is ahead of it? -/
theorem clash_iff (l : List Tx) (row : List Nat) (hrow : ∀ b ∈ row, b < l.length) {p : Nat} (hp : p < l.length) :
    aheadN row &&& (2 ^ p ||| afterN l l[p]) = 0 ↔ ∀ b ∈ row, badP l (p : Int) (b : Int) = false := by
  have hb : ∀ b ∈ row, badP l (p : Int) (b : Int) = (2 ^ p ||| afterN l l[p]).testBit b := by
    intro b hb
    have hbl := hrow b hb
    unfold badP
    rw [Int.toNat_natCast, Int.toNat_natCast, List.getElem?_eq_getElem hp, List.getElem?_eq_getElem hbl, Nat.testBit_or, afterN_test l _ hbl, Nat.testBit_two_pow]
    congr 1
    exact decide_eq_decide.2 (by omega)
  constructor
  · intro h b hbm
    rw [hb b hbm]
    have h1 : (aheadN row &&& (2 ^ p ||| afterN l l[p])).testBit b = false := by rw [h]; exact Nat.zero_testBit b
    rw [Nat.testBit_and, (aheadN_bit row b).2 hbm, Bool.true_and] at h1
    exact h1
  · intro h
    refine Nat.eq_of_testBit_eq fun j => ?_
    rw [Nat.zero_testBit, Nat.testBit_and, Bool.and_eq_false_iff]
    cases hc : (aheadN row).testBit j with
    | false => exact .inl rfl
    | true =>
      have hm := (aheadN_bit row j).1 hc
      right
      rw [← hb j hm]
      exact h j hm
theorem bit_iff (l : List Tx) (X : Tx) {k : Nat} (hk : k < l.length) : afterN l X &&& 2 ^ k = 0 ↔ bfr X l[k] = false := by
  rw [← afterN_test l X hk]
  constructor
  · intro h
    have h1 : (afterN l X &&& 2 ^ k).testBit k = false := by rw [h]; exact Nat.zero_testBit k
    rw [Nat.testBit_and, Nat.testBit_two_pow] at h1
    simpa using h1
  · intro h
    refine Nat.eq_of_testBit_eq fun j => ?_
    rw [Nat.zero_testBit, Nat.testBit_and, Nat.testBit_two_pow]
    by_cases hj : k = j
    · subst hj; rw [h]; rfl
    · simp [hj]
/-- a row keeps the order up to a place -/
def okTo (l : List Tx) (row : List Int) (i : Nat) : Prop := ∀ a (ha : a < row.length) b (hb : b < a), a < i → badP l row[a] (row[b]'(by omega)) = false
theorem okTo_zero (l : List Tx) (row : List Int) : okTo l row 0 := fun _ _ _ _ h => absurd h (Nat.not_lt_zero _)
theorem okTo_all {l : List Tx} {row : List Int} (h : okTo l row row.length) : keepsS l row = true := (keepsS_iff l row).2 fun a ha b hb => h a ha b hb ha
theorem okTo_next {l : List Tx} {row : List Int} {i : Nat} (hi : i < row.length) (h : okTo l row i) (hn : ∀ b (hb : b < i), badP l row[i] (row[b]'(by omega)) = false) : okTo l row (i + 1) := by
  intro a ha b hb hai
  by_cases h1 : a = i
  · subst h1; exact hn b hb
  · exact h a ha b hb (by omega)
theorem keeps_not {l : List Tx} {row : List Int} {i j : Nat} (hi : i < row.length) (hj : j < i) (hb : badP l row[i] (row[j]'(by omega)) = true) : keepsS l row = false := by
  cases hk : keepsS l row with
  | false => rfl
  | true => rw [(keepsS_iff l row).1 hk i hi j hj] at hb; cases hb
/-- well-formed events have few names -/
theorem table_six {h : List Ev} (h0 : (checkS h).2 = 0) : (tableS h).length ≤ 6 := by
  obtain ⟨hr, _, _⟩ := check_agree h0
  rw [tableS_len]
  unfold right at hr
  simp only [Bool.and_eq_true, decide_eq_true_eq] at hr
  exact hr.2
end Go.Proofs.YtoemcdcabamgiaaDoor.RPlain
/- The walks of package order's bit and isBefore. -/
namespace Go.Proofs.YtoemcdcabamgiaaDoor.WPlain
end Go.Proofs.YtoemcdcabamgiaaDoor.WPlain
namespace Go.Proofs.YtoemcdcabamgiaaDoor.QPlain
end Go.Proofs.YtoemcdcabamgiaaDoor.QPlain
namespace Go.Proofs.YtoemcdcabamgiaaDoor.RPlain
end Go.Proofs.YtoemcdcabamgiaaDoor.RPlain
namespace Go.Proofs.YtoemcdcabamgiaaDoor
open Go.RowKit WPlain QPlain RPlain

theorem pow_u32 {k : Nat} (hk : k < 32) : (2 : Int) ^ k % 4294967296 = ((2 ^ k : Nat) : Int) := by
  have h1 : 2 ^ k < 4294967296 := Nat.pow_lt_pow_right (a := 2) (m := k) (n := 32) (by decide) hk
  have h2 : (2 : Int) ^ k = ((2 ^ k : Nat) : Int) := (Int.natCast_pow 2 k).symm
  rw [h2]
  generalize 2 ^ k = x at *
  omega
theorem bit_any (k : Nat) (hk : k < 32) (w : World) : Calls Tryd.prog 33 #[.int .i64 (k : Int)] w fun e w' => e = .returned (.int .u32 ((2 ^ k : Nat) : Int)) ∧ w' = w := by
  go_enter Tryd.func33, Tryd.ntmps33
  go_wp2
  go_ret
  exact ⟨by rw [pow_u32 hk]; rfl, rfl⟩
set_option maxRecDepth 100000 in
theorem isBefore_any (X Y : Tx) (a1 a2 : Option Addr) (n1 n2 c1 c2 : Nat) (w : World) :
    Calls Tryd.prog 77 #[.agg #[.int .i64 X.n, .int .i64 X.f, .int .i64 X.l, .int .i64 X.s, .slice a1 n1 c1], .agg #[.int .i64 Y.n, .int .i64 Y.f, .int .i64 Y.l, .int .i64 Y.s, .slice a2 n2 c2]] w fun e w' => e = .returned (.bool (bfr X Y)) ∧ Below w.heap.size w w' := by
  go_enter Tryd.func77, Tryd.ntmps77
  go_wp2
  all_goals go_ret
  all_goals exact ⟨by unfold bfr; simp [*], ((Below.refl _ _).alloc (Nat.le_refl _) _).alloc (by simp) _⟩
end Go.Proofs.YtoemcdcabamgiaaDoor
/- A region that draws its order, within a round of a loop over a function, walked by the plain law of a region that holds a condition on the world. -/
namespace Go.Proofs.YtoemcdcabamgiaaDoor

def noDefer (ops : Array Oper) : Bool := ops.all fun o => match o.op with | .defer _ => false | _ => true
theorem noDefer_spec {ops : Array Oper} (h : noDefer ops = true) {i : Nat} {o : Oper} (ho : ops[i]? = some o) : ∀ c, o.op ≠ .defer c := by
  intro c hc
  have h1 := Array.all_eq_true.1 h i (Array.getElem?_eq_some_iff.1 ho).1
  rw [(Array.getElem?_eq_some_iff.1 ho).2, hc] at h1
  cases h1
theorem rows_round {l n : Nat} {P : Program} {row : String} {args : Array Value} {w : World} {R : Value → World → Prop} (h : Rows P row args w R) : RowsIn (Fence.wide.inRound l) n P row args w R :=
  fun c cs _ => let ⟨v, w', r, s⟩ := h c cs; ⟨v, w', r, stepsIn_wide.2 s⟩
theorem oper_round {l n : Nat} {P : Program} {o : Oper} {a : Act} {w : World} {K : Act → World → Prop} {Q : Exit → Act → World → Prop} (ho : ∀ c, o.op ≠ .defer c)
    (h : o.wp P a w K Q) : o.wpIn (Fence.wide.inRound l) n P a w K Q := by
  unfold Oper.wp at h
  unfold Oper.wpIn
  refine ⟨fun _ _ => trivial, ?_⟩
  rw [Oper.semAt_eq _ _ _ ho]
  generalize (execOp a.eval o).run P w = r at *
  cases r with
  | ok x w' =>
    cases x <;> simp only [Oper.upon, Oper.uponIn] at h ⊢
    case value => exact h
    case skip => exact h
    case defer => exact h
    case enter f args => exact ⟨fun hh => by simp [Fence.wide] at hh, (CallsIn.inRound l (callsIn_wide.2 h)).mono fun e w'' he => by cases e <;> exact he⟩
    case row row args => exact ⟨fun hh => by simp [Fence.wide] at hh, rows_round h⟩
  | halt x w' => cases x <;> simp only [Oper.upon, Oper.uponIn] at h ⊢ <;> exact h
theorem wpOp_round {l n : Nat} {P : Program} {ops : Array Oper} {Q : Exit → Act → World → Prop} (hd : noDefer ops = true) (hl : ¬ LetsOut Q) {i : Nat} {a : Act} {w : World} {K K' : Act → World → Prop} (hK : ∀ a w, K a w → K' a w)
    (h : wpOp P ops Q i K a w) : wpOpIn (Fence.wide.inRound l) n P ops Q i K' a w := by
  unfold wpOp at h
  unfold wpOpIn
  cases ho : ops[i]? with
  | none => simp only [ho] at h ⊢; exact hK _ _ h
  | some o =>
    simp only [ho] at h ⊢
    split
    · rename_i hw
      simp only [hw, if_true] at h
      rcases h with h | ⟨_, h⟩
      · exact Oper.wpIn_mono hK (oper_round (noDefer_spec hd ho) h)
      · exact absurd h hl
    · rename_i hw
      simp only [hw] at h
      exact ⟨fun _ _ => trivial, hK _ _ h⟩
theorem wpAny_round {l n : Nat} {P : Program} {md : Region.Mode} {ops : Array Oper} {Q : Exit → Act → World → Prop} (hd : noDefer ops = true) (hl : ¬ LetsOut Q) : ∀ (fuel : Nat) (listed : Array Bool) (a : Act) (w : World),
    wpAny P md ops Q fuel listed a w → wpAnyIn (Fence.wide.inRound l) n P md ops Q fuel listed a w
  | 0, _, _, _, h => h
  | fuel + 1, _, _, _, h => ⟨h.1, fun i hi => wpOp_round hd hl (fun _ _ h' => wpAny_round hd hl fuel _ _ _ h') (h.2 i hi)⟩
theorem region_round {l n : Nat} {P : Program} {ops : Array Oper} {id : Nat} {Q : Exit → Act → World → Prop} {a : Act} {w : World} (S : World → Prop) (hm : P.follows .mixedOrders = true) (hd : noDefer ops = true) (hl : ¬ LetsOut Q)
    (h : wpAnyH P .any ops Q S ops.size (Array.replicate ops.size false) a w.drew) : (Code.region id ops true).wpIn (Fence.wide.inRound l) n P Q a w :=
  wpIn_region_any hm (wpAny_round hd hl _ _ _ _ (wpAny_of_held _ _ _ _ h))
end Go.Proofs.YtoemcdcabamgiaaDoor
