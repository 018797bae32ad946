/- Merged: OrdA, OrdB. -/
import Derived.Test.YtnddiaonceeicaaDoorMg5
import Derived.Test.YtnddiaonceeicaaDoorPrpM
import Derived.Test.YtnddiaonceeicaaDoorMg12
/- Plain words: what is before what. -/
namespace Go.Proofs.YtnddiaonceeicaaDoor.WPlain
end Go.Proofs.YtnddiaonceeicaaDoor.WPlain
namespace Go.Proofs.YtnddiaonceeicaaDoor.QPlain
end Go.Proofs.YtnddiaonceeicaaDoor.QPlain
namespace Go.Proofs.YtnddiaonceeicaaDoor.RPlain
open WPlain QPlain

/-- is one transaction before another? -/
def bfr (a b : Tx) : Bool := (decide (a.s = 2) || decide (a.s = 3)) && decide (a.l < b.f)
theorem state_ended (k : Int) : (decide (stateS k = 2) || decide (stateS k = 3)) = (decide (k = 7) || decide (k = 9)) := by
  unfold stateS
  by_cases h7 : k = 7
  · subst h7; rfl
  · by_cases h9 : k = 9
    · subst h9; rfl
    · by_cases h6 : k = 6
      · subst h6; rfl
      · simp [h7, h9, h6]
theorem flw_ended {t : Int} : ∀ (r : List Ev) (F : Int → Nat) (i : Nat), (flw F i r).2.2 = true → F t = 7 → ∀ e ∈ r, e.t ≠ t := by
  intro r
  induction r with
  | nil => intro F i _ _ e he; cases he
  | cons x r ih =>
    intro F i hok hF e he
    cases hm : mv (F x.t) x.k.toNat with
    | none => rw [flw_none hm] at hok; simp at hok
    | some s =>
      rw [flw_some hm] at hok
      have hx : x.t ≠ t := by
        intro hc
        rw [hc, hF] at hm
        simp [mv, mvs] at hm
      rcases List.mem_cons.1 he with rfl | he
      · exact hx
      · refine ih _ _ hok ?_ e he
        unfold upd
        rw [if_neg (fun hc => hx hc.symm)]
        exact hF
theorem ended_stop {h : List Ev} (hc : (checkS h).2 = 0) {k : Nat} {t : Int} (hl : lastOf (h.take k) t = 7 ∨ lastOf (h.take k) t = 9) : ∀ e ∈ h.drop k, e.t ≠ t := by
  obtain ⟨hr, _, hok⟩ := check_agree hc
  have hek := (right_evs hr).2
  have hsp := flw_app (h.take k) (h.drop k) (fun _ => 0) 0
  rw [List.take_append_drop] at hsp
  obtain ⟨_, _, _, hA⟩ := flw_first (h.take k) [] _ Agree.start (fun _ hc => by cases hc) (fun e he => (hek e (List.mem_of_mem_take he)).1)
  unfold flw0 at hok
  cases h1 : (flw (fun _ => 0) 0 (h.take k)).2.2 with
  | false => rw [if_neg (by rw [h1]; simp)] at hsp; rw [hsp, h1] at hok; simp at hok
  | true =>
    rw [if_pos h1] at hsp
    rw [hsp] at hok
    have hF := hA h1 t
    simp only [List.length_nil, List.nil_append] at hF
    refine flw_ended _ _ _ hok ?_
    rw [hF]
    rcases hl with hl | hl <;> rw [hl] <;> rfl
theorem none_more {h : List Ev} {t : Int} : ∀ g : List Ev, (∀ e ∈ g, e.t ≠ t) → lstOf (h ++ g) t = lstOf h t ∧ lastOf (h ++ g) t = lastOf h t := by
  intro g
  refine rev_ind (p := fun g => (∀ e ∈ g, e.t ≠ t) → lstOf (h ++ g) t = lstOf h t ∧ lastOf (h ++ g) t = lastOf h t) ?_ ?_ g
  · intro _; simp
  · intro g e ih hall
    rw [← List.append_assoc, lstOf_snoc, lastOf_snoc, if_neg (hall e (by simp)), if_neg (hall e (by simp))]
    exact ih (fun x hx => hall x (by simp [hx]))
theorem some_more {h : List Ev} {t : Int} : ∀ g : List Ev, (∃ e ∈ g, e.t = t) → (h.length : Int) ≤ lstOf (h ++ g) t := by
  intro g
  refine rev_ind (p := fun g => (∃ e ∈ g, e.t = t) → (h.length : Int) ≤ lstOf (h ++ g) t) ?_ ?_ g
  · rintro ⟨e, he, _⟩; cases he
  · intro g e ih hex
    rw [← List.append_assoc, lstOf_snoc]
    by_cases he : e.t = t
    · rw [if_pos he, List.length_append]
      omega
    · rw [if_neg he]
      refine ih ?_
      obtain ⟨x, hx, hxt⟩ := hex
      rcases List.mem_append.1 hx with hx | hx
      · exact ⟨x, hx, hxt⟩
      · rw [List.mem_singleton.1 hx] at hxt; exact absurd hxt he
/-- up to a place: what is before what stays, and nothing is added -/
theorem bfr_take {h : List Ev} (hc : (checkS h).2 = 0) {k : Nat} (hk : k ≤ h.length) {t u : Int} (hu : u ∈ namesOf (h.take k)) : bfr (txOf h t) (txOf h u) = bfr (txOf (h.take k) t) (txOf (h.take k) u) := by
  have hsp : h.take k ++ h.drop k = h := List.take_append_drop k h
  have htl : (h.take k).length = k := by rw [List.length_take]; omega
  have hfu : fstOf h u = fstOf (h.take k) u := by
    have := (tx_more (h.take k) (h.drop k) u hu).1
    rwa [hsp] at this
  have hfk := (fst_range hu).2
  rw [htl] at hfk
  unfold bfr txOf
  simp only [state_ended, hfu]
  by_cases hl : lastOf (h.take k) t = 7 ∨ lastOf (h.take k) t = 9
  · have hn := none_more (h := h.take k) (t := t) (h.drop k) (ended_stop hc hl)
    rw [hsp] at hn
    rw [hn.1, hn.2]
  · have h2 : (decide (lastOf (h.take k) t = 7) || decide (lastOf (h.take k) t = 9)) = false := by simpa using hl
    rw [h2, Bool.false_and]
    by_cases hex : ∃ e ∈ h.drop k, e.t = t
    · have := some_more (h := h.take k) (h.drop k) hex
      rw [hsp, htl] at this
      have : decide (lstOf h t < fstOf (h.take k) u) = false := decide_eq_false (by omega)
      rw [this, Bool.and_false]
    · have hn := none_more (h := h.take k) (t := t) (h.drop k) (fun e he hte => hex ⟨e, he, hte⟩)
      rw [hsp] at hn
      rw [hn.2, h2, Bool.false_and]
theorem bfr_self (h : List Ev) {t : Int} (ht : t ∈ namesOf h) : bfr (txOf h t) (txOf h t) = false := by
  have := (fst_lst h t ht).1
  unfold bfr txOf
  simp
  omega
theorem bfr_trans (h : List Ev) {a b c : Int} (hb : b ∈ namesOf h) (h1 : bfr (txOf h a) (txOf h b) = true) (h2 : bfr (txOf h b) (txOf h c) = true) : bfr (txOf h a) (txOf h c) = true := by
  have := (fst_lst h b hb).1
  unfold bfr txOf at *
  simp only [Bool.and_eq_true, decide_eq_true_eq] at *
  exact ⟨h1.1, by omega⟩
theorem bfr_interval (h : List Ev) {a b c d : Int} (h1 : bfr (txOf h a) (txOf h b) = true) (h2 : bfr (txOf h c) (txOf h d) = true) : bfr (txOf h a) (txOf h d) = true ∨ bfr (txOf h c) (txOf h b) = true := by
  unfold bfr txOf at *
  simp only [Bool.and_eq_true, decide_eq_true_eq] at *
  by_cases h3 : lstOf h a < fstOf h d
  · exact .inl ⟨h1.1, h3⟩
  · exact .inr ⟨h2.1, by omega⟩
/-- the table's own row keeps the order -/
theorem bfr_row (h : List Ev) {i j : Nat} (hij : j < i) (hi : i < (namesOf h).length) : bfr (txOf h ((namesOf h)[i])) (txOf h ((namesOf h)[j])) = false := by
  have h1 := List.pairwise_iff_getElem.1 (fst_rise h) j i (by omega) hi hij
  have h2 := (fst_lst h _ (List.getElem_mem hi)).1
  unfold bfr txOf
  simp
  omega
end Go.Proofs.YtnddiaonceeicaaDoor.RPlain
/- Plain words: what is before what, as bits; up to a place; rows that keep it. -/
namespace Go.Proofs.YtnddiaonceeicaaDoor.WPlain
end Go.Proofs.YtnddiaonceeicaaDoor.WPlain
namespace Go.Proofs.YtnddiaonceeicaaDoor.QPlain
end Go.Proofs.YtnddiaonceeicaaDoor.QPlain
namespace Go.Proofs.YtnddiaonceeicaaDoor.RPlain
open WPlain QPlain

/-- the number whose bit k is p k -/
def bitsN (p : Nat → Bool) : Nat → Nat
  | 0 => 0
  | n + 1 => bitsN p n + (if p n = true then 2 ^ n else 0)
theorem bitsN_lt (p : Nat → Bool) : ∀ n, bitsN p n < 2 ^ n := by
  intro n
  induction n with
  | zero => simp [bitsN]
  | succ n ih => unfold bitsN; rw [Nat.pow_succ]; split <;> omega
theorem bitsN_congr {p q : Nat → Bool} : ∀ n, (∀ k, k < n → p k = q k) → bitsN p n = bitsN q n := by
  intro n
  induction n with
  | zero => intro _; rfl
  | succ n ih => intro h; unfold bitsN; rw [ih (fun k hk => h k (by omega)), h n (by omega)]
theorem bitsN_mod (p : Nat → Bool) {m : Nat} : ∀ n, m ≤ n → bitsN p n % 2 ^ m = bitsN p m := by
  intro n
  induction n with
  | zero => intro h; rw [show m = 0 from by omega]; rfl
  | succ n ih =>
    intro h
    by_cases hm : m = n + 1
    · rw [hm]; exact Nat.mod_eq_of_lt (bitsN_lt p (n + 1))
    · have hmn : m ≤ n := by omega
      rw [show bitsN p (n + 1) = bitsN p n + (if p n = true then 2 ^ n else 0) from rfl]
      have hd : (if p n = true then 2 ^ n else 0) % 2 ^ m = 0 := by
        split
        · obtain ⟨d, rfl⟩ : ∃ d, n = m + d := ⟨n - m, by omega⟩
          rw [Nat.pow_add, Nat.mul_mod_right]
        · exact Nat.zero_mod _
      rw [Nat.add_mod, hd, Nat.add_zero, Nat.mod_mod, ih hmn]
theorem bitsN_bit (p : Nat → Bool) {n k : Nat} (hk : k < n) : bitsN p n / 2 ^ k % 2 = if p k = true then 1 else 0 := by
  have h1 := bitsN_mod p (m := k + 1) n (by omega)
  have h2 : bitsN p n / 2 ^ k % 2 = bitsN p n % 2 ^ (k + 1) / 2 ^ k := by rw [Nat.pow_succ, Nat.mod_mul_right_div_self]
  rw [h2, h1, show bitsN p (k + 1) = bitsN p k + (if p k = true then 2 ^ k else 0) from rfl]
  have h3 := bitsN_lt p k
  split
  · rw [Nat.add_div_right _ (Nat.two_pow_pos k), Nat.div_eq_of_lt h3]
  · rw [Nat.add_zero, Nat.div_eq_of_lt h3]
/-- a transaction's bits, in a table; those of all -/
def afterN (l : List Tx) (X : Tx) : Nat := bitsN (fun k => match l[k]? with | some Y => bfr X Y | none => false) l.length
def afterS (l : List Tx) : List Nat := l.map (afterN l)
theorem afterN_lt (l : List Tx) (X : Tx) : afterN l X < 2 ^ l.length := bitsN_lt _ _
theorem afterS_len (l : List Tx) : (afterS l).length = l.length := List.length_map _
theorem afterN_bit {l : List Tx} (X : Tx) {k : Nat} (hk : k < l.length) : afterN l X / 2 ^ k % 2 = if bfr X l[k] = true then 1 else 0 := by
  unfold afterN
  rw [bitsN_bit _ hk]
  simp only [List.getElem?_eq_getElem hk]
theorem afterN_cut {h : List Ev} (hc : (checkS h).2 = 0) {K : Nat} (hK : K ≤ h.length) {i : Nat} (hi : i < (tableS (h.take K)).length) (hi2 : i < (tableS h).length) :
    afterN (tableS h) ((tableS h)[i]) % 2 ^ (tableS (h.take K)).length = afterN (tableS (h.take K)) ((tableS (h.take K))[i]) := by
  have hn := names_cut h K
  have hlg : ∀ j, j < (tableS (h.take K)).length → j < (namesOf (h.take K)).length := fun j hj => by rw [tableS_len] at hj; exact hj
  have hle : (tableS (h.take K)).length ≤ (tableS h).length := by rw [tableS_len, tableS_len]; exact hn.1
  unfold afterN
  rw [bitsN_mod _ _ hle]
  refine bitsN_congr _ fun k hk => ?_
  have hk2 : k < (tableS h).length := by omega
  rw [List.getElem?_eq_getElem hk, List.getElem?_eq_getElem hk2]
  have hlh : ∀ j, j < (tableS h).length → j < (namesOf h).length := fun j hj => by rw [tableS_len] at hj; exact hj
  rw [tableS_get (hlg i hi), tableS_get (hlg k hk), tableS_get (hlh i hi2), tableS_get (hlh k hk2), ← hn.2 i (hlg i hi) (hlh i hi2), ← hn.2 k (hlg k hk) (hlh k hk2)]
  exact bfr_take hc hK (List.getElem_mem _)
/-- a row of places: is any not there; is any there twice, or behind one that it is before -/
def thereS (l : List Tx) (row : List Int) : Bool := row.all fun i => decide (0 ≤ i) && decide (i < l.length)
def badP (l : List Tx) (a b : Int) : Bool := decide (a = b) || (match l[a.toNat]?, l[b.toNat]? with | some X, some Y => bfr X Y | _, _ => false)
def keepsS (l : List Tx) (row : List Int) : Bool := (List.range row.length).all fun i => (row.take i).all fun b => !(badP l (row.getD i 0) b)
theorem thereS_iff (l : List Tx) (row : List Int) : thereS l row = true ↔ ∀ i ∈ row, 0 ≤ i ∧ i < l.length := by
  unfold thereS
  simp [List.all_eq_true]
theorem keepsS_iff (l : List Tx) (row : List Int) : keepsS l row = true ↔ ∀ i (hi : i < row.length) j (hj : j < i), badP l row[i] (row[j]'(by omega)) = false := by
  unfold keepsS
  rw [List.all_eq_true]
  constructor
  · intro h i hi j hj
    have h1 := h i (List.mem_range.2 hi)
    rw [List.all_eq_true] at h1
    have h2 := h1 (row[j]'(by omega)) (List.mem_take_iff_getElem.2 ⟨j, by omega, rfl⟩)
    rw [List.getD_eq_getElem?_getD, List.getElem?_eq_getElem hi] at h2
    simpa using h2
  · intro h i hi
    rw [List.all_eq_true]
    intro b hb
    obtain ⟨j, hj, rfl⟩ := List.mem_take_iff_getElem.1 hb
    have hi' := List.mem_range.1 hi
    rw [List.getD_eq_getElem?_getD, List.getElem?_eq_getElem hi']
    simpa using h i hi' j (by omega)
/-- the table's own row keeps the order -/
theorem own_keeps (h : List Ev) : keepsS (tableS h) ((List.range (tableS h).length).map Int.ofNat) = true := by
  rw [keepsS_iff]
  intro i hi j hj
  have hi2 : i < (tableS h).length := by simpa using hi
  simp only [List.getElem_map, List.getElem_range]
  unfold badP
  have h1 : ((Int.ofNat i).toNat) = i := rfl
  have h2 : ((Int.ofNat j).toNat) = j := rfl
  rw [h1, h2, List.getElem?_eq_getElem hi2, List.getElem?_eq_getElem (by omega)]
  have hin : i < (namesOf h).length := by rw [tableS_len] at hi2; exact hi2
  have hne : decide (Int.ofNat i = Int.ofNat j) = false := by simp; omega
  rw [hne, tableS_get hin, tableS_get (by omega)]
  simpa using bfr_row h hj hin
end Go.Proofs.YtnddiaonceeicaaDoor.RPlain
