/- Plain words: transactions one after the other, event by event, and by the table. -/
import Derived.Test.YtnggadcoepieaaaDoorTabP
import Derived.Test.YtnggadcoepieaaaDoorOrdA
namespace Go.Proofs.YtnggadcoepieaaaDoor.WPlain
end Go.Proofs.YtnggadcoepieaaaDoor.WPlain
namespace Go.Proofs.YtnggadcoepieaaaDoor.QPlain
end Go.Proofs.YtnggadcoepieaaaDoor.QPlain
namespace Go.Proofs.YtnggadcoepieaaaDoor.RPlain
open WPlain QPlain

/-- are transactions one after the other? -/
def serP (h : List Ev) : Prop := ∀ (i k : Nat) (hik : i < k) (hk : k < h.length), h[k].t = (h[i]'(by omega)).t → (h[k - 1]'(by omega)).t = (h[i]'(by omega)).t
theorem ser_block {h : List Ev} (hs : serP h) : ∀ (d i k : Nat) (hik : i < k) (hk : k < h.length), k - i = d → h[k].t = (h[i]'(by omega)).t → ∀ j (_hj : i ≤ j) (hjk : j ≤ k), (h[j]'(by omega)).t = (h[i]'(by omega)).t := by
  intro d
  induction d with
  | zero => intro i k hik hk hd; omega
  | succ d ih =>
    intro i k hik hk hd he j hj hjk
    by_cases h1 : j = k
    · subst h1; exact he
    · have h2 := hs i k hik hk he
      by_cases h3 : i = k - 1
      · have : j = i := by omega
        subst this; rfl
      · exact ih i (k - 1) (by omega) (by omega) (by omega) h2 j hj (by omega)
theorem fst_at {h : List Ev} {t : Int} (ht : t ∈ namesOf h) : ∃ i : Nat, fstOf h t = (i : Int) ∧ ∃ hi : i < h.length, h[i].t = t := by
  have hne := (not_congr (fst_names h t)).2 (fun hc => hc ht)
  unfold fstOf at *
  cases h1 : h.findIdx? (fun e => e.t == t) with
  | none => rw [h1] at hne; simp at hne
  | some i =>
    obtain ⟨hi, hp, _⟩ := List.findIdx?_eq_some_iff_getElem.1 h1
    exact ⟨i, rfl, hi, by simpa using hp⟩
theorem fst_first {h : List Ev} {t : Int} {p : Nat} (hp : p < h.length) (ht : h[p].t = t) : fstOf h t ≤ (p : Int) := by
  unfold fstOf
  cases h1 : h.findIdx? (fun e => e.t == t) with
  | none =>
    rw [List.findIdx?_eq_none_iff] at h1
    have := h1 h[p] (List.getElem_mem hp)
    simp [ht] at this
  | some i =>
    obtain ⟨hi, _, hm⟩ := List.findIdx?_eq_some_iff_getElem.1 h1
    dsimp only
    by_cases hle : i ≤ p
    · omega
    · have := hm p (by omega)
      simp [ht] at this
/-- what began ahead of another one is over there -/
theorem ser_over {h : List Ev} (hs : serP h) {t u : Int} (ht : t ∈ namesOf h) (hu : u ∈ namesOf h) (hlt : fstOf h t < fstOf h u) {p : Nat} (hp : p < h.length) (hpt : h[p].t = t) : (p : Int) < fstOf h u := by
  obtain ⟨i, hi, hil, hit⟩ := fst_at ht
  obtain ⟨j, hj, hjl, hju⟩ := fst_at hu
  rw [hi, hj] at hlt
  rw [hj]
  rcases Nat.lt_or_ge p j with h1 | h1
  · omega
  · exfalso
    have hip : i < p := by omega
    have h2 := ser_block hs (p - i) i p hip hp rfl (by rw [hpt, hit]) j (by omega) h1
    rw [hit, hju] at h2
    subst h2
    rw [hi] at hj
    omega
theorem lst_last {h : List Ev} {t : Int} {p : Nat} (hp : p < h.length) (ht : h[p].t = t) : (p : Int) ≤ lstOf h t := by
  have h1 := some_more (h := h.take p) (t := t) (h.drop p) ⟨h[p], by rw [List.drop_eq_getElem_cons hp]; exact List.mem_cons_self .., ht⟩
  rw [List.take_append_drop, List.length_take] at h1
  omega
theorem asked_tx {h : List Ev} {t : Int} (ht : t ∈ namesOf h) : (askedOf h t).t = t := by
  have : ∀ (r : List Ev) (o : Ev), (r.foldl (fun o e => if e.t = t then e else o) o).t = t ∨ ((∀ e ∈ r, e.t ≠ t) ∧ r.foldl (fun o e => if e.t = t then e else o) o = o) := by
    intro r
    induction r with
    | nil => intro o; exact .inr ⟨by intro e he; simp at he, rfl⟩
    | cons e r ih =>
      intro o
      rw [List.foldl_cons]
      by_cases he : e.t = t
      · rw [if_pos he]
        rcases ih e with h1 | ⟨_, h1⟩
        · exact .inl h1
        · exact .inl (by rw [h1]; exact he)
      · rw [if_neg he]
        rcases ih o with h1 | ⟨h0, h1⟩
        · exact .inl h1
        · refine .inr ⟨?_, h1⟩
          intro d hd
          rcases List.mem_cons.1 hd with rfl | hd
          · exact he
          · exact h0 d hd
  obtain ⟨e, he, het⟩ := (mem_names h t).1 ht
  rcases this h ⟨0, 0, 0, 0⟩ with h1 | ⟨h0, _⟩
  · exact h1
  · exact absurd het (h0 e he)
theorem lst_at {h : List Ev} {t : Int} (ht : t ∈ namesOf h) : ∃ l : Nat, lstOf h t = (l : Int) ∧ ∃ hl : l < h.length, h[l].t = t := by
  obtain ⟨l, h1, hl, h2⟩ := asked_at h t ht
  exact ⟨l, h1, hl, by rw [h2]; exact asked_tx ht⟩
/-- by the table: the next one begins where the one ahead is over -/
def serT (l : List Tx) : Prop := ∀ (i : Nat) (hi : i + 1 < l.length), ¬ (l[i + 1]).f < (l[i]'(by omega)).l
theorem serT_iff {h : List Ev} : serT (tableS h) ↔ serP h := by
  have hlen := tableS_len h
  constructor
  · intro hs i k hik hk he
    rcases Decidable.em ((h[k - 1]'(by omega)).t = (h[i]'(by omega)).t) with hc | hc
    · exact hc
    · exfalso
      obtain ⟨p, hp, hpt⟩ := List.mem_iff_getElem.1 ((mem_names h (h[i]'(by omega)).t).2 ⟨_, List.getElem_mem _, rfl⟩)
      obtain ⟨q, hq, hqt⟩ := List.mem_iff_getElem.1 ((mem_names h (h[k - 1]'(by omega)).t).2 ⟨_, List.getElem_mem _, rfl⟩)
      have chain : ∀ (d p q : Nat) (hpq : p + d + 1 = q) (hq : q < (namesOf h).length), lstOf h ((namesOf h)[p]'(by omega)) ≤ fstOf h (namesOf h)[q] := by
        intro d
        induction d with
        | zero =>
          intro p q hpq hq
          obtain rfl : q = p + 1 := by omega
          have h1 := hs p (by omega)
          rw [tableS_get hq, tableS_get (by omega)] at h1
          simp only [txOf] at h1
          omega
        | succ d ih =>
          intro p q hpq hq
          have h1 := ih p (q - 1) (by omega) (by omega)
          have h2 := hs (q - 1) (by omega)
          have h3 := (fst_lst h ((namesOf h)[q - 1]'(by omega)) (List.getElem_mem _)).1
          have h4 := tableS_get (h := h) (i := q - 1) (by omega)
          have h5 := tableS_get (h := h) (i := q - 1 + 1) (by omega)
          rw [h4, h5] at h2
          simp only [txOf, show q - 1 + 1 = q from by omega] at h2
          omega
      have f1 := fst_first (h := h) (t := (h[i]'(by omega)).t) (p := i) (by omega) rfl
      have l1 := lst_last (h := h) (t := (h[i]'(by omega)).t) (p := k) hk he
      have f2 := fst_first (h := h) (t := (h[k - 1]'(by omega)).t) (p := k - 1) (by omega) rfl
      have l2 := lst_last (h := h) (t := (h[k - 1]'(by omega)).t) (p := k - 1) (by omega) rfl
      rcases Nat.lt_trichotomy p q with h1 | h1 | h1
      · have := chain (q - p - 1) p q (by omega) hq
        rw [hpt, hqt] at this
        omega
      · subst h1
        rw [hpt] at hqt
        exact hc hqt.symm
      · have := chain (p - q - 1) q p (by omega) hp
        rw [hpt, hqt] at this
        have : i ≠ k - 1 := by
          intro h2
          subst h2
          exact hc rfl
        omega
  · intro hs i hi hlt
    rw [tableS_get (by omega), tableS_get (by omega)] at hlt
    simp only [txOf] at hlt
    have hi2 : i + 1 < (namesOf h).length := by omega
    have hf := List.pairwise_iff_getElem.1 (fst_rise h) i (i + 1) (by omega) hi2 (by omega)
    obtain ⟨l, hl1, hl2, hl3⟩ := lst_at (List.getElem_mem (l := namesOf h) (n := i) (by omega))
    have := ser_over hs (List.getElem_mem _) (List.getElem_mem _) hf hl2 hl3
    omega
end Go.Proofs.YtnggadcoepieaaaDoor.RPlain
