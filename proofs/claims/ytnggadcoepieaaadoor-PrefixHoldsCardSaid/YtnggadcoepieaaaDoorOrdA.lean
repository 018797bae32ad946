/- Plain words: what is before what. -/
import Derived.Test.YtnggadcoepieaaaDoorTabB
import Derived.Test.YtnggadcoepieaaaDoorPrpM
namespace Go.Proofs.YtnggadcoepieaaaDoor.WPlain
end Go.Proofs.YtnggadcoepieaaaDoor.WPlain
namespace Go.Proofs.YtnggadcoepieaaaDoor.QPlain
end Go.Proofs.YtnggadcoepieaaaDoor.QPlain
namespace Go.Proofs.YtnggadcoepieaaaDoor.RPlain
open WPlain QPlain

/-- is one transaction before another? -/
def bfr (a b : Tx) : Bool := (decide (a.s = 2) || decide (a.s = 3)) && decide (a.l < b.f)
theorem state_ended (k : Int) : (decide (stateS k = 2) || decide (stateS k = 3)) = (decide (k = 7) || decide (k = 9)) := by
  unfold stateS
  by_cases h7 : k = 7
  · subst h7; rfl
  · by_cases h9 : k = 9
    · subst h9; rfl
    · by_cases h6 : k = 6
      · subst h6; rfl
      · simp [h7, h9, h6]
theorem flw_ended {t : Int} : ∀ (r : List Ev) (F : Int → Nat) (i : Nat), (flw F i r).2.2 = true → F t = 7 → ∀ e ∈ r, e.t ≠ t := by
  intro r
  induction r with
  | nil => intro F i _ _ e he; cases he
  | cons x r ih =>
    intro F i hok hF e he
    cases hm : mv (F x.t) x.k.toNat with
    | none => rw [flw_none hm] at hok; simp at hok
    | some s =>
      rw [flw_some hm] at hok
      have hx : x.t ≠ t := by
        intro hc
        rw [hc, hF] at hm
        simp [mv, mvs] at hm
      rcases List.mem_cons.1 he with rfl | he
      · exact hx
      · refine ih _ _ hok ?_ e he
        unfold upd
        rw [if_neg (fun hc => hx hc.symm)]
        exact hF
theorem ended_stop {h : List Ev} (hc : (checkS h).2 = 0) {k : Nat} {t : Int} (hl : lastOf (h.take k) t = 7 ∨ lastOf (h.take k) t = 9) : ∀ e ∈ h.drop k, e.t ≠ t := by
  obtain ⟨hr, _, hok⟩ := check_agree hc
  have hek := (right_evs hr).2
  have hsp := flw_app (h.take k) (h.drop k) (fun _ => 0) 0
  rw [List.take_append_drop] at hsp
  obtain ⟨_, _, _, hA⟩ := flw_first (h.take k) [] _ Agree.start (fun _ hc => by cases hc) (fun e he => (hek e (List.mem_of_mem_take he)).1)
  unfold flw0 at hok
  cases h1 : (flw (fun _ => 0) 0 (h.take k)).2.2 with
  | false => rw [if_neg (by rw [h1]; simp)] at hsp; rw [hsp, h1] at hok; simp at hok
  | true =>
    rw [if_pos h1] at hsp
    rw [hsp] at hok
    have hF := hA h1 t
    simp only [List.length_nil, List.nil_append] at hF
    refine flw_ended _ _ _ hok ?_
    rw [hF]
    rcases hl with hl | hl <;> rw [hl] <;> rfl
theorem none_more {h : List Ev} {t : Int} : ∀ g : List Ev, (∀ e ∈ g, e.t ≠ t) → lstOf (h ++ g) t = lstOf h t ∧ lastOf (h ++ g) t = lastOf h t := by
  intro g
  refine rev_ind (p := fun g => (∀ e ∈ g, e.t ≠ t) → lstOf (h ++ g) t = lstOf h t ∧ lastOf (h ++ g) t = lastOf h t) ?_ ?_ g
  · intro _; simp
  · intro g e ih hall
    rw [← List.append_assoc, lstOf_snoc, lastOf_snoc, if_neg (hall e (by simp)), if_neg (hall e (by simp))]
    exact ih (fun x hx => hall x (by simp [hx]))
theorem some_more {h : List Ev} {t : Int} : ∀ g : List Ev, (∃ e ∈ g, e.t = t) → (h.length : Int) ≤ lstOf (h ++ g) t := by
  intro g
  refine rev_ind (p := fun g => (∃ e ∈ g, e.t = t) → (h.length : Int) ≤ lstOf (h ++ g) t) ?_ ?_ g
  · rintro ⟨e, he, _⟩; cases he
  · intro g e ih hex
    rw [← List.append_assoc, lstOf_snoc]
    by_cases he : e.t = t
    · rw [if_pos he, List.length_append]
      omega
    · rw [if_neg he]
      refine ih ?_
      obtain ⟨x, hx, hxt⟩ := hex
      rcases List.mem_append.1 hx with hx | hx
      · exact ⟨x, hx, hxt⟩
      · rw [List.mem_singleton.1 hx] at hxt; exact absurd hxt he
/-- up to a place: what is before what stays, and nothing is added -/
theorem bfr_take {h : List Ev} (hc : (checkS h).2 = 0) {k : Nat} (hk : k ≤ h.length) {t u : Int} (hu : u ∈ namesOf (h.take k)) : bfr (txOf h t) (txOf h u) = bfr (txOf (h.take k) t) (txOf (h.take k) u) := by
  have hsp : h.take k ++ h.drop k = h := List.take_append_drop k h
  have htl : (h.take k).length = k := by rw [List.length_take]; omega
  have hfu : fstOf h u = fstOf (h.take k) u := by
    have := (tx_more (h.take k) (h.drop k) u hu).1
    rwa [hsp] at this
  have hfk := (fst_range hu).2
  rw [htl] at hfk
  unfold bfr txOf
  simp only [state_ended, hfu]
  by_cases hl : lastOf (h.take k) t = 7 ∨ lastOf (h.take k) t = 9
  · have hn := none_more (h := h.take k) (t := t) (h.drop k) (ended_stop hc hl)
    rw [hsp] at hn
    rw [hn.1, hn.2]
  · have h2 : (decide (lastOf (h.take k) t = 7) || decide (lastOf (h.take k) t = 9)) = false := by simpa using hl
    rw [h2, Bool.false_and]
    by_cases hex : ∃ e ∈ h.drop k, e.t = t
    · have := some_more (h := h.take k) (h.drop k) hex
      rw [hsp, htl] at this
      have : decide (lstOf h t < fstOf (h.take k) u) = false := decide_eq_false (by omega)
      rw [this, Bool.and_false]
    · have hn := none_more (h := h.take k) (t := t) (h.drop k) (fun e he hte => hex ⟨e, he, hte⟩)
      rw [hsp] at hn
      rw [hn.2, h2, Bool.false_and]
theorem bfr_self (h : List Ev) {t : Int} (ht : t ∈ namesOf h) : bfr (txOf h t) (txOf h t) = false := by
  have := (fst_lst h t ht).1
  unfold bfr txOf
  simp
  omega
theorem bfr_trans (h : List Ev) {a b c : Int} (hb : b ∈ namesOf h) (h1 : bfr (txOf h a) (txOf h b) = true) (h2 : bfr (txOf h b) (txOf h c) = true) : bfr (txOf h a) (txOf h c) = true := by
  have := (fst_lst h b hb).1
  unfold bfr txOf at *
  simp only [Bool.and_eq_true, decide_eq_true_eq] at *
  exact ⟨h1.1, by omega⟩
theorem bfr_interval (h : List Ev) {a b c d : Int} (h1 : bfr (txOf h a) (txOf h b) = true) (h2 : bfr (txOf h c) (txOf h d) = true) : bfr (txOf h a) (txOf h d) = true ∨ bfr (txOf h c) (txOf h b) = true := by
  unfold bfr txOf at *
  simp only [Bool.and_eq_true, decide_eq_true_eq] at *
  by_cases h3 : lstOf h a < fstOf h d
  · exact .inl ⟨h1.1, h3⟩
  · exact .inr ⟨h2.1, by omega⟩
/-- the table's own row keeps the order -/
theorem bfr_row (h : List Ev) {i j : Nat} (hij : j < i) (hi : i < (namesOf h).length) : bfr (txOf h ((namesOf h)[i])) (txOf h ((namesOf h)[j])) = false := by
  have h1 := List.pairwise_iff_getElem.1 (fst_rise h) j i (by omega) hi hij
  have h2 := (fst_lst h _ (List.getElem_mem hi)).1
  unfold bfr txOf
  simp
  omega
end Go.Proofs.YtnggadcoepieaaaDoor.RPlain
