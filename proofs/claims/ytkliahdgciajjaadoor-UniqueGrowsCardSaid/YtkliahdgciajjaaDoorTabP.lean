/- Plain words: what well-formed events tell of their transactions. -/
import Derived.Test.YtkliahdgciajjaaDoorMg5
import Derived.Test.YtkliahdgciajjaaDoorPrpM
namespace Go.Proofs.YtkliahdgciajjaaDoor.WPlain
end Go.Proofs.YtkliahdgciajjaaDoor.WPlain
namespace Go.Proofs.YtkliahdgciajjaaDoor.QPlain
end Go.Proofs.YtkliahdgciajjaaDoor.QPlain
namespace Go.Proofs.YtkliahdgciajjaaDoor.RPlain
open WPlain QPlain

theorem asked_at (g : List Ev) (t : Int) (ht : t ∈ namesOf g) : ∃ l : Nat, lstOf g t = (l : Int) ∧ ∃ hl : l < g.length, g[l] = askedOf g t := by
  revert ht
  refine rev_ind (p := fun g => t ∈ namesOf g → ∃ l : Nat, lstOf g t = (l : Int) ∧ ∃ hl : l < g.length, g[l] = askedOf g t) ?_ ?_ g
  · simp [namesOf]
  · intro g e ih ht
    rw [lstOf_snoc, askedOf_snoc]
    by_cases he : e.t = t
    · rw [if_pos he, if_pos he]
      exact ⟨g.length, rfl, by simp, by simp⟩
    · rw [if_neg he, if_neg he]
      rcases (mem_names_snoc g e t).1 ht with hm | hm
      · obtain ⟨l, h1, h2, h3⟩ := ih hm
        exact ⟨l, h1, by rw [List.length_append]; omega, by rw [List.getElem_append_left h2]; exact h3⟩
      · exact absurd hm.symm he
theorem last_none (g : List Ev) (t : Int) (ht : t ∉ namesOf g) : lastOf g t = -1 := by
  revert ht
  refine rev_ind (p := fun g => t ∉ namesOf g → lastOf g t = -1) ?_ ?_ g
  · intro _; rfl
  · intro g e ih ht
    rw [mem_names_snoc, not_or] at ht
    rw [lastOf_snoc, if_neg (fun hc => ht.2 hc.symm)]
    exact ih ht.1
theorem firstG_may : ∀ (r pre : List Ev), firstG pre r = (pre ++ r).length → ∀ j (hj : j < r.length), mayS (lastOf (pre ++ r.take j) r[j].t) r[j].k = true := by
  intro r
  induction r with
  | nil => intro pre _ j hj; simp at hj
  | cons e r ih =>
    intro pre hf j hj
    by_cases hm : mayS (lastOf pre e.t) e.k = true
    · have h1 : firstG pre (e :: r) = firstG (pre ++ [e]) r := by unfold firstG; rw [if_pos hm]; cases r <;> rfl
      rw [h1] at hf
      cases j with
      | zero => simpa using hm
      | succ j =>
        have := ih (pre ++ [e]) (by simpa using hf) j (by simpa using hj)
        simpa using this
    · have h1 : firstG pre (e :: r) = pre.length := by unfold firstG; rw [if_neg hm]
      rw [h1] at hf
      simp at hf
theorem check_may {h : List Ev} (hc : (checkS h).2 = 0) (j : Nat) (hj : j < h.length) : mayS (lastOf (h.take j) h[j].t) h[j].k = true := by
  have hr := (check_agree hc).1
  have hf := check_first hr
  have h1 : firstS h = h.length := by
    by_cases he : firstS h = h.length
    · exact he
    · rw [if_neg he] at hf
      rw [hf] at hc
      simp at hc
  unfold firstS at h1
  simpa using firstG_may h [] (by simpa using h1) j hj
/-- the first event of a transaction begins it -/
theorem check_begin {h : List Ev} (hc : (checkS h).2 = 0) (j : Nat) (hj : j < h.length) (ht : h[j].t ∉ namesOf (h.take j)) : h[j].k = 0 := by
  have := check_may hc j hj
  rw [last_none _ _ ht] at this
  simpa [mayS] using this
theorem opStep_zero (a e : Ev) (h : e.k = 0) : opStep a e = [] := by unfold opStep; rw [if_neg (by omega), if_neg (by omega)]
theorem ops_le (h : List Ev) (t : Int) : (opsOf h t).length ≤ h.length := by rw [ops_len]; exact List.length_filter_le _ _
theorem names_old {g : List Ev} {e : Ev} (hm : e.t ∈ namesOf g) : namesOf (g ++ [e]) = namesOf g := by
  rw [namesOf_snoc]
  unfold addName
  rw [if_pos (by simpa using hm)]
theorem names_new {g : List Ev} {e : Ev} (hm : e.t ∉ namesOf g) : namesOf (g ++ [e]) = namesOf g ++ [e.t] := by
  rw [namesOf_snoc]
  unfold addName
  rw [if_neg (by simpa using hm)]
theorem tx_old {g : List Ev} {e : Ev} (hm : e.t ∈ namesOf g) : ∀ u ∈ namesOf g, txOf (g ++ [e]) u = if u = e.t then ⟨e.t, fstOf g e.t, g.length, stateS e.k, opsOf g e.t ++ opStep (askedOf g e.t) e⟩ else txOf g u := by
  intro u hu
  by_cases he : u = e.t
  · rw [if_pos he, he, txOf_mine g e hm]
  · rw [if_neg he]
    exact txOf_other g e hu (fun hc => he hc.symm)
theorem tx_new {g : List Ev} {e : Ev} (hm : e.t ∉ namesOf g) (h0 : e.k = 0) : ∀ u ∈ namesOf g ++ [e.t], txOf (g ++ [e]) u = if u = e.t then ⟨e.t, g.length, g.length, stateS e.k, []⟩ else txOf g u := by
  intro u hu
  by_cases he : u = e.t
  · rw [if_pos he, he, txOf_first g e hm, opStep_zero _ _ h0]
  · rw [if_neg he]
    rcases List.mem_append.1 hu with hu | hu
    · exact txOf_other g e hu (fun hc => he hc.symm)
    · exact absurd (List.mem_singleton.1 hu) he
end Go.Proofs.YtkliahdgciajjaaDoor.RPlain
