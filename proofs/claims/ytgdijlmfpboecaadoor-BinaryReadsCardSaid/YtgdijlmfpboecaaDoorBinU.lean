/- Plain words: an event's body, told the reference's way: an error read is handed on. -/
import Derived.Test.YtgdijlmfpboecaaDoorBinS
namespace Go.Proofs.YtgdijlmfpboecaaDoor.WPlain
end Go.Proofs.YtgdijlmfpboecaaDoor.WPlain
namespace Go.Proofs.YtgdijlmfpboecaaDoor.VPlain
end Go.Proofs.YtgdijlmfpboecaaDoor.VPlain
namespace Go.Proofs.YtgdijlmfpboecaaDoor
open WPlain VPlain BPlain

/-- are there six names, this not among them? -/
def fullS (n : Int) (h : List Ev) : Bool := ((namesOf h).length == 6) && !(namesOf h).contains n
theorem right_snoc {h : List Ev} {t : Nat} (hr : right h = true) (hl : h.length ≤ 59) (ht : t ≤ 9999) : right (h ++ [⟨0, (t : Nat), 0, 0⟩]) = !(fullS t h) := by
  have he : evOk ⟨((0 : Nat) : Int), (t : Nat), ((0 : Nat) : Int), 0⟩ = true := evOk_mk (by omega) ht (by omega) ⟨by omega, by omega⟩ (fun _ => rfl) (fun _ => rfl)
  obtain ⟨_, h2, h3⟩ := (right_iff h).1 hr
  have hall : ∀ e ∈ h ++ [(⟨0, (t : Nat), 0, 0⟩ : Ev)], evOk e = true := by
    intro e hm
    rcases List.mem_append.1 hm with hm | hm
    · exact h2 e hm
    · rw [List.mem_singleton.1 hm]; exact he
  have hlen : (h ++ [(⟨0, (t : Nat), 0, 0⟩ : Ev)]).length ≤ 60 := by simp; omega
  rw [Bool.eq_iff_iff, right_iff, namesOf_snoc]
  show _ ∧ _ ∧ (addName (namesOf h) (t : Int)).length ≤ 6 ↔ (!((namesOf h).length == 6 && !(namesOf h).contains (t : Int))) = true
  unfold addName
  cases hc : (namesOf h).contains (t : Int) with
  | true => simp only [if_true, Bool.not_true, Bool.and_false, Bool.not_false, iff_true]; exact ⟨hlen, hall, h3⟩
  | false =>
    rw [if_neg (by simp)]
    simp only [Bool.not_false, Bool.and_true, Bool.not_eq_true', beq_eq_false_iff_ne, ne_eq]
    constructor
    · rintro ⟨_, _, h6⟩ hh
      rw [List.length_append, hh] at h6
      simp at h6
    · intro hh
      refine ⟨hlen, hall, ?_⟩
      rw [List.length_append]
      simp only [List.length_singleton]
      omega
theorem nameS_many {L : List Nat} {i : Nat} {h : List Ev} (hr : right h = true) (hl : h.length ≤ 59) :
    nameS L i h = if (upS L i 9999 3).2.2 = 0 ∧ fullS ((upS L i 9999 3).1 : Nat) h = true then (0, i, 5) else if (upS L i 9999 3).2.2 = 0 then upS L i 9999 3 else (0, (upS L i 9999 3).2.1, (upS L i 9999 3).2.2) := by
  unfold nameS
  by_cases h0 : (upS L i 9999 3).2.2 = 0
  · rw [if_neg (by omega), right_snoc hr hl (upS_most h0 (by omega))]
    cases ht : fullS ((upS L i 9999 3).1 : Nat) h with
    | true => simp [h0]
    | false => simp [h0]
  · rw [if_pos h0, if_neg (fun hh => h0 hh.1), if_neg h0]
/-- the number of a body's variable, of its value -/
def varS (L : List Nat) (k : Nat) (s : Nat × Nat × Nat) : Nat × Nat × Nat := if hasV k = true then mostS L s 7 else s
def valuS (L : List Nat) (k : Nat) (s : Nat × Nat × Nat) : Nat × Nat × Nat := if hasX k = true then mostS L s 4294967295 else s
theorem bodyS_most {L : List Nat} {i : Nat} {h : List Ev} (hr : right h = true) (hl : h.length ≤ 59) (hk : L.getD i 0 < 10) :
    bodyS L i h =
      if (upS L (i + 1) 9999 3).2.2 = 0 ∧ fullS ((upS L (i + 1) 9999 3).1 : Nat) h = true then (h, i + 1, 5)
      else if (valuS L (L.getD i 0) (varS L (L.getD i 0) (upS L (i + 1) 9999 3))).2.2 ≠ 0 then (h, (valuS L (L.getD i 0) (varS L (L.getD i 0) (upS L (i + 1) 9999 3))).2.1, (valuS L (L.getD i 0) (varS L (L.getD i 0) (upS L (i + 1) 9999 3))).2.2)
      else (h ++ [⟨(L.getD i 0 : Nat), ((upS L (i + 1) 9999 3).1 : Nat), if hasV (L.getD i 0) = true then ((varS L (L.getD i 0) (upS L (i + 1) 9999 3)).1 : Nat) else 0, if hasX (L.getD i 0) = true then zagI (valuS L (L.getD i 0) (varS L (L.getD i 0) (upS L (i + 1) 9999 3))).1 else 0⟩],
        (valuS L (L.getD i 0) (varS L (L.getD i 0) (upS L (i + 1) 9999 3))).2.1, if (valuS L (L.getD i 0) (varS L (L.getD i 0) (upS L (i + 1) 9999 3))).2.1 < L.length then 2 else 0) := by
  unfold bodyS numsS valS
  rw [nameS_many hr hl, if_neg (by omega)]
  generalize L.getD i 0 = k
  generalize upS L (i + 1) 9999 3 = n
  unfold valuS varS mostS
  by_cases h0 : n.2.2 = 0
  · cases ht : fullS (n.1 : Nat) h with
    | true => simp [h0]
    | false =>
      cases hV : hasV k with
      | false =>
        cases hX : hasX k with
        | false => simp [h0]
        | true =>
          by_cases hx : (upS L n.2.1 4294967295 3).2.2 = 0
          · simp [h0, hx]
          · simp [h0, hx]
      | true =>
        by_cases hv : (upS L n.2.1 7 3).2.2 = 0
        · cases hX : hasX k with
          | false => simp [h0, hv]
          | true =>
            by_cases hx : (upS L (upS L n.2.1 7 3).2.1 4294967295 3).2.2 = 0
            · simp [h0, hv, hx]
            · simp [h0, hv, hx]
        · cases hX : hasX k with
          | false => simp [h0, hv]
          | true => simp [h0, hv]
  · cases hV : hasV k with
    | false =>
      cases hX : hasX k with
      | false => simp [h0]
      | true => simp [h0]
    | true =>
      cases hX : hasX k with
      | false => simp [h0]
      | true => simp [h0]
end Go.Proofs.YtgdijlmfpboecaaDoor
