/- Plain words: what is found explains; if nothing is, no row does. -/
import Derived.Test.YtmnblljenobofaaDoorMg6
namespace Go.Proofs.YtmnblljenobofaaDoor.WPlain
end Go.Proofs.YtmnblljenobofaaDoor.WPlain
namespace Go.Proofs.YtmnblljenobofaaDoor.QPlain
end Go.Proofs.YtmnblljenobofaaDoor.QPlain
namespace Go.Proofs.YtmnblljenobofaaDoor.RPlain
open WPlain QPlain

/-- a way that the search goes, from a row on -/
def goodP (l : List Tx) (who c : Nat) : List Nat → List Nat → Prop
  | row, [] => leftS l who row = []
  | row, k :: t => k ∈ leftS l who row ∧ freeS l (leftS l who row) k = true ∧ okL l c (row ++ [k]) = true ∧ goodP l who c (row ++ [k]) t
theorem loop_found {B : Nat} {rec : List Nat → Nat → Nat × List Nat × Nat} {l : List Tx} {who c : Nat} {row : List Nat} :
    ∀ (r : List Nat) (s : Nat), (∀ k ∈ r, k ∈ leftS l who row) → (∀ k ∈ r, ∀ s, (rec (row ++ [k]) s).1 = 0 → ∃ t, (rec (row ++ [k]) s).2.1 = row ++ [k] ++ t ∧ goodP l who c (row ++ [k]) t) →
      (loopS B rec l c (leftS l who row) row r s).1 = 0 → ∃ t, (loopS B rec l c (leftS l who row) row r s).2.1 = row ++ t ∧ goodP l who c row t := by
  intro r
  induction r with
  | nil => intro s _ _ h; cases h
  | cons k r ih =>
    intro s hin hrec h
    have hnext := fun s' => ih s' (fun x hx => hin x (List.mem_cons_of_mem _ hx)) (fun x hx => hrec x (List.mem_cons_of_mem _ hx))
    rw [loopS] at h ⊢
    by_cases hf : freeS l (leftS l who row) k = false
    · rw [if_pos hf] at h ⊢; exact hnext s h
    · rw [if_neg hf] at h ⊢
      by_cases hB : s = B
      · rw [if_pos hB] at h; cases h
      · rw [if_neg hB] at h ⊢
        by_cases ho : okL l c (row ++ [k]) = true
        · rw [if_pos ho] at h ⊢
          by_cases hv : (rec (row ++ [k]) (s + 1)).1 = 1
          · rw [if_pos hv] at h ⊢; exact hnext _ h
          · rw [if_neg hv] at h ⊢
            obtain ⟨t, h1, h2⟩ := hrec k (List.mem_cons_self ..) (s + 1) h
            exact ⟨k :: t, by rw [h1, List.append_assoc]; rfl, hin k (List.mem_cons_self ..), by simpa using hf, ho, h2⟩
        · rw [if_neg ho] at h ⊢; exact hnext _ h
theorem from_found {B : Nat} {l : List Tx} {who c : Nat} : ∀ (f : Nat) (row : List Nat) (s : Nat), (leftS l who row).length < f → (fromS B l who c f row s).1 = 0 →
    ∃ t, (fromS B l who c f row s).2.1 = row ++ t ∧ goodP l who c row t := by
  intro f
  induction f with
  | zero => intro row s h; omega
  | succ f ih =>
    intro row s hf h
    rw [fromS] at h ⊢
    by_cases hl : leftS l who row = []
    · rw [if_pos hl]; exact ⟨[], by rw [List.append_nil], hl⟩
    · rw [if_neg hl] at h ⊢
      refine loop_found _ s (fun k hk => hk) (fun k hk s' h' => ?_) h
      have := left_len hk
      exact ih (row ++ [k]) s' (by omega) h'
theorem loop_none {B : Nat} {rec : List Nat → Nat → Nat × List Nat × Nat} {l : List Tx} {c : Nat} {lft row : List Nat} {G : Nat → Prop} :
    ∀ (r : List Nat) (s : Nat), (∀ k ∈ r, ∀ s, (rec (row ++ [k]) s).1 = 1 → ¬ G k) → (loopS B rec l c lft row r s).1 = 1 → ∀ k ∈ r, freeS l lft k = true → okL l c (row ++ [k]) = true → ¬ G k := by
  intro r
  induction r with
  | nil => intro s _ _ k hk; cases hk
  | cons x r ih =>
    intro s hrec h k hk hfr hok
    have hnext := fun s' => ih s' (fun y hy => hrec y (List.mem_cons_of_mem _ hy))
    rw [loopS] at h
    by_cases hf : freeS l lft x = false
    · rw [if_pos hf] at h
      rcases List.mem_cons.1 hk with rfl | hk
      · rw [hfr] at hf; cases hf
      · exact hnext s h k hk hfr hok
    · rw [if_neg hf] at h
      by_cases hB : s = B
      · rw [if_pos hB] at h; cases h
      · rw [if_neg hB] at h
        by_cases ho : okL l c (row ++ [x]) = true
        · rw [if_pos ho] at h
          by_cases hv : (rec (row ++ [x]) (s + 1)).1 = 1
          · rw [if_pos hv] at h
            rcases List.mem_cons.1 hk with rfl | hk
            · exact hrec _ (List.mem_cons_self ..) _ hv
            · exact hnext _ h k hk hfr hok
          · rw [if_neg hv] at h; exact absurd h hv
        · rw [if_neg ho] at h
          rcases List.mem_cons.1 hk with rfl | hk
          · exact absurd hok ho
          · exact hnext _ h k hk hfr hok
theorem from_none {B : Nat} {l : List Tx} {who c : Nat} : ∀ (f : Nat) (row : List Nat) (s : Nat), (leftS l who row).length < f → (fromS B l who c f row s).1 = 1 → ∀ t, ¬ goodP l who c row t := by
  intro f
  induction f with
  | zero => intro row s h; omega
  | succ f ih =>
    intro row s hf h t hg
    rw [fromS] at h
    by_cases hl : leftS l who row = []
    · rw [if_pos hl] at h; cases h
    · rw [if_neg hl] at h
      cases t with
      | nil => exact hl hg
      | cons k t =>
        obtain ⟨h1, h2, h3, h4⟩ := hg
        have hall := loop_none (G := fun k => ∃ t, goodP l who c (row ++ [k]) t) _ s (fun k hk s' h' => by
          have := left_len hk
          rintro ⟨t, ht⟩
          exact ih (row ++ [k]) s' (by omega) h' t ht) h k h1 h2 h3
        exact hall ⟨t, h4⟩
/-- rows that explain -/
structure Expl (l : List Tx) (who c : Nat) (row : List Nat) : Prop where
  nodup : row.Nodup
  mem : ∀ k, k ∈ row ↔ k < l.length ∧ who.testBit k = true
  keeps : row.Pairwise fun b a => bfrAt l a b = false
  legal : legalS l c row = row.length
theorem ok_app {l : List Tx} {c : Nat} {a b : List Nat} (h : okL l c (a ++ b) = true) : okL l c a = true := by
  unfold okL legalS at *
  rw [decide_eq_true_eq] at *
  have h1 := legal_take l c (a ++ b) a.length zeroM
  rw [List.take_left' rfl, h, List.length_append] at h1
  omega
theorem free_iff' {l : List Tx} {lft : List Nat} {k : Nat} : freeS l lft k = true ↔ ∀ i ∈ lft, bfrAt l i k = false := by
  unfold freeS
  rw [List.all_eq_true]
  simp
theorem good_iff {l : List Tx} {who c : Nat} (hself : ∀ i, i < l.length → bfrAt l i i = false) : ∀ (t row : List Nat), okL l c row = true →
    (goodP l who c row t ↔ t.Nodup ∧ (∀ k, k ∈ t ↔ k ∈ leftS l who row) ∧ (t.Pairwise fun b a => bfrAt l a b = false) ∧ okL l c (row ++ t) = true) := by
  intro t
  induction t with
  | nil =>
    intro row ho
    rw [List.append_nil]
    constructor
    · intro h
      have h' : leftS l who row = [] := h
      exact ⟨List.nodup_nil, fun k => by rw [h'], List.Pairwise.nil, ho⟩
    · rintro ⟨_, h, _, _⟩
      exact List.eq_nil_iff_forall_not_mem.2 fun k hk => by cases (h k).2 hk
  | cons k t ih =>
    intro row ho
    have happ : row ++ k :: t = row ++ [k] ++ t := by rw [List.append_assoc]; rfl
    have hmem : ∀ x, x ∈ leftS l who (row ++ [k]) ↔ x ∈ leftS l who row ∧ x ≠ k := fun x => by
      rw [left_next, List.mem_filter]
      simp
    constructor
    · rintro ⟨h1, h2, h3, h4⟩
      obtain ⟨g1, g2, g3, g4⟩ := (ih (row ++ [k]) h3).1 h4
      have hkt : k ∉ t := fun hc => ((hmem k).1 ((g2 k).1 hc)).2 rfl
      refine ⟨List.nodup_cons.2 ⟨hkt, g1⟩, fun x => ?_, List.pairwise_cons.2 ⟨fun x hx => free_iff'.1 h2 x ((hmem x).1 ((g2 x).1 hx)).1, g3⟩, by rw [happ]; exact g4⟩
      rw [List.mem_cons, g2, hmem]
      constructor
      · rintro (rfl | hx)
        · exact h1
        · exact hx.1
      · intro hx
        by_cases hxk : x = k
        · exact .inl hxk
        · exact .inr ⟨hx, hxk⟩
    · rintro ⟨h1, h2, h3, h4⟩
      obtain ⟨hkt, hnt⟩ := List.nodup_cons.1 h1
      obtain ⟨hk, hp⟩ := List.pairwise_cons.1 h3
      rw [happ] at h4
      have hok := ok_app h4
      have hkl := (h2 k).1 (List.mem_cons_self ..)
      refine ⟨hkl, free_iff'.2 fun i hi => ?_, hok, (ih (row ++ [k]) hok).2 ⟨hnt, fun x => ?_, hp, h4⟩⟩
      · rcases List.mem_cons.1 ((h2 i).2 hi) with rfl | hit
        · exact hself _ (left_mem.1 hi).1
        · exact hk i hit
      · rw [hmem, ← h2, List.mem_cons]
        constructor
        · intro hx; exact ⟨.inr hx, fun hc => hkt (hc ▸ hx)⟩
        · rintro ⟨rfl | hx, hne⟩
          · exact absurd rfl hne
          · exact hx
theorem good_expl {l : List Tx} {who c : Nat} (hself : ∀ i, i < l.length → bfrAt l i i = false) (t : List Nat) : goodP l who c [] t ↔ Expl l who c t := by
  rw [good_iff hself t [] (by simp [okL, legalS, legalG]), List.nil_append]
  have hm : ∀ k, k ∈ leftS l who [] ↔ k < l.length ∧ who.testBit k = true := fun k => by rw [left_mem]; simp
  constructor
  · rintro ⟨h1, h2, h3, h4⟩
    exact ⟨h1, fun k => (h2 k).trans (hm k), h3, by simpa [okL] using h4⟩
  · rintro ⟨h1, h2, h3, h4⟩
    exact ⟨h1, fun k => (h2 k).trans (hm k).symm, h3, by simpa [okL] using h4⟩
theorem left_le (l : List Tx) (who : Nat) (row : List Nat) : (leftS l who row).length ≤ l.length := by
  unfold leftS
  have := List.length_filter_le (fun k => who.testBit k && !row.contains k) (List.range l.length)
  rwa [List.length_range] at this
/-- what a row's search tells -/
theorem row_tells {B : Nat} {l : List Tx} {who c : Nat} (hself : ∀ i, i < l.length → bfrAt l i i = false) (s : Nat) (hs : s ≤ B) :
    Ans B s (mostW l.length) (fromS B l who c (l.length + 1) [] s) ∧ ((fromS B l who c (l.length + 1) [] s).1 = 0 → Expl l who c (fromS B l who c (l.length + 1) [] s).2.1) ∧
      ((fromS B l who c (l.length + 1) [] s).1 = 1 → ∀ t, ¬ Expl l who c t) := by
  have hle := left_le l who []
  have h1 := from_ans (B := B) (l := l) (who := who) (c := c) (l.length + 1) [] s hs (by omega)
  have hw := mostW_mono hle
  refine ⟨⟨h1.v, h1.ge, h1.le, by have := h1.most; omega, fun h => ⟨(h1.full h).1, by have := (h1.full h).2; omega⟩, h1.none⟩, fun h => ?_, fun h t ht => ?_⟩
  · obtain ⟨t, ht, hg⟩ := from_found (l.length + 1) [] s (by omega) h
    rw [ht, List.nil_append]
    exact (good_expl hself t).1 hg
  · exact from_none (l.length + 1) [] s (by omega) h t ((good_expl hself t).2 ht)
/-- all choices -/
theorem search_tells {B : Nat} {l : List Tx} {W : Nat → Nat} (hself : ∀ i, i < l.length → bfrAt l i i = false) : ∀ (cs : List Nat) (s : Nat), s ≤ B →
    ((searchG B l W cs s).1 = 0 ∨ (searchG B l W cs s).1 = 1 ∨ (searchG B l W cs s).1 = 2) ∧ s ≤ (searchG B l W cs s).2.2.2 ∧ (searchG B l W cs s).2.2.2 ≤ B ∧
      ((searchG B l W cs s).1 = 2 → (searchG B l W cs s).2.2.2 = B ∧ B < s + cs.length * mostW l.length) ∧
      ((searchG B l W cs s).1 ≠ 0 → (searchG B l W cs s).2.1 = 0 ∧ (searchG B l W cs s).2.2.1 = []) ∧
      ((searchG B l W cs s).1 = 0 → (searchG B l W cs s).2.1 ∈ cs ∧ Expl l (W (searchG B l W cs s).2.1) (searchG B l W cs s).2.1 (searchG B l W cs s).2.2.1) ∧
      ((searchG B l W cs s).1 = 1 → ∀ c ∈ cs, ∀ t, ¬ Expl l (W c) c t) ∧ (searchG B l W cs s).2.2.2 ≤ s + cs.length * mostW l.length := by
  intro cs
  induction cs with
  | nil => intro s hs; exact ⟨.inr (.inl rfl), Nat.le_refl _, hs, fun h => (by cases h), fun _ => ⟨rfl, rfl⟩, fun h => (by cases h), fun _ c hc => (by cases hc), Nat.le_add_right _ _⟩
  | cons c r ih =>
    intro s hs
    obtain ⟨h1, h2, h3⟩ := row_tells (B := B) (l := l) (who := W c) (c := c) hself s hs
    have hmul : (c :: r).length * mostW l.length = r.length * mostW l.length + mostW l.length := by rw [List.length_cons, Nat.succ_mul]
    rw [searchG]
    by_cases hv : (fromS B l (W c) c (l.length + 1) [] s).1 = 1
    · rw [if_pos hv]
      obtain ⟨g1, g2, g3, g4, g5, g6, g7, g8⟩ := ih _ h1.le
      have hge := h1.ge
      have hmost := h1.most
      refine ⟨g1, by omega, g3, fun h => ⟨(g4 h).1, by have := (g4 h).2; omega⟩, g5, fun h => ⟨List.mem_cons_of_mem _ (g6 h).1, (g6 h).2⟩, fun h x hx => ?_, by omega⟩
      rcases List.mem_cons.1 hx with rfl | hx
      · exact h3 hv
      · exact g7 h x hx
    · rw [if_neg hv]
      refine ⟨h1.v, h1.ge, h1.le, fun h => ⟨(h1.full h).1, by have := (h1.full h).2; omega⟩, fun h => ⟨if_neg h, h1.none h⟩, fun h => ?_, fun h => absurd h hv, by dsimp only; have := h1.most; omega⟩
      rw [if_pos h]
      exact ⟨List.mem_cons_self .., h2 h⟩
theorem choices_count (l : List Tx) : (choicesS l).length ≤ 64 := by
  unfold choicesS
  have := List.length_filter_le (choiceS l) (List.range 64)
  rwa [List.length_range] at this
/-- what the search for all tells -/
theorem search_known {B : Nat} {l : List Tx} {W : Nat → Nat} (hself : ∀ i, i < l.length → bfrAt l i i = false) (h6 : l.length ≤ 6) (hB : 125184 ≤ B) : (searchG B l W (choicesS l) 0).1 ≠ 2 := by
  intro hc
  have h1 := (search_tells (B := B) (W := W) hself (choicesS l) 0 (Nat.zero_le _)).2.2.2.1 hc
  have h2 := mostW_mono h6
  have h3 := Nat.mul_le_mul (choices_count l) h2
  rw [mostW_six] at h3
  omega
/-- some choice has a row: it is found; none has: not -/
theorem search_yes {B : Nat} {l : List Tx} {W : Nat → Nat} (hself : ∀ i, i < l.length → bfrAt l i i = false) (h6 : l.length ≤ 6) (hB : 125184 ≤ B) :
    (searchG B l W (choicesS l) 0).1 = 0 ↔ ∃ c ∈ choicesS l, ∃ t, Expl l (W c) c t := by
  obtain ⟨h1, _, _, _, _, h6', h7, _⟩ := search_tells (B := B) (W := W) hself (choicesS l) 0 (Nat.zero_le _)
  constructor
  · intro h; exact ⟨_, (h6' h).1, _, (h6' h).2⟩
  · rintro ⟨c, hc, t, ht⟩
    rcases h1 with h | h | h
    · exact h
    · exact absurd ht (h7 h c hc t)
    · exact absurd h (search_known hself h6 hB)
end Go.Proofs.YtmnblljenobofaaDoor.RPlain
