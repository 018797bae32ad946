/- Merged: SerB, OrdP, SerC, WorA. -/
import Derived.Test.YtpjfhdljagkefaaGreatDoorMg5
/- Plain words: what is found explains; if nothing is, no row does. -/
namespace Go.Proofs.YtpjfhdljagkefaaGreatDoor.WPlain
end Go.Proofs.YtpjfhdljagkefaaGreatDoor.WPlain
namespace Go.Proofs.YtpjfhdljagkefaaGreatDoor.QPlain
end Go.Proofs.YtpjfhdljagkefaaGreatDoor.QPlain
namespace Go.Proofs.YtpjfhdljagkefaaGreatDoor.RPlain
open WPlain QPlain

/-- a way that the search goes, from a row on -/
def goodP (l : List Tx) (who c : Nat) : List Nat → List Nat → Prop
  | row, [] => leftS l who row = []
  | row, k :: t => k ∈ leftS l who row ∧ freeS l (leftS l who row) k = true ∧ okL l c (row ++ [k]) = true ∧ goodP l who c (row ++ [k]) t
theorem loop_found {B : Nat} {rec : List Nat → Nat → Nat × List Nat × Nat} {l : List Tx} {who c : Nat} {row : List Nat} :
    ∀ (r : List Nat) (s : Nat), (∀ k ∈ r, k ∈ leftS l who row) → (∀ k ∈ r, ∀ s, (rec (row ++ [k]) s).1 = 0 → ∃ t, (rec (row ++ [k]) s).2.1 = row ++ [k] ++ t ∧ goodP l who c (row ++ [k]) t) →
      (loopS B rec l c (leftS l who row) row r s).1 = 0 → ∃ t, (loopS B rec l c (leftS l who row) row r s).2.1 = row ++ t ∧ goodP l who c row t := by
  intro r
  induction r with
  | nil => intro s _ _ h; cases h
  | cons k r ih =>
    intro s hin hrec h
    have hnext := fun s' => ih s' (fun x hx => hin x (List.mem_cons_of_mem _ hx)) (fun x hx => hrec x (List.mem_cons_of_mem _ hx))
    rw [loopS] at h ⊢
    by_cases hf : freeS l (leftS l who row) k = false
    · rw [if_pos hf] at h ⊢; exact hnext s h
    · rw [if_neg hf] at h ⊢
      by_cases hB : s = B
      · rw [if_pos hB] at h; cases h
      · rw [if_neg hB] at h ⊢
        by_cases ho : okL l c (row ++ [k]) = true
        · rw [if_pos ho] at h ⊢
          by_cases hv : (rec (row ++ [k]) (s + 1)).1 = 1
          · rw [if_pos hv] at h ⊢; exact hnext _ h
          · rw [if_neg hv] at h ⊢
            obtain ⟨t, h1, h2⟩ := hrec k (List.mem_cons_self ..) (s + 1) h
            exact ⟨k :: t, by rw [h1, List.append_assoc]; rfl, hin k (List.mem_cons_self ..), by simpa using hf, ho, h2⟩
        · rw [if_neg ho] at h ⊢; exact hnext _ h
theorem from_found {B : Nat} {l : List Tx} {who c : Nat} : ∀ (f : Nat) (row : List Nat) (s : Nat), (leftS l who row).length < f → (fromS B l who c f row s).1 = 0 →
    ∃ t, (fromS B l who c f row s).2.1 = row ++ t ∧ goodP l who c row t := by
  intro f
  induction f with
  | zero => intro row s h; omega
  | succ f ih =>
    intro row s hf h
    rw [fromS] at h ⊢
    by_cases hl : leftS l who row = []
    · rw [if_pos hl]; exact ⟨[], by rw [List.append_nil], hl⟩
    · rw [if_neg hl] at h ⊢
      refine loop_found _ s (fun k hk => hk) (fun k hk s' h' => ?_) h
      have := left_len hk
      exact ih (row ++ [k]) s' (by omega) h'
theorem loop_none {B : Nat} {rec : List Nat → Nat → Nat × List Nat × Nat} {l : List Tx} {c : Nat} {lft row : List Nat} {G : Nat → Prop} :
    ∀ (r : List Nat) (s : Nat), (∀ k ∈ r, ∀ s, (rec (row ++ [k]) s).1 = 1 → ¬ G k) → (loopS B rec l c lft row r s).1 = 1 → ∀ k ∈ r, freeS l lft k = true → okL l c (row ++ [k]) = true → ¬ G k := by
  intro r
  induction r with
  | nil => intro s _ _ k hk; cases hk
  | cons x r ih =>
    intro s hrec h k hk hfr hok
    have hnext := fun s' => ih s' (fun y hy => hrec y (List.mem_cons_of_mem _ hy))
    rw [loopS] at h
    by_cases hf : freeS l lft x = false
    · rw [if_pos hf] at h
      rcases List.mem_cons.1 hk with rfl | hk
      · rw [hfr] at hf; cases hf
      · exact hnext s h k hk hfr hok
    · rw [if_neg hf] at h
      by_cases hB : s = B
      · rw [if_pos hB] at h; cases h
      · rw [if_neg hB] at h
        by_cases ho : okL l c (row ++ [x]) = true
        · rw [if_pos ho] at h
          by_cases hv : (rec (row ++ [x]) (s + 1)).1 = 1
          · rw [if_pos hv] at h
            rcases List.mem_cons.1 hk with rfl | hk
            · exact hrec _ (List.mem_cons_self ..) _ hv
            · exact hnext _ h k hk hfr hok
          · rw [if_neg hv] at h; exact absurd h hv
        · rw [if_neg ho] at h
          rcases List.mem_cons.1 hk with rfl | hk
          · exact absurd hok ho
          · exact hnext _ h k hk hfr hok
theorem from_none {B : Nat} {l : List Tx} {who c : Nat} : ∀ (f : Nat) (row : List Nat) (s : Nat), (leftS l who row).length < f → (fromS B l who c f row s).1 = 1 → ∀ t, ¬ goodP l who c row t := by
  intro f
  induction f with
  | zero => intro row s h; omega
  | succ f ih =>
    intro row s hf h t hg
    rw [fromS] at h
    by_cases hl : leftS l who row = []
    · rw [if_pos hl] at h; cases h
    · rw [if_neg hl] at h
      cases t with
      | nil => exact hl hg
      | cons k t =>
        obtain ⟨h1, h2, h3, h4⟩ := hg
        have hall := loop_none (G := fun k => ∃ t, goodP l who c (row ++ [k]) t) _ s (fun k hk s' h' => by
          have := left_len hk
          rintro ⟨t, ht⟩
          exact ih (row ++ [k]) s' (by omega) h' t ht) h k h1 h2 h3
        exact hall ⟨t, h4⟩
/-- rows that explain -/
structure Expl (l : List Tx) (who c : Nat) (row : List Nat) : Prop where
  nodup : row.Nodup
  mem : ∀ k, k ∈ row ↔ k < l.length ∧ who.testBit k = true
  keeps : row.Pairwise fun b a => bfrAt l a b = false
  legal : legalS l c row = row.length
theorem ok_app {l : List Tx} {c : Nat} {a b : List Nat} (h : okL l c (a ++ b) = true) : okL l c a = true := by
  unfold okL legalS at *
  rw [decide_eq_true_eq] at *
  have h1 := legal_take l c (a ++ b) a.length zeroM
  rw [List.take_left' rfl, h, List.length_append] at h1
  omega
theorem free_iff' {l : List Tx} {lft : List Nat} {k : Nat} : freeS l lft k = true ↔ ∀ i ∈ lft, bfrAt l i k = false := by
  unfold freeS
  rw [List.all_eq_true]
  simp
theorem good_iff {l : List Tx} {who c : Nat} (hself : ∀ i, i < l.length → bfrAt l i i = false) : ∀ (t row : List Nat), okL l c row = true →
    (goodP l who c row t ↔ t.Nodup ∧ (∀ k, k ∈ t ↔ k ∈ leftS l who row) ∧ (t.Pairwise fun b a => bfrAt l a b = false) ∧ okL l c (row ++ t) = true) := by
  intro t
  induction t with
  | nil =>
    intro row ho
    rw [List.append_nil]
    constructor
    · intro h
      have h' : leftS l who row = [] := h
      exact ⟨List.nodup_nil, fun k => by rw [h'], List.Pairwise.nil, ho⟩
    · rintro ⟨_, h, _, _⟩
      exact List.eq_nil_iff_forall_not_mem.2 fun k hk => by cases (h k).2 hk
  | cons k t ih =>
    intro row ho
    have happ : row ++ k :: t = row ++ [k] ++ t := by rw [List.append_assoc]; rfl
    have hmem : ∀ x, x ∈ leftS l who (row ++ [k]) ↔ x ∈ leftS l who row ∧ x ≠ k := fun x => by
      rw [left_next, List.mem_filter]
      simp
    constructor
    · rintro ⟨h1, h2, h3, h4⟩
      obtain ⟨g1, g2, g3, g4⟩ := (ih (row ++ [k]) h3).1 h4
      have hkt : k ∉ t := fun hc => ((hmem k).1 ((g2 k).1 hc)).2 rfl
      refine ⟨List.nodup_cons.2 ⟨hkt, g1⟩, fun x => ?_, List.pairwise_cons.2 ⟨fun x hx => free_iff'.1 h2 x ((hmem x).1 ((g2 x).1 hx)).1, g3⟩, by rw [happ]; exact g4⟩
      rw [List.mem_cons, g2, hmem]
      constructor
      · rintro (rfl | hx)
        · exact h1
        · exact hx.1
      · intro hx
        by_cases hxk : x = k
        · exact .inl hxk
        · exact .inr ⟨hx, hxk⟩
    · rintro ⟨h1, h2, h3, h4⟩
      obtain ⟨hkt, hnt⟩ := List.nodup_cons.1 h1
      obtain ⟨hk, hp⟩ := List.pairwise_cons.1 h3
      rw [happ] at h4
      have hok := ok_app h4
      have hkl := (h2 k).1 (List.mem_cons_self ..)
      refine ⟨hkl, free_iff'.2 fun i hi => ?_, hok, (ih (row ++ [k]) hok).2 ⟨hnt, fun x => ?_, hp, h4⟩⟩
      · rcases List.mem_cons.1 ((h2 i).2 hi) with rfl | hit
        · exact hself _ (left_mem.1 hi).1
        · exact hk i hit
      · rw [hmem, ← h2, List.mem_cons]
        constructor
        · intro hx; exact ⟨.inr hx, fun hc => hkt (hc ▸ hx)⟩
        · rintro ⟨rfl | hx, hne⟩
          · exact absurd rfl hne
          · exact hx
theorem good_expl {l : List Tx} {who c : Nat} (hself : ∀ i, i < l.length → bfrAt l i i = false) (t : List Nat) : goodP l who c [] t ↔ Expl l who c t := by
  rw [good_iff hself t [] (by simp [okL, legalS, legalG]), List.nil_append]
  have hm : ∀ k, k ∈ leftS l who [] ↔ k < l.length ∧ who.testBit k = true := fun k => by rw [left_mem]; simp
  constructor
  · rintro ⟨h1, h2, h3, h4⟩
    exact ⟨h1, fun k => (h2 k).trans (hm k), h3, by simpa [okL] using h4⟩
  · rintro ⟨h1, h2, h3, h4⟩
    exact ⟨h1, fun k => (h2 k).trans (hm k).symm, h3, by simpa [okL] using h4⟩
theorem left_le (l : List Tx) (who : Nat) (row : List Nat) : (leftS l who row).length ≤ l.length := by
  unfold leftS
  have := List.length_filter_le (fun k => who.testBit k && !row.contains k) (List.range l.length)
  rwa [List.length_range] at this
/-- what a row's search tells -/
theorem row_tells {B : Nat} {l : List Tx} {who c : Nat} (hself : ∀ i, i < l.length → bfrAt l i i = false) (s : Nat) (hs : s ≤ B) :
    Ans B s (mostW l.length) (fromS B l who c (l.length + 1) [] s) ∧ ((fromS B l who c (l.length + 1) [] s).1 = 0 → Expl l who c (fromS B l who c (l.length + 1) [] s).2.1) ∧
      ((fromS B l who c (l.length + 1) [] s).1 = 1 → ∀ t, ¬ Expl l who c t) := by
  have hle := left_le l who []
  have h1 := from_ans (B := B) (l := l) (who := who) (c := c) (l.length + 1) [] s hs (by omega)
  have hw := mostW_mono hle
  refine ⟨⟨h1.v, h1.ge, h1.le, by have := h1.most; omega, fun h => ⟨(h1.full h).1, by have := (h1.full h).2; omega⟩, h1.none⟩, fun h => ?_, fun h t ht => ?_⟩
  · obtain ⟨t, ht, hg⟩ := from_found (l.length + 1) [] s (by omega) h
    rw [ht, List.nil_append]
    exact (good_expl hself t).1 hg
  · exact from_none (l.length + 1) [] s (by omega) h t ((good_expl hself t).2 ht)
/-- all choices -/
theorem search_tells {B : Nat} {l : List Tx} {W : Nat → Nat} (hself : ∀ i, i < l.length → bfrAt l i i = false) : ∀ (cs : List Nat) (s : Nat), s ≤ B →
    ((searchG B l W cs s).1 = 0 ∨ (searchG B l W cs s).1 = 1 ∨ (searchG B l W cs s).1 = 2) ∧ s ≤ (searchG B l W cs s).2.2.2 ∧ (searchG B l W cs s).2.2.2 ≤ B ∧
      ((searchG B l W cs s).1 = 2 → (searchG B l W cs s).2.2.2 = B ∧ B < s + cs.length * mostW l.length) ∧
      ((searchG B l W cs s).1 ≠ 0 → (searchG B l W cs s).2.1 = 0 ∧ (searchG B l W cs s).2.2.1 = []) ∧
      ((searchG B l W cs s).1 = 0 → (searchG B l W cs s).2.1 ∈ cs ∧ Expl l (W (searchG B l W cs s).2.1) (searchG B l W cs s).2.1 (searchG B l W cs s).2.2.1) ∧
      ((searchG B l W cs s).1 = 1 → ∀ c ∈ cs, ∀ t, ¬ Expl l (W c) c t) ∧ (searchG B l W cs s).2.2.2 ≤ s + cs.length * mostW l.length := by
  intro cs
  induction cs with
  | nil => intro s hs; exact ⟨.inr (.inl rfl), Nat.le_refl _, hs, fun h => (by cases h), fun _ => ⟨rfl, rfl⟩, fun h => (by cases h), fun _ c hc => (by cases hc), Nat.le_add_right _ _⟩
  | cons c r ih =>
    intro s hs
    obtain ⟨h1, h2, h3⟩ := row_tells (B := B) (l := l) (who := W c) (c := c) hself s hs
    have hmul : (c :: r).length * mostW l.length = r.length * mostW l.length + mostW l.length := by rw [List.length_cons, Nat.succ_mul]
    rw [searchG]
    by_cases hv : (fromS B l (W c) c (l.length + 1) [] s).1 = 1
    · rw [if_pos hv]
      obtain ⟨g1, g2, g3, g4, g5, g6, g7, g8⟩ := ih _ h1.le
      have hge := h1.ge
      have hmost := h1.most
      refine ⟨g1, by omega, g3, fun h => ⟨(g4 h).1, by have := (g4 h).2; omega⟩, g5, fun h => ⟨List.mem_cons_of_mem _ (g6 h).1, (g6 h).2⟩, fun h x hx => ?_, by omega⟩
      rcases List.mem_cons.1 hx with rfl | hx
      · exact h3 hv
      · exact g7 h x hx
    · rw [if_neg hv]
      refine ⟨h1.v, h1.ge, h1.le, fun h => ⟨(h1.full h).1, by have := (h1.full h).2; omega⟩, fun h => ⟨if_neg h, h1.none h⟩, fun h => ?_, fun h => absurd h hv, by dsimp only; have := h1.most; omega⟩
      rw [if_pos h]
      exact ⟨List.mem_cons_self .., h2 h⟩
theorem choices_count (l : List Tx) : (choicesS l).length ≤ 64 := by
  unfold choicesS
  have := List.length_filter_le (choiceS l) (List.range 64)
  rwa [List.length_range] at this
/-- what the search for all tells -/
theorem search_known {B : Nat} {l : List Tx} {W : Nat → Nat} (hself : ∀ i, i < l.length → bfrAt l i i = false) (h6 : l.length ≤ 6) (hB : 125184 ≤ B) : (searchG B l W (choicesS l) 0).1 ≠ 2 := by
  intro hc
  have h1 := (search_tells (B := B) (W := W) hself (choicesS l) 0 (Nat.zero_le _)).2.2.2.1 hc
  have h2 := mostW_mono h6
  have h3 := Nat.mul_le_mul (choices_count l) h2
  rw [mostW_six] at h3
  omega
/-- some choice has a row: it is found; none has: not -/
theorem search_yes {B : Nat} {l : List Tx} {W : Nat → Nat} (hself : ∀ i, i < l.length → bfrAt l i i = false) (h6 : l.length ≤ 6) (hB : 125184 ≤ B) :
    (searchG B l W (choicesS l) 0).1 = 0 ↔ ∃ c ∈ choicesS l, ∃ t, Expl l (W c) c t := by
  obtain ⟨h1, _, _, _, _, h6', h7, _⟩ := search_tells (B := B) (W := W) hself (choicesS l) 0 (Nat.zero_le _)
  constructor
  · intro h; exact ⟨_, (h6' h).1, _, (h6' h).2⟩
  · rintro ⟨c, hc, t, ht⟩
    rcases h1 with h | h | h
    · exact h
    · exact absurd ht (h7 h c hc t)
    · exact absurd h (search_known hself h6 hB)
end Go.Proofs.YtpjfhdljagkefaaGreatDoor.RPlain
/- Plain words: befores of a table's places. -/
namespace Go.Proofs.YtpjfhdljagkefaaGreatDoor.WPlain
end Go.Proofs.YtpjfhdljagkefaaGreatDoor.WPlain
namespace Go.Proofs.YtpjfhdljagkefaaGreatDoor.QPlain
end Go.Proofs.YtpjfhdljagkefaaGreatDoor.QPlain
namespace Go.Proofs.YtpjfhdljagkefaaGreatDoor.RPlain
open WPlain QPlain

theorem bfrAt_at {l : List Tx} {i k : Nat} (hi : i < l.length) (hk : k < l.length) : bfrAt l i k = bfr l[i] l[k] := by
  unfold bfrAt
  rw [List.getElem?_eq_getElem hi, List.getElem?_eq_getElem hk]
/-- what follows of two befores, of a table's places -/
theorem bfrAt_self {h : List Ev} {i : Nat} (hi : i < (tableS h).length) : bfrAt (tableS h) i i = false := by
  have hin : i < (namesOf h).length := by rw [tableS_len] at hi; exact hi
  rw [bfrAt_at hi hi, tableS_get hin]
  exact bfr_self h (List.getElem_mem hin)
theorem bfrAt_trans {h : List Ev} {i k m : Nat} (hi : i < (tableS h).length) (hk : k < (tableS h).length) (hm : m < (tableS h).length)
    (h1 : bfrAt (tableS h) i k = true) (h2 : bfrAt (tableS h) k m = true) : bfrAt (tableS h) i m = true := by
  have hin : i < (namesOf h).length := by rw [tableS_len] at hi; exact hi
  have hkn : k < (namesOf h).length := by rw [tableS_len] at hk; exact hk
  have hmn : m < (namesOf h).length := by rw [tableS_len] at hm; exact hm
  rw [bfrAt_at hi hk, tableS_get hin, tableS_get hkn] at h1
  rw [bfrAt_at hk hm, tableS_get hkn, tableS_get hmn] at h2
  rw [bfrAt_at hi hm, tableS_get hin, tableS_get hmn]
  exact bfr_trans h (List.getElem_mem hkn) h1 h2
end Go.Proofs.YtpjfhdljagkefaaGreatDoor.RPlain
/- Plain words: the search, and all rows that keep the order; parts of what is explained. -/
namespace Go.Proofs.YtpjfhdljagkefaaGreatDoor.WPlain
end Go.Proofs.YtpjfhdljagkefaaGreatDoor.WPlain
namespace Go.Proofs.YtpjfhdljagkefaaGreatDoor.QPlain
end Go.Proofs.YtpjfhdljagkefaaGreatDoor.QPlain
namespace Go.Proofs.YtpjfhdljagkefaaGreatDoor.RPlain
open WPlain QPlain

theorem self_table (h : List Ev) : ∀ i, i < (tableS h).length → bfrAt (tableS h) i i = false := fun _ hi => bfrAt_self hi
theorem bad_nat (l : List Tx) (a b : Nat) : badP l (a : Int) (b : Int) = (decide (a = b) || bfrAt l a b) := by
  unfold badP bfrAt
  rw [Int.toNat_natCast, Int.toNat_natCast]
  congr 1
  by_cases h : a = b
  · subst h; simp
  · rw [decide_eq_false h, decide_eq_false (fun hc => h (by omega))]
theorem keeps_nat (l : List Tx) (row : List Nat) : keepsS l (row.map fun x : Nat => (x : Int)) = true ↔ row.Pairwise fun b a => a ≠ b ∧ bfrAt l a b = false := by
  rw [keepsS_iff, List.pairwise_iff_getElem]
  constructor
  · intro h i j hi hj hij
    have h1 := h j (by simpa using hj) i hij
    rw [List.getElem_map, List.getElem_map, bad_nat] at h1
    simpa using h1
  · intro h i hi j hj
    have hi' : i < row.length := by simpa using hi
    have h1 := h j i (by omega) hi' hj
    rw [List.getElem_map, List.getElem_map, bad_nat]
    simpa using h1
theorem bfrAt_lt {l : List Tx} {a b : Nat} (h : bfrAt l a b = true) : a < l.length ∧ b < l.length := by
  unfold bfrAt at h
  cases ha : l[a]? with
  | none => rw [ha] at h; cases h
  | some X =>
    cases hb : l[b]? with
    | none => rw [ha, hb] at h; cases h
    | some Y => exact ⟨(List.getElem?_eq_some_iff.1 ha).1, (List.getElem?_eq_some_iff.1 hb).1⟩
theorem aft_after (l : List Tx) (a b : Nat) : aft (afterS l) a b = bfrAt l a b := by
  unfold aft
  by_cases ha : a < l.length
  · rw [List.getD_eq_getElem?_getD, List.getElem?_eq_getElem (by rw [afterS_len]; exact ha), Option.getD_some]
    unfold afterS
    rw [List.getElem_map]
    by_cases hb : b < l.length
    · rw [afterN_test l _ hb, bfrAt_at ha hb]
    · rw [Nat.testBit_lt_two_pow (Nat.lt_of_lt_of_le (afterN_lt l _) (Nat.pow_le_pow_right (by decide) (by omega)))]
      cases hc : bfrAt l a b with
      | false => rfl
      | true => exact absurd (bfrAt_lt hc).2 hb
  · rw [List.getD_eq_getElem?_getD, List.getElem?_eq_none (by rw [afterS_len]; omega)]
    cases hc : bfrAt l a b with
    | false => exact Nat.zero_testBit b
    | true => exact absurd (bfrAt_lt hc).1 ha
theorem free_after (h : List Ev) : Free (afterS (tableS h)) := by
  have hE : ∀ a b, Edge (afterS (tableS h)) a b → a < (tableS h).length ∧ b < (tableS h).length ∧ bfrAt (tableS h) a b = true := fun a b he => by
    have := he.2.2
    rw [aft_after] at this
    exact ⟨(bfrAt_lt this).1, (bfrAt_lt this).2, this⟩
  have hT : ∀ a b, Relation.TransGen (Edge (afterS (tableS h))) a b → a < (tableS h).length ∧ b < (tableS h).length ∧ bfrAt (tableS h) a b = true := by
    intro a b hb
    induction hb with
    | single h => exact hE _ _ h
    | tail _ h ih =>
      have h1 := hE _ _ h
      exact ⟨ih.1, h1.2.1, bfrAt_trans ih.1 h1.1 h1.2.1 ih.2.2 h1.2.2⟩
  intro a ha
  have h1 := hT a a ha
  rw [bfrAt_self h1.1] at h1
  cases h1.2.2
theorem two_bits (n k : Nat) : (2 ^ n - 1).testBit k = decide (k < n) := Nat.testBit_two_pow_sub_one ..
/-- the memory is made by those that are committed alone -/
theorem legal_filter (l : List Tx) (c : Nat) (p : Nat → Bool) : ∀ (row : List Nat) (M : Int → Int), (∀ i ∈ row, c.testBit i = true → p i = true) → legalG l c M row = row.length → legalG l c M (row.filter p) = (row.filter p).length := by
  intro row
  induction row with
  | nil => intro M _ _; rfl
  | cons i r ih =>
    intro M hp h
    have h1 := (legal_all l c i r M).1 h
    have h2 := ih (stepM l c M i) (fun x hx => hp x (List.mem_cons_of_mem _ hx)) h1.2
    rw [List.filter_cons]
    by_cases hpi : p i = true
    · rw [if_pos hpi]; exact (legal_all l c i _ M).2 ⟨h1.1, h2⟩
    · rw [if_neg hpi]
      have hc : ¬ c.testBit i = true := fun hc => hpi (hp i (List.mem_cons_self ..) hc)
      unfold stepM at h2
      rw [if_neg hc] at h2
      exact h2
/-- of what is explained, those that commit are -/
theorem part_commits {l : List Tx} {c : Nat} {row : List Nat} (h : Expl l (2 ^ l.length - 1) c row) : Expl l c c (row.filter c.testBit) := by
  refine ⟨h.nodup.filter _, fun k => ?_, h.keeps.filter _, legal_filter l c _ row zeroM (fun i _ hc => hc) h.legal⟩
  rw [List.mem_filter, h.mem, two_bits]
  constructor
  · rintro ⟨⟨h1, _⟩, h2⟩; exact ⟨h1, h2⟩
  · rintro ⟨h1, h2⟩; exact ⟨⟨h1, by simpa using h1⟩, h2⟩
end Go.Proofs.YtpjfhdljagkefaaGreatDoor.RPlain
/- Plain words: what each transaction saw. -/
namespace Go.Proofs.YtpjfhdljagkefaaGreatDoor.WPlain
end Go.Proofs.YtpjfhdljagkefaaGreatDoor.WPlain
namespace Go.Proofs.YtpjfhdljagkefaaGreatDoor.QPlain
end Go.Proofs.YtpjfhdljagkefaaGreatDoor.QPlain
namespace Go.Proofs.YtpjfhdljagkefaaGreatDoor.RPlain
open WPlain QPlain

/-- may a transaction have seen a set, of a choice? -/
def mayW (l : List Tx) (t set c : Nat) : Bool := (List.range l.length).all fun i =>
  if set.testBit i = true then !decide (i = t) && c.testBit i && !bfrAt l t i
  else decide (i = t) || !c.testBit i || (List.range l.length).all fun k => !((decide (k = t) || set.testBit k) && bfrAt l i k)
def setL (n set : Nat) : List Nat := (List.range n).filter set.testBit
def nxtW (l : List Tx) (set : Nat) (row : List Nat) (k : Nat) : Bool := set.testBit k && row.all fun b => !decide (k = b) && !bfrAt l k b
def rowsW (l : List Tx) (set : Nat) : List (List Nat) := extP l.length (nxtW l set) (setL l.length set).length []
def pairsW (l : List Tx) (t c : Nat) : List (Nat × List Nat) := (List.range (c + 1)).flatMap fun set => if mayW l t set c = true ∧ set < 2 ^ l.length then (rowsW l set).map fun r => (set, r) else []
def tellW (l : List Tx) (t c : Nat) (row : List Nat) : Bool := decide (row.length < legalS l c (row ++ [t]))
def oneG (B : Nat) (l : List Tx) (t c : Nat) : List (Nat × List Nat) → Nat → Nat × Nat × List Nat × Nat
  | [], s => (1, 0, [], s)
  | p :: r, s => if s = B then (2, 0, [], s) else if tellW l t c p.2 = true then (0, p.1, p.2, s + 1) else oneG B l t c r (s + 1)
def oneS (B : Nat) (l : List Tx) (t c s : Nat) : Nat × Nat × List Nat × Nat := oneG B l t c (pairsW l t c) s
def ownG (B : Nat) (l : List Tx) (c : Nat) : List Nat → Nat → Nat × List (Nat × List Nat × Nat) × Nat
  | [], s => (0, [], s)
  | t :: r, s => if c.testBit t = true then ownG B l c r s else if (oneS B l t c s).1 ≠ 0 then ((oneS B l t c s).1, [], (oneS B l t c s).2.2.2)
    else if (ownG B l c r (oneS B l t c s).2.2.2).1 ≠ 0 then ((ownG B l c r (oneS B l t c s).2.2.2).1, [], (ownG B l c r (oneS B l t c s).2.2.2).2.2)
    else (0, ((oneS B l t c s).2.1, (oneS B l t c s).2.2.1, (oneS B l t c s).2.2.2 - s) :: (ownG B l c r (oneS B l t c s).2.2.2).2.1, (ownG B l c r (oneS B l t c s).2.2.2).2.2)
def choiceW (B : Nat) (l : List Tx) (c s : Nat) : Nat × List Nat × List (Nat × List Nat × Nat) × Nat :=
  if (fromS B l c c (l.length + 1) [] s).1 ≠ 0 then ((fromS B l c c (l.length + 1) [] s).1, [], [], (fromS B l c c (l.length + 1) [] s).2.2)
  else if (ownG B l c (List.range l.length) (fromS B l c c (l.length + 1) [] s).2.2).1 ≠ 0 then ((ownG B l c (List.range l.length) (fromS B l c c (l.length + 1) [] s).2.2).1, [], [], (ownG B l c (List.range l.length) (fromS B l c c (l.length + 1) [] s).2.2).2.2)
  else (0, (fromS B l c c (l.length + 1) [] s).2.1, (ownG B l c (List.range l.length) (fromS B l c c (l.length + 1) [] s).2.2).2)
def worldG (B : Nat) (l : List Tx) : List Nat → Nat → Nat × Nat × List Nat × List (Nat × List Nat × Nat) × Nat
  | [], s => (1, 0, [], [], s)
  | c :: r, s => if (choiceW B l c s).1 = 1 then worldG B l r (choiceW B l c s).2.2.2 else ((choiceW B l c s).1, (if (choiceW B l c s).1 = 0 then c else 0), (choiceW B l c s).2)
def worldS (B : Nat) (l : List Tx) : Nat × Nat × List Nat × List (Nat × List Nat × Nat) × Nat := worldG B l (choicesS l) 0

theorem may_iff {l : List Tx} {t set c : Nat} : mayW l t set c = true ↔ (∀ i, i < l.length → set.testBit i = true → i ≠ t ∧ c.testBit i = true ∧ bfrAt l t i = false) ∧
    ∀ i, i < l.length → set.testBit i = false → i ≠ t → c.testBit i = true → ∀ k, k < l.length → (k = t ∨ set.testBit k = true) → bfrAt l i k = false := by
  unfold mayW
  rw [List.all_eq_true]
  constructor
  · intro h
    refine ⟨fun i hi hs => ?_, fun i hi hs hne hc k hk hkt => ?_⟩
    · have h1 := h i (List.mem_range.2 hi)
      rw [if_pos hs] at h1
      simp only [Bool.and_eq_true, Bool.not_eq_true', decide_eq_false_iff_not] at h1
      exact ⟨h1.1.1, h1.1.2, h1.2⟩
    · have h1 := h i (List.mem_range.2 hi)
      rw [if_neg (by rw [hs]; simp), decide_eq_false hne, hc] at h1
      simp only [Bool.false_or, Bool.not_true, List.all_eq_true] at h1
      have h2 := h1 k (List.mem_range.2 hk)
      cases hb : bfrAt l i k with
      | false => rfl
      | true =>
        rw [hb] at h2
        rcases hkt with rfl | hkt
        · simp at h2
        · rw [hkt] at h2; simp at h2
  · rintro ⟨h1, h2⟩ i hi
    have hi' := List.mem_range.1 hi
    by_cases hs : set.testBit i = true
    · rw [if_pos hs]
      obtain ⟨a, b, c'⟩ := h1 i hi' hs
      simp [a, b, c']
    · rw [if_neg hs]
      by_cases hne : i = t
      · simp [hne]
      · by_cases hc : c.testBit i = true
        · simp only [Bool.or_eq_true, List.all_eq_true]
          right
          intro k hk
          by_cases hkt : k = t ∨ set.testBit k = true
          · rw [h2 i hi' (by simpa using hs) hne hc k (List.mem_range.1 hk) hkt]; simp
          · have h3 : (decide (k = t) || set.testBit k) = false := by
              simp only [not_or] at hkt
              rw [decide_eq_false hkt.1, Bool.false_or]
              simpa using hkt.2
            rw [h3]; rfl
        · have : c.testBit i = false := by simpa using hc
          simp [this]
theorem setL_mem {n set k : Nat} : k ∈ setL n set ↔ k < n ∧ set.testBit k = true := by unfold setL; rw [List.mem_filter, List.mem_range]
theorem stepsW_iff (l : List Tx) (set : Nat) : ∀ (t row : List Nat), stepsP (nxtW l set) row t = true ↔ (∀ k ∈ t, set.testBit k = true) ∧ (t.Pairwise fun b a => a ≠ b ∧ bfrAt l a b = false) ∧ ∀ b ∈ row, ∀ a ∈ t, a ≠ b ∧ bfrAt l a b = false := by
  intro t
  induction t with
  | nil => intro row; simp [stepsP]
  | cons k r ih =>
    intro row
    have hn : nxtW l set row k = true ↔ set.testBit k = true ∧ ∀ b ∈ row, k ≠ b ∧ bfrAt l k b = false := by
      unfold nxtW
      rw [Bool.and_eq_true, List.all_eq_true]
      simp
    rw [stepsP, Bool.and_eq_true, hn, ih, List.pairwise_cons]
    constructor
    · rintro ⟨⟨h0, h1⟩, h2, h3, h4⟩
      refine ⟨fun x hx => ?_, ⟨fun a ha => h4 k (by simp) a ha, h3⟩, fun b hb a ha => ?_⟩
      · rcases List.mem_cons.1 hx with rfl | hx
        · exact h0
        · exact h2 x hx
      · rcases List.mem_cons.1 ha with rfl | ha
        · exact h1 b hb
        · exact h4 b (List.mem_append_left _ hb) a ha
    · rintro ⟨h0, ⟨h1, h2⟩, h3⟩
      refine ⟨⟨h0 k (List.mem_cons_self ..), fun b hb => h3 b hb k (List.mem_cons_self ..)⟩, fun x hx => h0 x (List.mem_cons_of_mem _ hx), h2, fun b hb a ha => ?_⟩
      rcases List.mem_append.1 hb with hb | hb
      · exact h3 b hb a (List.mem_cons_of_mem _ ha)
      · rw [List.mem_singleton.1 hb]; exact h1 a ha
/-- the rows of a set -/
theorem rowsW_mem {l : List Tx} {set : Nat} {row : List Nat} : row ∈ rowsW l set ↔ row.Nodup ∧ (∀ k, k ∈ row ↔ k < l.length ∧ set.testBit k = true) ∧ row.Pairwise fun b a => bfrAt l a b = false := by
  unfold rowsW
  rw [ext_filter]
  have hn : (setL l.length set).Nodup := List.nodup_range.filter _
  constructor
  · intro h
    obtain ⟨t, ht, rfl⟩ := List.mem_map.1 h
    rw [List.mem_filter, allT_mem, stepsW_iff] at ht
    obtain ⟨⟨h1, h2⟩, h3, h4, _⟩ := ht
    rw [List.nil_append]
    have hnd : t.Nodup := h4.imp fun h hc => h.1 hc.symm
    refine ⟨hnd, fun k => ⟨fun hk => ⟨h2 k hk, h3 k hk⟩, fun hk => ?_⟩, h4.imp fun h => h.2⟩
    by_cases hm : k ∈ t
    · exact hm
    · have := nodup_le (k :: t) (setL l.length set) (List.nodup_cons.2 ⟨hm, hnd⟩) fun x hx => by
        rcases List.mem_cons.1 hx with rfl | hx
        · exact setL_mem.2 hk
        · exact setL_mem.2 ⟨h2 x hx, h3 x hx⟩
      rw [List.length_cons] at this
      omega
  · rintro ⟨h1, h2, h3⟩
    refine List.mem_map.2 ⟨row, ?_, rfl⟩
    rw [List.mem_filter, allT_mem, stepsW_iff]
    refine ⟨⟨?_, fun k hk => ((h2 k).1 hk).1⟩, fun k hk => ((h2 k).1 hk).2, (List.pairwise_and_iff.2 ⟨h1, h3⟩).imp fun h => ⟨fun hc => h.1 hc.symm, h.2⟩, fun b hb => by cases hb⟩
    refine Nat.le_antisymm (nodup_le _ _ h1 fun x hx => setL_mem.2 ((h2 x).1 hx)) (nodup_le _ _ hn fun x hx => (h2 x).2 (setL_mem.1 hx))
theorem pairsW_mem {l : List Tx} {t c set : Nat} {row : List Nat} : (set, row) ∈ pairsW l t c ↔ set ≤ c ∧ mayW l t set c = true ∧ set < 2 ^ l.length ∧ row ∈ rowsW l set := by
  unfold pairsW
  rw [List.mem_flatMap]
  constructor
  · rintro ⟨x, hx, hp⟩
    have hx' := List.mem_range.1 hx
    by_cases hm : mayW l t x c = true ∧ x < 2 ^ l.length
    · rw [if_pos hm] at hp
      obtain ⟨r, hr, he⟩ := List.mem_map.1 hp
      rw [Prod.mk.injEq] at he
      obtain ⟨rfl, rfl⟩ := he
      exact ⟨by omega, hm.1, hm.2, hr⟩
    · rw [if_neg hm] at hp; cases hp
  · rintro ⟨h1, h2, h3, h4⟩
    refine ⟨set, List.mem_range.2 (by omega), ?_⟩
    rw [if_pos ⟨h2, h3⟩]
    exact List.mem_map.2 ⟨row, h4, rfl⟩
theorem tell_iff {l : List Tx} {t c : Nat} {row : List Nat} : tellW l t c row = true ↔ legalS l c (row ++ [t]) = (row ++ [t]).length := by
  unfold tellW legalS
  have := legal_le l c (row ++ [t]) zeroM
  rw [List.length_append, List.length_singleton] at this ⊢
  rw [decide_eq_true_eq]
  omega
/-- what the search for one tells -/
theorem one_tells {B : Nat} {l : List Tx} {t c : Nat} : ∀ (ps : List (Nat × List Nat)) (s : Nat), s ≤ B →
    ((oneG B l t c ps s).1 = 0 ∨ (oneG B l t c ps s).1 = 1 ∨ (oneG B l t c ps s).1 = 2) ∧ s ≤ (oneG B l t c ps s).2.2.2 ∧ (oneG B l t c ps s).2.2.2 ≤ B ∧ (oneG B l t c ps s).2.2.2 ≤ s + ps.length ∧
      ((oneG B l t c ps s).1 = 2 → B < s + ps.length) ∧ ((oneG B l t c ps s).1 = 0 → ((oneG B l t c ps s).2.1, (oneG B l t c ps s).2.2.1) ∈ ps ∧ tellW l t c (oneG B l t c ps s).2.2.1 = true) ∧
      ((oneG B l t c ps s).1 = 1 → ∀ p ∈ ps, tellW l t c p.2 = false) := by
  intro ps
  induction ps with
  | nil => intro s hs; exact ⟨.inr (.inl rfl), Nat.le_refl _, hs, Nat.le_refl _, fun h => (by cases h), fun h => (by cases h), fun _ p hp => (by cases hp)⟩
  | cons p r ih =>
    intro s hs
    rw [oneG]
    by_cases hB : s = B
    · rw [if_pos hB]
      exact ⟨.inr (.inr rfl), Nat.le_refl _, hs, Nat.le_add_right _ _, fun _ => by rw [List.length_cons]; omega, fun h => (by cases h), fun h => (by cases h)⟩
    · rw [if_neg hB]
      by_cases ht : tellW l t c p.2 = true
      · rw [if_pos ht]
        exact ⟨.inl rfl, Nat.le_succ _, by dsimp only; omega, by rw [List.length_cons]; dsimp only; omega, fun h => (by cases h), fun _ => ⟨List.mem_cons_self .., ht⟩, fun h => (by cases h)⟩
      · rw [if_neg ht]
        obtain ⟨g1, g2, g3, g4, g5, g6, g7⟩ := ih (s + 1) (by omega)
        rw [List.length_cons]
        refine ⟨g1, by omega, g3, by omega, fun h => by have := g5 h; omega, fun h => ⟨List.mem_cons_of_mem _ (g6 h).1, (g6 h).2⟩, fun h x hx => ?_⟩
        rcases List.mem_cons.1 hx with rfl | hx
        · simpa using ht
        · exact g7 h x hx
/-- all of the others -/
def sumW (l : List Tx) (c : Nat) (ts : List Nat) : Nat := (ts.map fun t => if c.testBit t = true then 0 else (pairsW l t c).length).sum
def sawW (l : List Tx) (c t : Nat) : Prop := ∃ p ∈ pairsW l t c, tellW l t c p.2 = true
theorem own_tells {B : Nat} {l : List Tx} {c : Nat} : ∀ (ts : List Nat) (s : Nat), s ≤ B →
    ((ownG B l c ts s).1 = 0 ∨ (ownG B l c ts s).1 = 1 ∨ (ownG B l c ts s).1 = 2) ∧ s ≤ (ownG B l c ts s).2.2 ∧ (ownG B l c ts s).2.2 ≤ B ∧ (ownG B l c ts s).2.2 ≤ s + sumW l c ts ∧
      ((ownG B l c ts s).1 = 2 → B < s + sumW l c ts) ∧ ((ownG B l c ts s).1 ≠ 0 → (ownG B l c ts s).2.1 = []) ∧
      ((ownG B l c ts s).1 = 0 → (ownG B l c ts s).2.1.length = (ts.filter fun t => !c.testBit t).length ∧ ∀ j (hj : j < (ownG B l c ts s).2.1.length) (hj2 : j < (ts.filter fun t => !c.testBit t).length),
        (((ownG B l c ts s).2.1[j]).1, ((ownG B l c ts s).2.1[j]).2.1) ∈ pairsW l (ts.filter fun t => !c.testBit t)[j] c ∧ tellW l (ts.filter fun t => !c.testBit t)[j] c ((ownG B l c ts s).2.1[j]).2.1 = true) ∧
      ((ownG B l c ts s).1 = 1 → ∃ t ∈ ts, c.testBit t = false ∧ ¬ sawW l c t) := by
  intro ts
  induction ts with
  | nil => intro s hs; exact ⟨.inl rfl, Nat.le_refl _, hs, Nat.le_add_right _ _, fun h => (by cases h), fun h => absurd rfl h, fun _ => ⟨rfl, fun j hj => absurd hj (by simp [ownG])⟩, fun h => (by cases h)⟩
  | cons t r ih =>
    intro s hs
    rw [ownG]
    by_cases hc : c.testBit t = true
    · rw [if_pos hc]
      obtain ⟨g1, g2, g3, g4, g5, g6, g7, g8⟩ := ih s hs
      have hsum : sumW l c (t :: r) = sumW l c r := by unfold sumW; rw [List.map_cons, List.sum_cons, if_pos hc, Nat.zero_add]
      have hfil : (t :: r).filter (fun t => !c.testBit t) = r.filter fun t => !c.testBit t := by rw [List.filter_cons, hc]; rfl
      rw [hsum, hfil]
      refine ⟨g1, g2, g3, g4, g5, g6, g7, fun h => ?_⟩
      obtain ⟨x, hx, h1⟩ := g8 h
      exact ⟨x, List.mem_cons_of_mem _ hx, h1⟩
    · rw [if_neg hc]
      have hcf : c.testBit t = false := by simpa using hc
      have hsum : sumW l c (t :: r) = (pairsW l t c).length + sumW l c r := by unfold sumW; rw [List.map_cons, List.sum_cons, if_neg hc]
      have hfil : (t :: r).filter (fun t => !c.testBit t) = t :: r.filter fun t => !c.testBit t := by rw [List.filter_cons, hcf]; rfl
      obtain ⟨a1, a2, a3, a4, a5, a6, a7⟩ := one_tells (B := B) (l := l) (t := t) (c := c) (pairsW l t c) s hs
      rw [hsum, hfil]
      change _ at a1
      by_cases hv : (oneS B l t c s).1 ≠ 0
      · rw [if_pos hv]
        refine ⟨a1, a2, a3, by have : (oneS B l t c s).2.2.2 ≤ _ := a4; dsimp only; omega, fun h => by have := a5 h; omega, fun _ => rfl, fun h => absurd h hv, fun h => ⟨t, List.mem_cons_self .., hcf, ?_⟩⟩
        rintro ⟨p, hp, hpt⟩
        rw [a7 h p hp] at hpt
        cases hpt
      · rw [if_neg hv]
        obtain ⟨g1, g2, g3, g4, g5, g6, g7, g8⟩ := ih (oneS B l t c s).2.2.2 a3
        have a4' : (oneS B l t c s).2.2.2 ≤ s + (pairsW l t c).length := a4
        have a2' : s ≤ (oneS B l t c s).2.2.2 := a2
        by_cases hw : (ownG B l c r (oneS B l t c s).2.2.2).1 ≠ 0
        · rw [if_pos hw]
          refine ⟨g1, by dsimp only; omega, g3, by dsimp only; omega, fun h => by have := g5 h; omega, fun _ => rfl, fun h => absurd h hw, fun h => ?_⟩
          obtain ⟨x, hx, h1⟩ := g8 h
          exact ⟨x, List.mem_cons_of_mem _ hx, h1⟩
        · rw [if_neg hw]
          have hw0 : (ownG B l c r (oneS B l t c s).2.2.2).1 = 0 := by simpa using hw
          have hv0 : (oneS B l t c s).1 = 0 := by simpa using hv
          obtain ⟨e1, e2⟩ := g7 hw0
          have hone := a6 hv0
          refine ⟨.inl rfl, by dsimp only; omega, g3, by dsimp only; omega, fun h => (by cases h), fun h => absurd rfl h, fun _ => ⟨by rw [List.length_cons, List.length_cons, e1], fun j hj hj2 => ?_⟩, fun h => (by cases h)⟩
          cases j with
          | zero => exact hone
          | succ j => exact e2 j (by simpa using hj) (by simpa using hj2)
end Go.Proofs.YtpjfhdljagkefaaGreatDoor.RPlain
