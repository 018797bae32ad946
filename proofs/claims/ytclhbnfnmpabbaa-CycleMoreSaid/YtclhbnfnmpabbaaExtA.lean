/- Plain words: all rows that keep an order. -/
import Derived.Test.YtclhbnfnmpabbaaRows
namespace Go.Proofs.Ytclhbnfnmpabbaa.RPlain

/-- all rows of so many places below n, those first whose first other place is less -/
def allT (n : Nat) : Nat → List (List Nat)
  | 0 => [[]]
  | s + 1 => (List.range n).flatMap fun k => (allT n s).map (k :: ·)
/-- .. that go on from a row, by places that may come behind what is there -/
def extP (n : Nat) (p : List Nat → Nat → Bool) : Nat → List Nat → List (List Nat)
  | 0, row => [row]
  | s + 1, row => (List.range n).flatMap fun k => if p row k = true then extP n p s (row ++ [k]) else []
def stepsP (p : List Nat → Nat → Bool) : List Nat → List Nat → Bool
  | _, [] => true
  | row, k :: t => p row k && stepsP p (row ++ [k]) t
theorem ext_filter (n : Nat) (p : List Nat → Nat → Bool) : ∀ (s : Nat) (row : List Nat), extP n p s row = ((allT n s).filter (stepsP p row)).map (row ++ ·) := by
  intro s
  induction s with
  | zero =>
    intro row
    show [row] = (([[]] : List (List Nat)).filter (stepsP p row)).map (row ++ ·)
    have h1 : ([[]] : List (List Nat)).filter (stepsP p row) = [[]] := rfl
    rw [h1, List.map_cons, List.map_nil, List.append_nil]
  | succ s ih =>
    intro row
    rw [extP, allT, List.filter_flatMap, List.map_flatMap]
    refine congrArg (fun f => (List.range n).flatMap f) (funext fun k => ?_)
    rw [List.filter_map, List.map_map]
    by_cases hp : p row k = true
    · rw [if_pos hp, ih]
      have h1 : (stepsP p row ∘ (k :: ·)) = stepsP p (row ++ [k]) := by
        funext t
        show stepsP p row (k :: t) = _
        rw [stepsP, hp, Bool.true_and]
      have h2 : ((row ++ ·) ∘ (k :: ·)) = (row ++ [k] ++ ·) := by
        funext t
        show row ++ (k :: t) = _
        rw [List.append_assoc]; rfl
      rw [h1, h2]
    · rw [if_neg hp]
      have h1 : (allT n s).filter (stepsP p row ∘ (k :: ·)) = [] := by
        rw [List.filter_eq_nil_iff]
        intro t _ hc
        have hc' : stepsP p row (k :: t) = true := hc
        rw [stepsP, Bool.and_eq_true] at hc'
        exact hp hc'.1
      rw [h1]; rfl
theorem allT_mem {n : Nat} : ∀ {s : Nat} {t : List Nat}, t ∈ allT n s ↔ t.length = s ∧ ∀ k ∈ t, k < n := by
  intro s
  induction s with
  | zero =>
    intro t
    rw [allT, List.mem_singleton]
    constructor
    · rintro rfl; exact ⟨rfl, fun k hk => by cases hk⟩
    · rintro ⟨h, _⟩; exact List.length_eq_zero_iff.1 h
  | succ s ih =>
    intro t
    rw [allT, List.mem_flatMap]
    constructor
    · rintro ⟨k, hk, ht⟩
      obtain ⟨u, hu, rfl⟩ := List.mem_map.1 ht
      obtain ⟨h1, h2⟩ := ih.1 hu
      refine ⟨by simp [h1], fun x hx => ?_⟩
      rcases List.mem_cons.1 hx with rfl | hx
      · exact List.mem_range.1 hk
      · exact h2 x hx
    · rintro ⟨h1, h2⟩
      cases t with
      | nil => simp at h1
      | cons k u =>
        exact ⟨k, List.mem_range.2 (h2 k (List.mem_cons_self ..)), List.mem_map.2 ⟨u, ih.2 ⟨by simpa using h1, fun x hx => h2 x (List.mem_cons_of_mem _ hx)⟩, rfl⟩⟩
theorem allT_rise (n : Nat) : ∀ s : Nat, (allT n s).Pairwise (· < ·) := by
  intro s
  induction s with
  | zero => exact List.pairwise_singleton _ _
  | succ s ih =>
    rw [allT, List.pairwise_flatMap]
    refine ⟨fun k _ => List.pairwise_map.2 (ih.imp fun h => List.cons_lt_cons_iff.2 (.inr ⟨rfl, h⟩)), ?_⟩
    refine List.pairwise_lt_range.imp fun {a b} hab x hx y hy => ?_
    obtain ⟨u, _, rfl⟩ := List.mem_map.1 hx
    obtain ⟨v, _, rfl⟩ := List.mem_map.1 hy
    exact List.cons_lt_cons_iff.2 (.inl hab)
/-- an order: bit b of number a is 1, if a is before b -/
def aft (L : List Nat) (a b : Nat) : Bool := (L.getD a 0).testBit b
def nxt (L : List Nat) (row : List Nat) (k : Nat) : Bool := row.all fun b => !decide (k = b) && !aft L k b
def allS (L : List Nat) : List (List Nat) := extP L.length (nxt L) L.length []
/-- may b stand ahead of a? -/
def goes (L : List Nat) (b a : Nat) : Prop := a ≠ b ∧ aft L a b = false
theorem nxt_iff (L row : List Nat) (k : Nat) : nxt L row k = true ↔ ∀ b ∈ row, goes L b k := by
  unfold nxt goes
  rw [List.all_eq_true]
  refine forall_congr' fun b => forall_congr' fun _ => ?_
  simp
theorem steps_iff (L : List Nat) : ∀ (t row : List Nat), stepsP (nxt L) row t = true ↔ t.Pairwise (goes L) ∧ ∀ b ∈ row, ∀ a ∈ t, goes L b a := by
  intro t
  induction t with
  | nil => intro row; simp [stepsP]
  | cons k r ih =>
    intro row
    rw [stepsP, Bool.and_eq_true, nxt_iff, ih, List.pairwise_cons]
    constructor
    · rintro ⟨h1, h2, h3⟩
      refine ⟨⟨fun a ha => h3 k (by simp) a ha, h2⟩, fun b hb a ha => ?_⟩
      rcases List.mem_cons.1 ha with rfl | ha
      · exact h1 b hb
      · exact h3 b (List.mem_append_left _ hb) a ha
    · rintro ⟨⟨h1, h2⟩, h3⟩
      refine ⟨fun b hb => h3 b hb k (List.mem_cons_self ..), h2, fun b hb a ha => ?_⟩
      rcases List.mem_append.1 hb with hb | hb
      · exact h3 b hb a (List.mem_cons_of_mem _ ha)
      · rw [List.mem_singleton.1 hb]; exact h1 a ha
theorem allS_filter (L : List Nat) : allS L = (allT L.length L.length).filter (stepsP (nxt L) []) := by
  unfold allS
  rw [ext_filter]
  simp
theorem allS_mem {L row : List Nat} : row ∈ allS L ↔ row.length = L.length ∧ (∀ k ∈ row, k < L.length) ∧ row.Pairwise (goes L) := by
  rw [allS_filter, List.mem_filter, allT_mem, steps_iff]
  simp [and_assoc]
theorem allS_rise (L : List Nat) : (allS L).Pairwise (· < ·) := by
  rw [allS_filter]
  exact (allT_rise _ _).filter _
/-- rows by any other rule, if it lets through the same whole rows -/
theorem ext_same (n : Nat) {p q : List Nat → Nat → Bool} (h : ∀ t : List Nat, t.length = n → (∀ k ∈ t, k < n) → stepsP p [] t = stepsP q [] t) : extP n p n [] = extP n q n [] := by
  rw [ext_filter, ext_filter]
  congr 1
  refine List.filter_congr fun t ht => ?_
  obtain ⟨h1, h2⟩ := allT_mem.1 ht
  exact h t h1 h2
/-- two rows of rows that rise, with the same in them, are one -/
theorem rise_ext : ∀ {a b : List (List Nat)}, a.Pairwise (· < ·) → b.Pairwise (· < ·) → (∀ x, x ∈ a ↔ x ∈ b) → a = b := by
  intro a
  induction a with
  | nil =>
    intro b _ _ h
    cases b with
    | nil => rfl
    | cons y s => exact absurd ((h y).2 (List.mem_cons_self ..)) (by simp)
  | cons x r ih =>
    intro b ha hb h
    cases b with
    | nil => exact absurd ((h x).1 (List.mem_cons_self ..)) (by simp)
    | cons y s =>
      obtain ⟨ha1, ha2⟩ := List.pairwise_cons.1 ha
      obtain ⟨hb1, hb2⟩ := List.pairwise_cons.1 hb
      have hxy : x = y := by
        rcases List.mem_cons.1 ((h x).1 (List.mem_cons_self ..)) with hx | hx
        · exact hx
        · rcases List.mem_cons.1 ((h y).2 (List.mem_cons_self ..)) with hy | hy
          · exact hy.symm
          · exact absurd (List.lt_trans (hb1 x hx) (ha1 y hy)) (List.lt_irrefl _)
      subst hxy
      congr 1
      refine ih ha2 hb2 fun z => ?_
      have := h z
      simp only [List.mem_cons] at this
      constructor
      · intro hz
        rcases this.1 (.inr hz) with rfl | hz'
        · exact absurd (ha1 z hz) (List.lt_irrefl _)
        · exact hz'
      · intro hz
        rcases this.2 (.inr hz) with rfl | hz'
        · exact absurd (hb1 z hz) (List.lt_irrefl _)
        · exact hz'
/-- the ways from place to place; is there one back? -/
def Edge (L : List Nat) (a b : Nat) : Prop := a < L.length ∧ b < L.length ∧ aft L a b = true
def Free (L : List Nat) : Prop := ∀ a, ¬ Relation.TransGen (Edge L) a a
theorem has_min {L S : List Nat} (hf : Free L) (hS : ∀ x ∈ S, x < L.length) : ∀ (m : Nat) (x : Nat), x ∈ S → (S.countP fun y => @decide (Relation.TransGen (Edge L) y x) (Classical.propDecidable _)) ≤ m → ∃ z ∈ S, ∀ y ∈ S, aft L y z = false := by
  intro m
  induction m with
  | zero =>
    intro x hx hc
    refine ⟨x, hx, fun y hy => ?_⟩
    have h0 : (S.countP fun y => @decide (Relation.TransGen (Edge L) y x) (Classical.propDecidable _)) = 0 := by omega
    rw [List.countP_eq_zero] at h0
    have h1 := h0 y hy
    cases hb : aft L y x with
    | false => rfl
    | true => exact absurd (@decide_eq_true _ (Classical.propDecidable _) (Relation.TransGen.single ⟨hS y hy, hS x hx, hb⟩)) h1
  | succ m ih =>
    intro x hx hc
    by_cases hall : ∀ y ∈ S, aft L y x = false
    · exact ⟨x, hx, hall⟩
    · simp only [Classical.not_forall] at hall
      obtain ⟨y, hy, hb⟩ := hall
      have hb' : aft L y x = true := by simpa using hb
      have he : Edge L y x := ⟨hS y hy, hS x hx, hb'⟩
      refine ih y hy ?_
      have hlt : (S.countP fun z => @decide (Relation.TransGen (Edge L) z y) (Classical.propDecidable _)) < (S.countP fun z => @decide (Relation.TransGen (Edge L) z x) (Classical.propDecidable _)) := by
        have hmono : ∀ (T : List Nat), (T.countP fun z => @decide (Relation.TransGen (Edge L) z y) (Classical.propDecidable _)) ≤ (T.countP fun z => @decide (Relation.TransGen (Edge L) z x) (Classical.propDecidable _)) := fun T =>
          List.countP_mono_left fun z _ hz => @decide_eq_true _ (Classical.propDecidable _) ((@of_decide_eq_true _ (Classical.propDecidable _) hz).tail he)
        obtain ⟨s, t, rfl⟩ := List.append_of_mem hy
        rw [List.countP_append, List.countP_append, List.countP_cons, List.countP_cons]
        have h1 := hmono s
        have h2 := hmono t
        have h3 : @decide (Relation.TransGen (Edge L) y y) (Classical.propDecidable _) = false := @decide_eq_false _ (Classical.propDecidable _) (hf y)
        have h4 : @decide (Relation.TransGen (Edge L) y x) (Classical.propDecidable _) = true := @decide_eq_true _ (Classical.propDecidable _) (.single he)
        rw [h3, h4]
        simp
        omega
      omega
theorem has_row {L : List Nat} (hf : Free L) : ∀ (n : Nat) (S : List Nat), S.length = n → S.Nodup → (∀ x ∈ S, x < L.length) → ∃ row : List Nat, row.Perm S ∧ row.Pairwise (goes L) := by
  intro n
  induction n with
  | zero => intro S h _ _; exact ⟨[], by rw [List.length_eq_zero_iff.1 h], List.Pairwise.nil⟩
  | succ n ih =>
    intro S hl hn hS
    obtain ⟨x, hx⟩ : ∃ x, x ∈ S := List.exists_mem_of_length_pos (by omega)
    obtain ⟨z, hz, hmin⟩ := has_min hf hS _ x hx (Nat.le_refl _)
    have hle := List.length_erase_of_mem hz
    obtain ⟨row, hp, hr⟩ := ih (S.erase z) (by omega) (hn.erase z) (fun y hy => hS y (List.mem_of_mem_erase hy))
    refine ⟨z :: row, (hp.cons z).trans (List.perm_cons_erase hz).symm, List.pairwise_cons.2 ⟨fun a ha => ?_, hr⟩⟩
    have ha' := hp.subset ha
    have haS := List.mem_of_mem_erase ha'
    refine ⟨fun hc => ?_, hmin a haS⟩
    rw [hc] at ha'
    exact (List.Nodup.not_mem_erase hn) ha'
/-- there is one at least -/
theorem allS_some {L : List Nat} (hf : Free L) : 0 < (allS L).length := by
  obtain ⟨row, hp, hr⟩ := has_row hf L.length (List.range L.length) (by simp) List.nodup_range (fun x hx => List.mem_range.1 hx)
  exact List.length_pos_of_mem (allS_mem.2 ⟨by rw [hp.length_eq, List.length_range], fun k hk => List.mem_range.1 (hp.subset hk), hr⟩)
theorem goes_nodup {L row : List Nat} (h : row.Pairwise (goes L)) : row.Nodup := h.imp fun h => fun hc => h.1 hc.symm
theorem nodup_le : ∀ (l1 l2 : List Nat), l1.Nodup → (∀ x ∈ l1, x ∈ l2) → l1.length ≤ l2.length := by
  intro l1
  induction l1 with
  | nil => intro _ _ _; simp
  | cons x r ih =>
    intro l2 hn hs
    obtain ⟨hx, hr⟩ := List.nodup_cons.1 hn
    have h1 := ih (l2.erase x) hr (fun y hy => (List.mem_erase_of_ne (show y ≠ x from fun hc => hx (by rw [← hc]; exact hy))).2 (hs y (List.mem_cons_of_mem _ hy)))
    have hm := hs x (List.mem_cons_self ..)
    have h2 := List.length_erase_of_mem hm
    have h3 := List.length_pos_of_mem hm
    rw [List.length_cons]
    omega
theorem nodup_full (row : List Nat) (n : Nat) (hn : row.Nodup) (hlt : ∀ k ∈ row, k < n) (hl : row.length = n) (a : Nat) (ha : a < n) : a ∈ row := by
  by_cases hm : a ∈ row
  · exact hm
  · have h := nodup_le (a :: row) (List.range n) (List.nodup_cons.2 ⟨hm, hn⟩) (fun x hx => by
      rcases List.mem_cons.1 hx with rfl | hx
      · exact List.mem_range.2 ha
      · exact List.mem_range.2 (hlt x hx))
    rw [List.length_cons, List.length_range] at h
    omega
/-- a row that keeps it: there is no way back -/
theorem row_free {L row : List Nat} (hself : ∀ a, a < L.length → aft L a a = false) (h : row ∈ allS L) : Free L := by
  obtain ⟨hl, hlt, hp⟩ := allS_mem.1 h
  have hn := goes_nodup hp
  have hfull := nodup_full row L.length hn hlt hl
  have hedge : ∀ a b, Edge L a b → row.idxOf a < row.idxOf b := by
    rintro a b ⟨ha, hb, he⟩
    have h1 := List.idxOf_lt_length_of_mem (hfull a ha)
    have h2 := List.idxOf_lt_length_of_mem (hfull b hb)
    have h3 : row[row.idxOf a] = a := List.getElem_idxOf h1
    have h4 : row[row.idxOf b] = b := List.getElem_idxOf h2
    rcases Nat.lt_trichotomy (row.idxOf a) (row.idxOf b) with h5 | h5 | h5
    · exact h5
    · have : a = b := by rw [← h3, ← h4]; simp only [h5]
      subst this
      rw [hself a ha] at he
      cases he
    · have := List.pairwise_iff_getElem.1 hp _ _ h2 h1 h5
      rw [h3, h4] at this
      rw [this.2] at he
      cases he
  intro a ha
  have : ∀ b, Relation.TransGen (Edge L) a b → row.idxOf a < row.idxOf b := by
    intro b hb
    induction hb with
    | single h => exact hedge _ _ h
    | tail _ h ih => exact Nat.lt_trans ih (hedge _ _ h)
  exact absurd (this a ha) (Nat.lt_irrefl _)
/-- places without any order: as many rows as there are ways to turn them -/
def factN : Nat → Nat
  | 0 => 1
  | n + 1 => factN n * (n + 1)
theorem sum_ite (q : Nat → Bool) (c : Nat) : ∀ l : List Nat, (l.map fun k => if q k = true then c else 0).sum = (l.filter q).length * c := by
  intro l
  induction l with
  | nil => simp
  | cons x r ih =>
    rw [List.map_cons, List.sum_cons, ih, List.filter_cons]
    split
    · rw [List.length_cons, Nat.succ_mul, Nat.add_comm]
    · rw [Nat.zero_add]
theorem filter_both (q : Nat → Bool) : ∀ l : List Nat, (l.filter fun k => !q k).length + (l.filter q).length = l.length := by
  intro l
  induction l with
  | nil => rfl
  | cons x r ih =>
    rw [List.filter_cons, List.filter_cons, List.length_cons]
    cases q x <;> simp <;> omega
theorem count_left (n : Nat) (row : List Nat) (hn : row.Nodup) (hlt : ∀ k ∈ row, k < n) : ((List.range n).filter fun k => !row.contains k).length + row.length = n := by
  have h1 : ((List.range n).filter row.contains).length = row.length := by
    refine Nat.le_antisymm (nodup_le _ _ (List.nodup_range.filter _) fun x hx => ?_) (nodup_le _ _ hn fun x hx => ?_)
    · rw [List.mem_filter] at hx; simpa using hx.2
    · rw [List.mem_filter]; exact ⟨List.mem_range.2 (hlt x hx), by simpa using hx⟩
  have h2 := filter_both row.contains
  have h3 := h2 (List.range n)
  rw [h1, List.length_range] at h3
  exact h3
theorem ext_fact {L : List Nat} (hz : ∀ a b, aft L a b = false) : ∀ (s : Nat) (row : List Nat), row.Nodup → (∀ k ∈ row, k < L.length) → row.length + s = L.length → (extP L.length (nxt L) s row).length = factN s := by
  intro s
  induction s with
  | zero => intro row _ _ _; rfl
  | succ s ih =>
    intro row hn hlt hl
    have hq : ∀ k, nxt L row k = !row.contains k := fun k => by
      rw [Bool.eq_iff_iff, nxt_iff]
      simp only [goes, hz, and_true, Bool.not_eq_true', List.contains_eq_mem, decide_eq_false_iff_not]
      exact ⟨fun h hc => h k hc rfl, fun h b hb hc => h (hc ▸ hb)⟩
    rw [extP, List.length_flatMap]
    have h1 : (List.range L.length).map (fun k => (if nxt L row k = true then extP L.length (nxt L) s (row ++ [k]) else []).length) = (List.range L.length).map (fun k => if (!row.contains k) = true then factN s else 0) := by
      refine List.map_congr_left fun k hk => ?_
      rw [hq]
      by_cases hc : (!row.contains k) = true
      · rw [if_pos hc, if_pos hc]
        have hm : k ∉ row := by simpa using hc
        refine ih _ (List.nodup_append.2 ⟨hn, by simp, fun a ha b hb => ?_⟩) (fun x hx => ?_) (by rw [List.length_append, List.length_singleton]; omega)
        · rw [List.mem_singleton.1 hb]; exact fun hc => hm (hc ▸ ha)
        · rcases List.mem_append.1 hx with hx | hx
          · exact hlt x hx
          · rw [List.mem_singleton.1 hx]; exact List.mem_range.1 hk
      · rw [if_neg hc, if_neg hc]; rfl
    rw [h1, sum_ite]
    have h2 := count_left L.length row hn hlt
    rw [show ((List.range L.length).filter fun k => !row.contains k).length = s + 1 from by omega, factN, Nat.mul_comm]
theorem allS_fact {L : List Nat} (hz : ∀ a b, aft L a b = false) : (allS L).length = factN L.length := ext_fact hz _ _ List.nodup_nil (fun k hk => by cases hk) (by simp)
/-- with more asked there are not more -/
theorem allS_more {L L' : List Nat} (hl : L.length = L'.length) (h : ∀ a b, aft L a b = true → aft L' a b = true) : (allS L').length ≤ (allS L).length := by
  rw [allS_filter, allS_filter, ← hl, ← List.countP_eq_length_filter, ← List.countP_eq_length_filter]
  refine List.countP_mono_left fun t _ ht => ?_
  rw [steps_iff] at ht ⊢
  refine ⟨ht.1.imp fun {b a} hg => ⟨hg.1, ?_⟩, fun b hb => by cases hb⟩
  cases hb : aft L a b with
  | false => rfl
  | true => have := hg.2; rw [h a b hb] at this; cases this
theorem edge_more {L L' : List Nat} (hl : L.length = L'.length) (h : ∀ a b, aft L a b = true → aft L' a b = true) (hf : Free L') : Free L := by
  have hE : ∀ a b, Edge L a b → Edge L' a b := fun a b he => ⟨hl ▸ he.1, hl ▸ he.2.1, h a b he.2.2⟩
  intro a ha
  have : ∀ b, Relation.TransGen (Edge L) a b → Relation.TransGen (Edge L') a b := by
    intro b hb
    induction hb with
    | single h => exact .single (hE _ _ h)
    | tail _ h ih => exact ih.tail (hE _ _ h)
  exact hf a (this a ha)
end Go.Proofs.Ytclhbnfnmpabbaa.RPlain
