/- Merged: TabA, TabB. -/
import Derived.Test.YtkliahdgciajjaaDoorMg4
/- Plain words of transactions: no program in sight. -/
namespace Go.Proofs.YtkliahdgciajjaaDoor.WPlain
end Go.Proofs.YtkliahdgciajjaaDoor.WPlain
namespace Go.Proofs.YtkliahdgciajjaaDoor.QPlain
end Go.Proofs.YtkliahdgciajjaaDoor.QPlain
namespace Go.Proofs.YtkliahdgciajjaaDoor.RPlain
open WPlain QPlain

structure Rwo where
  w : Bool
  v : Int
  x : Int
  deriving DecidableEq
structure Tx where
  n : Int
  f : Int
  l : Int
  s : Int
  o : List Rwo
  deriving DecidableEq
/-- a transaction's last event -/
def askedOf (h : List Ev) (t : Int) : Ev := h.foldl (fun o e => if e.t = t then e else o) ⟨0, 0, 0, 0⟩
/-- what an event adds to the reads and writes, behind a transaction's last one -/
def opStep (a e : Ev) : List Rwo := if e.k = 3 then [⟨false, a.v, e.x⟩] else if e.k = 5 then [⟨true, a.v, a.x⟩] else []
def opsOf (h : List Ev) (t : Int) : List Rwo := (List.range h.length).flatMap fun i => match h[i]? with
  | some e => if e.t = t then opStep (askedOf (h.take i) t) e else []
  | none => []
/-- the place of the first event; of the last one -/
def fstOf (h : List Ev) (t : Int) : Int := match h.findIdx? (fun e => e.t == t) with | some i => (i : Int) | none => -1
def lstOf (h : List Ev) (t : Int) : Int := (List.range h.length).foldl (fun o i => match h[i]? with | some e => if e.t = t then (i : Int) else o | none => o) 0
def stateS (k : Int) : Int := if k = 7 then 2 else if k = 9 then 3 else if k = 6 then 1 else 0
def txOf (h : List Ev) (t : Int) : Tx := ⟨t, fstOf h t, lstOf h t, stateS (lastOf h t), opsOf h t⟩
def tableS (h : List Ev) : List Tx := (namesOf h).map (txOf h)

theorem getElem?_snoc_lt {h : List Ev} {e : Ev} {i : Nat} (hi : i < h.length) : (h ++ [e])[i]? = h[i]? := List.getElem?_append_left hi
theorem askedOf_snoc (h : List Ev) (e : Ev) (t : Int) : askedOf (h ++ [e]) t = if e.t = t then e else askedOf h t := by simp [askedOf]
theorem opsOf_snoc (h : List Ev) (e : Ev) (t : Int) : opsOf (h ++ [e]) t = opsOf h t ++ (if e.t = t then opStep (askedOf h t) e else []) := by
  unfold opsOf
  rw [List.length_append, List.length_singleton, List.range_succ, List.flatMap_append]
  congr 1
  · rw [List.flatMap_def, List.flatMap_def]
    congr 1
    refine List.map_congr_left fun i hi => ?_
    have hi' : i < h.length := List.mem_range.1 hi
    rw [getElem?_snoc_lt hi', List.take_append_of_le_length (by omega)]
  · rw [List.flatMap_singleton, List.getElem?_append_right (Nat.le_refl _), Nat.sub_self, List.take_left' rfl]
    rfl
theorem lstOf_snoc (h : List Ev) (e : Ev) (t : Int) : lstOf (h ++ [e]) t = if e.t = t then (h.length : Int) else lstOf h t := by
  unfold lstOf
  rw [List.length_append, List.length_singleton, List.range_succ, List.foldl_append]
  simp only [List.foldl_cons, List.foldl_nil]
  rw [List.getElem?_append_right (Nat.le_refl _), Nat.sub_self]
  simp only [List.getElem?_cons_zero]
  split
  · rfl
  · have hg : ∀ (l : List Nat) (o : Int), (∀ i ∈ l, i < h.length) → l.foldl (fun o i => match (h ++ [e])[i]? with | some e => if e.t = t then (i : Int) else o | none => o) o = l.foldl (fun o i => match h[i]? with | some e => if e.t = t then (i : Int) else o | none => o) o := by
      intro l
      induction l with
      | nil => intro o _; rfl
      | cons i r ih =>
        intro o hl
        simp only [List.foldl_cons]
        rw [getElem?_snoc_lt (hl i (List.mem_cons_self ..))]
        exact ih _ (fun j hj => hl j (List.mem_cons_of_mem _ hj))
    exact hg _ _ (fun i hi => List.mem_range.1 hi)
theorem fstOf_snoc (h : List Ev) (e : Ev) (t : Int) : fstOf (h ++ [e]) t = if fstOf h t = -1 then (if e.t = t then (h.length : Int) else -1) else fstOf h t := by
  unfold fstOf
  rw [List.findIdx?_append]
  cases h1 : h.findIdx? (fun e => e.t == t) with
  | some i =>
    simp
  | none =>
    simp [List.findIdx?_cons]
    split <;> simp_all
theorem mem_names_snoc (h : List Ev) (e : Ev) (t : Int) : t ∈ namesOf (h ++ [e]) ↔ t ∈ namesOf h ∨ t = e.t := by
  rw [namesOf_snoc]
  unfold addName
  split
  · rename_i hc
    constructor
    · exact fun hm => .inl hm
    · rintro (hm | rfl)
      · exact hm
      · simpa using hc
  · simp
theorem rev_ind {p : List Ev → Prop} (h0 : p []) (h1 : ∀ h e, p h → p (h ++ [e])) (h : List Ev) : p h := by
  rw [← List.reverse_reverse h]
  induction h.reverse with
  | nil => exact h0
  | cons e r ih => rw [List.reverse_cons]; exact h1 _ _ ih
theorem mem_names (h : List Ev) (t : Int) : t ∈ namesOf h ↔ ∃ e ∈ h, e.t = t := by
  refine rev_ind (p := fun h => t ∈ namesOf h ↔ ∃ e ∈ h, e.t = t) ?_ ?_ h
  · simp [namesOf]
  · intro h e ih
    rw [mem_names_snoc, ih]
    constructor
    · rintro (⟨x, hx, rfl⟩ | rfl)
      · exact ⟨x, List.mem_append_left _ hx, rfl⟩
      · exact ⟨e, by simp, rfl⟩
    · rintro ⟨x, hx, rfl⟩
      rcases List.mem_append.1 hx with hx | hx
      · exact .inl ⟨x, hx, rfl⟩
      · rw [List.mem_singleton.1 hx]; exact .inr rfl
theorem names_nodup (h : List Ev) : (namesOf h).Nodup := by
  refine rev_ind (p := fun h => (namesOf h).Nodup) ?_ ?_ h
  · simp [namesOf]
  · intro h e ih
    rw [namesOf_snoc]
    unfold addName
    split
    · exact ih
    · rename_i hc
      refine List.nodup_append.2 ⟨ih, by simp, fun a ha b hb => ?_⟩
      rw [List.mem_singleton.1 hb]
      rintro rfl
      exact hc (by simpa using ha)
theorem fst_names (h : List Ev) (t : Int) : fstOf h t = -1 ↔ t ∉ namesOf h := by
  rw [mem_names]
  unfold fstOf
  cases h1 : h.findIdx? (fun e => e.t == t) with
  | none =>
    rw [List.findIdx?_eq_none_iff] at h1
    simp
    intro e he hc
    have := h1 e he
    simp [hc] at this
  | some i =>
    obtain ⟨hi, hp, _⟩ := List.findIdx?_eq_some_iff_getElem.1 h1
    simp
    exact ⟨h[i], List.getElem_mem hi, by simpa using hp⟩
end Go.Proofs.YtkliahdgciajjaaDoor.RPlain
/- Plain words: transactions up to a place; alone. -/
namespace Go.Proofs.YtkliahdgciajjaaDoor.WPlain
end Go.Proofs.YtkliahdgciajjaaDoor.WPlain
namespace Go.Proofs.YtkliahdgciajjaaDoor.QPlain
end Go.Proofs.YtkliahdgciajjaaDoor.QPlain
namespace Go.Proofs.YtkliahdgciajjaaDoor.RPlain
open WPlain QPlain

theorem fst_range {h : List Ev} {t : Int} (ht : t ∈ namesOf h) : 0 ≤ fstOf h t ∧ fstOf h t < h.length := by
  have hne := (not_congr (fst_names h t)).2 (fun hc => hc ht)
  unfold fstOf at *
  cases h1 : h.findIdx? (fun e => e.t == t) with
  | none => rw [h1] at hne; simp at hne
  | some i =>
    obtain ⟨hi, _⟩ := List.findIdx?_eq_some_iff_getElem.1 h1
    simp
    omega
theorem fst_keep {h : List Ev} {t : Int} (e : Ev) (ht : t ∈ namesOf h) : fstOf (h ++ [e]) t = fstOf h t := by
  rw [fstOf_snoc, if_neg (fun hc => ((fst_names h t).1 hc) ht)]
theorem fst_new {h : List Ev} {e : Ev} (ht : e.t ∉ namesOf h) : fstOf (h ++ [e]) e.t = (h.length : Int) := by
  rw [fstOf_snoc, if_pos ((fst_names h e.t).2 ht), if_pos rfl]
theorem fst_rise (h : List Ev) : (namesOf h).Pairwise fun a b => fstOf h a < fstOf h b := by
  refine rev_ind (p := fun h => (namesOf h).Pairwise fun a b => fstOf h a < fstOf h b) ?_ ?_ h
  · simp [namesOf]
  · intro h e ih
    have ih2 : (namesOf h).Pairwise fun a b => fstOf (h ++ [e]) a < fstOf (h ++ [e]) b :=
      ih.imp_of_mem fun {a b} ha hb hab => by rw [fst_keep e ha, fst_keep e hb]; exact hab
    rw [namesOf_snoc]
    unfold addName
    split
    · exact ih2
    · rename_i hc
      have hn : e.t ∉ namesOf h := fun hm => hc (by simpa using hm)
      refine List.pairwise_append.2 ⟨ih2, by simp, fun a ha b hb => ?_⟩
      rw [List.mem_singleton.1 hb, fst_keep e ha, fst_new hn]
      exact (fst_range ha).2
theorem fst_lst (h : List Ev) (t : Int) (ht : t ∈ namesOf h) : fstOf h t ≤ lstOf h t ∧ lstOf h t < h.length := by
  revert ht
  refine rev_ind (p := fun h => t ∈ namesOf h → fstOf h t ≤ lstOf h t ∧ lstOf h t < h.length) ?_ ?_ h
  · simp [namesOf]
  · intro h e ih ht
    rw [lstOf_snoc, List.length_append, List.length_singleton]
    by_cases he : e.t = t
    · rw [if_pos he]
      by_cases hm : t ∈ namesOf h
      · rw [fst_keep e hm]
        have := (fst_range hm).2
        omega
      · subst he
        rw [fst_new hm]
        omega
    · rw [if_neg he]
      rcases (mem_names_snoc h e t).1 ht with hm | hm
      · rw [fst_keep e hm]
        have := ih hm
        omega
      · exact absurd hm.symm he
/-- is it an answer of a transaction, with a read or a write? -/
def answers (t : Int) (e : Ev) : Bool := e.t == t && (e.k == 3 || e.k == 5)
theorem ops_len (h : List Ev) (t : Int) : (opsOf h t).length = (h.filter (answers t)).length := by
  refine rev_ind (p := fun h => (opsOf h t).length = (h.filter (answers t)).length) ?_ ?_ h
  · simp [opsOf]
  · intro h e ih
    rw [opsOf_snoc, List.length_append, ih, List.filter_append, List.length_append]
    congr 1
    unfold answers opStep
    by_cases he : e.t = t
    · rw [if_pos he]
      by_cases h3 : e.k = 3
      · simp [h3, he]
      · by_cases h5 : e.k = 5
        · simp [h5, he]
        · simp [h3, h5, he]
    · rw [if_neg he]
      simp [he]
theorem tableS_len (h : List Ev) : (tableS h).length = (namesOf h).length := by simp [tableS]
theorem tableS_get {h : List Ev} {i : Nat} (hi : i < (namesOf h).length) : (tableS h)[i]'(by rw [tableS_len]; exact hi) = txOf h ((namesOf h)[i]) := by simp [tableS]
/-- up to a place -/
theorem names_more (h g : List Ev) : namesOf h <+: namesOf (h ++ g) := by
  refine rev_ind (p := fun g => namesOf h <+: namesOf (h ++ g)) ?_ ?_ g
  · simp
  · intro g e ih
    rw [← List.append_assoc, namesOf_snoc]
    unfold addName
    split
    · exact ih
    · exact ih.trans (List.prefix_append _ _)
theorem tx_more (h g : List Ev) (t : Int) (ht : t ∈ namesOf h) : fstOf (h ++ g) t = fstOf h t ∧ lstOf h t ≤ lstOf (h ++ g) t ∧ opsOf h t <+: opsOf (h ++ g) t := by
  refine rev_ind (p := fun g => fstOf (h ++ g) t = fstOf h t ∧ lstOf h t ≤ lstOf (h ++ g) t ∧ opsOf h t <+: opsOf (h ++ g) t) ?_ ?_ g
  · simp
  · intro g e ih
    have hm : t ∈ namesOf (h ++ g) := (names_more h g).subset ht
    rw [← List.append_assoc, fst_keep e hm, lstOf_snoc, opsOf_snoc]
    refine ⟨ih.1, ?_, ih.2.2.trans (List.prefix_append _ _)⟩
    split
    · have h1 := (fst_lst h t ht).2
      rw [List.length_append]
      omega
    · exact ih.2.1
/-- alone -/
theorem ofT_snoc (h : List Ev) (e : Ev) (t : Int) : ofT (h ++ [e]) t = if e.t = t then ofT h t ++ [e] else ofT h t := by
  unfold ofT
  rw [List.filter_append]
  by_cases he : e.t = t
  · simp [he]
  · simp [he]
theorem alone_last (h : List Ev) (t : Int) : lastOf (ofT h t) t = lastOf h t ∧ askedOf (ofT h t) t = askedOf h t ∧ opsOf (ofT h t) t = opsOf h t := by
  refine rev_ind (p := fun h => lastOf (ofT h t) t = lastOf h t ∧ askedOf (ofT h t) t = askedOf h t ∧ opsOf (ofT h t) t = opsOf h t) ?_ ?_ h
  · simp [ofT]
  · intro h e ih
    rw [ofT_snoc, lastOf_snoc, askedOf_snoc, opsOf_snoc]
    by_cases he : e.t = t
    · rw [if_pos he, if_pos he, if_pos he, if_pos he, lastOf_snoc, askedOf_snoc, opsOf_snoc, if_pos he, if_pos he, if_pos he, ih.2.1, ih.2.2]
      exact ⟨rfl, rfl, rfl⟩
    · rw [if_neg he, if_neg he, if_neg he, if_neg he, List.append_nil]
      exact ih
theorem alone_names (h : List Ev) (t : Int) (ht : t ∈ namesOf h) : namesOf (ofT h t) = [t] ∧ fstOf (ofT h t) t = 0 := by
  have hmem : t ∈ namesOf (ofT h t) := by
    rw [mem_names] at ht ⊢
    obtain ⟨e, he, hte⟩ := ht
    exact ⟨e, by unfold ofT; rw [List.mem_filter]; exact ⟨he, by simpa using hte⟩, hte⟩
  have hone := names_one t (ofT h t) (fun e he => by unfold ofT at he; rw [List.mem_filter] at he; simpa using he.2)
  constructor
  · cases hn : namesOf (ofT h t) with
    | nil => rw [hn] at hmem; simp at hmem
    | cons a r =>
      rw [hn] at hone hmem
      have hr : r = [] := by simpa using hone
      subst hr
      simp at hmem
      rw [hmem]
  · unfold fstOf
    cases hl : ofT h t with
    | nil => rw [hl] at hmem; simp [namesOf] at hmem
    | cons e r =>
      have he : e.t = t := by
        have : e ∈ ofT h t := by rw [hl]; exact List.mem_cons_self ..
        unfold ofT at this
        rw [List.mem_filter] at this
        simpa using this.2
      simp [List.findIdx?_cons, he]
theorem tableS_alone (h : List Ev) (t : Int) (ht : t ∈ namesOf h) : tableS (ofT h t) = [⟨t, 0, lstOf (ofT h t) t, stateS (lastOf h t), opsOf h t⟩] := by
  have h1 := alone_last h t
  have h2 := alone_names h t ht
  unfold tableS txOf
  rw [h2.1]
  simp only [List.map_cons, List.map_nil]
  rw [h2.2, h1.1, h1.2.2]
/-- one event more -/
theorem ops_none {h : List Ev} {t : Int} (ht : t ∉ namesOf h) : opsOf h t = [] := by
  have h1 := ops_len h t
  have h2 : h.filter (answers t) = [] := by
    rw [List.filter_eq_nil_iff]
    intro e he hc
    unfold answers at hc
    simp only [Bool.and_eq_true, beq_iff_eq] at hc
    exact ht ((mem_names h t).2 ⟨e, he, hc.1⟩)
  rw [h2] at h1
  exact List.length_eq_zero_iff.1 h1
theorem txOf_other (h : List Ev) (e : Ev) {t : Int} (ht : t ∈ namesOf h) (hne : e.t ≠ t) : txOf (h ++ [e]) t = txOf h t := by
  unfold txOf
  rw [fst_keep e ht, lstOf_snoc, if_neg hne, lastOf_snoc, if_neg hne, opsOf_snoc, if_neg hne, List.append_nil]
theorem txOf_mine (h : List Ev) (e : Ev) (ht : e.t ∈ namesOf h) : txOf (h ++ [e]) e.t = ⟨e.t, fstOf h e.t, h.length, stateS e.k, opsOf h e.t ++ opStep (askedOf h e.t) e⟩ := by
  unfold txOf
  rw [fst_keep e ht, lstOf_snoc, if_pos rfl, lastOf_snoc, if_pos rfl, opsOf_snoc, if_pos rfl]
theorem txOf_first (h : List Ev) (e : Ev) (ht : e.t ∉ namesOf h) : txOf (h ++ [e]) e.t = ⟨e.t, h.length, h.length, stateS e.k, opStep (askedOf h e.t) e⟩ := by
  unfold txOf
  rw [fst_new ht, lstOf_snoc, if_pos rfl, lastOf_snoc, if_pos rfl, opsOf_snoc, if_pos rfl, ops_none ht, List.nil_append]
theorem tableS_new (h : List Ev) (e : Ev) (ht : e.t ∉ namesOf h) : tableS (h ++ [e]) = tableS h ++ [⟨e.t, h.length, h.length, stateS e.k, opStep (askedOf h e.t) e⟩] := by
  unfold tableS
  rw [namesOf_snoc]
  unfold addName
  rw [if_neg (by simpa using ht), List.map_append, List.map_cons, List.map_nil, txOf_first h e ht]
  congr 1
  exact List.map_congr_left fun t hm => txOf_other h e hm (fun hc => ht (hc ▸ hm))
theorem tableS_old (h : List Ev) (e : Ev) (i : Nat) (hi : i < (namesOf h).length) (ht : (namesOf h)[i] = e.t) :
    tableS (h ++ [e]) = (tableS h).set i ⟨e.t, fstOf h e.t, h.length, stateS e.k, opsOf h e.t ++ opStep (askedOf h e.t) e⟩ := by
  have hm : e.t ∈ namesOf h := ht ▸ List.getElem_mem hi
  have hn : namesOf (h ++ [e]) = namesOf h := by
    rw [namesOf_snoc]
    unfold addName
    rw [if_pos (by simpa using hm)]
  unfold tableS
  rw [hn]
  refine List.ext_getElem (by simp) fun j h1 h2 => ?_
  rw [List.getElem_map, List.getElem_set]
  by_cases hj : i = j
  · subst hj
    rw [if_pos rfl, ht, txOf_mine h e hm]
  · rw [if_neg hj, List.getElem_map]
    refine txOf_other h e (List.getElem_mem _) fun hc => hj ?_
    have hjl : j < (namesOf h).length := by simpa using h1
    exact (List.getElem_inj (names_nodup h)).1 (ht.trans hc)
end Go.Proofs.YtkliahdgciajjaaDoor.RPlain
