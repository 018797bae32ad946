/- Merged: StrB, StrC, PrpO, PrpS, LegF. -/
import Derived.Test.YtoemcdcabamgiaaDoorMg24
import Derived.Test.YtoemcdcabamgiaaDoorMg6
import Derived.Test.YtoemcdcabamgiaaDoorMg14
import Derived.Test.YtoemcdcabamgiaaDoorMg3
import Derived.Test.YtoemcdcabamgiaaDoorMg5
import Derived.Test.YtoemcdcabamgiaaDoorShelf
import Derived.Test.YtoemcdcabamgiaaDoorMg23
import Derived.Test.YtoemcdcabamgiaaDoorMg9
import Derived.Test.YtoemcdcabamgiaaDoorLegC
/- Plain words: without aborted and live transactions choices and rows are the same, but for their places. -/
namespace Go.Proofs.YtoemcdcabamgiaaDoor.WPlain
end Go.Proofs.YtoemcdcabamgiaaDoor.WPlain
namespace Go.Proofs.YtoemcdcabamgiaaDoor.QPlain
end Go.Proofs.YtoemcdcabamgiaaDoor.QPlain
namespace Go.Proofs.YtoemcdcabamgiaaDoor.RPlain
open WPlain QPlain

def mayC (X : Tx) : Bool := decide (X.s = 1) || decide (X.s = 2)
/-- the places of those that may commit -/
def ixs (l : List Tx) : List Nat := (List.range l.length).filter fun i => match l[i]? with | some X => mayC X | none => false
theorem ixs_snoc (l : List Tx) (X : Tx) : ixs (l ++ [X]) = ixs l ++ (if mayC X = true then [l.length] else []) := by
  unfold ixs
  rw [List.length_append, List.length_singleton, List.range_succ, List.filter_append]
  congr 1
  · refine List.filter_congr fun i hi => ?_
    rw [List.getElem?_append_left (List.mem_range.1 hi)]
  · have h1 : (l ++ [X])[l.length]? = some X := by simp
    rw [List.filter_cons, h1]
    simp
theorem ixs_mem {l : List Tx} {i : Nat} : i ∈ ixs l ↔ ∃ hi : i < l.length, mayC l[i] = true := by
  unfold ixs
  rw [List.mem_filter, List.mem_range]
  constructor
  · rintro ⟨h1, h2⟩; rw [List.getElem?_eq_getElem h1] at h2; exact ⟨h1, h2⟩
  · rintro ⟨h1, h2⟩; rw [List.getElem?_eq_getElem h1]; exact ⟨h1, h2⟩
theorem ixs_nodup (l : List Tx) : (ixs l).Nodup := List.nodup_range.filter _
theorem ixs_len (l : List Tx) : (ixs l).length = (l.filter mayC).length := cnt_range mayC l
/-- a choice, of those places alone -/
def cmpN (l : List Tx) (c : Nat) : Nat := bitsN (fun j => match (ixs l)[j]? with | some i => c.testBit i | none => false) (ixs l).length
theorem cmp_bit (l : List Tx) (c : Nat) {j : Nat} (hj : j < (ixs l).length) : (cmpN l c).testBit j = c.testBit (ixs l)[j] := by
  unfold cmpN
  rw [bitsN_test, decide_eq_true hj, Bool.true_and, List.getElem?_eq_getElem hj]
theorem cmp_snoc (l : List Tx) (X : Tx) (c : Nat) : cmpN (l ++ [X]) c = cmpN l c + (if mayC X = true ∧ c.testBit l.length = true then 2 ^ (ixs l).length else 0) := by
  unfold cmpN
  rw [ixs_snoc]
  by_cases hm : mayC X = true
  · rw [if_pos hm, List.length_append, List.length_singleton]
    rw [show bitsN (fun j => match (ixs l ++ [l.length])[j]? with | some i => c.testBit i | none => false) ((ixs l).length + 1) = bitsN (fun j => match (ixs l ++ [l.length])[j]? with | some i => c.testBit i | none => false) (ixs l).length + (if (match (ixs l ++ [l.length])[(ixs l).length]? with | some i => c.testBit i | none => false) = true then 2 ^ (ixs l).length else 0) from rfl]
    have h1 : (ixs l ++ [l.length])[(ixs l).length]? = some l.length := by simp
    rw [h1]
    congr 1
    · refine bitsN_congr _ fun k hk => ?_
      rw [List.getElem?_append_left hk]
    · by_cases hc : c.testBit l.length = true
      · rw [if_pos hc, if_pos ⟨hm, hc⟩]
      · rw [if_neg hc, if_neg (fun h => hc h.2)]
  · rw [if_neg hm, List.append_nil, if_neg (fun h => hm h.1), Nat.add_zero]
theorem cmp_congr (l : List Tx) {c c' : Nat} (h : ∀ i, i < l.length → c.testBit i = c'.testBit i) : cmpN l c = cmpN l c' := by
  unfold cmpN
  refine bitsN_congr _ fun k hk => ?_
  rw [List.getElem?_eq_getElem hk]
  exact h _ (ixs_mem.1 (List.getElem_mem hk)).1
theorem chL_cmp (l : List Tx) : chL (l.filter mayC) = (chL l).map (cmpN l) := by
  refine snocT (p := fun l => chL (l.filter mayC) = (chL l).map (cmpN l)) rfl ?_ l
  intro l X ih
  rw [List.filter_append, chL_snoc l X]
  have hlow : ∀ m ∈ chL l, cmpN (l ++ [X]) m = cmpN l m := fun m hm => by
    rw [cmp_snoc, Nat.testBit_lt_two_pow (mem_chL.1 hm).1]
    simp
  by_cases hm : mayC X = true
  · have h1 : [X].filter mayC = [X] := by simp [hm]
    have h12 : X.s = 1 ∨ X.s = 2 := by unfold mayC at hm; simpa using hm
    have hhigh : ∀ m ∈ chL l, cmpN (l ++ [X]) (2 ^ l.length + m) = 2 ^ (l.filter mayC).length + cmpN l m := fun m hx => by
      have hlt := (mem_chL.1 hx).1
      rw [cmp_snoc, Nat.testBit_two_pow_add_eq, Nat.testBit_lt_two_pow hlt, if_pos ⟨hm, rfl⟩, ixs_len, Nat.add_comm]
      congr 1
      exact cmp_congr l fun i hi => Nat.testBit_two_pow_add_gt hi m
    rw [h1, chL_snoc, ih, if_pos h12, if_pos h12, List.map_append, List.map_map, List.map_map]
    congr 1
    · split
      · rfl
      · exact (List.map_congr_left hlow).symm
    · exact (List.map_congr_left hhigh).symm
  · have h1 : [X].filter mayC = [] := by simp [hm]
    have h12 : ¬ (X.s = 1 ∨ X.s = 2) := fun hc => hm (by unfold mayC; simpa using hc)
    rw [h1, List.append_nil, ih, if_neg h12, List.append_nil, if_neg (fun hc => h12 (.inr hc))]
    exact (List.map_congr_left hlow).symm
/-- a table, and another one of those that may commit alone -/
structure Alike (l l' : List Tx) : Prop where
  len : l'.length = (ixs l).length
  ops : ∀ j (hj : j < (ixs l).length), opsAt l' j = opsAt l (ixs l)[j]
  bef : ∀ j (hj : j < (ixs l).length) k (hk : k < (ixs l).length), bfrAt l' j k = bfrAt l (ixs l)[j] (ixs l)[k]
theorem legal_map {l l' : List Tx} (h : Alike l l') {c : Nat} : ∀ (row' : List Nat) (M : Int → Int), (∀ j ∈ row', j < (ixs l).length) → legalG l c M (row'.map fun j => (ixs l).getD j 0) = legalG l' (cmpN l c) M row' := by
  intro row'
  induction row' with
  | nil => intro M _; rfl
  | cons j r ih =>
    intro M hr
    have hj := hr j (List.mem_cons_self ..)
    have hg : (ixs l).getD j 0 = (ixs l)[j] := by rw [List.getD_eq_getElem?_getD, List.getElem?_eq_getElem hj, Option.getD_some]
    have ho := h.ops j hj
    have hs : stepM l c M (ixs l)[j] = stepM l' (cmpN l c) M j := by unfold stepM; rw [cmp_bit l c hj, ho]
    rw [List.map_cons, hg, legalG, legalG, ih _ (fun x hx => hr x (List.mem_cons_of_mem _ hx)), ho, hs]
theorem expl_map {l l' : List Tx} (h : Alike l l') {c : Nat} (hc : c ∈ chL l) {row' : List Nat} (hr : ∀ j ∈ row', j < (ixs l).length) :
    Expl l c c (row'.map fun j => (ixs l).getD j 0) ↔ Expl l' (cmpN l c) (cmpN l c) row' := by
  have hg : ∀ j (hj : j < (ixs l).length), (ixs l).getD j 0 = (ixs l)[j] := fun j hj => by rw [List.getD_eq_getElem?_getD, List.getElem?_eq_getElem hj, Option.getD_some]
  have hinj : ∀ j k, j < (ixs l).length → k < (ixs l).length → (ixs l).getD j 0 = (ixs l).getD k 0 → j = k := fun j k hj hk he => by
    rw [hg j hj, hg k hk] at he
    exact (List.getElem_inj (ixs_nodup l)).1 he
  have hmem : ∀ j, j < (ixs l).length → ((ixs l).getD j 0 ∈ row'.map (fun j => (ixs l).getD j 0) ↔ j ∈ row') := fun j hj => by
    rw [List.mem_map]
    constructor
    · rintro ⟨k, hk, he⟩
      rw [hinj j k hj (hr k hk) he.symm]
      exact hk
    · intro hj'; exact ⟨j, hj', rfl⟩
  have hbit : ∀ k, k < l.length → c.testBit k = true → k ∈ ixs l := fun k hk hb => by
    have h1 := choice_at (mem_chL.1 hc).2 hk
    rw [Nat.zero_add, hb] at h1
    exact ixs_mem.2 ⟨hk, by unfold mayC; simpa [okBit] using h1⟩
  have hnd : (row'.map fun j => (ixs l).getD j 0).Nodup ↔ row'.Nodup := by
    constructor
    · intro hn
      rw [List.Nodup, List.pairwise_map] at hn
      exact hn.imp fun hne hc => hne (by rw [hc])
    · intro hn
      rw [List.Nodup, List.pairwise_map]
      exact List.Pairwise.imp_of_mem (fun {a b} ha hb hne hc => hne (hinj a b (hr a ha) (hr b hb) hc)) hn
  have hkp : ((row'.map fun j => (ixs l).getD j 0).Pairwise fun b a => bfrAt l a b = false) ↔ row'.Pairwise fun b a => bfrAt l' a b = false := by
    rw [List.pairwise_map]
    constructor
    · intro hp
      exact List.Pairwise.imp_of_mem (fun {a b} ha hb hh => by rw [h.bef b (hr b hb) a (hr a ha), ← hg b (hr b hb), ← hg a (hr a ha)]; exact hh) hp
    · intro hp
      exact List.Pairwise.imp_of_mem (fun {a b} ha hb hh => by rw [hg b (hr b hb), hg a (hr a ha), ← h.bef b (hr b hb) a (hr a ha)]; exact hh) hp
  have hlg := legal_map h (c := c) row' zeroM hr
  constructor
  · rintro ⟨e1, e2, e3, e4⟩
    refine ⟨hnd.1 e1, fun j => ?_, hkp.1 e3, ?_⟩
    · constructor
      · intro hj
        have hjl := hr j hj
        have := (e2 _).1 ((hmem j hjl).2 hj)
        rw [hg j hjl] at this
        exact ⟨by rw [h.len]; exact hjl, by rw [cmp_bit l c hjl]; exact this.2⟩
      · rintro ⟨h1, h2⟩
        rw [h.len] at h1
        rw [cmp_bit l c h1] at h2
        refine (hmem j h1).1 ((e2 _).2 ?_)
        rw [hg j h1]
        exact ⟨(ixs_mem.1 (List.getElem_mem h1)).1, h2⟩
    · have e4' : legalG l c zeroM _ = _ := e4
      rw [hlg, List.length_map] at e4'
      exact e4'
  · rintro ⟨e1, e2, e3, e4⟩
    refine ⟨hnd.2 e1, fun k => ?_, hkp.2 e3, ?_⟩
    · constructor
      · intro hk
        obtain ⟨j, hj, rfl⟩ := List.mem_map.1 hk
        have hjl := hr j hj
        have := ((e2 j).1 hj).2
        rw [cmp_bit l c hjl] at this
        rw [hg j hjl]
        exact ⟨(ixs_mem.1 (List.getElem_mem hjl)).1, this⟩
      · rintro ⟨h1, h2⟩
        obtain ⟨j, hj, rfl⟩ := List.getElem_of_mem (hbit k h1 h2)
        have : j ∈ row' := (e2 j).2 ⟨by rw [h.len]; exact hj, by rw [cmp_bit l c hj]; exact h2⟩
        rw [← hg j hj]
        exact (hmem j hj).2 this
    · show legalG l c zeroM _ = _
      rw [hlg, List.length_map]
      exact e4
/-- there is a row of the one, just if there is of the other; each as long -/
theorem expl_both {l l' : List Tx} (h : Alike l l') {c : Nat} (hc : c ∈ chL l) : ((∃ t, Expl l c c t) ↔ ∃ t, Expl l' (cmpN l c) (cmpN l c) t) ∧
    ∀ t t', Expl l c c t → Expl l' (cmpN l c) (cmpN l c) t' → t.length = t'.length := by
  have hback : ∀ t', Expl l' (cmpN l c) (cmpN l c) t' → Expl l c c (t'.map fun j => (ixs l).getD j 0) := fun t' ht' =>
    (expl_map h hc (fun j hj => by have := ((ht'.mem j).1 hj).1; rwa [h.len] at this)).2 ht'
  refine ⟨⟨?_, fun ⟨t', ht'⟩ => ⟨_, hback t' ht'⟩⟩, fun t t' ht ht' => ?_⟩
  · rintro ⟨t, ht⟩
    have hin : ∀ k ∈ t, k ∈ ixs l := fun k hk => by
      obtain ⟨h1, h2⟩ := (ht.mem k).1 hk
      have h3 := choice_at (mem_chL.1 hc).2 h1
      rw [Nat.zero_add, h2] at h3
      exact ixs_mem.2 ⟨h1, by unfold mayC; simpa [okBit] using h3⟩
    have hmap : (t.map (ixs l).idxOf).map (fun j => (ixs l).getD j 0) = t := by
      rw [List.map_map]
      conv => rhs; rw [← List.map_id t]
      refine List.map_congr_left fun k hk => ?_
      have hlt := List.idxOf_lt_length_of_mem (hin k hk)
      show (ixs l).getD ((ixs l).idxOf k) 0 = k
      rw [List.getD_eq_getElem?_getD, List.getElem?_eq_getElem hlt, Option.getD_some, List.getElem_idxOf]
    refine ⟨t.map (ixs l).idxOf, (expl_map h hc fun j hj => ?_).1 (by rw [hmap]; exact ht)⟩
    obtain ⟨k, hk, rfl⟩ := List.mem_map.1 hj
    exact List.idxOf_lt_length_of_mem (hin k hk)
  · have h1 := hback t' ht'
    have h2 := nodup_le t _ ht.nodup (fun x hx => (h1.mem x).2 ((ht.mem x).1 hx))
    have h3 := nodup_le _ t h1.nodup (fun x hx => (ht.mem x).2 ((h1.mem x).1 hx))
    rw [List.length_map] at h2 h3
    omega
/-- two searches side by side -/
theorem search_pair {B : Nat} {l l' : List Tx} (hself : ∀ i, i < l.length → bfrAt l i i = false) (hself' : ∀ i, i < l'.length → bfrAt l' i i = false) (f : Nat → Nat) {W W' : Nat → Nat} :
    ∀ (cs : List Nat) (s s' : Nat), s + cs.length * mostW l.length ≤ B → s' + cs.length * mostW l'.length ≤ B →
      (∀ c ∈ cs, ((∃ t, Expl l (W c) c t) ↔ ∃ t, Expl l' (W' (f c)) (f c) t) ∧ ∀ t t', Expl l (W c) c t → Expl l' (W' (f c)) (f c) t' → t.length = t'.length) →
      (searchG B l W cs s).1 = (searchG B l' W' (cs.map f) s').1 ∧ (searchG B l W cs s).2.2.1.length = (searchG B l' W' (cs.map f) s').2.2.1.length := by
  intro cs
  induction cs with
  | nil => intro s s' _ _ _; exact ⟨rfl, rfl⟩
  | cons c r ih =>
    intro s s' hs hs' hall
    rw [List.length_cons, Nat.succ_mul] at hs hs'
    obtain ⟨a1, a2, a3⟩ := row_tells (B := B) (l := l) (who := W c) (c := c) hself s (by omega)
    obtain ⟨b1, b2, b3⟩ := row_tells (B := B) (l := l') (who := W' (f c)) (c := f c) hself' s' (by omega)
    obtain ⟨h1, h2⟩ := hall c (List.mem_cons_self ..)
    have ha2 : (fromS B l (W c) c (l.length + 1) [] s).1 ≠ 2 := fun hc => by have := (a1.full hc).2; omega
    have hb2 : (fromS B l' (W' (f c)) (f c) (l'.length + 1) [] s').1 ≠ 2 := fun hc => by have := (b1.full hc).2; omega
    rw [List.map_cons, searchG, searchG]
    by_cases hv : (fromS B l (W c) c (l.length + 1) [] s).1 = 1
    · have hv' : (fromS B l' (W' (f c)) (f c) (l'.length + 1) [] s').1 = 1 := by
        rcases b1.v with h | h | h
        · obtain ⟨t, ht⟩ := h1.2 ⟨_, b2 h⟩
          exact absurd ht (a3 hv t)
        · exact h
        · exact absurd h hb2
      rw [if_pos hv, if_pos hv']
      exact ih _ _ (by have := a1.most; omega) (by have := b1.most; omega) (fun x hx => hall x (List.mem_cons_of_mem _ hx))
    · have hv0 : (fromS B l (W c) c (l.length + 1) [] s).1 = 0 := by
        rcases a1.v with h | h | h
        · exact h
        · exact absurd h hv
        · exact absurd h ha2
      have hv' : (fromS B l' (W' (f c)) (f c) (l'.length + 1) [] s').1 = 0 := by
        rcases b1.v with h | h | h
        · exact h
        · obtain ⟨t, ht⟩ := h1.1 ⟨_, a2 hv0⟩
          exact absurd ht (b3 h t)
        · exact absurd h hb2
      have hvn : ¬ (fromS B l' (W' (f c)) (f c) (l'.length + 1) [] s').1 = 1 := by rw [hv']; exact Nat.zero_ne_one
      rw [if_neg hv, if_neg hvn]
      exact ⟨hv0.trans hv'.symm, h2 _ _ (a2 hv0) (b2 hv')⟩
theorem ixs_get (l : List Tx) : (ixs l).map (fun i => l[i]?) = (l.filter mayC).map some := by
  refine snocT (p := fun l => (ixs l).map (fun i => l[i]?) = (l.filter mayC).map some) rfl ?_ l
  intro l X ih
  rw [ixs_snoc, List.map_append, List.filter_append, List.map_append, ← ih]
  congr 1
  · refine List.map_congr_left fun i hi => ?_
    rw [List.getElem?_append_left (ixs_mem.1 hi).1]
  · by_cases hm : mayC X = true
    · simp [hm]
    · simp [hm]
theorem choiceG_s {n : Nat} : ∀ {l1 l2 : List Tx} {i : Nat}, l1.map (·.s) = l2.map (·.s) → choiceG n i l1 = choiceG n i l2 := by
  intro l1
  induction l1 with
  | nil =>
    intro l2 i h
    cases l2 with
    | nil => rfl
    | cons Y s => cases h
  | cons X r ih =>
    intro l2 i h
    cases l2 with
    | nil => cases h
    | cons Y s =>
      rw [List.map_cons, List.map_cons, List.cons.injEq] at h
      rw [choiceG, choiceG, h.1, ih h.2]
theorem chL_s {l1 l2 : List Tx} (h : l1.map (·.s) = l2.map (·.s)) : chL l1 = chL l2 := by
  have hl : l1.length = l2.length := by have := congrArg List.length h; simpa using this
  unfold chL
  rw [hl]
  exact List.filter_congr fun m _ => choiceG_s h
/-- those that may commit, of events -/
def mayN (h : List Ev) (t : Int) : Bool := mayC (txOf h t)
theorem less_names (h : List Ev) : (tableS h).filter mayC = ((namesOf h).filter (mayN h)).map (txOf h) := by
  unfold tableS
  rw [List.filter_map]
  rfl
theorem less_at (h : List Ev) {j : Nat} (hj : j < (ixs (tableS h)).length) (hj2 : j < ((namesOf h).filter (mayN h)).length) (hi : (ixs (tableS h))[j] < (namesOf h).length) :
    (namesOf h)[(ixs (tableS h))[j]] = ((namesOf h).filter (mayN h))[j] := by
  have h1 : ((ixs (tableS h)).map (fun i => (tableS h)[i]?))[j]? = (((tableS h).filter mayC).map some)[j]? := by rw [ixs_get]
  rw [less_names, List.map_map, List.getElem?_map, List.getElem?_map, List.getElem?_eq_getElem hj, List.getElem?_eq_getElem hj2, Option.map_some, Option.map_some, List.getElem?_eq_getElem (by rw [tableS_len]; exact hi), tableS_get hi] at h1
  have h2 := Option.some.inj (Option.some.inj h1)
  exact congrArg Tx.n h2
theorem less_alike (h : List Ev) : Alike (tableS h) (tableS (keepP (mayN h) h)) := by
  have hlen : (ixs (tableS h)).length = ((namesOf h).filter (mayN h)).length := by rw [ixs_len, less_names, List.length_map]
  have hlt : ∀ j (hj : j < (ixs (tableS h)).length), (ixs (tableS h))[j] < (namesOf h).length := fun j hj => by
    have := (ixs_mem.1 (List.getElem_mem hj)).1
    rwa [tableS_len] at this
  have hin : ∀ j, j < (ixs (tableS h)).length → j < (namesOf (keepP (mayN h) h)).length := fun j hj => by rw [keep_names]; omega
  have hname : ∀ j (hj : j < (ixs (tableS h)).length), (namesOf (keepP (mayN h) h))[j]'(hin j hj) = (namesOf h)[(ixs (tableS h))[j]]'(hlt j hj) := fun j hj => by
    rw [less_at h hj (by omega) (hlt j hj)]
    simp only [keep_names]
  have hP : ∀ j (hj : j < (ixs (tableS h)).length), mayN h ((namesOf (keepP (mayN h) h))[j]'(hin j hj)) = true := fun j hj => (keep_mem.1 (List.getElem_mem (hin j hj))).2
  refine ⟨by rw [tableS_len, keep_names, hlen], fun j hj => ?_, fun j hj k hk => ?_⟩
  · rw [opsAt_get _ (hin j hj), opsAt_get _ (hlt j hj), hname j hj]
    have := (keep_tx (h := h) (hP j hj)).2
    rw [hname j hj] at this
    exact this
  · rw [bfrAt_at (by rw [tableS_len]; exact hin j hj) (by rw [tableS_len]; exact hin k hk), tableS_get (hin j hj), tableS_get (hin k hk), bfrAt_at (by rw [tableS_len]; exact hlt j hj) (by rw [tableS_len]; exact hlt k hk), tableS_get (hlt j hj), tableS_get (hlt k hk),
      keep_bfr (List.getElem_mem _) (List.getElem_mem _), hname j hj, hname k hk]
/-- without aborted and live transactions it is so just as with them -/
theorem less_strict {h : List Ev} (h0 : (checkS h).2 = 0) {B : Nat} (hB : 125184 ≤ B) :
    (strictS B (tableS h)).1 = (strictS B (tableS (keepP (mayN h) h))).1 ∧ (strictS B (tableS h)).2.2.1.length = (strictS B (tableS (keepP (mayN h) h))).2.2.1.length := by
  have h6 := table_six h0
  have h6' := table_six (keep_check (mayN h) h0)
  have hch : chL (tableS (keepP (mayN h) h)) = (chL (tableS h)).map (cmpN (tableS h)) := by
    rw [← chL_cmp]
    refine chL_s ?_
    rw [less_names, List.map_map]
    unfold tableS
    rw [keep_names, List.map_map]
    refine List.map_congr_left fun t ht => ?_
    exact (keep_tx (List.mem_filter.1 ht).2).1
  unfold strictS
  have hc64 := choices_count (tableS h)
  rw [choices_chL h6] at hc64 ⊢
  rw [choices_chL h6', hch]
  have hbound : ∀ l : List Tx, l.length ≤ 6 → 0 + (chL (tableS h)).length * mostW l.length ≤ B := fun l hl => by
    have h2 := mostW_mono hl
    have h3 := Nat.mul_le_mul hc64 h2
    rw [mostW_six] at h3
    omega
  exact search_pair (self_table _) (self_table _) (cmpN (tableS h)) _ 0 0 (hbound _ h6) (hbound _ h6') fun c hc => expl_both (less_alike h) hc
/-- what is explained is strictly serializable -/
theorem strict_wider {h : List Ev} (h0 : (checkS h).2 = 0) {B : Nat} (hB : 125184 ≤ B) (hy : (searchS B (tableS h)).1 = 0) : (strictS B (tableS h)).1 = 0 := by
  have h6 := table_six h0
  obtain ⟨c, hc, t, ht⟩ := (search_yes (self_table h) h6 hB).1 hy
  exact (search_yes (self_table h) h6 hB).2 ⟨c, hc, _, part_commits ht⟩
end Go.Proofs.YtoemcdcabamgiaaDoor.RPlain
/- Plain words: what is left of a budget, and the strict check choice by choice. -/
namespace Go.Proofs.YtoemcdcabamgiaaDoor.WPlain
end Go.Proofs.YtoemcdcabamgiaaDoor.WPlain
namespace Go.Proofs.YtoemcdcabamgiaaDoor.QPlain
end Go.Proofs.YtoemcdcabamgiaaDoor.QPlain
namespace Go.Proofs.YtoemcdcabamgiaaDoor.RPlain
open WPlain QPlain

/-- more steps behind it -/
def shN (d : Nat) (x : Nat × List Nat × Nat) : Nat × List Nat × Nat := (x.1, x.2.1, x.2.2 + d)
theorem loop_shift {B d : Nat} {rec rec' : List Nat → Nat → Nat × List Nat × Nat} {l : List Tx} {c : Nat} {lft row : List Nat} :
    ∀ (r : List Nat) (s : Nat), (∀ k ∈ r, ∀ s, rec' (row ++ [k]) (s + d) = shN d (rec (row ++ [k]) s)) → loopS (B + d) rec' l c lft row r (s + d) = shN d (loopS B rec l c lft row r s) := by
  intro r
  induction r with
  | nil => intro s _; rfl
  | cons k r ih =>
    intro s hrec
    have hr : ∀ x ∈ r, ∀ s, rec' (row ++ [x]) (s + d) = shN d (rec (row ++ [x]) s) := fun x hx => hrec x (List.mem_cons_of_mem _ hx)
    have h1 := hrec k (List.mem_cons_self ..) (s + 1)
    rw [show s + 1 + d = s + d + 1 from by omega] at h1
    rw [loopS, loopS]
    by_cases hf : freeS l lft k = false
    · rw [if_pos hf, if_pos hf]; exact ih s hr
    · rw [if_neg hf, if_neg hf]
      by_cases hB : s = B
      · rw [if_pos hB, if_pos (by omega), hB]; rfl
      · rw [if_neg hB, if_neg (by omega)]
        by_cases ho : okL l c (row ++ [k]) = true
        · rw [if_pos ho, if_pos ho, h1]
          by_cases hv : (rec (row ++ [k]) (s + 1)).1 = 1
          · rw [if_pos hv, if_pos (show (shN d (rec (row ++ [k]) (s + 1))).1 = 1 from hv)]
            exact ih _ hr
          · rw [if_neg hv, if_neg (show ¬ (shN d (rec (row ++ [k]) (s + 1))).1 = 1 from hv)]
        · rw [if_neg ho, if_neg ho, show s + d + 1 = s + 1 + d from by omega]
          exact ih _ hr
theorem from_shift {B d : Nat} {l : List Tx} {who c : Nat} : ∀ (f : Nat) (row : List Nat) (s : Nat), fromS (B + d) l who c f row (s + d) = shN d (fromS B l who c f row s) := by
  intro f
  induction f with
  | zero => intro row s; rfl
  | succ f ih =>
    intro row s
    rw [fromS, fromS]
    by_cases hl : leftS l who row = []
    · rw [if_pos hl, if_pos hl]; rfl
    · rw [if_neg hl, if_neg hl]
      exact loop_shift _ s fun k _ s => ih (row ++ [k]) s
/-- a choice at a time, with what is left -/
theorem strict_step {B : Nat} {l : List Tx} {c s : Nat} (hs : s ≤ B) (r : List Nat) :
    searchG B l (fun c => c) (c :: r) s = if (searchG (B - s) l (fun _ => c) [c] 0).1 = 1 then searchG B l (fun c => c) r (s + (searchG (B - s) l (fun _ => c) [c] 0).2.2.2)
      else ((searchG (B - s) l (fun _ => c) [c] 0).1, (searchG (B - s) l (fun _ => c) [c] 0).2.1, (searchG (B - s) l (fun _ => c) [c] 0).2.2.1, s + (searchG (B - s) l (fun _ => c) [c] 0).2.2.2) := by
  have h1 := from_shift (B := B - s) (d := s) (l := l) (who := c) (c := c) (l.length + 1) [] 0
  rw [Nat.sub_add_cancel hs, Nat.zero_add] at h1
  rw [searchG, searchG, h1]
  unfold shN
  by_cases hv : (fromS (B - s) l c c (l.length + 1) [] 0).1 = 1
  · rw [if_pos hv, if_pos hv, searchG, if_pos rfl]
    exact congrArg _ (Nat.add_comm _ _)
  · rw [if_neg hv, if_neg hv, if_neg hv]
    refine Prod.ext rfl (Prod.ext rfl (Prod.ext rfl ?_))
    exact Nat.add_comm _ _
theorem strict_one {B : Nat} {l : List Tx} {c : Nat} (hv : (searchG B l (fun _ => c) [c] 0).1 = 1) : (searchG B l (fun _ => c) [c] 0).2.1 = 0 ∧ (searchG B l (fun _ => c) [c] 0).2.2.1 = [] := by
  rw [searchG] at hv ⊢
  by_cases h1 : (fromS B l c c (l.length + 1) [] 0).1 = 1
  · rw [if_pos h1, searchG]; exact ⟨rfl, rfl⟩
  · rw [if_neg h1] at hv; exact absurd hv h1
theorem strict_left {B : Nat} {l : List Tx} {c : Nat} : (searchG B l (fun _ => c) [c] 0).2.2.2 ≤ B := by
  have h1 := from_ans (B := B) (l := l) (who := c) (c := c) (l.length + 1) [] 0 (by omega) (by have := left_le l c []; omega)
  rw [searchG]
  by_cases hv : (fromS B l c c (l.length + 1) [] 0).1 = 1
  · rw [if_pos hv, searchG]; exact h1.le
  · rw [if_neg hv]; exact h1.le
end Go.Proofs.YtoemcdcabamgiaaDoor.RPlain
/- The walk of ProperGoes. -/
namespace Go.Proofs.YtoemcdcabamgiaaDoor.WPlain
end Go.Proofs.YtoemcdcabamgiaaDoor.WPlain
namespace Go.Proofs.YtoemcdcabamgiaaDoor.QPlain
end Go.Proofs.YtoemcdcabamgiaaDoor.QPlain
namespace Go.Proofs.YtoemcdcabamgiaaDoor
open Go.RowKit WPlain QPlain

theorem one_evP {w : World} {b : Nat} {e : Ev} {ty : TypeId} (h : At w b #[.int .i64 e.k, .int .i64 e.t, .int .i64 e.v, .int .i64 e.x] ty) (c : Nat) : Evs w (.slice (some ⟨b, 0, none⟩) 1 c) [e] := by
  refine .inr ⟨by simp, b, 0, c, rfl, h.lt, fun i hi => ?_⟩
  obtain rfl : i = 0 := by simp at hi; omega
  exact ⟨h.cell (i := 0) rfl, h.cell (i := 1) rfl, h.cell (i := 2) rfl, h.cell (i := 3) rfl⟩
theorem srcP {a : Option Addr} {n c : Nat} (h : a = none → c = 0) (hn : n ≤ c) : Src (.slice a n c) := by
  cases a with
  | none => have := h rfl; exact .inl (by rw [this, show n = 0 from by omega])
  | some p => exact .inr ⟨_, _, _, rfl⟩
end Go.Proofs.YtoemcdcabamgiaaDoor
/- The walk of ProperEach. -/
namespace Go.Proofs.YtoemcdcabamgiaaDoor.WPlain
end Go.Proofs.YtoemcdcabamgiaaDoor.WPlain
namespace Go.Proofs.YtoemcdcabamgiaaDoor.QPlain
end Go.Proofs.YtoemcdcabamgiaaDoor.QPlain
namespace Go.Proofs.YtoemcdcabamgiaaDoor
open Go.RowKit WPlain QPlain

/-- are those of a transaction well formed? -/
def okE (h : List Ev) (x : Ev) : Bool := decide ((checkS (ofT h x.t)).2 = 0)
theorem okE_more {h : List Ev} {k : Nat} (hk : k < h.length) : (h.take (k + 1)).all (okE h) = ((h.take k).all (okE h) && okE h h[k]) := by
  rw [List.take_succ_eq_append_getElem hk, List.all_append]
  simp
theorem srcE {a : Option Addr} {n c : Nat} (h : a = none → c = 0) (hn : n ≤ c) : Src (.slice a n c) := by
  cases a with
  | none => have := h rfl; exact .inl (by rw [this, show n = 0 from by omega])
  | some p => exact .inr ⟨_, _, _, rfl⟩
end Go.Proofs.YtoemcdcabamgiaaDoor
/- slices.IndexFunc and ContainsFunc at Ops. (Written by gen_legF.py.) -/
namespace Go.Proofs.YtoemcdcabamgiaaDoor.WPlain
end Go.Proofs.YtoemcdcabamgiaaDoor.WPlain
namespace Go.Proofs.YtoemcdcabamgiaaDoor.QPlain
end Go.Proofs.YtoemcdcabamgiaaDoor.QPlain
namespace Go.Proofs.YtoemcdcabamgiaaDoor.RPlain
end Go.Proofs.YtoemcdcabamgiaaDoor.RPlain
namespace Go.Proofs.YtoemcdcabamgiaaDoor
open Go.RowKit WPlain QPlain RPlain

/-- LegalSwap's closure: is a variable that of the captured Op? -/
def sameVar (x : Int) (p : Rwo) : Bool := p.v == x
end Go.Proofs.YtoemcdcabamgiaaDoor
