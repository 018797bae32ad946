/- Plain words of transactions: no program in sight. -/
import Derived.Test.YtnggadcoepieaaaDoorPrpQ
namespace Go.Proofs.YtnggadcoepieaaaDoor.WPlain
end Go.Proofs.YtnggadcoepieaaaDoor.WPlain
namespace Go.Proofs.YtnggadcoepieaaaDoor.QPlain
end Go.Proofs.YtnggadcoepieaaaDoor.QPlain
namespace Go.Proofs.YtnggadcoepieaaaDoor.RPlain
open WPlain QPlain

structure Rwo where
  w : Bool
  v : Int
  x : Int
  deriving DecidableEq
structure Tx where
  n : Int
  f : Int
  l : Int
  s : Int
  o : List Rwo
  deriving DecidableEq
/-- a transaction's last event -/
def askedOf (h : List Ev) (t : Int) : Ev := h.foldl (fun o e => if e.t = t then e else o) ⟨0, 0, 0, 0⟩
/-- what an event adds to the reads and writes, behind a transaction's last one -/
def opStep (a e : Ev) : List Rwo := if e.k = 3 then [⟨false, a.v, e.x⟩] else if e.k = 5 then [⟨true, a.v, a.x⟩] else []
def opsOf (h : List Ev) (t : Int) : List Rwo := (List.range h.length).flatMap fun i => match h[i]? with
  | some e => if e.t = t then opStep (askedOf (h.take i) t) e else []
  | none => []
/-- the place of the first event; of the last one -/
def fstOf (h : List Ev) (t : Int) : Int := match h.findIdx? (fun e => e.t == t) with | some i => (i : Int) | none => -1
def lstOf (h : List Ev) (t : Int) : Int := (List.range h.length).foldl (fun o i => match h[i]? with | some e => if e.t = t then (i : Int) else o | none => o) 0
def stateS (k : Int) : Int := if k = 7 then 2 else if k = 9 then 3 else if k = 6 then 1 else 0
def txOf (h : List Ev) (t : Int) : Tx := ⟨t, fstOf h t, lstOf h t, stateS (lastOf h t), opsOf h t⟩
def tableS (h : List Ev) : List Tx := (namesOf h).map (txOf h)

theorem getElem?_snoc_lt {h : List Ev} {e : Ev} {i : Nat} (hi : i < h.length) : (h ++ [e])[i]? = h[i]? := List.getElem?_append_left hi
theorem askedOf_snoc (h : List Ev) (e : Ev) (t : Int) : askedOf (h ++ [e]) t = if e.t = t then e else askedOf h t := by simp [askedOf]
theorem opsOf_snoc (h : List Ev) (e : Ev) (t : Int) : opsOf (h ++ [e]) t = opsOf h t ++ (if e.t = t then opStep (askedOf h t) e else []) := by
  unfold opsOf
  rw [List.length_append, List.length_singleton, List.range_succ, List.flatMap_append]
  congr 1
  · rw [List.flatMap_def, List.flatMap_def]
    congr 1
    refine List.map_congr_left fun i hi => ?_
    have hi' : i < h.length := List.mem_range.1 hi
    rw [getElem?_snoc_lt hi', List.take_append_of_le_length (by omega)]
  · rw [List.flatMap_singleton, List.getElem?_append_right (Nat.le_refl _), Nat.sub_self, List.take_left' rfl]
    rfl
theorem lstOf_snoc (h : List Ev) (e : Ev) (t : Int) : lstOf (h ++ [e]) t = if e.t = t then (h.length : Int) else lstOf h t := by
  unfold lstOf
  rw [List.length_append, List.length_singleton, List.range_succ, List.foldl_append]
  simp only [List.foldl_cons, List.foldl_nil]
  rw [List.getElem?_append_right (Nat.le_refl _), Nat.sub_self]
  simp only [List.getElem?_cons_zero]
  split
  · rfl
  · have hg : ∀ (l : List Nat) (o : Int), (∀ i ∈ l, i < h.length) → l.foldl (fun o i => match (h ++ [e])[i]? with | some e => if e.t = t then (i : Int) else o | none => o) o = l.foldl (fun o i => match h[i]? with | some e => if e.t = t then (i : Int) else o | none => o) o := by
      intro l
      induction l with
      | nil => intro o _; rfl
      | cons i r ih =>
        intro o hl
        simp only [List.foldl_cons]
        rw [getElem?_snoc_lt (hl i (List.mem_cons_self ..))]
        exact ih _ (fun j hj => hl j (List.mem_cons_of_mem _ hj))
    exact hg _ _ (fun i hi => List.mem_range.1 hi)
theorem fstOf_snoc (h : List Ev) (e : Ev) (t : Int) : fstOf (h ++ [e]) t = if fstOf h t = -1 then (if e.t = t then (h.length : Int) else -1) else fstOf h t := by
  unfold fstOf
  rw [List.findIdx?_append]
  cases h1 : h.findIdx? (fun e => e.t == t) with
  | some i =>
    simp
  | none =>
    simp [List.findIdx?_cons]
    split <;> simp_all
theorem mem_names_snoc (h : List Ev) (e : Ev) (t : Int) : t ∈ namesOf (h ++ [e]) ↔ t ∈ namesOf h ∨ t = e.t := by
  rw [namesOf_snoc]
  unfold addName
  split
  · rename_i hc
    constructor
    · exact fun hm => .inl hm
    · rintro (hm | rfl)
      · exact hm
      · simpa using hc
  · simp
theorem rev_ind {p : List Ev → Prop} (h0 : p []) (h1 : ∀ h e, p h → p (h ++ [e])) (h : List Ev) : p h := by
  rw [← List.reverse_reverse h]
  induction h.reverse with
  | nil => exact h0
  | cons e r ih => rw [List.reverse_cons]; exact h1 _ _ ih
theorem mem_names (h : List Ev) (t : Int) : t ∈ namesOf h ↔ ∃ e ∈ h, e.t = t := by
  refine rev_ind (p := fun h => t ∈ namesOf h ↔ ∃ e ∈ h, e.t = t) ?_ ?_ h
  · simp [namesOf]
  · intro h e ih
    rw [mem_names_snoc, ih]
    constructor
    · rintro (⟨x, hx, rfl⟩ | rfl)
      · exact ⟨x, List.mem_append_left _ hx, rfl⟩
      · exact ⟨e, by simp, rfl⟩
    · rintro ⟨x, hx, rfl⟩
      rcases List.mem_append.1 hx with hx | hx
      · exact .inl ⟨x, hx, rfl⟩
      · rw [List.mem_singleton.1 hx]; exact .inr rfl
theorem names_nodup (h : List Ev) : (namesOf h).Nodup := by
  refine rev_ind (p := fun h => (namesOf h).Nodup) ?_ ?_ h
  · simp [namesOf]
  · intro h e ih
    rw [namesOf_snoc]
    unfold addName
    split
    · exact ih
    · rename_i hc
      refine List.nodup_append.2 ⟨ih, by simp, fun a ha b hb => ?_⟩
      rw [List.mem_singleton.1 hb]
      rintro rfl
      exact hc (by simpa using ha)
theorem fst_names (h : List Ev) (t : Int) : fstOf h t = -1 ↔ t ∉ namesOf h := by
  rw [mem_names]
  unfold fstOf
  cases h1 : h.findIdx? (fun e => e.t == t) with
  | none =>
    rw [List.findIdx?_eq_none_iff] at h1
    simp
    intro e he hc
    have := h1 e he
    simp [hc] at this
  | some i =>
    obtain ⟨hi, hp, _⟩ := List.findIdx?_eq_some_iff_getElem.1 h1
    simp
    exact ⟨h[i], List.getElem_mem hi, by simpa using hp⟩
end Go.Proofs.YtnggadcoepieaaaDoor.RPlain
