/- Merged: TabB, TabP, Kit. -/
import Derived.Test.YtmnblljenobofaaDoorMg1
import Derived.WalkKit
import Derived.WalkLawsBesides
import Derived.WalkSpells
import Derived.Lib.Hide
import Derived.Deep.RegionLaw
/- Plain words: transactions up to a place; alone. -/
namespace Go.Proofs.YtmnblljenobofaaDoor.WPlain
end Go.Proofs.YtmnblljenobofaaDoor.WPlain
namespace Go.Proofs.YtmnblljenobofaaDoor.QPlain
end Go.Proofs.YtmnblljenobofaaDoor.QPlain
namespace Go.Proofs.YtmnblljenobofaaDoor.RPlain
open WPlain QPlain

theorem fst_range {h : List Ev} {t : Int} (ht : t ∈ namesOf h) : 0 ≤ fstOf h t ∧ fstOf h t < h.length := by
  have hne := (not_congr (fst_names h t)).2 (fun hc => hc ht)
  unfold fstOf at *
  cases h1 : h.findIdx? (fun e => e.t == t) with
  | none => rw [h1] at hne; simp at hne
  | some i =>
    obtain ⟨hi, _⟩ := List.findIdx?_eq_some_iff_getElem.1 h1
    simp
    omega
theorem fst_keep {h : List Ev} {t : Int} (e : Ev) (ht : t ∈ namesOf h) : fstOf (h ++ [e]) t = fstOf h t := by
  rw [fstOf_snoc, if_neg (fun hc => ((fst_names h t).1 hc) ht)]
theorem fst_new {h : List Ev} {e : Ev} (ht : e.t ∉ namesOf h) : fstOf (h ++ [e]) e.t = (h.length : Int) := by
  rw [fstOf_snoc, if_pos ((fst_names h e.t).2 ht), if_pos rfl]
theorem fst_lst (h : List Ev) (t : Int) (ht : t ∈ namesOf h) : fstOf h t ≤ lstOf h t ∧ lstOf h t < h.length := by
  revert ht
  refine rev_ind (p := fun h => t ∈ namesOf h → fstOf h t ≤ lstOf h t ∧ lstOf h t < h.length) ?_ ?_ h
  · simp [namesOf]
  · intro h e ih ht
    rw [lstOf_snoc, List.length_append, List.length_singleton]
    by_cases he : e.t = t
    · rw [if_pos he]
      by_cases hm : t ∈ namesOf h
      · rw [fst_keep e hm]
        have := (fst_range hm).2
        omega
      · subst he
        rw [fst_new hm]
        omega
    · rw [if_neg he]
      rcases (mem_names_snoc h e t).1 ht with hm | hm
      · rw [fst_keep e hm]
        have := ih hm
        omega
      · exact absurd hm.symm he
/-- is it an answer of a transaction, with a read or a write? -/
def answers (t : Int) (e : Ev) : Bool := e.t == t && (e.k == 3 || e.k == 5)
theorem ops_len (h : List Ev) (t : Int) : (opsOf h t).length = (h.filter (answers t)).length := by
  refine rev_ind (p := fun h => (opsOf h t).length = (h.filter (answers t)).length) ?_ ?_ h
  · simp [opsOf]
  · intro h e ih
    rw [opsOf_snoc, List.length_append, ih, List.filter_append, List.length_append]
    congr 1
    unfold answers opStep
    by_cases he : e.t = t
    · rw [if_pos he]
      by_cases h3 : e.k = 3
      · simp [h3, he]
      · by_cases h5 : e.k = 5
        · simp [h5, he]
        · simp [h3, h5, he]
    · rw [if_neg he]
      simp [he]
theorem tableS_len (h : List Ev) : (tableS h).length = (namesOf h).length := by simp [tableS]
theorem tableS_get {h : List Ev} {i : Nat} (hi : i < (namesOf h).length) : (tableS h)[i]'(by rw [tableS_len]; exact hi) = txOf h ((namesOf h)[i]) := by simp [tableS]
/-- one event more -/
theorem ops_none {h : List Ev} {t : Int} (ht : t ∉ namesOf h) : opsOf h t = [] := by
  have h1 := ops_len h t
  have h2 : h.filter (answers t) = [] := by
    rw [List.filter_eq_nil_iff]
    intro e he hc
    unfold answers at hc
    simp only [Bool.and_eq_true, beq_iff_eq] at hc
    exact ht ((mem_names h t).2 ⟨e, he, hc.1⟩)
  rw [h2] at h1
  exact List.length_eq_zero_iff.1 h1
theorem txOf_other (h : List Ev) (e : Ev) {t : Int} (ht : t ∈ namesOf h) (hne : e.t ≠ t) : txOf (h ++ [e]) t = txOf h t := by
  unfold txOf
  rw [fst_keep e ht, lstOf_snoc, if_neg hne, lastOf_snoc, if_neg hne, opsOf_snoc, if_neg hne, List.append_nil]
theorem txOf_mine (h : List Ev) (e : Ev) (ht : e.t ∈ namesOf h) : txOf (h ++ [e]) e.t = ⟨e.t, fstOf h e.t, h.length, stateS e.k, opsOf h e.t ++ opStep (askedOf h e.t) e⟩ := by
  unfold txOf
  rw [fst_keep e ht, lstOf_snoc, if_pos rfl, lastOf_snoc, if_pos rfl, opsOf_snoc, if_pos rfl]
theorem txOf_first (h : List Ev) (e : Ev) (ht : e.t ∉ namesOf h) : txOf (h ++ [e]) e.t = ⟨e.t, h.length, h.length, stateS e.k, opStep (askedOf h e.t) e⟩ := by
  unfold txOf
  rw [fst_new ht, lstOf_snoc, if_pos rfl, lastOf_snoc, if_pos rfl, opsOf_snoc, if_pos rfl, ops_none ht, List.nil_append]
end Go.Proofs.YtmnblljenobofaaDoor.RPlain
/- Plain words: what well-formed events tell of their transactions. -/
namespace Go.Proofs.YtmnblljenobofaaDoor.WPlain
end Go.Proofs.YtmnblljenobofaaDoor.WPlain
namespace Go.Proofs.YtmnblljenobofaaDoor.QPlain
end Go.Proofs.YtmnblljenobofaaDoor.QPlain
namespace Go.Proofs.YtmnblljenobofaaDoor.RPlain
open WPlain QPlain

theorem asked_at (g : List Ev) (t : Int) (ht : t ∈ namesOf g) : ∃ l : Nat, lstOf g t = (l : Int) ∧ ∃ hl : l < g.length, g[l] = askedOf g t := by
  revert ht
  refine rev_ind (p := fun g => t ∈ namesOf g → ∃ l : Nat, lstOf g t = (l : Int) ∧ ∃ hl : l < g.length, g[l] = askedOf g t) ?_ ?_ g
  · simp [namesOf]
  · intro g e ih ht
    rw [lstOf_snoc, askedOf_snoc]
    by_cases he : e.t = t
    · rw [if_pos he, if_pos he]
      exact ⟨g.length, rfl, by simp, by simp⟩
    · rw [if_neg he, if_neg he]
      rcases (mem_names_snoc g e t).1 ht with hm | hm
      · obtain ⟨l, h1, h2, h3⟩ := ih hm
        exact ⟨l, h1, by rw [List.length_append]; omega, by rw [List.getElem_append_left h2]; exact h3⟩
      · exact absurd hm.symm he
theorem last_none (g : List Ev) (t : Int) (ht : t ∉ namesOf g) : lastOf g t = -1 := by
  revert ht
  refine rev_ind (p := fun g => t ∉ namesOf g → lastOf g t = -1) ?_ ?_ g
  · intro _; rfl
  · intro g e ih ht
    rw [mem_names_snoc, not_or] at ht
    rw [lastOf_snoc, if_neg (fun hc => ht.2 hc.symm)]
    exact ih ht.1
theorem firstG_may : ∀ (r pre : List Ev), firstG pre r = (pre ++ r).length → ∀ j (hj : j < r.length), mayS (lastOf (pre ++ r.take j) r[j].t) r[j].k = true := by
  intro r
  induction r with
  | nil => intro pre _ j hj; simp at hj
  | cons e r ih =>
    intro pre hf j hj
    by_cases hm : mayS (lastOf pre e.t) e.k = true
    · have h1 : firstG pre (e :: r) = firstG (pre ++ [e]) r := by unfold firstG; rw [if_pos hm]; cases r <;> rfl
      rw [h1] at hf
      cases j with
      | zero => simpa using hm
      | succ j =>
        have := ih (pre ++ [e]) (by simpa using hf) j (by simpa using hj)
        simpa using this
    · have h1 : firstG pre (e :: r) = pre.length := by unfold firstG; rw [if_neg hm]
      rw [h1] at hf
      simp at hf
theorem check_may {h : List Ev} (hc : (checkS h).2 = 0) (j : Nat) (hj : j < h.length) : mayS (lastOf (h.take j) h[j].t) h[j].k = true := by
  have hr := (check_agree hc).1
  have hf := check_first hr
  have h1 : firstS h = h.length := by
    by_cases he : firstS h = h.length
    · exact he
    · rw [if_neg he] at hf
      rw [hf] at hc
      simp at hc
  unfold firstS at h1
  simpa using firstG_may h [] (by simpa using h1) j hj
/-- the first event of a transaction begins it -/
theorem check_begin {h : List Ev} (hc : (checkS h).2 = 0) (j : Nat) (hj : j < h.length) (ht : h[j].t ∉ namesOf (h.take j)) : h[j].k = 0 := by
  have := check_may hc j hj
  rw [last_none _ _ ht] at this
  simpa [mayS] using this
theorem opStep_zero (a e : Ev) (h : e.k = 0) : opStep a e = [] := by unfold opStep; rw [if_neg (by omega), if_neg (by omega)]
theorem ops_le (h : List Ev) (t : Int) : (opsOf h t).length ≤ h.length := by rw [ops_len]; exact List.length_filter_le _ _
theorem names_old {g : List Ev} {e : Ev} (hm : e.t ∈ namesOf g) : namesOf (g ++ [e]) = namesOf g := by
  rw [namesOf_snoc]
  unfold addName
  rw [if_pos (by simpa using hm)]
theorem names_new {g : List Ev} {e : Ev} (hm : e.t ∉ namesOf g) : namesOf (g ++ [e]) = namesOf g ++ [e.t] := by
  rw [namesOf_snoc]
  unfold addName
  rw [if_neg (by simpa using hm)]
theorem tx_old {g : List Ev} {e : Ev} (hm : e.t ∈ namesOf g) : ∀ u ∈ namesOf g, txOf (g ++ [e]) u = if u = e.t then ⟨e.t, fstOf g e.t, g.length, stateS e.k, opsOf g e.t ++ opStep (askedOf g e.t) e⟩ else txOf g u := by
  intro u hu
  by_cases he : u = e.t
  · rw [if_pos he, he, txOf_mine g e hm]
  · rw [if_neg he]
    exact txOf_other g e hu (fun hc => he hc.symm)
theorem tx_new {g : List Ev} {e : Ev} (hm : e.t ∉ namesOf g) (h0 : e.k = 0) : ∀ u ∈ namesOf g ++ [e.t], txOf (g ++ [e]) u = if u = e.t then ⟨e.t, g.length, g.length, stateS e.k, []⟩ else txOf g u := by
  intro u hu
  by_cases he : u = e.t
  · rw [if_pos he, he, txOf_first g e hm, opStep_zero _ _ h0]
  · rw [if_neg he]
    rcases List.mem_append.1 hu with hu | hu
    · exact txOf_other g e hu (fun hc => he hc.symm)
    · exact absurd (List.mem_singleton.1 hu) he
end Go.Proofs.YtmnblljenobofaaDoor.RPlain
/- Small laws of memory, of no program: a block known whole; a row of the call's own beside it; an append as a step of a region that draws. -/
namespace Go.Proofs.YtmnblljenobofaaDoor
open Go.RowKit

/-- Block b holds the cells cs. -/
def At (w : World) (b : Nat) (cs : Array Value) (t : TypeId) : Prop := w.heap[b]? = some (.cells cs t (0, 0))
theorem At.lt {w : World} {b : Nat} {cs : Array Value} {t : TypeId} (h : At w b cs t) : b < w.heap.size := (Array.getElem?_eq_some_iff.1 h).1
theorem At.cell {w : World} {b : Nat} {cs : Array Value} {t : TypeId} (h : At w b cs t) {i : Nat} {v : Value} (hi : cs[i]? = some v) : w.cell? ⟨b, i, none⟩ = some v := by
  unfold At at h; simp [World.cell?, h, hi]
theorem At.free {w : World} {b : Nat} {cs : Array Value} {t : TypeId} (h : At w b cs t) (i : Nat) : w.frozen? ⟨b, i, none⟩ = false := by
  unfold At at h; simp [World.frozen?, h]
theorem At.new (w : World) (cs : Array Value) (t : TypeId) : At (w.alloc (.cells cs t)) w.heap.size cs t := heap_alloc_new w _
theorem At.alloc {w : World} {b : Nat} {cs : Array Value} {t : TypeId} (h : At w b cs t) (o : Obj) : At (w.alloc o) b cs t := by
  have := h.lt; unfold At at *; rw [Below.heap_alloc w o b this]; exact h
theorem At.drew {w : World} {b : Nat} {cs : Array Value} {t : TypeId} (h : At w b cs t) : At w.drew b cs t := h
theorem At.grown {w w' : World} {b : Nat} {cs : Array Value} {t : TypeId} {row : Option Nat} (h : At w b cs t) (hg : w.grownBy w' row) (hne : some b ≠ row) : At w' b cs t := by
  have := h.lt; unfold At at *; rw [hg.block b this hne]; exact h
theorem At.below {B : Nat} {w w' : World} {b : Nat} {cs : Array Value} {t : TypeId} (h : At w b cs t) (hb : Below B w w') (hlt : b < B) : At w' b cs t := by
  unfold At at *; rw [hb.block b hlt]; exact h
theorem At.set {w : World} {b : Nat} {cs : Array Value} {t : TypeId} (h : At w b cs t) (i : Nat) (u : Value) : At (w.setCell ⟨b, i, none⟩ u) b (cs.setIfInBounds i u) t := by
  have hlt := h.lt
  unfold At at *
  have h' : w.heap[b] = .cells cs t (0, 0) := by simpa [Array.getElem?_eq_getElem hlt] using h
  show (w.heap.modify b _)[b]? = _
  rw [Array.getElem?_eq_getElem (by simpa using hlt), Array.getElem_modify_self, h']; rfl
theorem At.other {w : World} {b : Nat} {cs : Array Value} {t : TypeId} (h : At w b cs t) {a : Addr} (hne : b ≠ a.block) (u : Value) : At (w.setCell a u) b cs t := by
  unfold At at *; rw [Below.heap_setCell w a u b hne]; exact h

theorem row_apart {w : World} {b1 b2 : Nat} {e1 e2 : TypeId} {s1 s2 : Nat} {v1 v2 : Value} {n1 n2 : Nat} {x1 x2 : List Value}
    (h1 : w.ownsRow b1 e1 s1 v1 n1 x1) (h2 : w.ownsRow b2 e2 s2 v2 n2 x2) (hne : e1 ≠ e2) : v1.ownBlock = none ∨ v1.ownBlock ≠ v2.ownBlock := by
  rcases h1.2 with ⟨rfl, _⟩ | ⟨g1, c1, cur1, rfl, _, hg1, _⟩
  · exact .inl rfl
  · rcases h2.2 with ⟨rfl, _⟩ | ⟨g2, c2, cur2, rfl, _, hg2, _⟩
    · exact .inr (by simp [Value.ownBlock])
    · refine .inr ?_
      intro h
      simp only [Value.ownBlock, Option.some.injEq] at h
      subst h
      rw [hg1] at hg2
      simp at hg2
      exact hne hg2.2
/-- a block of another type is none of the row's own -/
theorem row_not {w : World} {b1 : Nat} {e1 : TypeId} {s1 : Nat} {v1 : Value} {n1 : Nat} {x1 : List Value}
    (h1 : w.ownsRow b1 e1 s1 v1 n1 x1) {b : Nat} {cs : Array Value} {t : TypeId} (h2 : At w b cs t) (hne : e1 ≠ t) : v1.ownBlock ≠ some b := by
  rcases h1.2 with ⟨rfl, _⟩ | ⟨g1, c1, cur1, rfl, _, hg1, _⟩
  · simp [Value.ownBlock]
  · intro h
    simp only [Value.ownBlock, Option.some.injEq] at h
    subst h
    unfold At at h2
    rw [hg1] at h2
    simp at h2
    exact hne h2.2

theorem row_slice {w : World} {b1 : Nat} {e1 : TypeId} {s1 : Nat} {v1 : Value} {n1 : Nat} {x1 : List Value} (h1 : w.ownsRow b1 e1 s1 v1 n1 x1) : ∃ a c, v1 = .slice a n1 c := by
  rcases h1.2 with ⟨rfl, rfl⟩ | ⟨g1, c1, cur1, rfl, _⟩
  · exact ⟨_, _, rfl⟩
  · exact ⟨_, _, rfl⟩

theorem cell_one_at (w : World) (o : Value) (t : TypeId) : ∀ j u, [o][j]? = some u → (w.alloc (.cells #[o] t)).cell? ((⟨w.heap.size, 0, none⟩ : Addr).add j) = some u := by
  intro j u hj
  match j, hj with
  | 0, hj => simp at hj; subst hj; simp [Addr.add]

theorem one_int (k : IntKind) (x : Int) : ∀ u ∈ [Value.int k x], u.oneCell' = true := by intro u hu; simp at hu; subst hu; rfl
/-- a slice value reads as a list of one-cell values -/
def Rd (w : World) (v : Value) (xs : List Value) : Prop :=
  (xs = [] ∧ ∃ a c, v = .slice a 0 c) ∨ (0 < xs.length ∧ ∃ b o c, v = .slice (some ⟨b, o, none⟩) xs.length c ∧ ∀ i u, xs[i]? = some u → w.cell? ⟨b, o + i, none⟩ = some u)
theorem Rd.of_row {w : World} {B : Nat} {e : TypeId} {v : Value} {n : Nat} {xs : List Value} (h : w.ownsRow B e 1 v n xs) : Rd w v xs := by
  have hl : xs.length = n := by have := h.1; omega
  rcases h.2 with ⟨rfl, rfl⟩ | ⟨g, cap, cur, rfl, hb, hg, hn, hm, hs, ht⟩
  · exact .inl ⟨List.length_eq_zero_iff.1 hl, _, _, rfl⟩
  · by_cases h0 : 0 < xs.length
    · refine .inr ⟨h0, g, 0, cap, by rw [hl], ?_⟩
      intro i u hu
      have := h.cells (g := g) rfl i u hu
      have hadd : (⟨g, 0, none⟩ : Addr).add i = ⟨g, 0 + i, none⟩ := by unfold Addr.add; split <;> simp_all
      rw [hadd] at this
      exact this
    · have : xs = [] := List.length_eq_zero_iff.1 (by omega)
      subst this
      simp at hl
      subst hl
      exact .inl ⟨rfl, _, _, rfl⟩
theorem Rd.below {w w' : World} {B : Nat} {v : Value} {xs : List Value} (h : Rd w v xs) (hb : Below B w w') (hB : w.heap.size ≤ B) : Rd w' v xs := by
  rcases h with h | ⟨h0, b, o, c, rfl, hc⟩
  · exact .inl h
  · refine .inr ⟨h0, b, o, c, rfl, fun i u hu => ?_⟩
    have h1 := hc i u hu
    exact (hb.cell (p := ⟨b, o + i, none⟩) (Nat.lt_of_lt_of_le (World.block_lt_of_cell? w _ h1) hB)).trans h1
theorem Rd.len {w : World} {v : Value} {xs : List Value} (h : Rd w v xs) : ∃ a c, v = .slice a xs.length c := by
  rcases h with ⟨rfl, a, c, rfl⟩ | ⟨h0, b, o, c, rfl, hc⟩
  · exact ⟨_, _, rfl⟩
  · exact ⟨_, _, rfl⟩

theorem ret_bool {a b : Bool} (h : a = b) : Ending.returned (.bool a) = .returned (.bool b) := by rw [h]
theorem ret_int {k : IntKind} {a b : Int} (h : a = b) : Ending.returned (.int k a) = .returned (.int k b) := by rw [h]

end Go.Proofs.YtmnblljenobofaaDoor
