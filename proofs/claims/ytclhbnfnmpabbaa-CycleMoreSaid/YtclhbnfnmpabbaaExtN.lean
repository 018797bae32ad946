/- The walk of the reference's All. -/
import Derived.Test.YtclhbnfnmpabbaaExtM
import Derived.Test.YtclhbnfnmpabbaaExtI
namespace Go.Proofs.Ytclhbnfnmpabbaa.RPlain
end Go.Proofs.Ytclhbnfnmpabbaa.RPlain
namespace Go.Proofs.Ytclhbnfnmpabbaa
open Go.RowKit RPlain

/-- rows of places, each a row of the call's own -/
def RowsO (B : Nat) (w : World) (vs : List Value) (rows : List (List Nat)) : Prop :=
  vs.length = rows.length ∧ ∀ i (hi : i < rows.length) (h : i < vs.length), w.ownsRow B 3 1 vs[i] rows[i].length (nats rows[i])
theorem RowsO.below {B : Nat} {w w' : World} {vs : List Value} {rows : List (List Nat)} (h : RowsO B w vs rows) (hb : Below w.heap.size w w') : RowsO B w' vs rows :=
  ⟨h.1, fun i hi hi' => (h.2 i hi hi').kept (grownB11 hb) (by cases (vs[i]).ownBlock <;> simp)⟩
theorem RowsO.grown {B B2 : Nat} {w w' : World} {vs us : List Value} {rows : List (List Nat)} {z : Value} {n : Nat} (h : RowsO B w vs rows) (hz : w.ownsRow B2 23 1 z n us) (hg : w.grownBy w' z.ownBlock) : RowsO B w' vs rows :=
  ⟨h.1, fun i hi hi' => (h.2 i hi hi').kept hg (row_apart (h.2 i hi hi') hz (by decide))⟩
theorem RowsO.snoc {B : Nat} {w : World} {vs : List Value} {rows : List (List Nat)} {v : Value} {r : List Nat} (h : RowsO B w vs rows) (hv : w.ownsRow B 3 1 v r.length (nats r)) : RowsO B w (vs ++ [v]) (rows ++ [r]) := by
  obtain ⟨h1, h2⟩ := h
  refine ⟨by simp [h1], fun i hi hi' => ?_⟩
  by_cases hlt : i < rows.length
  · simp only [List.getElem_append_left hlt, List.getElem_append_left (show i < vs.length by omega)]
    exact h2 i hlt (by omega)
  · obtain rfl : i = rows.length := by simp at hi; omega
    have e1 : (rows ++ [r])[rows.length] = r := by simp
    have e2 : (vs ++ [v])[rows.length]'hi' = v := by simp [← h1]
    rw [e1, e2]
    exact hv
theorem RowsO.get {B : Nat} {w : World} {vs : List Value} {rows : List (List Nat)} (h : RowsO B w vs rows) {i : Nat} (hi : i < rows.length) : ∃ a c, vs[i]? = some (.slice a rows[i].length c) ∧ w.ownsRow B 3 1 (.slice a rows[i].length c) rows[i].length (nats rows[i]) := by
  have hi' : i < vs.length := by rw [h.1]; exact hi
  have h2 := h.2 i hi hi'
  obtain ⟨a, c, he⟩ := row_slice h2
  refine ⟨a, c, by rw [List.getElem?_eq_getElem hi', he], ?_⟩
  rw [← he]
  exact h2
theorem ownCap11 {w : World} {B : Nat} {e : TypeId} {s : Nat} {v : Value} {n : Nat} {xs : List Value} (h : w.ownsRow B e s v n xs) : ∀ a m c, v = .slice a m c → m ≤ c := by
  intro a m c he
  rcases h.2 with ⟨rfl, rfl⟩ | ⟨g, cap, cur, rfl, _, _, hc, _⟩
  · simp only [Value.slice.injEq] at he
    obtain ⟨-, rfl, rfl⟩ := he
    omega
  · simp only [Value.slice.injEq] at he
    obtain ⟨-, rfl, rfl⟩ := he
    exact hc
theorem ext_mem {n : Nat} {p : List Nat → Nat → Bool} {s : Nat} {r : List Nat} (h : r ∈ extP n p s []) : r.length = s ∧ (∀ k ∈ r, k < n) ∧ stepsP p [] r = true := by
  rw [ext_filter] at h
  simp only [List.nil_append, List.map_id'] at h
  obtain ⟨h1, h2⟩ := List.mem_filter.1 h
  obtain ⟨h3, h4⟩ := allT_mem.1 h1
  exact ⟨h3, h4, h2⟩
theorem nxt_not {A r : List Nat} {k : Nat} (h : nxt A r k = true) : r.contains k = false := by
  unfold nxt at h
  rw [List.all_eq_true] at h
  rw [List.contains_eq_mem, decide_eq_false_iff_not]
  intro hm
  have := h k hm
  simp at this
/-- what comes of a row, up to a place -/
def goOn (A r : List Nat) (k : Nat) : List (List Nat) := ((List.range k).filter (nxt A r)).map fun x => r ++ [x]
theorem goOn_snoc (A r : List Nat) (k : Nat) : goOn A r (k + 1) = if nxt A r k = true then goOn A r k ++ [r ++ [k]] else goOn A r k := by
  unfold goOn
  rw [List.range_succ, List.filter_append, List.map_append]
  cases h : nxt A r k <;> simp [h]
/-- what comes of the first q rows -/
def goAll (A : List Nat) (L : List (List Nat)) (q : Nat) : List (List Nat) := (L.take q).flatMap fun r => goOn A r A.length
theorem goAll_snoc {A : List Nat} {L : List (List Nat)} {q : Nat} (h : q < L.length) : goAll A L (q + 1) = goAll A L q ++ goOn A L[q] A.length := by
  unfold goAll
  rw [List.take_succ_eq_append_getElem h, List.flatMap_append]
  simp
theorem goAll_ext (A : List Nat) (s : Nat) : goAll A (extP A.length (nxt A) s []) (extP A.length (nxt A) s []).length = extP A.length (nxt A) (s + 1) [] := by
  unfold goAll goOn
  rw [List.take_length, ext_snoc]
theorem goOn_le (A r : List Nat) {k m : Nat} (h : k ≤ m) : (goOn A r k).length ≤ (goOn A r m).length := by
  obtain ⟨d, rfl⟩ := Nat.le.dest h
  unfold goOn
  rw [List.length_map, List.length_map, List.range_add, List.filter_append, List.length_append]
  omega
theorem goAll_le (A : List Nat) (L : List (List Nat)) (q : Nat) : (goAll A L q).length ≤ (goAll A L L.length).length := by
  unfold goAll
  rw [List.take_length]
  conv => rhs; rw [← List.take_append_drop q L, List.flatMap_append, List.length_append]
  omega
/-- what holds while the next rows are gathered -/
structure LvlR (B B2 : Nat) (w0 : World) (y : Value) (vs : List Value) (L : List (List Nat)) (z : Value) (acc : List (List Nat)) (w : World) : Prop where
  out : w.ownsRow B 23 1 y L.length vs
  rows : RowsO B w vs L
  acc : ∃ us, w.ownsRow B2 23 1 z acc.length us ∧ RowsO B w us acc
  bel : Below B w0 w
  low : ∀ g, y.ownBlock = some g → g < B2
  top : B2 ≤ w.heap.size
  base : B ≤ B2
theorem LvlR.below {B B2 : Nat} {w0 : World} {y : Value} {vs : List Value} {L : List (List Nat)} {z : Value} {acc : List (List Nat)} {w w' : World} (h : LvlR B B2 w0 y vs L z acc w) (hb : Below w.heap.size w w') : LvlR B B2 w0 y vs L z acc w' := by
  obtain ⟨h1, h2, ⟨us, h3, h4⟩, h5, h6, h7, h8⟩ := h
  exact ⟨h1.kept (grownB11 hb) (by cases y.ownBlock <;> simp), h2.below hb, ⟨us, h3.kept (grownB11 hb) (by cases z.ownBlock <;> simp), h4.below hb⟩, h5.trans (hb.mono (by omega)), h6, Nat.le_trans h7 hb.size, h8⟩
theorem LvlR.push {B B2 : Nat} {w0 : World} {y : Value} {vs us : List Value} {L : List (List Nat)} {z : Value} {acc : List (List Nat)} {w w' : World} {v : Value} {r : List Nat} {z' : Value} (h : LvlR B B2 w0 y vs L z acc w)
    (hv : w.ownsRow B 3 1 v r.length (nats r)) (hu : w.ownsRow B2 23 1 z acc.length us) (hr : RowsO B w us acc) (hz : w'.ownsRow B2 23 1 z' (acc.length + 1) (us ++ [v])) (hg : w.grownBy w' z.ownBlock) : LvlR B B2 w0 y vs L z' (acc ++ [r]) w' := by
  obtain ⟨h1, h2, _, h5, h6, h7, h8⟩ := h
  refine ⟨h1.kept hg ?_, h2.grown hu hg, ⟨us ++ [v], by simpa using hz, RowsO.snoc (hr.grown hu hg) (hv.kept hg (row_apart hv hu (by decide)))⟩, h5.grown hg (by omega) (fun k e => Nat.le_trans h8 (hu.lt k e).1), h6, Nat.le_trans h7 hg.size, h8⟩
  cases hy : y.ownBlock with
  | none => exact .inl rfl
  | some g =>
    refine .inr fun e => ?_
    have h9 := (hu.lt g e.symm).1
    have h10 := h6 g hy
    omega
end Go.Proofs.Ytclhbnfnmpabbaa
