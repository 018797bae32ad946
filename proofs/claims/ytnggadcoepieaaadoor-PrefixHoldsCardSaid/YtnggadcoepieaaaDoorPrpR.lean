/- The walks of ProperEach's closure, of slices.IndexFunc and of slices.DeleteFunc with it. -/
import Derived.Test.YtnggadcoepieaaaDoorPrpQ
import Derived.Test.YtnggadcoepieaaaDoorMg5
import Derived.Test.YtnggadcoepieaaaDoorMg7
import Derived.Laws.OwnMore
import Derived.Laws.IdiomCopy
import Derived.WalkLawsBesides
namespace Go.Proofs.YtnggadcoepieaaaDoor.WPlain
end Go.Proofs.YtnggadcoepieaaaDoor.WPlain
namespace Go.Proofs.YtnggadcoepieaaaDoor.QPlain
end Go.Proofs.YtnggadcoepieaaaDoor.QPlain
namespace Go.Proofs.YtnggadcoepieaaaDoor
open Go.RowKit WPlain QPlain

theorem row_belowR {w w' : World} {B : Nat} {e : TypeId} {s : Nat} {v : Value} {n : Nat} {xs : List Value} (h : w.ownsRow B e s v n xs) (hb : Below w.heap.size w w') : w'.ownsRow B e s v n xs := by
  refine ⟨h.1, ?_⟩
  rcases h.2 with hn | ⟨g, cap, cur, rfl, hB, hgg, rest⟩
  · exact .inl hn
  · refine .inr ⟨g, cap, cur, rfl, hB, ?_, rest⟩
    rw [hb.block g (Array.getElem?_eq_some_iff.1 hgg).1]
    exact hgg
theorem evsCells_set : ∀ (H : List Ev) (i : Nat) (y : Ev), i < H.length → ((((evsCells H).set (i * 4) (.int .i64 y.k)).set (i * 4 + 1) (.int .i64 y.t)).set (i * 4 + 2) (.int .i64 y.v)).set (i * 4 + 3) (.int .i64 y.x) = evsCells (H.set i y) := by
  intro H
  induction H with
  | nil => intro i y hi; simp at hi
  | cons e r ih =>
    intro i y hi
    cases i with
    | zero => rfl
    | succ i =>
      have := ih i y (by simpa using hi)
      have hx : ∀ (l : List Value) (c : Nat) (u : Value), (evCells e ++ l).set ((i + 1) * 4 + c) u = evCells e ++ l.set (i * 4 + c) u := by
        intro l c u
        rw [List.set_append_right _ _ (by simp [evCells]; omega)]
        congr 2
        simp [evCells]
        omega
      show ((((evCells e ++ evsCells r).set ((i + 1) * 4 + 0) _).set ((i + 1) * 4 + 1) _).set ((i + 1) * 4 + 2) _).set ((i + 1) * 4 + 3) _ = evCells e ++ evsCells (r.set i y)
      rw [hx, hx, hx, hx, ← this]
      rfl
theorem row_cell {w : World} {B g cap n : Nat} {H : List Ev} (h : w.ownsRow B 38 4 (.slice (some ⟨g, 0, none⟩) n cap) n (evsCells H)) (hn : H.length = n) (j : Nat) (hj : j < n) (c : Nat) (hc : c < 4) : w.cell? ⟨g, j * 4 + c, none⟩ = (evCells (H[j]'(by omega)))[c]? := by
  rw [h.cellAt (j * 4 + c) (by omega)]
  exact evsCells_get H j (by omega) c hc
theorem row_four {w : World} {B g cap n : Nat} {H : List Ev} (h : w.ownsRow B 38 4 (.slice (some ⟨g, 0, none⟩) n cap) n (evsCells H)) (hn : H.length = n) (i : Nat) (hi : i < n) :
    ∃ o : Ev, w.cell? ⟨g, i * 4, none⟩ = some (.int .i64 o.k) ∧ w.cell? ⟨g, i * 4 + 1, none⟩ = some (.int .i64 o.t) ∧ w.cell? ⟨g, i * 4 + 2, none⟩ = some (.int .i64 o.v) ∧ w.cell? ⟨g, i * 4 + 3, none⟩ = some (.int .i64 o.x) :=
  ⟨H[i]'(by omega), row_cell h hn i hi 0 (by omega), row_cell h hn i hi 1 (by omega), row_cell h hn i hi 2 (by omega), row_cell h hn i hi 3 (by omega)⟩
theorem row_store {w : World} {B g cap n : Nat} {H : List Ev} (h : w.ownsRow B 38 4 (.slice (some ⟨g, 0, none⟩) n cap) n (evsCells H)) (hn : H.length = n) (i : Nat) (hi : i < n) (y : Ev) :
    ((((w.setCell ⟨g, i * 4, none⟩ (.int .i64 y.k)).setCell ⟨g, i * 4 + 1, none⟩ (.int .i64 y.t)).setCell ⟨g, i * 4 + 2, none⟩ (.int .i64 y.v)).setCell ⟨g, i * 4 + 3, none⟩ (.int .i64 y.x)).ownsRow B 38 4 (.slice (some ⟨g, 0, none⟩) n cap) n (evsCells (H.set i y)) ∧
    Below B w ((((w.setCell ⟨g, i * 4, none⟩ (.int .i64 y.k)).setCell ⟨g, i * 4 + 1, none⟩ (.int .i64 y.t)).setCell ⟨g, i * 4 + 2, none⟩ (.int .i64 y.v)).setCell ⟨g, i * 4 + 3, none⟩ (.int .i64 y.x)) := by
  have hg : B ≤ g := (h.lt g rfl).1
  have r4 := ((((h.stored (i * 4) (.int .i64 y.k)).1.stored (i * 4 + 1) (.int .i64 y.t)).1.stored (i * 4 + 2) (.int .i64 y.v)).1.stored (i * 4 + 3) (.int .i64 y.x)).1
  rw [evsCells_set H i y (by omega)] at r4
  exact ⟨r4, ((((Below.refl B w).setCell (p := ⟨g, i * 4, none⟩) hg _).setCell (p := ⟨g, i * 4 + 1, none⟩) hg _).setCell (p := ⟨g, i * 4 + 2, none⟩) hg _).setCell (p := ⟨g, i * 4 + 3, none⟩) hg _⟩
end Go.Proofs.YtnggadcoepieaaaDoor
