/- Merged: TabO, TabQ, TabR. -/
import Derived.Test.YtampoikncgagkaaDoorMg5
import Derived.Test.YtampoikncgagkaaDoorMg4
import Derived.Test.YtampoikncgagkaaDoorMg8
import Derived.Test.YtampoikncgagkaaDoorMg12
import Derived.Test.YtampoikncgagkaaDoorMg10
import Derived.Test.YtampoikncgagkaaDoorRows
import Derived.Test.YtampoikncgagkaaDoorKit
import Derived.Test.YtampoikncgagkaaDoorShelf
import Derived.Test.YtampoikncgagkaaDoorTxtS
import Derived.Test.YtampoikncgagkaaDoorTxtH
import Derived.Test.YtampoikncgagkaaDoorTabP
import Derived.Laws.OwnMore
import Derived.Laws.IdiomCopy
import Derived.WalkLawsBesides
import Derived.Deep.RegionHeldLaw
import Derived.Deep.DrawnRows
import Derived.Deep.DeepMust
import Derived.WalkSpells
import Derived.Deep.QuietTactic
import Derived.BigQuiet
import Derived.Lib.Hide
import Derived.Laws.ShiftsVarLaws
import Derived.RegionTactic
import Derived.Laws.BitsAllLaws
import Derived.Deep.RegionHeld
import Derived.Laws.AppendOwnNone
import Derived.RangeFuncBox
import Derived.RangeFuncLeaves
import Derived.Shelf.Abstract
import Derived.WalkKit
import Derived.OwnWalkIn
import Derived.TacticsInMore
import Derived.LoopNIn
import Derived.LoopIn
import Derived.Maps.AppendAt
/- The walks of TableAlone's closure, of slices.IndexFunc and of slices.DeleteFunc with it. -/
namespace Go.Proofs.YtampoikncgagkaaDoor.WPlain
end Go.Proofs.YtampoikncgagkaaDoor.WPlain
namespace Go.Proofs.YtampoikncgagkaaDoor.QPlain
end Go.Proofs.YtampoikncgagkaaDoor.QPlain
namespace Go.Proofs.YtampoikncgagkaaDoor
open Go.RowKit WPlain QPlain

theorem row_belowR {w w' : World} {B : Nat} {e : TypeId} {s : Nat} {v : Value} {n : Nat} {xs : List Value} (h : w.ownsRow B e s v n xs) (hb : Below w.heap.size w w') : w'.ownsRow B e s v n xs := by
  refine ⟨h.1, ?_⟩
  rcases h.2 with hn | ⟨g, cap, cur, rfl, hB, hgg, rest⟩
  · exact .inl hn
  · refine .inr ⟨g, cap, cur, rfl, hB, ?_, rest⟩
    rw [hb.block g (Array.getElem?_eq_some_iff.1 hgg).1]
    exact hgg
theorem evsCells_set : ∀ (H : List Ev) (i : Nat) (y : Ev), i < H.length → ((((evsCells H).set (i * 4) (.int .i64 y.k)).set (i * 4 + 1) (.int .i64 y.t)).set (i * 4 + 2) (.int .i64 y.v)).set (i * 4 + 3) (.int .i64 y.x) = evsCells (H.set i y) := by
  intro H
  induction H with
  | nil => intro i y hi; simp at hi
  | cons e r ih =>
    intro i y hi
    cases i with
    | zero => rfl
    | succ i =>
      have := ih i y (by simpa using hi)
      have hx : ∀ (l : List Value) (c : Nat) (u : Value), (evCells e ++ l).set ((i + 1) * 4 + c) u = evCells e ++ l.set (i * 4 + c) u := by
        intro l c u
        rw [List.set_append_right _ _ (by simp [evCells]; omega)]
        congr 2
        simp [evCells]
        omega
      show ((((evCells e ++ evsCells r).set ((i + 1) * 4 + 0) _).set ((i + 1) * 4 + 1) _).set ((i + 1) * 4 + 2) _).set ((i + 1) * 4 + 3) _ = evCells e ++ evsCells (r.set i y)
      rw [hx, hx, hx, hx, ← this]
      rfl
theorem row_cell {w : World} {B g cap n : Nat} {H : List Ev} (h : w.ownsRow B 59 4 (.slice (some ⟨g, 0, none⟩) n cap) n (evsCells H)) (hn : H.length = n) (j : Nat) (hj : j < n) (c : Nat) (hc : c < 4) : w.cell? ⟨g, j * 4 + c, none⟩ = (evCells (H[j]'(by omega)))[c]? := by
  rw [h.cellAt (j * 4 + c) (by omega)]
  exact evsCells_get H j (by omega) c hc
theorem row_four {w : World} {B g cap n : Nat} {H : List Ev} (h : w.ownsRow B 59 4 (.slice (some ⟨g, 0, none⟩) n cap) n (evsCells H)) (hn : H.length = n) (i : Nat) (hi : i < n) :
    ∃ o : Ev, w.cell? ⟨g, i * 4, none⟩ = some (.int .i64 o.k) ∧ w.cell? ⟨g, i * 4 + 1, none⟩ = some (.int .i64 o.t) ∧ w.cell? ⟨g, i * 4 + 2, none⟩ = some (.int .i64 o.v) ∧ w.cell? ⟨g, i * 4 + 3, none⟩ = some (.int .i64 o.x) :=
  ⟨H[i]'(by omega), row_cell h hn i hi 0 (by omega), row_cell h hn i hi 1 (by omega), row_cell h hn i hi 2 (by omega), row_cell h hn i hi 3 (by omega)⟩
theorem row_store {w : World} {B g cap n : Nat} {H : List Ev} (h : w.ownsRow B 59 4 (.slice (some ⟨g, 0, none⟩) n cap) n (evsCells H)) (hn : H.length = n) (i : Nat) (hi : i < n) (y : Ev) :
    ((((w.setCell ⟨g, i * 4, none⟩ (.int .i64 y.k)).setCell ⟨g, i * 4 + 1, none⟩ (.int .i64 y.t)).setCell ⟨g, i * 4 + 2, none⟩ (.int .i64 y.v)).setCell ⟨g, i * 4 + 3, none⟩ (.int .i64 y.x)).ownsRow B 59 4 (.slice (some ⟨g, 0, none⟩) n cap) n (evsCells (H.set i y)) ∧
    Below B w ((((w.setCell ⟨g, i * 4, none⟩ (.int .i64 y.k)).setCell ⟨g, i * 4 + 1, none⟩ (.int .i64 y.t)).setCell ⟨g, i * 4 + 2, none⟩ (.int .i64 y.v)).setCell ⟨g, i * 4 + 3, none⟩ (.int .i64 y.x)) := by
  have hg : B ≤ g := (h.lt g rfl).1
  have r4 := ((((h.stored (i * 4) (.int .i64 y.k)).1.stored (i * 4 + 1) (.int .i64 y.t)).1.stored (i * 4 + 2) (.int .i64 y.v)).1.stored (i * 4 + 3) (.int .i64 y.x)).1
  rw [evsCells_set H i y (by omega)] at r4
  exact ⟨r4, ((((Below.refl B w).setCell (p := ⟨g, i * 4, none⟩) hg _).setCell (p := ⟨g, i * 4 + 1, none⟩) hg _).setCell (p := ⟨g, i * 4 + 2, none⟩) hg _).setCell (p := ⟨g, i * 4 + 3, none⟩) hg _⟩
theorem below_cellsP {B b : Nat} {w : World} (hb : B ≤ b) : ∀ (vs : List Value) (o : Nat) (w' : World), Below B w w' → Below B w (w'.setCells b o vs) := by
  intro vs
  induction vs with
  | nil => intro o w' h; exact h
  | cons v r ih => intro o w' h; exact ih _ _ (h.setCell (p := ⟨b, o, none⟩) hb _)
/-- the cells of n events of nought -/
def zs (n : Nat) : List Value := (Builtin.zeroCells (Value.agg #[.int .i64 0, .int .i64 0, .int .i64 0, .int .i64 0]).cells n).toList
theorem zs_len (n : Nat) : (zs n).length = n * 4 := by simp [zs, Builtin.zeroCells, Value.cells]
theorem zs_one (n : Nat) : ∀ v ∈ zs n, v.oneCell' = true := by
  intro v hv
  simp only [zs, Builtin.zeroCells, Value.cells, Array.toList_map, List.mem_map] at hv
  obtain ⟨i, _, rfl⟩ := hv
  have h4 : (#[Value.int .i64 0, .int .i64 0, .int .i64 0, .int .i64 0] : Array Value).size = 4 := rfl
  rw [h4]
  have : i % 4 = 0 ∨ i % 4 = 1 ∨ i % 4 = 2 ∨ i % 4 = 3 := by omega
  rcases this with h | h | h | h <;> rw [h] <;> rfl
theorem clear_evs (w : World) (ty : TypeId) (g o n c : Nat) (hn : 0 < n) (hc : ∀ j, j < n * 4 → (w.cell? ⟨g, o + j, none⟩).isSome = true) (hf : ∀ j, w.frozen? ⟨g, o + j, none⟩ = false) :
    (Builtin.clear_ #[22] ty #[.slice (some ⟨g, o, none⟩) n c]).run Tryd.prog w = .ok (.tuple #[]) (w.setCells g o (zs n)) := by
  have hst := run_storeCells_cells (P := Tryd.prog) g o (zs n) 0 w (fun j hj => by rw [zs_len] at hj; exact hc j hj) (fun j _ => hf j) (zs_one n)
  simp only [Nat.add_zero] at hst
  obtain ⟨m, rfl⟩ : ∃ m, n = m + 1 := ⟨n - 1, by omega⟩
  unfold zs at hst ⊢
  simp [Builtin.clear_, run_underlying Tryd.underlying22, hst]
theorem ofT_more {h : List Ev} {j : Nat} (hj : j < h.length) (t : Int) : ofT (h.take (j + 1)) t = if h[j].t = t then ofT (h.take j) t ++ [h[j]] else ofT (h.take j) t := by
  unfold ofT
  rw [List.take_succ_eq_append_getElem hj, List.filter_append]
  simp only [List.filter_cons, List.filter_nil, beq_iff_eq]
  split
  · rfl
  · rw [List.append_nil]
theorem ofT_all {h : List Ev} {t : Int} (hall : ∀ y ∈ h, y.t = t) : ofT h t = h := by
  unfold ofT
  rw [List.filter_eq_self]
  intro y hy
  simpa using hall y hy
end Go.Proofs.YtampoikncgagkaaDoor
/- The walk of TableAlone. -/
namespace Go.Proofs.YtampoikncgagkaaDoor.WPlain
end Go.Proofs.YtampoikncgagkaaDoor.WPlain
namespace Go.Proofs.YtampoikncgagkaaDoor.QPlain
end Go.Proofs.YtampoikncgagkaaDoor.QPlain
namespace Go.Proofs.YtampoikncgagkaaDoor.RPlain
end Go.Proofs.YtampoikncgagkaaDoor.RPlain
namespace Go.Proofs.YtampoikncgagkaaDoor
open Go.RowKit WPlain QPlain RPlain

theorem srcT {a : Option Addr} {n c : Nat} (h : a = none → c = 0) (hn : n ≤ c) : Src (.slice a n c) := by
  cases a with
  | none => have := h rfl; exact .inl (by rw [this, show n = 0 from by omega])
  | some p => exact .inr ⟨_, _, _, rfl⟩
theorem check_alone {h : List Ev} (hc : (checkS h).2 = 0) {t : Int} (ht : t ∈ namesOf h) : (checkS (ofT h t)).2 = 0 := by
  have h1 := each_ok (check_agree hc).1
  rw [decide_eq_true hc, List.all_eq_true] at h1
  obtain ⟨e, he, rfl⟩ := (mem_names h t).1 ht
  simpa using h1 e he
end Go.Proofs.YtampoikncgagkaaDoor
/- Plain words: what TableGrows asks of a table. -/
namespace Go.Proofs.YtampoikncgagkaaDoor.WPlain
end Go.Proofs.YtampoikncgagkaaDoor.WPlain
namespace Go.Proofs.YtampoikncgagkaaDoor.QPlain
end Go.Proofs.YtampoikncgagkaaDoor.QPlain
namespace Go.Proofs.YtampoikncgagkaaDoor.RPlain
open WPlain QPlain

theorem find_at {h : List Ev} {i : Nat} (hi : i < (namesOf h).length) : findS (tableS h) (namesOf h)[i] = some i := by
  have hl : i < (tableS h).length := by rw [tableS_len]; exact hi
  refine findS_some hl (by rw [tableS_get hi]; rfl) (fun y hy hc => ?_)
  obtain ⟨j, hj, rfl⟩ := List.mem_take_iff_getElem.1 hy
  have hj2 : j < (namesOf h).length := by omega
  rw [tableS_get hj2] at hc
  have h1 : (namesOf h)[j] = (namesOf h)[i] := hc
  have := (List.getElem_inj (names_nodup h)).1 h1
  omega
theorem rise_at {h : List Ev} {p i : Nat} (hi : i < (namesOf h).length) (hp : p < i) : fstOf h ((namesOf h)[p]'(by omega)) < fstOf h (namesOf h)[i] :=
  List.pairwise_iff_getElem.1 (fst_rise h) p i (by omega) hi hp
/-- answers of a transaction among the first events -/
def cnt (h : List Ev) (t : Int) : Nat := (h.filter (answers t)).length
theorem cnt_ops (h : List Ev) (t : Int) : (opsOf h t).length = cnt h t := ops_len h t
theorem cnt_take {h : List Ev} {k : Nat} (hk : k < h.length) (t : Int) : cnt (h.take (k + 1)) t = cnt (h.take k) t + (if answers t h[k] = true then 1 else 0) := by
  unfold cnt
  rw [List.take_succ_eq_append_getElem hk, List.filter_append, List.length_append]
  congr 1
  simp only [List.filter_cons, List.filter_nil]
  split <;> rfl
theorem cnt_le (h : List Ev) (t : Int) : cnt h t ≤ h.length := List.length_filter_le _ _
theorem names_cut (h : List Ev) (K : Nat) : (namesOf (h.take K)).length ≤ (namesOf h).length ∧ ∀ i (hi : i < (namesOf (h.take K)).length) (hi2 : i < (namesOf h).length), (namesOf (h.take K))[i] = (namesOf h)[i] := by
  have h1 := names_more (h.take K) (h.drop K)
  rw [List.take_append_drop] at h1
  exact ⟨h1.length_le, fun i hi hi2 => h1.getElem hi⟩
theorem tx_cut (h : List Ev) (K : Nat) (t : Int) (ht : t ∈ namesOf (h.take K)) : fstOf h t = fstOf (h.take K) t ∧ lstOf (h.take K) t ≤ lstOf h t ∧ (opsOf (h.take K) t).length ≤ (opsOf h t).length ∧ (opsOf h t).take (opsOf (h.take K) t).length = opsOf (h.take K) t := by
  have h1 := tx_more (h.take K) (h.drop K) t ht
  rw [List.take_append_drop] at h1
  exact ⟨h1.1, h1.2.1, h1.2.2.length_le, (List.prefix_iff_eq_take.1 h1.2.2).symm⟩
theorem check_cut {h : List Ev} (hc : (checkS h).2 = 0) (K : Nat) (hK : K ≤ h.length) : (checkS (h.take K)).2 = 0 := by
  rcases check_take (check_agree hc).1 hK with h1 | h1 | h1
  · rw [h1.2.2]
  · rw [h1.2.2]
  · rw [hc] at h1; exact absurd h1.1 (by decide)
end Go.Proofs.YtampoikncgagkaaDoor.RPlain
