/- Merged: TabI, TabK, TabM, TabN. -/
import Derived.Test.YtampoikncgagkaaDoorTabD
import Derived.Test.YtampoikncgagkaaDoorTabF
import Derived.Test.YtampoikncgagkaaDoorTabJ
import Derived.Deep.QuietTactic
import Derived.BigQuiet
import Derived.Laws.StructEq
/- The walks of the reference's OpsSame and of slices.Equal, at two rows of reads and writes. (Written by gen_tabI.py.) -/
namespace Go.Proofs.YtampoikncgagkaaDoor.WPlain
end Go.Proofs.YtampoikncgagkaaDoor.WPlain
namespace Go.Proofs.YtampoikncgagkaaDoor.RPlain
end Go.Proofs.YtampoikncgagkaaDoor.RPlain
namespace Go.Proofs.YtampoikncgagkaaDoor
open Go.RowKit WPlain RPlain

theorem op_dec (a b : Rwo) : decide (a = b) = (a.w == b.w && (a.v == b.v && a.x == b.x)) := by
  obtain ⟨aw, av, ax⟩ := a
  obtain ⟨bw, bv, bx⟩ := b
  rw [Bool.eq_iff_iff]
  simp
theorem run_neq_op (a b : Rwo) (w : World) : (binOp .neq 76 (.agg #[.bool a.w, .int .i64 a.v, .int .i64 a.x]) (.agg #[.bool b.w, .int .i64 b.v, .int .i64 b.x])).run Tryd.prog w = .ok (.bool (!decide (a = b))) w := by
  have u3 := Tryd.underlying3
  have a3 := Tryd.isAgg3
  have z3 := Tryd.sizeOf3
  have u4 := Tryd.underlying4
  have a4 := Tryd.isAgg4
  have z4 := Tryd.sizeOf4
  have hS : Tryd.prog.underlying 76 = some (.struct (Tryd.prog.fieldsOf 76)) := by kernel_rfl
  have hp : Tryd.prog.stoodInHeld 76 = false := by kernel_rfl
  rw [op_dec, run_neq_struct, show (10000 : Nat) = 9999 + 1 from rfl, run_equalIn_agg w 9999 76 _ _ hS hp]
  simp only [Program.fieldsOf, Tryd.underlying76]
  go_simp
  by_cases h1 : a.w = b.w <;> by_cases h2 : a.v = b.v <;> by_cases h3 : a.x = b.x <;> simp [h1, h2, h3]
theorem run_eql_op (a b : Rwo) (w : World) : (binOp .eql 76 (.agg #[.bool a.w, .int .i64 a.v, .int .i64 a.x]) (.agg #[.bool b.w, .int .i64 b.v, .int .i64 b.x])).run Tryd.prog w = .ok (.bool (decide (a = b))) w := by
  have u3 := Tryd.underlying3
  have a3 := Tryd.isAgg3
  have z3 := Tryd.sizeOf3
  have u4 := Tryd.underlying4
  have a4 := Tryd.isAgg4
  have z4 := Tryd.sizeOf4
  have hS : Tryd.prog.underlying 76 = some (.struct (Tryd.prog.fieldsOf 76)) := by kernel_rfl
  have hp : Tryd.prog.stoodInHeld 76 = false := by kernel_rfl
  rw [op_dec, run_eql_struct, show (10000 : Nat) = 9999 + 1 from rfl, run_equalIn_agg w 9999 76 _ _ hS hp]
  simp only [Program.fieldsOf, Tryd.underlying76]
  go_simp
  by_cases h1 : a.w = b.w <;> by_cases h2 : a.v = b.v <;> by_cases h3 : a.x = b.x <;> simp [h1, h2, h3]
theorem run_guard_op (op : BinOp) (p q : Operand) (xs ys : Array Value) (w : World) : (eqGuard op 76 p q (.agg xs) (.agg ys)).run Tryd.prog w = .ok () w :=
  run_eqGuard_agg w op 76 p q xs ys (by kernel_rfl)
end Go.Proofs.YtampoikncgagkaaDoor
/- The walks of the reference's Same, of isSame, of slices.EqualFunc with it, and of Like. (Written by gen_tabK.py.) -/
namespace Go.Proofs.YtampoikncgagkaaDoor.WPlain
end Go.Proofs.YtampoikncgagkaaDoor.WPlain
namespace Go.Proofs.YtampoikncgagkaaDoor.RPlain
end Go.Proofs.YtampoikncgagkaaDoor.RPlain
namespace Go.Proofs.YtampoikncgagkaaDoor
open Go.RowKit WPlain RPlain

theorem Opv.drewN {w : World} {v : Value} {l : List Rwo} (h : Opv w v l) (n : Nat) : Opv (w.drewN n) v l := h
theorem Txs.drewN {w : World} {v : Value} {l : List Tx} (h : Txs w v l) (n : Nat) : Txs (w.drewN n) v l := h
theorem quiet_at {P : Program} {f : FuncId} {args : Array Value} {w : World} {n x : Nat} {v : Value}
    (h : Calls P f args (w.drewN (n + x)) fun e w' => e = .returned v ∧ ∃ z, w' = (w.drewN (n + x)).drewN z) : Calls P f args (w.drewN (n + x)) fun e w'' => e = .returned v ∧ ∃ m, w'' = w.drewN (n + m) :=
  h.mono fun _ _ ⟨he, z, hz⟩ => ⟨he, x + z, by rw [hz, World.drewN_drewN, Nat.add_assoc]⟩
theorem tx_ne {X Y : Tx} (h : X.n ≠ Y.n ∨ X.f ≠ Y.f ∨ X.l ≠ Y.l ∨ X.s ≠ Y.s ∨ X.o ≠ Y.o) : X ≠ Y := by
  rintro rfl
  simp at h
theorem tx_eq {X Y : Tx} (hn : X.n = Y.n) (hf : X.f = Y.f) (hl : X.l = Y.l) (hs : X.s = Y.s) (ho : X.o = Y.o) : X = Y := by
  cases X; cases Y; simp_all
theorem Txs.opened {w : World} {v : Value} {l : List Tx} (h : Txs w v l) (h0 : 0 < l.length) : ∃ b o c, v = .slice (some ⟨b, o, none⟩) l.length c := by
  obtain ⟨ps, rfl, hr, _⟩ := h
  rcases hr with ⟨rfl, _⟩ | ⟨_, b, o, c, rfl, _⟩
  · simp at h0
  · exact ⟨b, o, c, by simp⟩
theorem below_drN {B : Nat} {w w' : World} (h : Below B w w') (n : Nat) : Below B w (w'.drewN n) := ⟨h.os, h.tape, h.output, h.size, h.block⟩
end Go.Proofs.YtampoikncgagkaaDoor
/- The walks of Find, of slices.IndexFunc with its closure, and of the reference's Find. -/
namespace Go.Proofs.YtampoikncgagkaaDoor.WPlain
end Go.Proofs.YtampoikncgagkaaDoor.WPlain
namespace Go.Proofs.YtampoikncgagkaaDoor.RPlain
end Go.Proofs.YtampoikncgagkaaDoor.RPlain
namespace Go.Proofs.YtampoikncgagkaaDoor
open Go.RowKit WPlain RPlain

/-- the place of the first transaction of a name -/
def findS (l : List Tx) (n : Int) : Option Nat := l.findIdx? (fun t => t.n == n)
theorem findS_some {l : List Tx} {n : Int} {k : Nat} (hk : k < l.length) (h1 : l[k].n = n) (h2 : ∀ y ∈ l.take k, y.n ≠ n) : findS l n = some k := by
  unfold findS
  rw [List.findIdx?_eq_some_iff_getElem]
  refine ⟨hk, by simpa using h1, fun j hj => ?_⟩
  have := h2 l[j] (List.mem_take_iff_getElem.2 ⟨j, by omega, rfl⟩)
  simpa using this
theorem findS_none {l : List Tx} {n : Int} (h2 : ∀ y ∈ l, y.n ≠ n) : findS l n = none := by
  unfold findS
  rw [List.findIdx?_eq_none_iff]
  intro y hy
  simpa using h2 y hy
theorem more_ne {l : List Tx} {n : Int} {k : Nat} (hk : k < l.length) (h1 : l[k].n ≠ n) (h2 : ∀ y ∈ l.take k, y.n ≠ n) : ∀ y ∈ l.take (k + 1), y.n ≠ n := by
  intro y hy
  rw [List.take_succ_eq_append_getElem hk] at hy
  rcases List.mem_append.1 hy with hy | hy
  · exact h2 y hy
  · rw [List.mem_singleton.1 hy]; exact h1
end Go.Proofs.YtampoikncgagkaaDoor
/- The walks of the laws' alive, and of TableTells. -/
namespace Go.Proofs.YtampoikncgagkaaDoor.WPlain
end Go.Proofs.YtampoikncgagkaaDoor.WPlain
namespace Go.Proofs.YtampoikncgagkaaDoor.QPlain
end Go.Proofs.YtampoikncgagkaaDoor.QPlain
namespace Go.Proofs.YtampoikncgagkaaDoor.RPlain
end Go.Proofs.YtampoikncgagkaaDoor.RPlain
namespace Go.Proofs.YtampoikncgagkaaDoor
open Go.RowKit WPlain QPlain RPlain

theorem evs_at {w : World} {b : Nat} {t : TypeId} (c : Nat) (l : List Ev) (h : At w b (evsCells l).toArray t) : Evs w (.slice (some ⟨b, 0, none⟩) l.length c) l := by
  by_cases h0 : 0 < l.length
  · refine .inr ⟨h0, b, 0, c, rfl, h.lt, fun i hi => ?_⟩
    have hq : ∀ j, j < 4 → w.cell? ⟨b, 0 + i * 4 + j, none⟩ = (evCells l[i])[j]? := by
      intro j hj
      have h1 := evsCells_get l i hi j hj
      have hj4 : j < (evCells l[i]).length := hj
      rw [List.getElem?_eq_getElem hj4] at h1 ⊢
      rw [Nat.zero_add]
      exact h.cell (by simpa using h1)
    exact ⟨hq 0 (by omega), hq 1 (by omega), hq 2 (by omega), hq 3 (by omega)⟩
  · have : l = [] := List.length_eq_zero_iff.1 (by omega)
    subst this
    exact Evs.nil _ _ _
theorem tableAlive : tableS [⟨0, 1, 0, 0⟩, ⟨1, 1, 0, 0⟩, ⟨2, 1, 2, 0⟩, ⟨3, 1, 0, 5⟩] = [⟨1, 0, 3, 0, [⟨false, 2, 5⟩]⟩] := by decide +kernel
theorem ops_small {h : List Ev} (hl : h.length ≤ 65536) : ∀ X ∈ tableS h, X.o.length ≤ 65536 := by
  intro X hX
  obtain ⟨t, _, rfl⟩ := List.mem_map.1 hX
  exact Nat.le_trans (ops_le h t) hl
theorem table_small {h : List Ev} (hl : h.length ≤ 65536) : (tableS h).length ≤ 65536 := by
  rw [tableS_len]
  exact Nat.le_trans (namesOf_len h) hl
end Go.Proofs.YtampoikncgagkaaDoor
