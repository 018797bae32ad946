/- The table of kinds in memory. -/
import Derived.Test.YtnbecfgoambbpaaDoorKitB
import Derived.Test.YtnbecfgoambbpaaDoorWalkF
import Derived.Laws.Rows
namespace Go.Proofs.YtnbecfgoambbpaaDoor
open Go.RowKit WPlain

/-- a whole array or struct read out of known cells -/
theorem run_loadVar_cells {P : Program} (w : World) (g : Nat) (ty : TypeId) (cs : Array Value) (d : TypeDesc) (hc : ∀ j v, cs[j]? = some v → w.cell? ⟨g, j, none⟩ = some v)
    (hu : P.underlying ty = some d) (hd : (match d with | .struct _ | .array _ _ => true | _ => false) = true) (hi : (P.info? ty).map (·.size) = some cs.size) :
    (loadVar ty ⟨g, 0, none⟩).run P w = .ok (.agg cs) w := by
  have hl : (loadCells ⟨g, 0, none⟩ cs.toList.length).run P w = .ok cs.toList.toArray w :=
    run_loadCells_list (P := P) w ⟨g, 0, none⟩ cs.toList (fun j v hv => by
      have hadd : (⟨g, 0, none⟩ : Addr).add j = ⟨g, j, none⟩ := by unfold Addr.add; split <;> simp_all
      rw [hadd]
      exact hc j v (by simpa using hv))
  obtain ⟨i, hi1, hi2⟩ := Option.map_eq_some_iff.1 hi
  have hagg : (isAgg ty).run P w = .ok true w := by
    unfold isAgg
    rw [Sem.run_bind, run_underlying hu w]
    cases d <;> simp_all
  simp only [Array.length_toList, Array.toArray_toList] at hl
  simp [loadVar, Sem.run_bind, hagg, sizeOf, typeInfo, hi1, hi2, hl]
theorem wpList_load_cells {P : Program} {ops : Array Oper} {rest : List Oper} {o : Oper} {a : Act} {w : World} {Q : Exit → Act → World → Prop} (hgd : o.guard = none) (ty : TypeId) (x : Operand) (ho : o.op = .load ty x)
    (g : Nat) (hx : a.eval x = .pointer (some ⟨g, 0, none⟩)) (cs : Array Value) (d : TypeDesc) (hc : ∀ j v, cs[j]? = some v → w.cell? ⟨g, j, none⟩ = some v)
    (hu : P.underlying ty = some d) (hd : (match d with | .struct _ | .array _ _ => true | _ => false) = true) (hi : (P.info? ty).map (·.size) = some cs.size)
    (h : wpList P ops Q rest (a.put o.dst (.agg cs)) w) : wpList P ops Q (o :: rest) a w :=
  wpList_plain hgd fun _ hK => by
    unfold Oper.wp execOp
    simp only [ho, hx, Instr.loadAt, Instr.sureAddr, Sem.run_bind, Sem.run_pure, Result.andThen_ok, run_loadVar_cells w g ty cs d hc hu hd hi]
    exact hK _ _ h

/-- a kind's word as bytes -/
def kbytes (k : Nat) : ByteArray := ⟨(kwords.getD k []).toArray⟩
def kindCell (k : Nat) : List Value := [.string (kbytes k), .bool (hasV k), .bool (hasX k)]
def kindCells : Array Value := ((List.range 10).flatMap kindCell).toArray
/-- The program's table of kinds lies in its variable. -/
def HasK (w : World) : Prop := ∀ j v, kindCells[j]? = some v → w.cell? ⟨0, j, none⟩ = some v
theorem HasK.lt {w : World} (h : HasK w) : 0 < w.heap.size := cell_lt (h 0 _ (by rfl))
theorem HasK.later {B : Nat} {w w' : World} (h : HasK w) (hb : Below B w w') (hB : w.heap.size ≤ B) : HasK w' := by
  have hlt := h.lt
  intro j v hj
  exact (hb.cell (p := ⟨0, j, none⟩) (Nat.lt_of_lt_of_le hlt hB)).trans (h j v hj)
theorem kindCells_size : kindCells.size = 30 := by decide
theorem kindCells_at (k : Nat) (h : k < 10) : kindCells[k * 3]? = some (.string (kbytes k)) ∧ kindCells[k * 3 + 1]? = some (.bool (hasV k)) ∧ kindCells[k * 3 + 2]? = some (.bool (hasX k)) := by
  match k, h with
  | 0, _ => exact ⟨rfl, rfl, rfl⟩
  | 1, _ => exact ⟨rfl, rfl, rfl⟩
  | 2, _ => exact ⟨rfl, rfl, rfl⟩
  | 3, _ => exact ⟨rfl, rfl, rfl⟩
  | 4, _ => exact ⟨rfl, rfl, rfl⟩
  | 5, _ => exact ⟨rfl, rfl, rfl⟩
  | 6, _ => exact ⟨rfl, rfl, rfl⟩
  | 7, _ => exact ⟨rfl, rfl, rfl⟩
  | 8, _ => exact ⟨rfl, rfl, rfl⟩
  | 9, _ => exact ⟨rfl, rfl, rfl⟩
theorem HasK.word {w : World} (h : HasK w) {k : Nat} (hk : k < 10) : w.cell? ⟨0, k * 3, none⟩ = some (.string (kbytes k)) := h _ _ (kindCells_at k hk).1
theorem HasK.hasV {w : World} (h : HasK w) {k : Nat} (hk : k < 10) : w.cell? ⟨0, k * 3 + 1, none⟩ = some (.bool (WPlain.hasV k)) := h _ _ (kindCells_at k hk).2.1
theorem HasK.hasX {w : World} (h : HasK w) {k : Nat} (hk : k < 10) : w.cell? ⟨0, k * 3 + 2, none⟩ = some (.bool (WPlain.hasX k)) := h _ _ (kindCells_at k hk).2.2

theorem kind_i0 (w : World) : (Instr.index 85 (.agg kindCells) (.int .i64 ((0 : Nat) : Int))).run Tryd.prog w = .ok (.agg #[.string (kbytes 0), .bool (hasV 0), .bool (hasX 0)]) w := by kernel_rfl
theorem kind_i1 (w : World) : (Instr.index 85 (.agg kindCells) (.int .i64 ((1 : Nat) : Int))).run Tryd.prog w = .ok (.agg #[.string (kbytes 1), .bool (hasV 1), .bool (hasX 1)]) w := by kernel_rfl
theorem kind_i2 (w : World) : (Instr.index 85 (.agg kindCells) (.int .i64 ((2 : Nat) : Int))).run Tryd.prog w = .ok (.agg #[.string (kbytes 2), .bool (hasV 2), .bool (hasX 2)]) w := by kernel_rfl
theorem kind_i3 (w : World) : (Instr.index 85 (.agg kindCells) (.int .i64 ((3 : Nat) : Int))).run Tryd.prog w = .ok (.agg #[.string (kbytes 3), .bool (hasV 3), .bool (hasX 3)]) w := by kernel_rfl
theorem kind_i4 (w : World) : (Instr.index 85 (.agg kindCells) (.int .i64 ((4 : Nat) : Int))).run Tryd.prog w = .ok (.agg #[.string (kbytes 4), .bool (hasV 4), .bool (hasX 4)]) w := by kernel_rfl
theorem kind_i5 (w : World) : (Instr.index 85 (.agg kindCells) (.int .i64 ((5 : Nat) : Int))).run Tryd.prog w = .ok (.agg #[.string (kbytes 5), .bool (hasV 5), .bool (hasX 5)]) w := by kernel_rfl
theorem kind_i6 (w : World) : (Instr.index 85 (.agg kindCells) (.int .i64 ((6 : Nat) : Int))).run Tryd.prog w = .ok (.agg #[.string (kbytes 6), .bool (hasV 6), .bool (hasX 6)]) w := by kernel_rfl
theorem kind_i7 (w : World) : (Instr.index 85 (.agg kindCells) (.int .i64 ((7 : Nat) : Int))).run Tryd.prog w = .ok (.agg #[.string (kbytes 7), .bool (hasV 7), .bool (hasX 7)]) w := by kernel_rfl
theorem kind_i8 (w : World) : (Instr.index 85 (.agg kindCells) (.int .i64 ((8 : Nat) : Int))).run Tryd.prog w = .ok (.agg #[.string (kbytes 8), .bool (hasV 8), .bool (hasX 8)]) w := by kernel_rfl
theorem kind_i9 (w : World) : (Instr.index 85 (.agg kindCells) (.int .i64 ((9 : Nat) : Int))).run Tryd.prog w = .ok (.agg #[.string (kbytes 9), .bool (hasV 9), .bool (hasX 9)]) w := by kernel_rfl
theorem kind_index (k : Nat) (h : k < 10) (w : World) : (Instr.index 85 (.agg kindCells) (.int .i64 k)).run Tryd.prog w = .ok (.agg #[.string (kbytes k), .bool (hasV k), .bool (hasX k)]) w := by
  match k, h with
  | 0, _ => with_reducible exact kind_i0 w
  | 1, _ => with_reducible exact kind_i1 w
  | 2, _ => with_reducible exact kind_i2 w
  | 3, _ => with_reducible exact kind_i3 w
  | 4, _ => with_reducible exact kind_i4 w
  | 5, _ => with_reducible exact kind_i5 w
  | 6, _ => with_reducible exact kind_i6 w
  | 7, _ => with_reducible exact kind_i7 w
  | 8, _ => with_reducible exact kind_i8 w
  | 9, _ => with_reducible exact kind_i9 w
theorem kind_size : (Tryd.prog.info? 85).map (·.size) = some kindCells.size := by kernel_rfl
end Go.Proofs.YtnbecfgoambbpaaDoor
