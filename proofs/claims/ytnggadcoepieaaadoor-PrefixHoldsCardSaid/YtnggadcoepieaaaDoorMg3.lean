/- Merged: WalkA, TxtB, KitC. -/
import Derived.Test.YtnggadcoepieaaaDoorRows
import Derived.Test.YtnggadcoepieaaaDoorShelf
import Derived.Test.YtnggadcoepieaaaDoorKit
import Derived.Test.YtnggadcoepieaaaDoorMg1
import Derived.Below
import Derived.Deep.QuietTactic
import Derived.BigQuiet
import Derived.Laws.Rows
/- The walks of package word's Words and of what it calls. -/
namespace Go.Proofs.YtnggadcoepieaaaDoor.WPlain
end Go.Proofs.YtnggadcoepieaaaDoor.WPlain
namespace Go.Proofs.YtnggadcoepieaaaDoor
open Go.RowKit WPlain

theorem info3 : (Tryd.prog.info? 3).map (fun i => (i.zero, i.size, i.bytes)) = some (some (.int .i64 0), 1, 8) := by kernel_rfl

end Go.Proofs.YtnggadcoepieaaaDoor
/- The walks of package text's within, place and number. -/
namespace Go.Proofs.YtnggadcoepieaaaDoor.WPlain
end Go.Proofs.YtnggadcoepieaaaDoor.WPlain
namespace Go.Proofs.YtnggadcoepieaaaDoor
open Go.RowKit WPlain

theorem within_any (n lo hi : Int) (w : World) :
    Calls Tryd.prog 49 #[.int .i64 n, .int .i64 lo, .int .i64 hi] w fun e w' => e = .returned (.bool (inB n lo hi)) ∧ w = w' := by
  unfold inB
  go_enter Tryd.func49, Tryd.ntmps49
  go_wp2
  all_goals
    go_ret
    exact ⟨ret_bool (by first | (simp [*]; done) | (simp; omega)), rfl⟩

end Go.Proofs.YtnggadcoepieaaaDoor
/- The table of kinds in memory. -/
namespace Go.Proofs.YtnggadcoepieaaaDoor.WPlain
end Go.Proofs.YtnggadcoepieaaaDoor.WPlain
namespace Go.Proofs.YtnggadcoepieaaaDoor
open Go.RowKit WPlain

/-- a kind's word as bytes -/
def kbytes (k : Nat) : ByteArray := ⟨(kwords.getD k []).toArray⟩
def kindCell (k : Nat) : List Value := [.string (kbytes k), .bool (hasV k), .bool (hasX k)]
def kindCells : Array Value := ((List.range 10).flatMap kindCell).toArray
/-- The program's table of kinds lies in its variable. -/
def HasK (w : World) : Prop := ∀ j v, kindCells[j]? = some v → w.cell? ⟨0, j, none⟩ = some v
theorem HasK.lt {w : World} (h : HasK w) : 0 < w.heap.size := cell_lt (h 0 _ (by rfl))
theorem HasK.later {B : Nat} {w w' : World} (h : HasK w) (hb : Below B w w') (hB : w.heap.size ≤ B) : HasK w' := by
  have hlt := h.lt
  intro j v hj
  exact (hb.cell (p := ⟨0, j, none⟩) (Nat.lt_of_lt_of_le hlt hB)).trans (h j v hj)
theorem kindCells_size : kindCells.size = 30 := by decide
theorem kindCells_at (k : Nat) (h : k < 10) : kindCells[k * 3]? = some (.string (kbytes k)) ∧ kindCells[k * 3 + 1]? = some (.bool (hasV k)) ∧ kindCells[k * 3 + 2]? = some (.bool (hasX k)) := by
  match k, h with
  | 0, _ => exact ⟨rfl, rfl, rfl⟩
  | 1, _ => exact ⟨rfl, rfl, rfl⟩
  | 2, _ => exact ⟨rfl, rfl, rfl⟩
  | 3, _ => exact ⟨rfl, rfl, rfl⟩
  | 4, _ => exact ⟨rfl, rfl, rfl⟩
  | 5, _ => exact ⟨rfl, rfl, rfl⟩
  | 6, _ => exact ⟨rfl, rfl, rfl⟩
  | 7, _ => exact ⟨rfl, rfl, rfl⟩
  | 8, _ => exact ⟨rfl, rfl, rfl⟩
  | 9, _ => exact ⟨rfl, rfl, rfl⟩
theorem HasK.word {w : World} (h : HasK w) {k : Nat} (hk : k < 10) : w.cell? ⟨0, k * 3, none⟩ = some (.string (kbytes k)) := h _ _ (kindCells_at k hk).1
theorem HasK.hasV {w : World} (h : HasK w) {k : Nat} (hk : k < 10) : w.cell? ⟨0, k * 3 + 1, none⟩ = some (.bool (WPlain.hasV k)) := h _ _ (kindCells_at k hk).2.1
theorem HasK.hasX {w : World} (h : HasK w) {k : Nat} (hk : k < 10) : w.cell? ⟨0, k * 3 + 2, none⟩ = some (.bool (WPlain.hasX k)) := h _ _ (kindCells_at k hk).2.2

end Go.Proofs.YtnggadcoepieaaaDoor
