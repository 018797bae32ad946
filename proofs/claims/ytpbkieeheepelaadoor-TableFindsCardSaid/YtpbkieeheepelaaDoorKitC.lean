/- The table of kinds in memory. -/
import Derived.Test.YtpbkieeheepelaaDoorKitB
import Derived.Test.YtpbkieeheepelaaDoorWalkA
import Derived.Test.YtpbkieeheepelaaDoorPlainB
import Derived.Laws.Rows
namespace Go.Proofs.YtpbkieeheepelaaDoor.WPlain
end Go.Proofs.YtpbkieeheepelaaDoor.WPlain
namespace Go.Proofs.YtpbkieeheepelaaDoor
open Go.RowKit WPlain

/-- a kind's word as bytes -/
def kbytes (k : Nat) : ByteArray := ⟨(kwords.getD k []).toArray⟩
def kindCell (k : Nat) : List Value := [.string (kbytes k), .bool (hasV k), .bool (hasX k)]
def kindCells : Array Value := ((List.range 10).flatMap kindCell).toArray
/-- The program's table of kinds lies in its variable. -/
def HasK (w : World) : Prop := ∀ j v, kindCells[j]? = some v → w.cell? ⟨0, j, none⟩ = some v
theorem HasK.lt {w : World} (h : HasK w) : 0 < w.heap.size := cell_lt (h 0 _ (by rfl))
theorem HasK.later {B : Nat} {w w' : World} (h : HasK w) (hb : Below B w w') (hB : w.heap.size ≤ B) : HasK w' := by
  have hlt := h.lt
  intro j v hj
  exact (hb.cell (p := ⟨0, j, none⟩) (Nat.lt_of_lt_of_le hlt hB)).trans (h j v hj)
theorem kindCells_size : kindCells.size = 30 := by decide
theorem kindCells_at (k : Nat) (h : k < 10) : kindCells[k * 3]? = some (.string (kbytes k)) ∧ kindCells[k * 3 + 1]? = some (.bool (hasV k)) ∧ kindCells[k * 3 + 2]? = some (.bool (hasX k)) := by
  match k, h with
  | 0, _ => exact ⟨rfl, rfl, rfl⟩
  | 1, _ => exact ⟨rfl, rfl, rfl⟩
  | 2, _ => exact ⟨rfl, rfl, rfl⟩
  | 3, _ => exact ⟨rfl, rfl, rfl⟩
  | 4, _ => exact ⟨rfl, rfl, rfl⟩
  | 5, _ => exact ⟨rfl, rfl, rfl⟩
  | 6, _ => exact ⟨rfl, rfl, rfl⟩
  | 7, _ => exact ⟨rfl, rfl, rfl⟩
  | 8, _ => exact ⟨rfl, rfl, rfl⟩
  | 9, _ => exact ⟨rfl, rfl, rfl⟩
theorem HasK.word {w : World} (h : HasK w) {k : Nat} (hk : k < 10) : w.cell? ⟨0, k * 3, none⟩ = some (.string (kbytes k)) := h _ _ (kindCells_at k hk).1
theorem HasK.hasV {w : World} (h : HasK w) {k : Nat} (hk : k < 10) : w.cell? ⟨0, k * 3 + 1, none⟩ = some (.bool (WPlain.hasV k)) := h _ _ (kindCells_at k hk).2.1
theorem HasK.hasX {w : World} (h : HasK w) {k : Nat} (hk : k < 10) : w.cell? ⟨0, k * 3 + 2, none⟩ = some (.bool (WPlain.hasX k)) := h _ _ (kindCells_at k hk).2.2

end Go.Proofs.YtpbkieeheepelaaDoor
