/- The walks of package word's Words and of what it calls. -/
import Derived.Test.YtgebmjbfeakpgaaDoorRows
import Derived.Test.YtgebmjbfeakpgaaDoorShelf
import Derived.Test.YtgebmjbfeakpgaaDoorKit
import Derived.Below
namespace Go.Proofs.YtgebmjbfeakpgaaDoor.WPlain
end Go.Proofs.YtgebmjbfeakpgaaDoor.WPlain
namespace Go.Proofs.YtgebmjbfeakpgaaDoor
open Go.RowKit WPlain

/-- The library's variable MaxLen holds some int. -/
def HasM (w : World) : Prop := ∃ m, w.cell? ⟨1, 0, none⟩ = some (.int .i64 m)
theorem HasM.later {B : Nat} {w w' : World} (h : HasM w) (hb : Below B w w') (hB : w.heap.size ≤ B) : HasM w' := by
  obtain ⟨m, hm⟩ := h
  exact ⟨m, (hb.cell (p := ⟨1, 0, none⟩) (Nat.lt_of_lt_of_le (World.block_lt_of_cell? w _ hm) hB)).trans hm⟩

theorem info9 : (Tryd.prog.info? 9).map (fun i => (i.zero, i.size, i.bytes)) = some (some (.string ByteArray.empty), 1, 16) := by kernel_rfl
theorem info3 : (Tryd.prog.info? 3).map (fun i => (i.zero, i.size, i.bytes)) = some (some (.int .i64 0), 1, 8) := by kernel_rfl

end Go.Proofs.YtgebmjbfeakpgaaDoor
