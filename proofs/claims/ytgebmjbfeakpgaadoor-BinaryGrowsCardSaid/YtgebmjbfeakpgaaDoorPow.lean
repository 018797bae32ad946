/- The library's table of powers in later worlds. -/
import Derived.Test.YtgebmjbfeakpgaaDoorWalkK
namespace Go.Proofs.YtgebmjbfeakpgaaDoor.WPlain
end Go.Proofs.YtgebmjbfeakpgaaDoor.WPlain
namespace Go.Proofs.YtgebmjbfeakpgaaDoor
open Go.RowKit WPlain

theorem gPow : Tryd.prog.globalNamed "internal/strconv.uint64pow10" = some 2 := by kernel_rfl
theorem TabIs.later {w w' : World} {B : Nat} (h : Lib.TabIs Tryd.prog w "internal/strconv.uint64pow10" .u64 Lib.pow10Tab) (hb : Below B w w') (hB : w.heap.size ≤ B) : Lib.TabIs Tryd.prog w' "internal/strconv.uint64pow10" .u64 Lib.pow10Tab := by
  have h0 := h.cell gPow 0 (by decide)
  exact var?_below hb gPow (Nat.lt_of_lt_of_le (World.block_lt_of_cell? w _ h0) hB) h

end Go.Proofs.YtgebmjbfeakpgaaDoor
