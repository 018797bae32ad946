/- Small laws of memory, of no program: slices that read as lists, rows of structs. -/
import Derived.Test.YtclhbnfnmpabbaaKit
import Derived.Laws.NewBlocks
import Derived.Lib.ItoaLen
import Derived.Below
import Derived.Lib.Strings
namespace Go.Proofs.Ytclhbnfnmpabbaa.WPlain
end Go.Proofs.Ytclhbnfnmpabbaa.WPlain
namespace Go.Proofs.Ytclhbnfnmpabbaa
open Go.RowKit WPlain

theorem cell_lt {w : World} {b o : Nat} {u : Value} (h : w.cell? ⟨b, o, none⟩ = some u) : b < w.heap.size := World.block_lt_of_cell? w _ h
theorem Rd.opened {w : World} {v : Value} {xs : List Value} (h : Rd w v xs) (h0 : 0 < xs.length) :
    ∃ b o c, v = .slice (some ⟨b, o, none⟩) xs.length c ∧ b < w.heap.size ∧ ∀ i u, xs[i]? = some u → w.cell? ⟨b, o + i, none⟩ = some u := by
  rcases h with ⟨rfl, _⟩ | ⟨_, b, o, c, rfl, hc⟩
  · simp at h0
  · exact ⟨b, o, c, rfl, cell_lt (hc 0 xs[0] (List.getElem?_eq_getElem h0)), hc⟩

end Go.Proofs.Ytclhbnfnmpabbaa
