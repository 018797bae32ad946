/- The walks of package order's pairs and After: a loop over a function. -/
import Derived.Test.YtclhbnfnmpabbaaOrdC
import Derived.Test.YtclhbnfnmpabbaaOrdK
import Derived.RangeFuncBox
import Derived.RangeFuncLeaves
import Derived.Shelf.Abstract
import Derived.WalkKit
import Derived.OwnWalkIn
import Derived.TacticsInMore
import Derived.LoopNIn
import Derived.LoopIn
import Derived.Deep.OwnRows
namespace Go.Proofs.Ytclhbnfnmpabbaa.WPlain
end Go.Proofs.Ytclhbnfnmpabbaa.WPlain
namespace Go.Proofs.Ytclhbnfnmpabbaa.QPlain
end Go.Proofs.Ytclhbnfnmpabbaa.QPlain
namespace Go.Proofs.Ytclhbnfnmpabbaa.RPlain
end Go.Proofs.Ytclhbnfnmpabbaa.RPlain
namespace Go.Proofs.Ytclhbnfnmpabbaa
open Go.RowKit Go.Shelf WPlain QPlain RPlain

attribute [local go_sem] Oper.semAt_some

theorem infoU : (Try.prog.info? 39).map (fun i => (i.zero, i.size, i.bytes)) = some (some (.int .u32 0), 1, 4) := by kernel_rfl
def u32s (L : List Nat) : List Value := L.map fun (x : Nat) => Value.int .u32 (x : Int)
theorem Rd.of_at {w : World} {b : Nat} {L : List Value} {t : TypeId} (c : Nat) (h : At w b L.toArray t) : Rd w (.slice (some ⟨b, 0, none⟩) L.length c) L := by
  by_cases h0 : 0 < L.length
  · refine .inr ⟨h0, b, 0, c, rfl, fun j u hu => ?_⟩
    rw [Nat.zero_add]
    exact h.cell (by simpa using hu)
  · have : L = [] := List.length_eq_zero_iff.1 (by omega)
    subst this
    exact .inl ⟨rfl, _, _, rfl⟩
theorem At.ownK {X Y : World} {row : Option Nat} {b : Nat} {cs : Array Value} {t : TypeId} {B : Nat} (h : At X b cs t) (hg : X.grownBy Y row) (hr : ∀ r, row = some r → B ≤ r ∧ ∃ o : Obj, X.heap[r]? = some o ∧ o.isCells = false) : At Y b cs t :=
  h.grown hg (fun e => by obtain ⟨_, o, ho, hc⟩ := hr _ e.symm; rw [show X.heap[b]? = _ from h] at ho; cases ho; cases hc)
theorem cell_on {w w' : World} (hb : Below w.heap.size w w') {p : Addr} {v : Value} (h : w.cell? p = some v) : w'.cell? p = some v := (hb.cell (World.block_lt_of_cell? w _ h)).trans h
theorem keeps_below {B : Nat} {W W' : World} (hb : Below W.heap.size W W') : KeepsFrom B W W' := ⟨hb.size, fun k _ _ hk _ => (hb.block k (Array.getElem?_eq_some_iff.1 hk).1).trans hk⟩
end Go.Proofs.Ytclhbnfnmpabbaa
