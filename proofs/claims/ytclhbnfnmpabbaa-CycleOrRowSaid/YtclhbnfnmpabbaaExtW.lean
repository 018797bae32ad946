/- A region that draws its order, whose operations only read and whose callees lay blocks of their own: walked once, in the order of the text, at the class of the worlds that lie over one. -/
import Derived.Test.YtclhbnfnmpabbaaKit
import Derived.Deep.QuietTactic
import Derived.Below
namespace Go.Proofs.Ytclhbnfnmpabbaa
open Go.RowKit

/-- a world that lies over w: what lay in w lies as it lay -/
structure Ext (w : World) where
  wld : World
  below : Below w.heap.size w wld
instance (w : World) : Inhabited (Ext w) := ⟨⟨w, Below.refl _ w⟩⟩
theorem wp_region_ext {P : Program} {id : Nat} {Q : Exit → Act → World → Prop} {a : Act} {w : World} {l : List Oper} (hm : P.follows .mixedOrders = true) (hB : Region.lexB .any l.toArray = true)
    (h : wpQuiet P l.toArray (fun w' => ∃ p : Ext w, w' = p.wld) (fun a' => ∀ w', (∃ p : Ext w, w' = p.wld) → Q .normal a' w') l a) : (Code.region id l.toArray true).wp P Q a w :=
  wp_region_quiet (C := fun w' => ∃ p : Ext w, w' = p.wld) hm hB ⟨⟨w.drew, (Below.refl _ w).drew⟩, rfl⟩ (by simpa using h)
theorem calls_ext {P : Program} {f : FuncId} {args : Array Value} {w : World} {p : Ext w} {v : Value}
    (h : ∀ W, Below w.heap.size w W → Calls P f args W fun e w' => e = .returned v ∧ Below W.heap.size W w') : Calls P f args p.wld fun e w'' => e = .returned v ∧ ∃ q : Ext w, w'' = q.wld :=
  (h p.wld p.below).mono fun _ w' ⟨he, hb⟩ => ⟨he, ⟨w', p.below.trans (hb.mono p.below.size)⟩, rfl⟩
/-- a load in such a region, its run laid as an equation -/
theorem quiet_load {P : Program} {ops : Array Oper} {w : World} {Q : Act → Prop} {op : Oper} {rest : List Oper} {a : Act} (hw : Region.wanted op (yielded ops a.tmps) = true) (ty : TypeId) (x : Operand) (ho : op.op = .load ty x) {y v : Value} (hx : a.eval x = y)
    (he : ∀ p : Ext w, (Instr.loadAt ty y).run P p.wld = .ok v p.wld) (h : wpQuiet P ops (fun w' => ∃ p : Ext w, w' = p.wld) Q rest (a.put op.dst v)) : wpQuiet P ops (fun w' => ∃ p : Ext w, w' = p.wld) Q (op :: rest) a := by
  unfold wpQuiet
  rw [if_pos hw]
  refine ⟨v, ?_, h⟩
  rintro W ⟨p, rfl⟩
  unfold Oper.quietAt execOp
  simp only [ho, hx, Sem.run_bind, he p]
  exact ⟨rfl, rfl⟩
end Go.Proofs.Ytclhbnfnmpabbaa
