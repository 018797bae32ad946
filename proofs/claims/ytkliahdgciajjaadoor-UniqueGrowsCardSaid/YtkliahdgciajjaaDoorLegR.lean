/- Plain words of LegalShort; maps of ints to ints, and of ints to bools, of the call's own. -/
import Derived.Test.YtkliahdgciajjaaDoorMg12
import Derived.Test.YtkliahdgciajjaaDoorMg5
import Derived.Test.YtkliahdgciajjaaDoorPrpM
import Derived.Test.YtkliahdgciajjaaDoorMg11
import Derived.Test.YtkliahdgciajjaaDoorRows
import Derived.Test.YtkliahdgciajjaaDoorTabF
import Derived.Test.YtkliahdgciajjaaDoorPrpJ
import Derived.Test.YtkliahdgciajjaaDoorShelf
import Derived.Test.YtkliahdgciajjaaDoorTabE
import Derived.Laws.OwnMore
import Derived.Laws.IdiomCopy
import Derived.WalkLawsBesides
import Derived.Deep.RegionHeldLaw
import Derived.StillTailTactics
import Derived.Laws.BitsAllLaws
import Derived.RangeFuncBox
import Derived.RangeFuncLeaves
import Derived.Shelf.Abstract
import Derived.WalkKit
import Derived.OwnWalkIn
import Derived.TacticsInMore
import Derived.LoopNIn
import Derived.LoopIn
import Derived.Deep.OwnRows
import Derived.Deep.RegionHeld
import Derived.OrdersIn
import Derived.RangeFuncCalls
import Derived.BigQuiet
namespace Go.Proofs.YtkliahdgciajjaaDoor.WPlain
end Go.Proofs.YtkliahdgciajjaaDoor.WPlain
namespace Go.Proofs.YtkliahdgciajjaaDoor.QPlain
end Go.Proofs.YtkliahdgciajjaaDoor.QPlain
namespace Go.Proofs.YtkliahdgciajjaaDoor.RPlain
end Go.Proofs.YtkliahdgciajjaaDoor.RPlain
namespace Go.Proofs.YtkliahdgciajjaaDoor.RPlain
open WPlain QPlain

/-- numbers of a row of Ops are such that a machine holds -/
def smallOps (ops : List Rwo) : Prop := ∀ o ∈ ops, (-9223372036854775808 ≤ o.v ∧ o.v ≤ 9223372036854775807) ∧ (-9223372036854775808 ≤ o.x ∧ o.x ≤ 9223372036854775807)
theorem opsS_any (h : List Ev) (t : Int) (h1 : ∀ e ∈ h, (-9223372036854775808 ≤ e.v ∧ e.v ≤ 9223372036854775807) ∧ (-9223372036854775808 ≤ e.x ∧ e.x ≤ 9223372036854775807)) : smallOps (opsOf h t) := by
  revert h1
  refine rev_ind (p := fun h => (∀ e ∈ h, (-9223372036854775808 ≤ e.v ∧ e.v ≤ 9223372036854775807) ∧ (-9223372036854775808 ≤ e.x ∧ e.x ≤ 9223372036854775807)) → smallOps (opsOf h t)) ?_ ?_ h
  · intro _ o ho; simp [opsOf] at ho
  · intro g e ih h1 o ho
    rw [opsOf_snoc] at ho
    have hg : ∀ e ∈ g, (-9223372036854775808 ≤ e.v ∧ e.v ≤ 9223372036854775807) ∧ (-9223372036854775808 ≤ e.x ∧ e.x ≤ 9223372036854775807) := fun x hx => h1 x (List.mem_append_left _ hx)
    have he := h1 e (by simp)
    rcases List.mem_append.1 ho with ho | ho
    · exact ih hg o ho
    · have ha := askedE_any g t (p := fun e => (-9223372036854775808 ≤ e.v ∧ e.v ≤ 9223372036854775807) ∧ (-9223372036854775808 ≤ e.x ∧ e.x ≤ 9223372036854775807)) ⟨⟨by decide, by decide⟩, ⟨by decide, by decide⟩⟩ hg
      split at ho
      · unfold opStep at ho
        split at ho
        · rw [List.mem_singleton.1 ho]; exact ⟨ha.1, he.2⟩
        · split at ho
          · rw [List.mem_singleton.1 ho]; exact ha
          · cases ho
      · cases ho
theorem table_small_ops {h : List Ev} (h0 : (checkS h).2 = 0) : ∀ i (hi : i < (tableS h).length), smallOps (tableS h)[i].o := by
  intro i hi
  have hX : (tableS h)[i] ∈ tableS h := List.getElem_mem hi
  generalize (tableS h)[i] = X at *
  obtain ⟨t, _, rfl⟩ := List.mem_map.1 hX
  have hr := (check_agree h0).1
  refine opsS_any h t fun e he => ?_
  simp only [right, Bool.and_eq_true, decide_eq_true_eq, List.all_eq_true] at hr
  have := hr.1.2 e he
  simp only [evOk, inB, Bool.and_eq_true, decide_eq_true_eq] at this
  omega
end Go.Proofs.YtkliahdgciajjaaDoor.RPlain
namespace Go.Proofs.YtkliahdgciajjaaDoor
open Go.RowKit WPlain QPlain RPlain
open Go.Maps (Keyed)

/-- how an element that is a number reads; that is a bool -/
def intE : Value → Option (DataW Unit × List MemPlace)
  | .int .i64 x => some (.lit (.int .i64 x), [])
  | _ => none
def boolE : Value → Option (DataW Unit × List MemPlace)
  | .bool b => some (.lit (.bool b), [])
  | _ => none
theorem intE_inv {v : Value} {x : Int} {ps : List MemPlace} (h : intE v = some (.lit (.int .i64 x), ps)) : v = .int .i64 x := by
  unfold intE at h
  split at h
  · simp at h; rw [h.1]
  · cases h
theorem zeroI (w : World) : (zeroValue 3).run Tryd.prog w = .ok (.int .i64 0) w := by kernel_rfl
/-- block M is a map that holds what S tells -/
def IMap (w : World) (M k : Nat) (S : Int → Option Int) : Prop := ∃ D, w.ownsMap Tryd.prog 3 intE M k D ∧ ∀ t : Int, (Lit.int .i64 t).wf = true → (∀ x, S t = some x → Maps.has D (.int .i64 t) = true ∧ ∀ z, D.atKey (.int .i64 t) z = .lit (.int .i64 x)) ∧ (S t = none → Maps.has D (.int .i64 t) = false)
def BMap (w : World) (M k : Nat) (S : Int → Bool) : Prop := ∃ D, w.ownsMap Tryd.prog 3 boolE M k D ∧ ∀ t : Int, (Lit.int .i64 t).wf = true → (S t = true → Maps.has D (.int .i64 t) = true ∧ ∀ z, D.atKey (.int .i64 t) z = .lit (.bool true)) ∧ (S t = false → Maps.has D (.int .i64 t) = false)
section
variable {w w' : World} {M k : Nat}
theorem IMap.start (w : World) : IMap (w.alloc (.map #[] 0)) w.heap.size 0 (fun _ => none) := ⟨.map [], World.ownsMap_made w _ _ _, fun _ _ => ⟨fun _ h => (by cases h), fun _ => rfl⟩⟩
theorem BMap.start (w : World) : BMap (w.alloc (.map #[] 0)) w.heap.size 0 (fun _ => false) := ⟨.map [], World.ownsMap_made w _ _ _, fun _ _ => ⟨fun h => (by cases h), fun _ => rfl⟩⟩
theorem IMap.lt {S : Int → Option Int} (h : IMap w M k S) : M < w.heap.size := by obtain ⟨D, ho, _⟩ := h; exact ho.lt
theorem BMap.lt {S : Int → Bool} (h : BMap w M k S) : M < w.heap.size := by obtain ⟨D, ho, _⟩ := h; exact ho.lt
theorem IMap.below {S : Int → Option Int} (h : IMap w M k S) (hb : Below w.heap.size w w') : IMap w' M k S := by
  obtain ⟨D, ho, hd⟩ := h
  exact ⟨D, ownsMap_below ho hb ho.lt, hd⟩
theorem BMap.below {S : Int → Bool} (h : BMap w M k S) (hb : Below w.heap.size w w') : BMap w' M k S := by
  obtain ⟨D, ho, hd⟩ := h
  exact ⟨D, ownsMap_below ho hb ho.lt, hd⟩
theorem IMap.kept {S : Int → Option Int} (h : IMap w M k S) {r : Option Nat} (hg : w.grownBy w' r) (hne : some M ≠ r) : IMap w' M k S := by
  obtain ⟨D, ho, hd⟩ := h
  exact ⟨D, ho.kept hg hne, hd⟩
theorem BMap.kept {S : Int → Bool} (h : BMap w M k S) {r : Option Nat} (hg : w.grownBy w' r) (hne : some M ≠ r) : BMap w' M k S := by
  obtain ⟨D, ho, hd⟩ := h
  exact ⟨D, ho.kept hg hne, hd⟩
end
end Go.Proofs.YtkliahdgciajjaaDoor
