/- Merged: TabJ, TabK, TabN, BinC. -/
import Derived.Test.YtnggadcoepieaaaDoorTabD
import Derived.Test.YtnggadcoepieaaaDoorPrpJ
import Derived.Test.YtnggadcoepieaaaDoorTabE
import Derived.Test.YtnggadcoepieaaaDoorTabF
import Derived.Test.YtnggadcoepieaaaDoorTxtS
import Derived.Test.YtnggadcoepieaaaDoorMg10
import Derived.Test.YtnggadcoepieaaaDoorRows
import Derived.Test.YtnggadcoepieaaaDoorKit
import Derived.Test.YtnggadcoepieaaaDoorShelf
import Derived.Test.YtnggadcoepieaaaDoorMg7
import Derived.Test.YtnggadcoepieaaaDoorTxtH
import Derived.Deep.QuietTactic
import Derived.BigQuiet
import Derived.Laws.StructEq
import Derived.Deep.RegionHeldLaw
import Derived.Deep.DrawnRows
import Derived.Deep.DeepMust
import Derived.WalkSpells
import Derived.Lib.Hide
import Derived.Laws.ShiftsVarLaws
import Derived.RegionTactic
import Derived.Laws.BitsAllLaws
import Derived.Deep.RegionHeld
import Derived.WalkLawsBesides
import Derived.Laws.AppendOwnNone
import Derived.RangeFuncBox
import Derived.RangeFuncLeaves
import Derived.Shelf.Abstract
import Derived.WalkKit
import Derived.OwnWalkIn
import Derived.TacticsInMore
import Derived.LoopNIn
import Derived.LoopIn
import Derived.Maps.AppendAt
/- The walk of the reference's Table. -/
namespace Go.Proofs.YtnggadcoepieaaaDoor.WPlain
end Go.Proofs.YtnggadcoepieaaaDoor.WPlain
namespace Go.Proofs.YtnggadcoepieaaaDoor.QPlain
end Go.Proofs.YtnggadcoepieaaaDoor.QPlain
namespace Go.Proofs.YtnggadcoepieaaaDoor.RPlain
end Go.Proofs.YtnggadcoepieaaaDoor.RPlain
namespace Go.Proofs.YtnggadcoepieaaaDoor
open Go.RowKit WPlain QPlain RPlain

theorem own_monoT {w : World} {B B' : Nat} {e : TypeId} {z : Nat} {v : Value} {n : Nat} {xs : List Value} (h : w.ownsRow B e z v n xs) (hB : B' ≤ B) : w.ownsRow B' e z v n xs := by
  refine ⟨h.1, ?_⟩
  rcases h.2 with h0 | ⟨g, cap, cur, rfl, hb, rest⟩
  · exact .inl h0
  · exact .inr ⟨g, cap, cur, rfl, Nat.le_trans hB hb, rest⟩
end Go.Proofs.YtnggadcoepieaaaDoor
/- The walks of the reference's Same, of isSame, of slices.EqualFunc with it, and of Like. (Written by gen_tabK.py.) -/
namespace Go.Proofs.YtnggadcoepieaaaDoor.WPlain
end Go.Proofs.YtnggadcoepieaaaDoor.WPlain
namespace Go.Proofs.YtnggadcoepieaaaDoor.RPlain
end Go.Proofs.YtnggadcoepieaaaDoor.RPlain
namespace Go.Proofs.YtnggadcoepieaaaDoor
open Go.RowKit WPlain RPlain

theorem Opv.drewN {w : World} {v : Value} {l : List Rwo} (h : Opv w v l) (n : Nat) : Opv (w.drewN n) v l := h
theorem Txs.drewN {w : World} {v : Value} {l : List Tx} (h : Txs w v l) (n : Nat) : Txs (w.drewN n) v l := h
theorem quiet_at {P : Program} {f : FuncId} {args : Array Value} {w : World} {n x : Nat} {v : Value}
    (h : Calls P f args (w.drewN (n + x)) fun e w' => e = .returned v ∧ ∃ z, w' = (w.drewN (n + x)).drewN z) : Calls P f args (w.drewN (n + x)) fun e w'' => e = .returned v ∧ ∃ m, w'' = w.drewN (n + m) :=
  h.mono fun _ _ ⟨he, z, hz⟩ => ⟨he, x + z, by rw [hz, World.drewN_drewN, Nat.add_assoc]⟩
theorem Txs.opened {w : World} {v : Value} {l : List Tx} (h : Txs w v l) (h0 : 0 < l.length) : ∃ b o c, v = .slice (some ⟨b, o, none⟩) l.length c := by
  obtain ⟨ps, rfl, hr, _⟩ := h
  rcases hr with ⟨rfl, _⟩ | ⟨_, b, o, c, rfl, _⟩
  · simp at h0
  · exact ⟨b, o, c, by simp⟩
theorem below_drN {B : Nat} {w w' : World} (h : Below B w w') (n : Nat) : Below B w (w'.drewN n) := ⟨h.os, h.tape, h.output, h.size, h.block⟩
end Go.Proofs.YtnggadcoepieaaaDoor
/- The walks of the laws' alive, and of TableTells. -/
namespace Go.Proofs.YtnggadcoepieaaaDoor.WPlain
end Go.Proofs.YtnggadcoepieaaaDoor.WPlain
namespace Go.Proofs.YtnggadcoepieaaaDoor.QPlain
end Go.Proofs.YtnggadcoepieaaaDoor.QPlain
namespace Go.Proofs.YtnggadcoepieaaaDoor.RPlain
end Go.Proofs.YtnggadcoepieaaaDoor.RPlain
namespace Go.Proofs.YtnggadcoepieaaaDoor
open Go.RowKit WPlain QPlain RPlain

theorem evs_at {w : World} {b : Nat} {t : TypeId} (c : Nat) (l : List Ev) (h : At w b (evsCells l).toArray t) : Evs w (.slice (some ⟨b, 0, none⟩) l.length c) l := by
  by_cases h0 : 0 < l.length
  · refine .inr ⟨h0, b, 0, c, rfl, h.lt, fun i hi => ?_⟩
    have hq : ∀ j, j < 4 → w.cell? ⟨b, 0 + i * 4 + j, none⟩ = (evCells l[i])[j]? := by
      intro j hj
      have h1 := evsCells_get l i hi j hj
      have hj4 : j < (evCells l[i]).length := hj
      rw [List.getElem?_eq_getElem hj4] at h1 ⊢
      rw [Nat.zero_add]
      exact h.cell (by simpa using h1)
    exact ⟨hq 0 (by omega), hq 1 (by omega), hq 2 (by omega), hq 3 (by omega)⟩
  · have : l = [] := List.length_eq_zero_iff.1 (by omega)
    subst this
    exact Evs.nil _ _ _
end Go.Proofs.YtnggadcoepieaaaDoor
/- The walks of slices.Clone at events, and of mayName. -/
namespace Go.Proofs.YtnggadcoepieaaaDoor.WPlain
end Go.Proofs.YtnggadcoepieaaaDoor.WPlain
namespace Go.Proofs.YtnggadcoepieaaaDoor.VPlain
end Go.Proofs.YtnggadcoepieaaaDoor.VPlain
namespace Go.Proofs.YtnggadcoepieaaaDoor.BPlain
end Go.Proofs.YtnggadcoepieaaaDoor.BPlain
attribute [local go_sem ↓] Go.wp_at_zero Go.wp_at_succ
namespace Go.Proofs.YtnggadcoepieaaaDoor
open Go.RowKit WPlain VPlain BPlain

set_option maxRecDepth 100000 in
theorem clone_any (v : Value) (h : List Ev) (w : World) (hv : Evs w v h) (hs : Src v) (hl : h.length ≤ 60) :
    Calls Tryd.prog 18 #[v] w fun e w' => ∃ v', e = .returned v' ∧ w'.ownsRow w.heap.size 38 4 v' h.length (evsCells h) ∧ Below w.heap.size w w' := by
  rcases hs with rfl | ⟨ad, m, c, rfl⟩
  · have h0 : h = [] := List.length_eq_zero_iff.1 hv.length.symm
    subst h0
    have heq := fun (W : World) => Lib.run_eql_slice_nil (P := Tryd.prog) W 22 38 none 0 0 0 0 Tryd.underlying22
    clear hv
    go_enter Tryd.func18, Tryd.ntmps18
    go_wp2
    go_ret
    exact ⟨_, rfl, World.ownsRow_nil _ _ _ _, Below.refl _ _⟩
  · obtain rfl := hv.length
    have hrow := World.ownsRow_made (size := 4) (e := 38) (base := w.heap.size) w #[] 0 (Nat.le_refl _) (by unfold maxLen; omega) rfl
    have hb0 := (Below.refl w.heap.size w).alloc (Nat.le_refl _) (.cells #[] 38)
    have hv1 := hv.below hb0 (Nat.le_refl _)
    have heq := fun (W : World) => Lib.run_eql_slice_nil (P := Tryd.prog) W 22 38 (some ad) h.length c 0 0 Tryd.underlying22
    have HV := Lib.hid hv1
    clear hv hv1
    go_enter Tryd.func18, Tryd.ntmps18
    go_wp2_with (at_builtin; refine wpList_append_src rfl _ _ rfl w.heap.size _ _ _ rfl hrow _ h rfl HV.out (.inr ⟨_, _, _, rfl⟩) (by omega) (by simp) ?_)
    intro v1 w1 h1 hg1
    have hb1 := hb0.grown hg1 (by simp) (fun k hk => by simp [Value.ownBlock] at hk; omega)
    clear heq
    go_wp2
    go_ret
    exact ⟨_, rfl, by simpa using h1, hb1⟩

/-- the event's cells and the reader's events, to be read all through mayName's region -/
def May (w : World) (g q : Nat) (ev : Value) (n : Nat) : Prop := w.cell? ⟨g, 1, none⟩ = some ev ∧ w.cell? ⟨q, 0, none⟩ = some (.int .i64 0) ∧ w.cell? ⟨q, 1, none⟩ = some (.int .i64 (n : Int)) ∧ w.cell? ⟨q, 2, none⟩ = some (.int .i64 0) ∧ w.cell? ⟨q, 3, none⟩ = some (.int .i64 0)
theorem May.below {w w' : World} {g q : Nat} {ev : Value} {n : Nat} (h : May w g q ev n) (hb : Below w.heap.size w w') : May w' g q ev n :=
  ⟨(hb.cell (p := ⟨g, 1, none⟩) (cell_lt h.1)).trans h.1, (hb.cell (p := ⟨q, 0, none⟩) (cell_lt h.2.1)).trans h.2.1,
   (hb.cell (p := ⟨q, 1, none⟩) (cell_lt h.2.1)).trans h.2.2.1, (hb.cell (p := ⟨q, 2, none⟩) (cell_lt h.2.1)).trans h.2.2.2.1, (hb.cell (p := ⟨q, 3, none⟩) (cell_lt h.2.1)).trans h.2.2.2.2⟩
end Go.Proofs.YtnggadcoepieaaaDoor
