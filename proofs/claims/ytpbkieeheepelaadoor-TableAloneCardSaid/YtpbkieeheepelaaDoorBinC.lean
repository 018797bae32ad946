/- The walks of slices.Clone at events, and of mayName. -/
import Derived.Test.YtpbkieeheepelaaDoorKitF
import Derived.Test.YtpbkieeheepelaaDoorRows
import Derived.Test.YtpbkieeheepelaaDoorOpenBy
import Derived.Test.YtpbkieeheepelaaDoorKit
import Derived.Test.YtpbkieeheepelaaDoorShelf
import Derived.Test.YtpbkieeheepelaaDoorTxtS
import Derived.Test.YtpbkieeheepelaaDoorKitD
import Derived.Test.YtpbkieeheepelaaDoorTxtH
import Derived.Deep.RegionHeldLaw
import Derived.Deep.DrawnRows
import Derived.Deep.DeepMust
import Derived.WalkSpells
import Derived.Deep.QuietTactic
import Derived.BigQuiet
import Derived.Lib.Hide
import Derived.Laws.ShiftsVarLaws
import Derived.RegionTactic
import Derived.Laws.BitsAllLaws
import Derived.Deep.RegionHeld
import Derived.WalkLawsBesides
import Derived.Laws.AppendOwnNone
import Derived.RangeFuncBox
import Derived.RangeFuncLeaves
import Derived.Shelf.Abstract
import Derived.WalkKit
import Derived.OwnWalkIn
import Derived.TacticsInMore
import Derived.LoopNIn
import Derived.LoopIn
import Derived.Maps.AppendAt
namespace Go.Proofs.YtpbkieeheepelaaDoor.WPlain
end Go.Proofs.YtpbkieeheepelaaDoor.WPlain
namespace Go.Proofs.YtpbkieeheepelaaDoor.VPlain
end Go.Proofs.YtpbkieeheepelaaDoor.VPlain
namespace Go.Proofs.YtpbkieeheepelaaDoor.BPlain
end Go.Proofs.YtpbkieeheepelaaDoor.BPlain
attribute [local go_sem ↓] Go.wp_at_zero Go.wp_at_succ
namespace Go.Proofs.YtpbkieeheepelaaDoor
open Go.RowKit WPlain VPlain BPlain

set_option maxRecDepth 100000 in
theorem clone_any (v : Value) (h : List Ev) (w : World) (hv : Evs w v h) (hs : Src v) (hl : h.length ≤ 60) :
    Calls Tryd.prog 18 #[v] w fun e w' => ∃ v', e = .returned v' ∧ w'.ownsRow w.heap.size 41 4 v' h.length (evsCells h) ∧ Below w.heap.size w w' := by
  rcases hs with rfl | ⟨ad, m, c, rfl⟩
  · have h0 : h = [] := List.length_eq_zero_iff.1 hv.length.symm
    subst h0
    have heq := fun (W : World) => Lib.run_eql_slice_nil (P := Tryd.prog) W 22 41 none 0 0 0 0 Tryd.underlying22
    clear hv
    go_enter Tryd.func18, Tryd.ntmps18
    go_wp2
    go_ret
    exact ⟨_, rfl, World.ownsRow_nil _ _ _ _, Below.refl _ _⟩
  · obtain rfl := hv.length
    have hrow := World.ownsRow_made (size := 4) (e := 41) (base := w.heap.size) w #[] 0 (Nat.le_refl _) (by unfold maxLen; omega) rfl
    have hb0 := (Below.refl w.heap.size w).alloc (Nat.le_refl _) (.cells #[] 41)
    have hv1 := hv.below hb0 (Nat.le_refl _)
    have heq := fun (W : World) => Lib.run_eql_slice_nil (P := Tryd.prog) W 22 41 (some ad) h.length c 0 0 Tryd.underlying22
    have HV := Lib.hid hv1
    clear hv hv1
    go_enter Tryd.func18, Tryd.ntmps18
    go_wp2_with (at_builtin; refine wpList_append_src rfl _ _ rfl w.heap.size _ _ _ rfl hrow _ h rfl HV.out (.inr ⟨_, _, _, rfl⟩) (by omega) (by simp) ?_)
    intro v1 w1 h1 hg1
    have hb1 := hb0.grown hg1 (by simp) (fun k hk => by simp [Value.ownBlock] at hk; omega)
    clear heq
    go_wp2
    go_ret
    exact ⟨_, rfl, by simpa using h1, hb1⟩

/-- the event's cells and the reader's events, to be read all through mayName's region -/
def May (w : World) (g q : Nat) (ev : Value) (n : Nat) : Prop := w.cell? ⟨g, 1, none⟩ = some ev ∧ w.cell? ⟨q, 0, none⟩ = some (.int .i64 0) ∧ w.cell? ⟨q, 1, none⟩ = some (.int .i64 (n : Int)) ∧ w.cell? ⟨q, 2, none⟩ = some (.int .i64 0) ∧ w.cell? ⟨q, 3, none⟩ = some (.int .i64 0)
theorem May.below {w w' : World} {g q : Nat} {ev : Value} {n : Nat} (h : May w g q ev n) (hb : Below w.heap.size w w') : May w' g q ev n :=
  ⟨(hb.cell (p := ⟨g, 1, none⟩) (cell_lt h.1)).trans h.1, (hb.cell (p := ⟨q, 0, none⟩) (cell_lt h.2.1)).trans h.2.1,
   (hb.cell (p := ⟨q, 1, none⟩) (cell_lt h.2.1)).trans h.2.2.1, (hb.cell (p := ⟨q, 2, none⟩) (cell_lt h.2.1)).trans h.2.2.2.1, (hb.cell (p := ⟨q, 3, none⟩) (cell_lt h.2.1)).trans h.2.2.2.2⟩
end Go.Proofs.YtpbkieeheepelaaDoor
