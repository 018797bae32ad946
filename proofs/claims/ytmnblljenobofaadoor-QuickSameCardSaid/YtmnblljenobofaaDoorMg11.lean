/- Merged: PrpG, PrpJ, TabN, OrdC, OrdK. -/
import Derived.Test.YtmnblljenobofaaDoorMg10
import Derived.Test.YtmnblljenobofaaDoorMg1
import Derived.Test.YtmnblljenobofaaDoorMg4
import Derived.Test.YtmnblljenobofaaDoorTxtH
import Derived.Test.YtmnblljenobofaaDoorTabF
import Derived.Test.YtmnblljenobofaaDoorTabD
import Derived.Test.YtmnblljenobofaaDoorMg9
import Derived.Test.YtmnblljenobofaaDoorMg5
import Derived.Test.YtmnblljenobofaaDoorRows
import Derived.Sort.OwnSortedInts
import Derived.Deep.RegionHeld
import Derived.Deep.DeepMust
import Derived.Deep.Cut
import Derived.Deep.DeepCutAuto
import Derived.Maps.RangeWalk
import Derived.Deep.CutRange
import Derived.Deep.RegionWith
import Derived.Lib.ItoaMem
import Derived.Lib.ItoaLen
import Derived.Lib.SmallJoins
import Derived.Lib.Join
import Derived.RegionTactic
import Derived.Laws.BitsAllLaws
import Derived.OrdersIn
import Derived.RangeFuncCalls
import Derived.OwnWalkIn
/- The walk of Next. -/
namespace Go.Proofs.YtmnblljenobofaaDoor.WPlain
end Go.Proofs.YtmnblljenobofaaDoor.WPlain
namespace Go.Proofs.YtmnblljenobofaaDoor.QPlain
end Go.Proofs.YtmnblljenobofaaDoor.QPlain
namespace Go.Proofs.YtmnblljenobofaaDoor
open Go.RowKit WPlain QPlain
open Go.Maps (Keyed)

theorem below_drP (w : World) : Below w.heap.size w w.drew := (Below.refl _ _).drew
end Go.Proofs.YtmnblljenobofaaDoor
/- The walks of the reference's First and Why. -/
namespace Go.Proofs.YtmnblljenobofaaDoor.WPlain
end Go.Proofs.YtmnblljenobofaaDoor.WPlain
namespace Go.Proofs.YtmnblljenobofaaDoor.QPlain
end Go.Proofs.YtmnblljenobofaaDoor.QPlain
namespace Go.Proofs.YtmnblljenobofaaDoor
open Go.RowKit WPlain QPlain

theorem below_stpP {wz w6 : World} (h : Below wz.drew.heap.size wz.drew w6) : Below wz.heap.size wz w6 := (below_drP wz).trans h
end Go.Proofs.YtmnblljenobofaaDoor
/- The walks of the laws' alive, and of TableTells. -/
namespace Go.Proofs.YtmnblljenobofaaDoor.WPlain
end Go.Proofs.YtmnblljenobofaaDoor.WPlain
namespace Go.Proofs.YtmnblljenobofaaDoor.QPlain
end Go.Proofs.YtmnblljenobofaaDoor.QPlain
namespace Go.Proofs.YtmnblljenobofaaDoor.RPlain
end Go.Proofs.YtmnblljenobofaaDoor.RPlain
namespace Go.Proofs.YtmnblljenobofaaDoor
open Go.RowKit WPlain QPlain RPlain

theorem evs_at {w : World} {b : Nat} {t : TypeId} (c : Nat) (l : List Ev) (h : At w b (evsCells l).toArray t) : Evs w (.slice (some ⟨b, 0, none⟩) l.length c) l := by
  by_cases h0 : 0 < l.length
  · refine .inr ⟨h0, b, 0, c, rfl, h.lt, fun i hi => ?_⟩
    have hq : ∀ j, j < 4 → w.cell? ⟨b, 0 + i * 4 + j, none⟩ = (evCells l[i])[j]? := by
      intro j hj
      have h1 := evsCells_get l i hi j hj
      have hj4 : j < (evCells l[i]).length := hj
      rw [List.getElem?_eq_getElem hj4] at h1 ⊢
      rw [Nat.zero_add]
      exact h.cell (by simpa using h1)
    exact ⟨hq 0 (by omega), hq 1 (by omega), hq 2 (by omega), hq 3 (by omega)⟩
  · have : l = [] := List.length_eq_zero_iff.1 (by omega)
    subst this
    exact Evs.nil _ _ _
end Go.Proofs.YtmnblljenobofaaDoor
/- The walks of package order's bit and isBefore. -/
namespace Go.Proofs.YtmnblljenobofaaDoor.WPlain
end Go.Proofs.YtmnblljenobofaaDoor.WPlain
namespace Go.Proofs.YtmnblljenobofaaDoor.QPlain
end Go.Proofs.YtmnblljenobofaaDoor.QPlain
namespace Go.Proofs.YtmnblljenobofaaDoor.RPlain
end Go.Proofs.YtmnblljenobofaaDoor.RPlain
namespace Go.Proofs.YtmnblljenobofaaDoor
open Go.RowKit WPlain QPlain RPlain

theorem pow_u32 {k : Nat} (hk : k < 32) : (2 : Int) ^ k % 4294967296 = ((2 ^ k : Nat) : Int) := by
  have h1 : 2 ^ k < 4294967296 := Nat.pow_lt_pow_right (a := 2) (m := k) (n := 32) (by decide) hk
  have h2 : (2 : Int) ^ k = ((2 ^ k : Nat) : Int) := (Int.natCast_pow 2 k).symm
  rw [h2]
  generalize 2 ^ k = x at *
  omega
theorem bit_any (k : Nat) (hk : k < 32) (w : World) : Calls Tryd.prog 23 #[.int .i64 (k : Int)] w fun e w' => e = .returned (.int .u32 ((2 ^ k : Nat) : Int)) ∧ w' = w := by
  go_enter Tryd.func23, Tryd.ntmps23
  go_wp2
  go_ret
  exact ⟨by rw [pow_u32 hk]; rfl, rfl⟩
set_option maxRecDepth 100000 in
theorem isBefore_any (X Y : Tx) (a1 a2 : Option Addr) (n1 n2 c1 c2 : Nat) (w : World) :
    Calls Tryd.prog 48 #[.agg #[.int .i64 X.n, .int .i64 X.f, .int .i64 X.l, .int .i64 X.s, .slice a1 n1 c1], .agg #[.int .i64 Y.n, .int .i64 Y.f, .int .i64 Y.l, .int .i64 Y.s, .slice a2 n2 c2]] w fun e w' => e = .returned (.bool (bfr X Y)) ∧ Below w.heap.size w w' := by
  go_enter Tryd.func48, Tryd.ntmps48
  go_wp2
  all_goals go_ret
  all_goals exact ⟨by unfold bfr; simp [*], ((Below.refl _ _).alloc (Nat.le_refl _) _).alloc (by simp) _⟩
end Go.Proofs.YtmnblljenobofaaDoor
/- A region that draws its order, within a round of a loop over a function, walked by the plain law of a region that holds a condition on the world. -/
namespace Go.Proofs.YtmnblljenobofaaDoor

def noDefer (ops : Array Oper) : Bool := ops.all fun o => match o.op with | .defer _ => false | _ => true
theorem noDefer_spec {ops : Array Oper} (h : noDefer ops = true) {i : Nat} {o : Oper} (ho : ops[i]? = some o) : ∀ c, o.op ≠ .defer c := by
  intro c hc
  have h1 := Array.all_eq_true.1 h i (Array.getElem?_eq_some_iff.1 ho).1
  rw [(Array.getElem?_eq_some_iff.1 ho).2, hc] at h1
  cases h1
theorem rows_round {l n : Nat} {P : Program} {row : String} {args : Array Value} {w : World} {R : Value → World → Prop} (h : Rows P row args w R) : RowsIn (Fence.wide.inRound l) n P row args w R :=
  fun c cs _ => let ⟨v, w', r, s⟩ := h c cs; ⟨v, w', r, stepsIn_wide.2 s⟩
theorem oper_round {l n : Nat} {P : Program} {o : Oper} {a : Act} {w : World} {K : Act → World → Prop} {Q : Exit → Act → World → Prop} (ho : ∀ c, o.op ≠ .defer c)
    (h : o.wp P a w K Q) : o.wpIn (Fence.wide.inRound l) n P a w K Q := by
  unfold Oper.wp at h
  unfold Oper.wpIn
  refine ⟨fun _ _ => trivial, ?_⟩
  rw [Oper.semAt_eq _ _ _ ho]
  generalize (execOp a.eval o).run P w = r at *
  cases r with
  | ok x w' =>
    cases x <;> simp only [Oper.upon, Oper.uponIn] at h ⊢
    case value => exact h
    case skip => exact h
    case defer => exact h
    case enter f args => exact ⟨fun hh => by simp [Fence.wide] at hh, (CallsIn.inRound l (callsIn_wide.2 h)).mono fun e w'' he => by cases e <;> exact he⟩
    case row row args => exact ⟨fun hh => by simp [Fence.wide] at hh, rows_round h⟩
  | halt x w' => cases x <;> simp only [Oper.upon, Oper.uponIn] at h ⊢ <;> exact h
theorem wpOp_round {l n : Nat} {P : Program} {ops : Array Oper} {Q : Exit → Act → World → Prop} (hd : noDefer ops = true) (hl : ¬ LetsOut Q) {i : Nat} {a : Act} {w : World} {K K' : Act → World → Prop} (hK : ∀ a w, K a w → K' a w)
    (h : wpOp P ops Q i K a w) : wpOpIn (Fence.wide.inRound l) n P ops Q i K' a w := by
  unfold wpOp at h
  unfold wpOpIn
  cases ho : ops[i]? with
  | none => simp only [ho] at h ⊢; exact hK _ _ h
  | some o =>
    simp only [ho] at h ⊢
    split
    · rename_i hw
      simp only [hw, if_true] at h
      rcases h with h | ⟨_, h⟩
      · exact Oper.wpIn_mono hK (oper_round (noDefer_spec hd ho) h)
      · exact absurd h hl
    · rename_i hw
      simp only [hw] at h
      exact ⟨fun _ _ => trivial, hK _ _ h⟩
theorem wpAny_round {l n : Nat} {P : Program} {md : Region.Mode} {ops : Array Oper} {Q : Exit → Act → World → Prop} (hd : noDefer ops = true) (hl : ¬ LetsOut Q) : ∀ (fuel : Nat) (listed : Array Bool) (a : Act) (w : World),
    wpAny P md ops Q fuel listed a w → wpAnyIn (Fence.wide.inRound l) n P md ops Q fuel listed a w
  | 0, _, _, _, h => h
  | fuel + 1, _, _, _, h => ⟨h.1, fun i hi => wpOp_round hd hl (fun _ _ h' => wpAny_round hd hl fuel _ _ _ h') (h.2 i hi)⟩
theorem region_round {l n : Nat} {P : Program} {ops : Array Oper} {id : Nat} {Q : Exit → Act → World → Prop} {a : Act} {w : World} (S : World → Prop) (hm : P.follows .mixedOrders = true) (hd : noDefer ops = true) (hl : ¬ LetsOut Q)
    (h : wpAnyH P .any ops Q S ops.size (Array.replicate ops.size false) a w.drew) : (Code.region id ops true).wpIn (Fence.wide.inRound l) n P Q a w :=
  wpIn_region_any hm (wpAny_round hd hl _ _ _ _ (wpAny_of_held _ _ _ _ h))
end Go.Proofs.YtmnblljenobofaaDoor
