/- Merged: PrpA, PrpB. -/
import Derived.Test.YtceipdmplnlogaaDoorMg1
import Derived.Test.YtceipdmplnlogaaDoorKit
import Derived.Test.YtceipdmplnlogaaDoorShelf
import Derived.Maps.OwnSet
import Derived.Deep.RegionLaw
import Derived.Maps.RangeWalk
/- Plain words of events that may be there: no program in sight. -/
namespace Go.Proofs.YtceipdmplnlogaaDoor.WPlain
end Go.Proofs.YtceipdmplnlogaaDoor.WPlain
namespace Go.Proofs.YtceipdmplnlogaaDoor.QPlain
open WPlain

/-- the kinds that may come next in each state, and the state behind each -/
def mvs : List (List (Nat × Nat)) := [[(0, 1)], [(1, 2), (9, 7)], [(2, 3), (4, 4), (6, 5), (8, 6)], [(3, 2), (9, 7)], [(5, 2), (9, 7)], [(7, 7), (9, 7)], [(9, 7)], []]
def mv (s k : Nat) : Option Nat := (mvs.getD s []).lookup k
/-- .. as a map reads -/
def rowD (s : Nat) : DataW Unit := (mvs.getD s []).foldl (fun m p => m.put (.int .i64 (p.1 : Int)) (.lit (.int .i64 (p.2 : Int)))) (.map [])
theorem eight {s : Nat} (h : s < 8) : s = 0 ∨ s = 1 ∨ s = 2 ∨ s = 3 ∨ s = 4 ∨ s = 5 ∨ s = 6 ∨ s = 7 := by omega
theorem tenk {k : Nat} (h : k < 10) : k = 0 ∨ k = 1 ∨ k = 2 ∨ k = 3 ∨ k = 4 ∨ k = 5 ∨ k = 6 ∨ k = 7 ∨ k = 8 ∨ k = 9 := by omega
theorem row_at {s k : Nat} (hs : s < 8) (hk : k < 10) (z : DataW Unit) : (rowD s).atKey (.int .i64 (k : Int)) z = (match mv s k with | some n => .lit (.int .i64 (n : Int)) | none => z) := by
  rcases eight hs with rfl | rfl | rfl | rfl | rfl | rfl | rfl | rfl <;> rcases tenk hk with rfl | rfl | rfl | rfl | rfl | rfl | rfl | rfl | rfl | rfl <;> rfl
theorem row_has {s k : Nat} (hs : s < 8) (hk : k < 10) : Maps.has (rowD s) (.int .i64 (k : Int)) = (mv s k).isSome := by
  rcases eight hs with rfl | rfl | rfl | rfl | rfl | rfl | rfl | rfl <;> rcases tenk hk with rfl | rfl | rfl | rfl | rfl | rfl | rfl | rfl | rfl | rfl <;> rfl
theorem mv_lt {s k n : Nat} (hs : s < 8) (hk : k < 10) (h : mv s k = some n) : n < 8 := by
  have hall : ∀ s, s < 8 → ∀ k, k < 10 → (mv s k).all (fun n => decide (n < 8)) = true := by decide +kernel
  have := hall s hs k hk
  rw [h] at this
  simpa using this
/-- the states behind one more event; behind events, or the place of the first that may not be there -/
def upd (F : Int → Nat) (t : Int) (s : Nat) : Int → Nat := fun u => if u = t then s else F u
def flw (F : Int → Nat) (i : Nat) : List Ev → (Int → Nat) × Nat × Bool
  | [] => (F, i, true)
  | e :: r => match mv (F e.t) e.k.toNat with
    | none => (F, i, false)
    | some s => flw (upd F e.t s) (i + 1) r
def flw0 (h : List Ev) : (Int → Nat) × Nat × Bool := flw (fun _ => 0) 0 h
/-- how many events; or the error, and the place -/
def checkS (h : List Ev) : Nat × Nat := if right h = true then (if (flw0 h).2.2 = true then (h.length, 0) else ((flw0 h).2.1, 6)) else (0, 1)
theorem flw_none {F : Int → Nat} {i : Nat} {e : Ev} {r : List Ev} (h : mv (F e.t) e.k.toNat = none) : flw F i (e :: r) = (F, i, false) := by unfold flw; rw [h]
theorem flw_some {F : Int → Nat} {i : Nat} {e : Ev} {r : List Ev} {s : Nat} (h : mv (F e.t) e.k.toNat = some s) : flw F i (e :: r) = flw (upd F e.t s) (i + 1) r := by rw [flw, h]
theorem right_evs {h : List Ev} (hr : right h = true) : h.length ≤ 60 ∧ ∀ e ∈ h, (0 ≤ e.k ∧ e.k < 10) ∧ (0 ≤ e.t ∧ e.t ≤ 9999) := by
  simp only [right, Bool.and_eq_true, decide_eq_true_eq, List.all_eq_true] at hr
  refine ⟨hr.1.1, fun e he => ?_⟩
  have := hr.1.2 e he
  simp only [evOk, inB, Bool.and_eq_true, decide_eq_true_eq] at this
  omega
end Go.Proofs.YtceipdmplnlogaaDoor.QPlain
/- Maps of maps, of the call's own: laws of no program; and what moves hands back. -/
namespace Go.Proofs.YtceipdmplnlogaaDoor.WPlain
end Go.Proofs.YtceipdmplnlogaaDoor.WPlain
namespace Go.Proofs.YtceipdmplnlogaaDoor.QPlain
end Go.Proofs.YtceipdmplnlogaaDoor.QPlain
namespace Go.Proofs.YtceipdmplnlogaaDoor
open Go.RowKit WPlain QPlain
open Go.Maps (Keyed)

/-- how an element that is a map reads: by its block -/
def mapE : Value → Option (DataW Unit × List MemPlace)
  | .map (some b) => some (.lit (.int .i64 (b : Int)), [])
  | .map none => some (.lit (.int .i64 (-1)), [])
  | _ => none
theorem mapE_inv {v : Value} {b : Nat} {ps : List MemPlace} (h : mapE v = some (.lit (.int .i64 (b : Int)), ps)) : v = .map (some b) := by
  unfold mapE at h
  split at h
  · rename_i b'
    simp at h
    obtain rfl : b' = b := by omega
    rfl
  · simp at h
  · cases h
theorem ownsMap_below {H : Type} {P : Program} {k : TypeId} {R : Value → Option (DataW H × List MemPlace)} {w w' : World} {b n B : Nat} {D : DataW H} (h : w.ownsMap P k R b n D) (hb : Below B w w') (hlt : b < B) : w'.ownsMap P k R b n D := by
  obtain ⟨es, clock, hh, r⟩ := h
  exact ⟨es, clock, (hb.block b hlt).trans hh, r⟩
theorem stateK : Keyed Tryd.prog 98 := Maps.int_keyed Tryd.underlying98
theorem intK : Keyed Tryd.prog 3 := Maps.int_keyed Tryd.underlying3
theorem key_state {i : Int} (h : (Lit.int .i64 i).wf = true) : keyOf Tryd.prog 98 (.int .i64 i) = some (.int .i64 i) := Maps.keyOf_int_mk Tryd.underlying98 h
theorem key_int {i : Int} (h : (Lit.int .i64 i).wf = true) : keyOf Tryd.prog 3 (.int .i64 i) = some (.int .i64 i) := Maps.keyOf_int_mk Tryd.underlying3 h
theorem elem_state {i : Int} (h : (Lit.int .i64 i).wf = true) : plainElem (H := Unit) Tryd.prog 98 (.int .i64 i) = some (.lit (.int .i64 i), []) := plainElem_int Tryd.underlying98 h
theorem zeroState (w : World) : (zeroValue 98).run Tryd.prog w = .ok (.int .i64 0) w := by kernel_rfl
theorem zeroMap (w : World) : (zeroValue 93).run Tryd.prog w = .ok (.map none) w := by kernel_rfl
/-- what moves hands back: a map of the states' maps, all between two numbers -/
def Mov (B U : Nat) (w : World) (b : Nat) : Prop :=
  B ≤ b ∧ b < U ∧ ∃ n D, w.ownsMap Tryd.prog 98 mapE b n D ∧ ∀ s : Nat, s < 8 → ∃ bs m, B ≤ bs ∧ bs < U ∧ (∀ z, D.atKey (.int .i64 (s : Int)) z = .lit (.int .i64 (bs : Int))) ∧ w.ownsMap Tryd.prog 3 (plainElem Tryd.prog 98) bs m (rowD s)
theorem Mov.below {B U C : Nat} {w w' : World} {b : Nat} (h : Mov B U w b) (hb : Below C w w') (hC : w.heap.size ≤ C) : Mov B U w' b := by
  obtain ⟨hB, hU, n, D, ho, hs⟩ := h
  refine ⟨hB, hU, n, D, ownsMap_below ho hb (Nat.lt_of_lt_of_le ho.lt hC), fun s h8 => ?_⟩
  obtain ⟨bs, m, h1, h4, h2, h3⟩ := hs s h8
  exact ⟨bs, m, h1, h4, h2, ownsMap_below h3 hb (Nat.lt_of_lt_of_le h3.lt hC)⟩
theorem Mov.grown {B U S : Nat} {w w' : World} {b : Nat} (h : Mov B U w b) (hg : w.grownBy w' (some S)) (hS : U ≤ S) : Mov B U w' b := by
  obtain ⟨hB, hU, n, D, ho, hs⟩ := h
  refine ⟨hB, hU, n, D, ho.kept hg (fun hh => by have hh := Option.some.inj hh; omega), fun s h8 => ?_⟩
  obtain ⟨bs, m, h1, h4, h2, h3⟩ := hs s h8
  exact ⟨bs, m, h1, h4, h2, h3.kept hg (fun hh => by have hh := Option.some.inj hh; omega)⟩
theorem Mov.mono {B B' U : Nat} {w : World} {b : Nat} (h : Mov B U w b) (hB : B' ≤ B) : Mov B' U w b := by
  obtain ⟨h1, hU, n, D, ho, hs⟩ := h
  refine ⟨Nat.le_trans hB h1, hU, n, D, ho, fun s h8 => ?_⟩
  obtain ⟨bs, m, h1, h4, h2, h3⟩ := hs s h8
  exact ⟨bs, m, Nat.le_trans hB h1, h4, h2, h3⟩
theorem wf64 {x : Int} (h1 : -9223372036854775808 ≤ x) (h2 : x ≤ 9223372036854775807) : (Lit.int .i64 x).wf = true := by
  simp [Lit.wf, IntKind.min, IntKind.max, IntKind.signed, IntKind.bits]; omega
end Go.Proofs.YtceipdmplnlogaaDoor
