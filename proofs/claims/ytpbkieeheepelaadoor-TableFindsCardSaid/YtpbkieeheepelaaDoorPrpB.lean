/- Maps of maps, of the call's own: laws of no program; and what moves hands back. -/
import Derived.Test.YtpbkieeheepelaaDoorPrpA
import Derived.Test.YtpbkieeheepelaaDoorKit
import Derived.Test.YtpbkieeheepelaaDoorShelf
import Derived.Deep.RegionLaw
import Derived.Maps.RangeWalk
namespace Go.Proofs.YtpbkieeheepelaaDoor.WPlain
end Go.Proofs.YtpbkieeheepelaaDoor.WPlain
namespace Go.Proofs.YtpbkieeheepelaaDoor.QPlain
end Go.Proofs.YtpbkieeheepelaaDoor.QPlain
namespace Go.Proofs.YtpbkieeheepelaaDoor
open Go.RowKit WPlain QPlain
open Go.Maps (Keyed)

/-- how an element that is a map reads: by its block -/
def mapE : Value → Option (DataW Unit × List MemPlace)
  | .map (some b) => some (.lit (.int .i64 (b : Int)), [])
  | .map none => some (.lit (.int .i64 (-1)), [])
  | _ => none
theorem mapE_inv {v : Value} {b : Nat} {ps : List MemPlace} (h : mapE v = some (.lit (.int .i64 (b : Int)), ps)) : v = .map (some b) := by
  unfold mapE at h
  split at h
  · rename_i b'
    simp at h
    obtain rfl : b' = b := by omega
    rfl
  · simp at h
  · cases h
theorem ownsMap_below {H : Type} {P : Program} {k : TypeId} {R : Value → Option (DataW H × List MemPlace)} {w w' : World} {b n B : Nat} {D : DataW H} (h : w.ownsMap P k R b n D) (hb : Below B w w') (hlt : b < B) : w'.ownsMap P k R b n D := by
  obtain ⟨es, clock, hh, r⟩ := h
  exact ⟨es, clock, (hb.block b hlt).trans hh, r⟩
theorem stateK : Keyed Tryd.prog 73 := Maps.int_keyed Tryd.underlying73
theorem intK : Keyed Tryd.prog 3 := Maps.int_keyed Tryd.underlying3
theorem key_state {i : Int} (h : (Lit.int .i64 i).wf = true) : keyOf Tryd.prog 73 (.int .i64 i) = some (.int .i64 i) := Maps.keyOf_int_mk Tryd.underlying73 h
theorem key_int {i : Int} (h : (Lit.int .i64 i).wf = true) : keyOf Tryd.prog 3 (.int .i64 i) = some (.int .i64 i) := Maps.keyOf_int_mk Tryd.underlying3 h
theorem elem_state {i : Int} (h : (Lit.int .i64 i).wf = true) : plainElem (H := Unit) Tryd.prog 73 (.int .i64 i) = some (.lit (.int .i64 i), []) := plainElem_int Tryd.underlying73 h
theorem zeroState (w : World) : (zeroValue 73).run Tryd.prog w = .ok (.int .i64 0) w := by kernel_rfl
theorem zeroMap (w : World) : (zeroValue 65).run Tryd.prog w = .ok (.map none) w := by kernel_rfl
/-- what moves hands back: a map of the states' maps, all between two numbers -/
def Mov (B U : Nat) (w : World) (b : Nat) : Prop :=
  B ≤ b ∧ b < U ∧ ∃ n D, w.ownsMap Tryd.prog 73 mapE b n D ∧ ∀ s : Nat, s < 8 → ∃ bs m, B ≤ bs ∧ bs < U ∧ (∀ z, D.atKey (.int .i64 (s : Int)) z = .lit (.int .i64 (bs : Int))) ∧ w.ownsMap Tryd.prog 3 (plainElem Tryd.prog 73) bs m (rowD s)
theorem Mov.below {B U C : Nat} {w w' : World} {b : Nat} (h : Mov B U w b) (hb : Below C w w') (hC : w.heap.size ≤ C) : Mov B U w' b := by
  obtain ⟨hB, hU, n, D, ho, hs⟩ := h
  refine ⟨hB, hU, n, D, ownsMap_below ho hb (Nat.lt_of_lt_of_le ho.lt hC), fun s h8 => ?_⟩
  obtain ⟨bs, m, h1, h4, h2, h3⟩ := hs s h8
  exact ⟨bs, m, h1, h4, h2, ownsMap_below h3 hb (Nat.lt_of_lt_of_le h3.lt hC)⟩
theorem Mov.grown {B U S : Nat} {w w' : World} {b : Nat} (h : Mov B U w b) (hg : w.grownBy w' (some S)) (hS : U ≤ S) : Mov B U w' b := by
  obtain ⟨hB, hU, n, D, ho, hs⟩ := h
  refine ⟨hB, hU, n, D, ho.kept hg (fun hh => by have hh := Option.some.inj hh; omega), fun s h8 => ?_⟩
  obtain ⟨bs, m, h1, h4, h2, h3⟩ := hs s h8
  exact ⟨bs, m, h1, h4, h2, h3.kept hg (fun hh => by have hh := Option.some.inj hh; omega)⟩
theorem Mov.mono {B B' U : Nat} {w : World} {b : Nat} (h : Mov B U w b) (hB : B' ≤ B) : Mov B' U w b := by
  obtain ⟨h1, hU, n, D, ho, hs⟩ := h
  refine ⟨Nat.le_trans hB h1, hU, n, D, ho, fun s h8 => ?_⟩
  obtain ⟨bs, m, h1, h4, h2, h3⟩ := hs s h8
  exact ⟨bs, m, Nat.le_trans hB h1, h4, h2, h3⟩
theorem wf64 {x : Int} (h1 : -9223372036854775808 ≤ x) (h2 : x ≤ 9223372036854775807) : (Lit.int .i64 x).wf = true := by
  simp [Lit.wf, IntKind.min, IntKind.max, IntKind.signed, IntKind.bits]; omega
end Go.Proofs.YtpbkieeheepelaaDoor
