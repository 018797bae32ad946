/- Merged: PlainB, TxtA, KitB, PrpA, PrpB. -/
import Derived.Test.YtkliahdgciajjaaDoorKit
import Derived.Test.YtkliahdgciajjaaDoorShelf
import Derived.Below
import Derived.Lib.Strings
import Derived.Lib.ItoaLen
import Derived.Laws.NewBlocks
import Derived.Maps.OwnSet
import Derived.Deep.RegionLaw
import Derived.Maps.RangeWalk
/- Plain numbers' texts: no program in sight. -/
namespace Go.Proofs.YtkliahdgciajjaaDoor.WPlain

def inR (n : Int) : Bool := decide (-2147483648 ≤ n) && decide (n ≤ 2147483647)
end Go.Proofs.YtkliahdgciajjaaDoor.WPlain
/- Plain events and lines: no program in sight. -/
namespace Go.Proofs.YtkliahdgciajjaaDoor.WPlain

/-- an event: kind, transaction, variable, value -/
structure Ev where
  k : Int
  t : Int
  v : Int
  x : Int
  deriving DecidableEq

/-- the kinds' words -/
def kwords : List (List UInt8) := [[98, 101, 103, 105, 110], [98, 101, 103, 117, 110], [114, 101, 97, 100], [103, 111, 116], [119, 114, 105, 116, 101], [119, 114, 111, 116, 101], [99, 111, 109, 109, 105, 116], [99, 111, 109, 109, 105, 116, 116, 101, 100], [99, 97, 110, 99, 101, 108], [97, 98, 111, 114, 116, 101, 100]]
def hasV (k : Nat) : Bool := k == 2 || k == 4
def hasX (k : Nat) : Bool := k == 3 || k == 4

def inB (n lo hi : Int) : Bool := decide (lo ≤ n) && decide (n ≤ hi)
def addName (a : List Int) (n : Int) : List Int := if a.contains n = true then a else a ++ [n]
/-- the transactions' names, once each -/
def namesOf (h : List Ev) : List Int := h.foldl (fun a e => addName a e.t) []
/-- may an event be? -/
def evOk (e : Ev) : Bool := inB e.k 0 9 && ((hasV e.k.toNat || e.v == 0) && (hasX e.k.toNat || e.x == 0)) && (inB e.t 0 9999 && inB e.v 0 7 && inB e.x (-2147483648) 2147483647)
def right (h : List Ev) : Bool := decide (h.length ≤ 60) && h.all evOk && decide ((namesOf h).length ≤ 6)
theorem namesOf_snoc (h : List Ev) (e : Ev) : namesOf (h ++ [e]) = addName (namesOf h) e.t := by simp [namesOf]
theorem addName_len (a : List Int) (n : Int) : (addName a n).length ≤ a.length + 1 := by unfold addName; split <;> simp
theorem namesOf_len (h : List Ev) : (namesOf h).length ≤ h.length := by
  have : ∀ (h : List Ev) (a : List Int), (h.foldl (fun a e => addName a e.t) a).length ≤ a.length + h.length := by
    intro h
    induction h with
    | nil => intro a; simp
    | cons e r ih => intro a; have h1 := ih (addName a e.t); have h2 := addName_len a e.t; simp only [List.foldl_cons, List.length_cons]; omega
  have h0 := this h []
  simpa [namesOf] using h0
end Go.Proofs.YtkliahdgciajjaaDoor.WPlain
/- Small laws of memory, of no program: slices that read as lists, rows of structs. -/
namespace Go.Proofs.YtkliahdgciajjaaDoor.WPlain
end Go.Proofs.YtkliahdgciajjaaDoor.WPlain
namespace Go.Proofs.YtkliahdgciajjaaDoor
open Go.RowKit WPlain

theorem cell_lt {w : World} {b o : Nat} {u : Value} (h : w.cell? ⟨b, o, none⟩ = some u) : b < w.heap.size := World.block_lt_of_cell? w _ h
theorem Rd.opened {w : World} {v : Value} {xs : List Value} (h : Rd w v xs) (h0 : 0 < xs.length) :
    ∃ b o c, v = .slice (some ⟨b, o, none⟩) xs.length c ∧ b < w.heap.size ∧ ∀ i u, xs[i]? = some u → w.cell? ⟨b, o + i, none⟩ = some u := by
  rcases h with ⟨rfl, _⟩ | ⟨_, b, o, c, rfl, hc⟩
  · simp at h0
  · exact ⟨b, o, c, rfl, cell_lt (hc 0 xs[0] (List.getElem?_eq_getElem h0)), hc⟩

/-- the cells of events -/
def evCells (e : Ev) : List Value := [.int .i64 e.k, .int .i64 e.t, .int .i64 e.v, .int .i64 e.x]
def evsCells (h : List Ev) : List Value := h.flatMap evCells
def evVal (e : Ev) : Value := .agg #[.int .i64 e.k, .int .i64 e.t, .int .i64 e.v, .int .i64 e.x]
theorem evsCells_len (h : List Ev) : (evsCells h).length = h.length * 4 := by
  induction h with
  | nil => rfl
  | cons e r ih => simp only [evsCells, List.flatMap_cons, List.length_append, List.length_cons] at *; rw [ih]; simp [evCells]; omega
theorem evsCells_snoc (h : List Ev) (e : Ev) : evsCells h ++ evCells e = evsCells (h ++ [e]) := by simp [evsCells]
theorem evsCells_get (h : List Ev) : ∀ (i : Nat) (hi : i < h.length) (j : Nat), j < 4 → (evsCells h)[i * 4 + j]? = (evCells h[i])[j]? := by
  induction h with
  | nil => intro i hi; simp at hi
  | cons e r ih =>
    intro i hi j hj
    have e4 : (evCells e).length = 4 := rfl
    show (evCells e ++ evsCells r)[i * 4 + j]? = _
    cases i with
    | zero => rw [List.getElem?_append_left (by omega)]; simp
    | succ i =>
      rw [List.getElem?_append_right (by omega), e4, show (i + 1) * 4 + j - 4 = i * 4 + j from by omega]
      simpa using ih i (by simpa using hi) j hj

/-- a slice value reads as a list of events -/
def Evs (w : World) (v : Value) (h : List Ev) : Prop :=
  (h = [] ∧ ∃ a c, v = .slice a 0 c) ∨
  (0 < h.length ∧ ∃ b o c, v = .slice (some ⟨b, o, none⟩) h.length c ∧ b < w.heap.size ∧ ∀ i (hi : i < h.length),
    w.cell? ⟨b, o + i * 4, none⟩ = some (.int .i64 h[i].k) ∧ w.cell? ⟨b, o + i * 4 + 1, none⟩ = some (.int .i64 h[i].t) ∧
    w.cell? ⟨b, o + i * 4 + 2, none⟩ = some (.int .i64 h[i].v) ∧ w.cell? ⟨b, o + i * 4 + 3, none⟩ = some (.int .i64 h[i].x))
theorem Evs.len {w : World} {v : Value} {h : List Ev} (hv : Evs w v h) : ∃ a c, v = .slice a h.length c := by
  rcases hv with ⟨rfl, a, c, rfl⟩ | ⟨_, b, o, c, rfl, _⟩
  · exact ⟨_, _, rfl⟩
  · exact ⟨_, _, rfl⟩
theorem Evs.nil (w : World) (a : Option Addr) (c : Nat) : Evs w (.slice a 0 c) [] := .inl ⟨rfl, _, _, rfl⟩
theorem Evs.below {w w' : World} {B : Nat} {v : Value} {h : List Ev} (hv : Evs w v h) (hb : Below B w w') (hB : w.heap.size ≤ B) : Evs w' v h := by
  rcases hv with h0 | ⟨h0, b, o, c, rfl, hlt, hc⟩
  · exact .inl h0
  · refine .inr ⟨h0, b, o, c, rfl, Nat.lt_of_lt_of_le hlt hb.size, fun i hi => ?_⟩
    have hlt' : b < B := Nat.lt_of_lt_of_le hlt hB
    obtain ⟨c0, c1, c2, c3⟩ := hc i hi
    exact ⟨(hb.cell (p := ⟨b, _, none⟩) hlt').trans c0, (hb.cell (p := ⟨b, _, none⟩) hlt').trans c1, (hb.cell (p := ⟨b, _, none⟩) hlt').trans c2, (hb.cell (p := ⟨b, _, none⟩) hlt').trans c3⟩
theorem Evs.of_row {w : World} {B : Nat} {e : TypeId} {v : Value} {h : List Ev} (hr : w.ownsRow B e 4 v h.length (evsCells h)) : Evs w v h := by
  rcases hr.2 with ⟨rfl, hn⟩ | ⟨g, cap, cur, rfl, hb, hg, hn, hm, hs, ht⟩
  · have := evsCells_len h
    rw [hn] at this
    have h0 : h = [] := List.length_eq_zero_iff.1 (by simp at this; omega)
    subst h0
    exact Evs.nil _ _ _
  · by_cases h0 : 0 < h.length
    · have hcell := fun i u hu => hr.cells (g := g) rfl i u hu
      have hadd : ∀ i, (⟨g, 0, none⟩ : Addr).add i = ⟨g, 0 + i, none⟩ := by intro i; unfold Addr.add; split <;> simp_all
      refine .inr ⟨h0, g, 0, cap, rfl, (Array.getElem?_eq_some_iff.1 hg).1, fun i hi => ?_⟩
      have g0 := hcell (i * 4) _ ((evsCells_get h i hi 0 (by omega)).trans rfl)
      have g1 := hcell (i * 4 + 1) _ ((evsCells_get h i hi 1 (by omega)).trans rfl)
      have g2 := hcell (i * 4 + 2) _ ((evsCells_get h i hi 2 (by omega)).trans rfl)
      have g3 := hcell (i * 4 + 3) _ ((evsCells_get h i hi 3 (by omega)).trans rfl)
      rw [hadd] at g0 g1 g2 g3
      exact ⟨g0, g1, g2, g3⟩
    · have : h = [] := List.length_eq_zero_iff.1 (by omega)
      subst this
      exact Evs.nil _ _ _
end Go.Proofs.YtkliahdgciajjaaDoor
/- Plain words of events that may be there: no program in sight. -/
namespace Go.Proofs.YtkliahdgciajjaaDoor.WPlain
end Go.Proofs.YtkliahdgciajjaaDoor.WPlain
namespace Go.Proofs.YtkliahdgciajjaaDoor.QPlain
open WPlain

/-- the kinds that may come next in each state, and the state behind each -/
def mvs : List (List (Nat × Nat)) := [[(0, 1)], [(1, 2), (9, 7)], [(2, 3), (4, 4), (6, 5), (8, 6)], [(3, 2), (9, 7)], [(5, 2), (9, 7)], [(7, 7), (9, 7)], [(9, 7)], []]
def mv (s k : Nat) : Option Nat := (mvs.getD s []).lookup k
/-- .. as a map reads -/
def rowD (s : Nat) : DataW Unit := (mvs.getD s []).foldl (fun m p => m.put (.int .i64 (p.1 : Int)) (.lit (.int .i64 (p.2 : Int)))) (.map [])
theorem eight {s : Nat} (h : s < 8) : s = 0 ∨ s = 1 ∨ s = 2 ∨ s = 3 ∨ s = 4 ∨ s = 5 ∨ s = 6 ∨ s = 7 := by omega
theorem tenk {k : Nat} (h : k < 10) : k = 0 ∨ k = 1 ∨ k = 2 ∨ k = 3 ∨ k = 4 ∨ k = 5 ∨ k = 6 ∨ k = 7 ∨ k = 8 ∨ k = 9 := by omega
theorem row_at {s k : Nat} (hs : s < 8) (hk : k < 10) (z : DataW Unit) : (rowD s).atKey (.int .i64 (k : Int)) z = (match mv s k with | some n => .lit (.int .i64 (n : Int)) | none => z) := by
  rcases eight hs with rfl | rfl | rfl | rfl | rfl | rfl | rfl | rfl <;> rcases tenk hk with rfl | rfl | rfl | rfl | rfl | rfl | rfl | rfl | rfl | rfl <;> rfl
theorem row_has {s k : Nat} (hs : s < 8) (hk : k < 10) : Maps.has (rowD s) (.int .i64 (k : Int)) = (mv s k).isSome := by
  rcases eight hs with rfl | rfl | rfl | rfl | rfl | rfl | rfl | rfl <;> rcases tenk hk with rfl | rfl | rfl | rfl | rfl | rfl | rfl | rfl | rfl | rfl <;> rfl
theorem mv_lt {s k n : Nat} (hs : s < 8) (hk : k < 10) (h : mv s k = some n) : n < 8 := by
  have hall : ∀ s, s < 8 → ∀ k, k < 10 → (mv s k).all (fun n => decide (n < 8)) = true := by decide +kernel
  have := hall s hs k hk
  rw [h] at this
  simpa using this
/-- the states behind one more event; behind events, or the place of the first that may not be there -/
def upd (F : Int → Nat) (t : Int) (s : Nat) : Int → Nat := fun u => if u = t then s else F u
def flw (F : Int → Nat) (i : Nat) : List Ev → (Int → Nat) × Nat × Bool
  | [] => (F, i, true)
  | e :: r => match mv (F e.t) e.k.toNat with
    | none => (F, i, false)
    | some s => flw (upd F e.t s) (i + 1) r
def flw0 (h : List Ev) : (Int → Nat) × Nat × Bool := flw (fun _ => 0) 0 h
/-- how many events; or the error, and the place -/
def checkS (h : List Ev) : Nat × Nat := if right h = true then (if (flw0 h).2.2 = true then (h.length, 0) else ((flw0 h).2.1, 6)) else (0, 1)
theorem flw_none {F : Int → Nat} {i : Nat} {e : Ev} {r : List Ev} (h : mv (F e.t) e.k.toNat = none) : flw F i (e :: r) = (F, i, false) := by unfold flw; rw [h]
theorem flw_some {F : Int → Nat} {i : Nat} {e : Ev} {r : List Ev} {s : Nat} (h : mv (F e.t) e.k.toNat = some s) : flw F i (e :: r) = flw (upd F e.t s) (i + 1) r := by rw [flw, h]
theorem right_evs {h : List Ev} (hr : right h = true) : h.length ≤ 60 ∧ ∀ e ∈ h, (0 ≤ e.k ∧ e.k < 10) ∧ (0 ≤ e.t ∧ e.t ≤ 9999) := by
  simp only [right, Bool.and_eq_true, decide_eq_true_eq, List.all_eq_true] at hr
  refine ⟨hr.1.1, fun e he => ?_⟩
  have := hr.1.2 e he
  simp only [evOk, inB, Bool.and_eq_true, decide_eq_true_eq] at this
  omega
end Go.Proofs.YtkliahdgciajjaaDoor.QPlain
/- Maps of maps, of the call's own: laws of no program; and what moves hands back. -/
namespace Go.Proofs.YtkliahdgciajjaaDoor.WPlain
end Go.Proofs.YtkliahdgciajjaaDoor.WPlain
namespace Go.Proofs.YtkliahdgciajjaaDoor.QPlain
end Go.Proofs.YtkliahdgciajjaaDoor.QPlain
namespace Go.Proofs.YtkliahdgciajjaaDoor
open Go.RowKit WPlain QPlain
open Go.Maps (Keyed)

/-- how an element that is a map reads: by its block -/
def mapE : Value → Option (DataW Unit × List MemPlace)
  | .map (some b) => some (.lit (.int .i64 (b : Int)), [])
  | .map none => some (.lit (.int .i64 (-1)), [])
  | _ => none
theorem mapE_inv {v : Value} {b : Nat} {ps : List MemPlace} (h : mapE v = some (.lit (.int .i64 (b : Int)), ps)) : v = .map (some b) := by
  unfold mapE at h
  split at h
  · rename_i b'
    simp at h
    obtain rfl : b' = b := by omega
    rfl
  · simp at h
  · cases h
theorem ownsMap_below {H : Type} {P : Program} {k : TypeId} {R : Value → Option (DataW H × List MemPlace)} {w w' : World} {b n B : Nat} {D : DataW H} (h : w.ownsMap P k R b n D) (hb : Below B w w') (hlt : b < B) : w'.ownsMap P k R b n D := by
  obtain ⟨es, clock, hh, r⟩ := h
  exact ⟨es, clock, (hb.block b hlt).trans hh, r⟩
theorem stateK : Keyed Tryd.prog 80 := Maps.int_keyed Tryd.underlying80
theorem intK : Keyed Tryd.prog 3 := Maps.int_keyed Tryd.underlying3
theorem key_state {i : Int} (h : (Lit.int .i64 i).wf = true) : keyOf Tryd.prog 80 (.int .i64 i) = some (.int .i64 i) := Maps.keyOf_int_mk Tryd.underlying80 h
theorem key_int {i : Int} (h : (Lit.int .i64 i).wf = true) : keyOf Tryd.prog 3 (.int .i64 i) = some (.int .i64 i) := Maps.keyOf_int_mk Tryd.underlying3 h
theorem elem_state {i : Int} (h : (Lit.int .i64 i).wf = true) : plainElem (H := Unit) Tryd.prog 80 (.int .i64 i) = some (.lit (.int .i64 i), []) := plainElem_int Tryd.underlying80 h
theorem zeroState (w : World) : (zeroValue 80).run Tryd.prog w = .ok (.int .i64 0) w := by kernel_rfl
theorem zeroMap (w : World) : (zeroValue 75).run Tryd.prog w = .ok (.map none) w := by kernel_rfl
/-- what moves hands back: a map of the states' maps, all between two numbers -/
def Mov (B U : Nat) (w : World) (b : Nat) : Prop :=
  B ≤ b ∧ b < U ∧ ∃ n D, w.ownsMap Tryd.prog 80 mapE b n D ∧ ∀ s : Nat, s < 8 → ∃ bs m, B ≤ bs ∧ bs < U ∧ (∀ z, D.atKey (.int .i64 (s : Int)) z = .lit (.int .i64 (bs : Int))) ∧ w.ownsMap Tryd.prog 3 (plainElem Tryd.prog 80) bs m (rowD s)
theorem Mov.below {B U C : Nat} {w w' : World} {b : Nat} (h : Mov B U w b) (hb : Below C w w') (hC : w.heap.size ≤ C) : Mov B U w' b := by
  obtain ⟨hB, hU, n, D, ho, hs⟩ := h
  refine ⟨hB, hU, n, D, ownsMap_below ho hb (Nat.lt_of_lt_of_le ho.lt hC), fun s h8 => ?_⟩
  obtain ⟨bs, m, h1, h4, h2, h3⟩ := hs s h8
  exact ⟨bs, m, h1, h4, h2, ownsMap_below h3 hb (Nat.lt_of_lt_of_le h3.lt hC)⟩
theorem Mov.grown {B U S : Nat} {w w' : World} {b : Nat} (h : Mov B U w b) (hg : w.grownBy w' (some S)) (hS : U ≤ S) : Mov B U w' b := by
  obtain ⟨hB, hU, n, D, ho, hs⟩ := h
  refine ⟨hB, hU, n, D, ho.kept hg (fun hh => by have hh := Option.some.inj hh; omega), fun s h8 => ?_⟩
  obtain ⟨bs, m, h1, h4, h2, h3⟩ := hs s h8
  exact ⟨bs, m, h1, h4, h2, h3.kept hg (fun hh => by have hh := Option.some.inj hh; omega)⟩
theorem Mov.mono {B B' U : Nat} {w : World} {b : Nat} (h : Mov B U w b) (hB : B' ≤ B) : Mov B' U w b := by
  obtain ⟨h1, hU, n, D, ho, hs⟩ := h
  refine ⟨Nat.le_trans hB h1, hU, n, D, ho, fun s h8 => ?_⟩
  obtain ⟨bs, m, h1, h4, h2, h3⟩ := hs s h8
  exact ⟨bs, m, Nat.le_trans hB h1, h4, h2, h3⟩
theorem wf64 {x : Int} (h1 : -9223372036854775808 ≤ x) (h2 : x ≤ 9223372036854775807) : (Lit.int .i64 x).wf = true := by
  simp [Lit.wf, IntKind.min, IntKind.max, IntKind.signed, IntKind.bits]; omega
end Go.Proofs.YtkliahdgciajjaaDoor
