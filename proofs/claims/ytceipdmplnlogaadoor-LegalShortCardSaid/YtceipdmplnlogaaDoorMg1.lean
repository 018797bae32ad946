/- Merged: PlainB, TxtA, KitB. -/
import Derived.Test.YtceipdmplnlogaaDoorKit
import Derived.Below
import Derived.Lib.Strings
import Derived.Lib.ItoaLen
import Derived.Laws.NewBlocks
/- Plain numbers' texts: no program in sight. -/
namespace Go.Proofs.YtceipdmplnlogaaDoor.WPlain

def inR (n : Int) : Bool := decide (-2147483648 ≤ n) && decide (n ≤ 2147483647)
/-- a rule of growing lists -/
theorem snoc_ind {P : List UInt8 → Prop} (h0 : P []) (h1 : ∀ l c, P l → P (l ++ [c])) (l : List UInt8) : P l := by
  have : ∀ n, ∀ l : List UInt8, l.length = n → P l := by
    intro n
    induction n with
    | zero => intro l hl; rw [List.length_eq_zero_iff.1 hl]; exact h0
    | succ n ih =>
      intro l hl
      have hne : l ≠ [] := by intro h; rw [h] at hl; simp at hl
      rw [← List.dropLast_concat_getLast hne]
      exact h1 _ _ (ih _ (by rw [List.length_dropLast]; omega))
  exact this _ l rfl

end Go.Proofs.YtceipdmplnlogaaDoor.WPlain
/- Plain events and lines: no program in sight. -/
namespace Go.Proofs.YtceipdmplnlogaaDoor.WPlain

/-- an event: kind, transaction, variable, value -/
structure Ev where
  k : Int
  t : Int
  v : Int
  x : Int
  deriving DecidableEq

/-- the kinds' words -/
def kwords : List (List UInt8) := [[98, 101, 103, 105, 110], [98, 101, 103, 117, 110], [114, 101, 97, 100], [103, 111, 116], [119, 114, 105, 116, 101], [119, 114, 111, 116, 101], [99, 111, 109, 109, 105, 116], [99, 111, 109, 109, 105, 116, 116, 101, 100], [99, 97, 110, 99, 101, 108], [97, 98, 111, 114, 116, 101, 100]]
def hasV (k : Nat) : Bool := k == 2 || k == 4
def hasX (k : Nat) : Bool := k == 3 || k == 4

def inB (n lo hi : Int) : Bool := decide (lo ≤ n) && decide (n ≤ hi)
def addName (a : List Int) (n : Int) : List Int := if a.contains n = true then a else a ++ [n]
/-- the transactions' names, once each -/
def namesOf (h : List Ev) : List Int := h.foldl (fun a e => addName a e.t) []
/-- may an event be? -/
def evOk (e : Ev) : Bool := inB e.k 0 9 && ((hasV e.k.toNat || e.v == 0) && (hasX e.k.toNat || e.x == 0)) && (inB e.t 0 9999 && inB e.v 0 7 && inB e.x (-2147483648) 2147483647)
def right (h : List Ev) : Bool := decide (h.length ≤ 60) && h.all evOk && decide ((namesOf h).length ≤ 6)
theorem namesOf_snoc (h : List Ev) (e : Ev) : namesOf (h ++ [e]) = addName (namesOf h) e.t := by simp [namesOf]
theorem addName_len (a : List Int) (n : Int) : (addName a n).length ≤ a.length + 1 := by unfold addName; split <;> simp
theorem namesOf_len (h : List Ev) : (namesOf h).length ≤ h.length := by
  have : ∀ (h : List Ev) (a : List Int), (h.foldl (fun a e => addName a e.t) a).length ≤ a.length + h.length := by
    intro h
    induction h with
    | nil => intro a; simp
    | cons e r ih => intro a; have h1 := ih (addName a e.t); have h2 := addName_len a e.t; simp only [List.foldl_cons, List.length_cons]; omega
  have h0 := this h []
  simpa [namesOf] using h0
end Go.Proofs.YtceipdmplnlogaaDoor.WPlain
/- Small laws of memory, of no program: slices that read as lists, rows of structs. -/
namespace Go.Proofs.YtceipdmplnlogaaDoor.WPlain
end Go.Proofs.YtceipdmplnlogaaDoor.WPlain
namespace Go.Proofs.YtceipdmplnlogaaDoor
open Go.RowKit WPlain

theorem cell_lt {w : World} {b o : Nat} {u : Value} (h : w.cell? ⟨b, o, none⟩ = some u) : b < w.heap.size := World.block_lt_of_cell? w _ h
theorem Rd.opened {w : World} {v : Value} {xs : List Value} (h : Rd w v xs) (h0 : 0 < xs.length) :
    ∃ b o c, v = .slice (some ⟨b, o, none⟩) xs.length c ∧ b < w.heap.size ∧ ∀ i u, xs[i]? = some u → w.cell? ⟨b, o + i, none⟩ = some u := by
  rcases h with ⟨rfl, _⟩ | ⟨_, b, o, c, rfl, hc⟩
  · simp at h0
  · exact ⟨b, o, c, rfl, cell_lt (hc 0 xs[0] (List.getElem?_eq_getElem h0)), hc⟩

/-- the cells of events -/
def evCells (e : Ev) : List Value := [.int .i64 e.k, .int .i64 e.t, .int .i64 e.v, .int .i64 e.x]
def evsCells (h : List Ev) : List Value := h.flatMap evCells
def evVal (e : Ev) : Value := .agg #[.int .i64 e.k, .int .i64 e.t, .int .i64 e.v, .int .i64 e.x]
theorem evsCells_len (h : List Ev) : (evsCells h).length = h.length * 4 := by
  induction h with
  | nil => rfl
  | cons e r ih => simp only [evsCells, List.flatMap_cons, List.length_append, List.length_cons] at *; rw [ih]; simp [evCells]; omega
theorem evsCells_snoc (h : List Ev) (e : Ev) : evsCells h ++ evCells e = evsCells (h ++ [e]) := by simp [evsCells]
theorem evsCells_get (h : List Ev) : ∀ (i : Nat) (hi : i < h.length) (j : Nat), j < 4 → (evsCells h)[i * 4 + j]? = (evCells h[i])[j]? := by
  induction h with
  | nil => intro i hi; simp at hi
  | cons e r ih =>
    intro i hi j hj
    have e4 : (evCells e).length = 4 := rfl
    show (evCells e ++ evsCells r)[i * 4 + j]? = _
    cases i with
    | zero => rw [List.getElem?_append_left (by omega)]; simp
    | succ i =>
      rw [List.getElem?_append_right (by omega), e4, show (i + 1) * 4 + j - 4 = i * 4 + j from by omega]
      simpa using ih i (by simpa using hi) j hj

/-- a slice value reads as a list of events -/
def Evs (w : World) (v : Value) (h : List Ev) : Prop :=
  (h = [] ∧ ∃ a c, v = .slice a 0 c) ∨
  (0 < h.length ∧ ∃ b o c, v = .slice (some ⟨b, o, none⟩) h.length c ∧ b < w.heap.size ∧ ∀ i (hi : i < h.length),
    w.cell? ⟨b, o + i * 4, none⟩ = some (.int .i64 h[i].k) ∧ w.cell? ⟨b, o + i * 4 + 1, none⟩ = some (.int .i64 h[i].t) ∧
    w.cell? ⟨b, o + i * 4 + 2, none⟩ = some (.int .i64 h[i].v) ∧ w.cell? ⟨b, o + i * 4 + 3, none⟩ = some (.int .i64 h[i].x))
theorem Evs.len {w : World} {v : Value} {h : List Ev} (hv : Evs w v h) : ∃ a c, v = .slice a h.length c := by
  rcases hv with ⟨rfl, a, c, rfl⟩ | ⟨_, b, o, c, rfl, _⟩
  · exact ⟨_, _, rfl⟩
  · exact ⟨_, _, rfl⟩
theorem Evs.nil (w : World) (a : Option Addr) (c : Nat) : Evs w (.slice a 0 c) [] := .inl ⟨rfl, _, _, rfl⟩
theorem Evs.below {w w' : World} {B : Nat} {v : Value} {h : List Ev} (hv : Evs w v h) (hb : Below B w w') (hB : w.heap.size ≤ B) : Evs w' v h := by
  rcases hv with h0 | ⟨h0, b, o, c, rfl, hlt, hc⟩
  · exact .inl h0
  · refine .inr ⟨h0, b, o, c, rfl, Nat.lt_of_lt_of_le hlt hb.size, fun i hi => ?_⟩
    have hlt' : b < B := Nat.lt_of_lt_of_le hlt hB
    obtain ⟨c0, c1, c2, c3⟩ := hc i hi
    exact ⟨(hb.cell (p := ⟨b, _, none⟩) hlt').trans c0, (hb.cell (p := ⟨b, _, none⟩) hlt').trans c1, (hb.cell (p := ⟨b, _, none⟩) hlt').trans c2, (hb.cell (p := ⟨b, _, none⟩) hlt').trans c3⟩
theorem Evs.of_row {w : World} {B : Nat} {e : TypeId} {v : Value} {h : List Ev} (hr : w.ownsRow B e 4 v h.length (evsCells h)) : Evs w v h := by
  rcases hr.2 with ⟨rfl, hn⟩ | ⟨g, cap, cur, rfl, hb, hg, hn, hm, hs, ht⟩
  · have := evsCells_len h
    rw [hn] at this
    have h0 : h = [] := List.length_eq_zero_iff.1 (by simp at this; omega)
    subst h0
    exact Evs.nil _ _ _
  · by_cases h0 : 0 < h.length
    · have hcell := fun i u hu => hr.cells (g := g) rfl i u hu
      have hadd : ∀ i, (⟨g, 0, none⟩ : Addr).add i = ⟨g, 0 + i, none⟩ := by intro i; unfold Addr.add; split <;> simp_all
      refine .inr ⟨h0, g, 0, cap, rfl, (Array.getElem?_eq_some_iff.1 hg).1, fun i hi => ?_⟩
      have g0 := hcell (i * 4) _ ((evsCells_get h i hi 0 (by omega)).trans rfl)
      have g1 := hcell (i * 4 + 1) _ ((evsCells_get h i hi 1 (by omega)).trans rfl)
      have g2 := hcell (i * 4 + 2) _ ((evsCells_get h i hi 2 (by omega)).trans rfl)
      have g3 := hcell (i * 4 + 3) _ ((evsCells_get h i hi 3 (by omega)).trans rfl)
      rw [hadd] at g0 g1 g2 g3
      exact ⟨g0, g1, g2, g3⟩
    · have : h = [] := List.length_eq_zero_iff.1 (by omega)
      subst this
      exact Evs.nil _ _ _
end Go.Proofs.YtceipdmplnlogaaDoor
