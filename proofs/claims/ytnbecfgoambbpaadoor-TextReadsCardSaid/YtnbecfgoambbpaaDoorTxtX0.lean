/- The walk of the reference's event (0). (Written by gen_txtX.py.) -/
import Derived.Test.YtnbecfgoambbpaaDoorTxtW
import Derived.Test.YtnbecfgoambbpaaDoorTxtT
import Derived.RegionTactic
import Derived.Deep.Cut
import Derived.Deep.DeepCutAuto
namespace Go.Proofs.YtnbecfgoambbpaaDoor
open Go.RowKit WPlain

/-- what number answers, in every later world -/
def RNum (v : Value) (w : World) (xs ys : Array Value) (lo hi en : Int) : Prop :=
  ∀ w', Below w.heap.size w w' → Calls Tryd.prog 40 #[v, .agg xs, .int .i64 lo, .int .i64 hi, .int .i64 en] w' fun e w2 => e = .returned (.agg ys) ∧ Below w'.heap.size w' w2
def RKind (s : ByteArray) (w : World) (k : Int) : Prop :=
  ∀ w', Below w.heap.size w w' → Calls Tryd.prog 39 #[.string s] w' fun e w2 => e = .returned (.int .i64 k) ∧ Below w'.heap.size w' w2
def RNames (v : Value) (w : World) (ns : List Int) : Prop :=
  ∀ w', Below w.heap.size w w' → Calls Tryd.prog 26 #[v] w' fun e w2 => ∃ v', e = .returned v' ∧ w2.ownsRow w'.heap.size 3 1 v' ns.length (ints ns) ∧ Below w'.heap.size w' w2
def RAt (w : World) (b o : Nat) (x : Nat) : Prop := ∀ w', Below w.heap.size w w' → b < w'.heap.size ∧ w'.cell? ⟨b, o, none⟩ = some (.int .i64 x)

/-- blocks of the call's own: the line, the result, and (behind the first number) the event -/
def Sa (w w' : World) (A R : Array Value) : Prop := At w' w.heap.size A 50 ∧ At w' (w.heap.size + 1) R 53 ∧ Below w.heap.size w w'
theorem Sa.start (w : World) (A R : Array Value) : Sa w ((w.alloc (.cells A 50)).alloc (.cells R 53)) A R := by
  have hR := At.new (w.alloc (.cells A 50)) R 53
  simp only [World.size_alloc] at hR
  exact ⟨(At.new w A 50).alloc _, hR, ((Below.refl w.heap.size w).alloc (Nat.le_refl _) _).alloc (by simp) _⟩
theorem Sa.call {w w1 w2 : World} {A R : Array Value} (h : Sa w w1 A R) (hb : Below w1.heap.size w1 w2) : Sa w w2 A R :=
  ⟨h.1.below hb h.1.lt, h.2.1.below hb h.2.1.lt, h.2.2.trans (hb.mono h.2.2.size)⟩
def Sb (w w' : World) (A R E : Array Value) (M : Nat) : Prop := Sa w w' A R ∧ At w' M E 53 ∧ w.heap.size + 1 < M
theorem Sa.event {w w1 : World} {A R : Array Value} (h : Sa w w1 A R) (E : Array Value) : Sb w (w1.alloc (.cells E 53)) A R E w1.heap.size :=
  ⟨⟨h.1.alloc _, h.2.1.alloc _, h.2.2.alloc h.2.2.size _⟩, At.new w1 E 53, h.2.1.lt⟩
theorem Sb.call {w w1 w2 : World} {A R E : Array Value} {M : Nat} (h : Sb w w1 A R E M) (hb : Below w1.heap.size w1 w2) : Sb w w2 A R E M :=
  ⟨h.1.call hb, h.2.1.below hb h.2.1.lt, h.2.2⟩
theorem Sb.setE {w w1 : World} {A R E : Array Value} {M : Nat} (h : Sb w w1 A R E M) (i : Nat) (u : Value) : Sb w (w1.setCell ⟨M, i, none⟩ u) A R (E.setIfInBounds i u) M := by
  have h1 := h.2.2
  exact ⟨⟨h.1.1.other (by show w.heap.size ≠ M; omega) u, h.1.2.1.other (by show w.heap.size + 1 ≠ M; omega) u, h.1.2.2.setCell (by show w.heap.size ≤ M; omega) u⟩, h.2.1.set i u, h.2.2⟩

theorem Sb.put8 {w w1 : World} {A R : Array Value} {M : Nat} {a0 a1 a2 a3 a4 a5 a6 a7 : Value} (h : Sb w w1 A R #[a0, a1, a2, a3, a4, a5, a6, a7] M) (y0 y1 y2 y3 y4 y5 y6 y7 : Value) : Sb w ((((((((w1.setCell ⟨M, 0, none⟩ y0).setCell ⟨M, 1, none⟩ y1).setCell ⟨M, 2, none⟩ y2).setCell ⟨M, 3, none⟩ y3).setCell ⟨M, 4, none⟩ y4).setCell ⟨M, 5, none⟩ y5).setCell ⟨M, 6, none⟩ y6).setCell ⟨M, 7, none⟩ y7) A R #[y0, y1, y2, y3, y4, y5, y6, y7] M := by
  have h8 := ((((((((h.setE 0 y0).setE 1 y1).setE 2 y2).setE 3 y3).setE 4 y4).setE 5 y5).setE 6 y6).setE 7 y7)
  simpa using h8
theorem Sb.put2' {w w1 : World} {A R : Array Value} {M : Nat} {a0 a1 a2 a3 a4 a5 a6 a7 : Value} (h : Sb w w1 A R #[a0, a1, a2, a3, a4, a5, a6, a7] M) (u : Value) : Sb w (w1.setCell ⟨M, 2, none⟩ u) A R #[a0, a1, u, a3, a4, a5, a6, a7] M := h.setE 2 u
theorem Sb.put3' {w w1 : World} {A R : Array Value} {M : Nat} {a0 a1 a2 a3 a4 a5 a6 a7 : Value} (h : Sb w w1 A R #[a0, a1, a2, a3, a4, a5, a6, a7] M) (u : Value) : Sb w (w1.setCell ⟨M, 3, none⟩ u) A R #[a0, a1, a2, u, a4, a5, a6, a7] M := h.setE 3 u

set_option maxRecDepth 100000 in
set_option maxHeartbeats 1500000 in
theorem rev_60 (b1 o1 m c1 b2 o2 c2 en : Nat) (av : Option Addr) (lh cv : Nat) (w : World) (p : Nat) (hb2 : b2 < w.heap.size) (hc2 : w.cell? ⟨b2, o2, none⟩ = some (.int .i64 p)) (hm : 0 < m) (h60 : lh = 60) :
    Calls Tryd.prog 20 #[.agg #[.slice (some ⟨b1, o1, none⟩) m c1, .slice (some ⟨b2, o2, none⟩) m c2], .slice av lh cv, .int .i64 en] w fun e w' => e = .returned (.agg #[.int .i64 0, .int .i64 0, .int .i64 0, .int .i64 0, .int .i64 0, .int .i64 0, .int .i64 p, .int .i64 5]) ∧ Below w.heap.size w w' := by
  have t60 : ((lh : Int) == 60) = true := by simp [h60]
  clear h60
  have hbA : b2 < w.heap.size + 1 := by omega
  have hbB : b2 < w.heap.size + 1 + 1 := by omega
  go_enter Tryd.func20, Tryd.ntmps20
  go_wp2
  exact bodyPost_ret (v := .agg #[.int .i64 0, .int .i64 0, .int .i64 0, .int .i64 0, .int .i64 0, .int .i64 0, .int .i64 p, .int .i64 5]) (by simp [results, Tryd.results20, go_sem]) rfl ⟨rfl, ((Below.refl w.heap.size w).alloc (Nat.le_refl _) _).alloc (by simp) _⟩

set_option maxRecDepth 100000 in
set_option maxHeartbeats 1500000 in
theorem rev_kind (b1 o1 m c1 b2 o2 c2 en : Nat) (av : Option Addr) (lh cv : Nat) (w : World) (s : ByteArray) (hb1 : b1 < w.heap.size) (hc1 : w.cell? ⟨b1, o1, none⟩ = some (.string s)) (hm : 0 < m) (p : Nat) (HAt : RAt w b2 o2 p) (h60 : ¬ lh = 60) (HK : RKind s w (-1)) :
    Calls Tryd.prog 20 #[.agg #[.slice (some ⟨b1, o1, none⟩) m c1, .slice (some ⟨b2, o2, none⟩) m c2], .slice av lh cv, .int .i64 en] w fun e w' => e = .returned (.agg #[.int .i64 0, .int .i64 0, .int .i64 0, .int .i64 0, .int .i64 0, .int .i64 0, .int .i64 p, .int .i64 2]) ∧ Below w.heap.size w w' := by
  have HKh := Lib.hid HK
  clear HK
  have HAth := Lib.hid HAt
  clear HAt
  have t60 : ((lh : Int) == 60) = false := by simp; omega
  clear h60
  have hbA : b1 < w.heap.size + 1 := by omega
  have hbB : b1 < w.heap.size + 1 + 1 := by omega
  have hS := Sa.start w #[.slice (some ⟨b1, o1, none⟩) m c1, .slice (some ⟨b2, o2, none⟩) m c2] #[.int .i64 0, .int .i64 0, .int .i64 0, .int .i64 0, .int .i64 0, .int .i64 0, .int .i64 0, .int .i64 0]
  go_enter Tryd.func20, Tryd.ntmps20
  go_wp2_with fail
  generalize (w.alloc (.cells #[.slice (some ⟨b1, o1, none⟩) m c1, .slice (some ⟨b2, o2, none⟩) m c2] 50)).alloc (.cells #[.int .i64 0, .int .i64 0, .int .i64 0, .int .i64 0, .int .i64 0, .int .i64 0, .int .i64 0, .int .i64 0] 53) = w0 at *
  refine (HKh.out _ hS.2.2).mono ?_
  rintro e w1 ⟨rfl, hb'⟩
  have hS := hS.call hb'
  clear hb' hc1 hb1 hbA hbB
  have hA0 := hS.1.cell (i := 0) (v := .slice (some ⟨b1, o1, none⟩) m c1) rfl
  have hA1 := hS.1.cell (i := 1) (v := .slice (some ⟨b2, o2, none⟩) m c2) rfl
  have hR0 := hS.2.1.cell (i := 0) rfl
  have hG0 := hS.2.1.free 0
  have hR1 := hS.2.1.cell (i := 1) rfl
  have hG1 := hS.2.1.free 1
  have hR2 := hS.2.1.cell (i := 2) rfl
  have hG2 := hS.2.1.free 2
  have hR3 := hS.2.1.cell (i := 3) rfl
  have hG3 := hS.2.1.free 3
  have hR4 := hS.2.1.cell (i := 4) rfl
  have hG4 := hS.2.1.free 4
  have hR5 := hS.2.1.cell (i := 5) rfl
  have hG5 := hS.2.1.free 5
  have hR6 := hS.2.1.cell (i := 6) rfl
  have hG6 := hS.2.1.free 6
  have hR7 := hS.2.1.cell (i := 7) rfl
  have hG7 := hS.2.1.free 7
  obtain ⟨hx1, hx2⟩ := HAth.out _ hS.2.2
  have hbz := hS.2.2
  go_wp2
  exact bodyPost_ret (v := .agg #[.int .i64 0, .int .i64 0, .int .i64 0, .int .i64 0, .int .i64 0, .int .i64 0, .int .i64 p, .int .i64 2]) (by simp [results, Tryd.results20, go_sem, hR0, hR1, hR2, hR3, hR4, hR5, hR6, hR7]) rfl ⟨rfl, by repeat' (first | (with_reducible exact hbz) | (with_reducible refine Below.setCell ?_ (by simp) _))⟩

end Go.Proofs.YtnbecfgoambbpaaDoor
