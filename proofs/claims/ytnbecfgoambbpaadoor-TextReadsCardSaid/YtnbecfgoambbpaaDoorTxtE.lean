/- The walk of package text's parseNumbers. (Written by gen_txtE.py.) -/
import Derived.Test.YtnbecfgoambbpaaDoorTxtB
import Derived.Test.YtnbecfgoambbpaaDoorTxtC
import Derived.Test.YtnbecfgoambbpaaDoorTxtD
namespace Go.Proofs.YtnbecfgoambbpaaDoor
open Go.RowKit WPlain

theorem IsLn.later {w w' : World} {B : Nat} {v : Value} {L : Ln} (h : IsLn w v L) (hb : Below B w w') (hB : w.heap.size ≤ B) : IsLn w' v L := by
  obtain ⟨v1, v2, rfl, h1, h2⟩ := h
  exact ⟨v1, v2, rfl, h1.below hb hB, h2.below hb hB⟩
/-- the sizes of a line -/
def LnOk (L : Ln) : Prop := L.ws.length ≤ 2147483648 ∧ L.bs.length ≤ 2147483648 ∧ ∀ l ∈ L.ws, l.length ≤ 2147483648

/-- what number answers, of a line, in every later world -/
def NumCall (v : Value) (w : World) (i : Nat) (lo hi : Int) (n e : Int) : Prop :=
  ∀ w', Below w.heap.size w w' → Calls Tryd.prog 53 #[v, .int .i64 i, .int .i64 lo, .int .i64 hi] w' fun en w2 => en = .returned (.tuple #[.int .i64 n, .int .i64 e]) ∧ Below w'.heap.size w' w2
theorem numCall (v : Value) (L : Ln) (w : World) (i : Nat) (lo hi : Int) (h : IsLn w v L) (ho : LnOk L) (hi0 : i ≤ 2147483648) : NumCall v w i lo hi (numAt L i lo hi).1 (numAt L i lo hi).2 :=
  fun _ hb => number_any v L i lo hi _ (h.later hb (Nat.le_refl _)) hi0 ho.1 ho.2.2
/-- what isTooMany answers, in every later world -/
def ManyCall (v : Value) (w : World) (n : Int) (b : Bool) : Prop :=
  ∀ w', Below w.heap.size w w' → Calls Tryd.prog 54 #[.int .i64 n, v] w' fun en w2 => en = .returned (.bool b) ∧ Below w'.heap.size w' w2
theorem manyCall (v : Value) (h : List Ev) (w : World) (n : Int) (hv : Evs w v h) (hl : h.length ≤ 65536) : ManyCall v w n (tooMany n h) :=
  fun _ hb => isTooMany_any v n h _ (hv.below hb (Nat.le_refl _)) hl

/-- three blocks of the call's own -/
def St (w w' : World) (A R E : Array Value) : Prop :=
  At w' w.heap.size A 48 ∧ At w' (w.heap.size + 1) R 44 ∧ At w' (w.heap.size + 1 + 1) E 44 ∧ Below w.heap.size w w'
theorem St.start (w : World) (A R E : Array Value) : St w (((w.alloc (.cells A 48)).alloc (.cells R 44)).alloc (.cells E 44)) A R E := by
  have hR := (At.new (w.alloc (.cells A 48)) R 44).alloc (.cells E 44)
  have hE := At.new ((w.alloc (.cells A 48)).alloc (.cells R 44)) E 44
  simp only [World.size_alloc] at hR hE
  exact ⟨((At.new w A 48).alloc _).alloc _, hR, hE, (((Below.refl w.heap.size w).alloc (Nat.le_refl _) _).alloc (by simp) _).alloc (by simp; omega) _⟩
theorem St.call {w w1 w2 : World} {A R E : Array Value} (h : St w w1 A R E) (hb : Below w1.heap.size w1 w2) : St w w2 A R E :=
  ⟨h.1.below hb h.1.lt, h.2.1.below hb h.2.1.lt, h.2.2.1.below hb h.2.2.1.lt, h.2.2.2.trans (hb.mono h.2.2.2.size)⟩
theorem St.setE {w w1 : World} {A R E : Array Value} (h : St w w1 A R E) (i : Nat) (u : Value) : St w (w1.setCell ⟨w.heap.size + 1 + 1, i, none⟩ u) A R (E.setIfInBounds i u) :=
  ⟨h.1.other (by show w.heap.size ≠ w.heap.size + 1 + 1; omega) u, h.2.1.other (by show w.heap.size + 1 ≠ w.heap.size + 1 + 1; omega) u, h.2.2.1.set i u, h.2.2.2.setCell (by show w.heap.size ≤ w.heap.size + 1 + 1; omega) u⟩
theorem setE_0 (a b c d u : Value) : #[a, b, c, d].setIfInBounds 0 u = #[u, b, c, d] := rfl
theorem setE_1 (a b c d u : Value) : #[a, b, c, d].setIfInBounds 1 u = #[a, u, c, d] := rfl
theorem setE_2 (a b c d u : Value) : #[a, b, c, d].setIfInBounds 2 u = #[a, b, u, d] := rfl
theorem setE_3 (a b c d u : Value) : #[a, b, c, d].setIfInBounds 3 u = #[a, b, c, u] := rfl

set_option maxHeartbeats 2000000 in
theorem nums_A (a1 a2 : Option Addr) (m c1 n c2 en k : Nat) (va : Value) (w : World) (_ : k < 10) (hK : HasK w) (n1 : Int) (e1 : Int) (Hn1 : NumCall (.agg #[.slice a1 m c1, .slice a2 n c2, .int .i64 en]) w 1 0 9999 n1 e1) (he1 : ¬ e1 = 0) :
    Calls Tryd.prog 38 #[.agg #[.slice a1 m c1, .slice a2 n c2, .int .i64 en], .int .i64 k, va] w fun e w' => e = .returned (.tuple #[.agg #[.int .i64 0, .int .i64 0, .int .i64 0, .int .i64 0], .int .i64 1, .int .i64 e1]) ∧ Below w.heap.size w w' := by
  have HK := Lib.hid hK
  clear hK
  have Hn1h := Lib.hid Hn1
  clear Hn1
  have te1 : ((e1 : Int) != 0) = true := by simpa using he1
  clear he1
  have hS := St.start w #[.slice a1 m c1, .slice a2 n c2, .int .i64 en] #[.int .i64 0, .int .i64 0, .int .i64 0, .int .i64 0] #[.int .i64 k, .int .i64 0, .int .i64 0, .int .i64 0]
  go_enter Tryd.func38, Tryd.ntmps38
  go_wp2_with fail
  generalize ((w.alloc (.cells #[.slice a1 m c1, .slice a2 n c2, .int .i64 en] 48)).alloc (.cells #[.int .i64 0, .int .i64 0, .int .i64 0, .int .i64 0] 44)).alloc (.cells #[.int .i64 k, .int .i64 0, .int .i64 0, .int .i64 0] 44) = w0 at *
  refine (Hn1h.out _ hS.2.2.2).mono ?_
  rintro e w1 ⟨rfl, hb'⟩
  have hS := hS.call hb'
  clear hb'
  have hA0 := hS.1.cell (i := 0) rfl
  have hA1 := hS.1.cell (i := 1) rfl
  have hA2 := hS.1.cell (i := 2) rfl
  have hE0 := hS.2.2.1.cell (i := 0) rfl
  have hR0 := hS.2.1.cell (i := 0) rfl
  have hF0 := hS.2.1.free 0
  have hE1 := hS.2.2.1.cell (i := 1) rfl
  have hR1 := hS.2.1.cell (i := 1) rfl
  have hF1 := hS.2.1.free 1
  have hE2 := hS.2.2.1.cell (i := 2) rfl
  have hR2 := hS.2.1.cell (i := 2) rfl
  have hF2 := hS.2.1.free 2
  have hE3 := hS.2.2.1.cell (i := 3) rfl
  have hR3 := hS.2.1.cell (i := 3) rfl
  have hF3 := hS.2.1.free 3
  have hG := hS.2.2.1.free 1
  have hbz := hS.2.2.2
  go_wp2
  exact bodyPost_ret (v := .tuple #[.agg #[.int .i64 0, .int .i64 0, .int .i64 0, .int .i64 0], .int .i64 1, .int .i64 e1]) (by simp [results, Tryd.results38, go_sem, hR0, hR1, hR2, hR3]) rfl ⟨rfl, by repeat' (first | exact hbz | (refine Below.setCell ?_ ?_ _) | (simp; done) | (simp; omega))⟩

set_option maxHeartbeats 2000000 in
theorem nums_B (a1 a2 : Option Addr) (m c1 n c2 en k : Nat) (va : Value) (w : World) (_ : k < 10) (hK : HasK w) (n1 : Int) (Hn1 : NumCall (.agg #[.slice a1 m c1, .slice a2 n c2, .int .i64 en]) w 1 0 9999 n1 0) (HM : ManyCall va w n1 true) :
    Calls Tryd.prog 38 #[.agg #[.slice a1 m c1, .slice a2 n c2, .int .i64 en], .int .i64 k, va] w fun e w' => e = .returned (.tuple #[.agg #[.int .i64 0, .int .i64 0, .int .i64 0, .int .i64 0], .int .i64 1, .int .i64 5]) ∧ Below w.heap.size w w' := by
  have HK := Lib.hid hK
  clear hK
  have Hn1h := Lib.hid Hn1
  clear Hn1
  have HMh := Lib.hid HM
  clear HM
  have hS := St.start w #[.slice a1 m c1, .slice a2 n c2, .int .i64 en] #[.int .i64 0, .int .i64 0, .int .i64 0, .int .i64 0] #[.int .i64 k, .int .i64 0, .int .i64 0, .int .i64 0]
  go_enter Tryd.func38, Tryd.ntmps38
  go_wp2_with fail
  generalize ((w.alloc (.cells #[.slice a1 m c1, .slice a2 n c2, .int .i64 en] 48)).alloc (.cells #[.int .i64 0, .int .i64 0, .int .i64 0, .int .i64 0] 44)).alloc (.cells #[.int .i64 k, .int .i64 0, .int .i64 0, .int .i64 0] 44) = w0 at *
  refine (Hn1h.out _ hS.2.2.2).mono ?_
  rintro e w1 ⟨rfl, hb'⟩
  have hS := hS.call hb'
  clear hb'
  have hA0 := hS.1.cell (i := 0) rfl
  have hA1 := hS.1.cell (i := 1) rfl
  have hA2 := hS.1.cell (i := 2) rfl
  have hE0 := hS.2.2.1.cell (i := 0) rfl
  have hR0 := hS.2.1.cell (i := 0) rfl
  have hF0 := hS.2.1.free 0
  have hE1 := hS.2.2.1.cell (i := 1) rfl
  have hR1 := hS.2.1.cell (i := 1) rfl
  have hF1 := hS.2.1.free 1
  have hE2 := hS.2.2.1.cell (i := 2) rfl
  have hR2 := hS.2.1.cell (i := 2) rfl
  have hF2 := hS.2.1.free 2
  have hE3 := hS.2.2.1.cell (i := 3) rfl
  have hR3 := hS.2.1.cell (i := 3) rfl
  have hF3 := hS.2.1.free 3
  have hG := hS.2.2.1.free 1
  go_wp2_with fail
  clear hA0 hA1 hA2 hE0 hR0 hF0 hE1 hR1 hF1 hE2 hR2 hF2 hE3 hR3 hF3 hG
  have hS := hS.setE 1 (.int .i64 n1)
  rw [setE_1] at hS
  generalize w1.setCell ⟨w.heap.size + 1 + 1, 1, none⟩ (.int .i64 n1) = w2 at *
  refine (HMh.out _ hS.2.2.2).mono ?_
  rintro e w3 ⟨rfl, hb'⟩
  have hS := hS.call hb'
  clear hb'
  have hA0 := hS.1.cell (i := 0) rfl
  have hA1 := hS.1.cell (i := 1) rfl
  have hA2 := hS.1.cell (i := 2) rfl
  have hE0 := hS.2.2.1.cell (i := 0) rfl
  have hR0 := hS.2.1.cell (i := 0) rfl
  have hF0 := hS.2.1.free 0
  have hE1 := hS.2.2.1.cell (i := 1) rfl
  have hR1 := hS.2.1.cell (i := 1) rfl
  have hF1 := hS.2.1.free 1
  have hE2 := hS.2.2.1.cell (i := 2) rfl
  have hR2 := hS.2.1.cell (i := 2) rfl
  have hF2 := hS.2.1.free 2
  have hE3 := hS.2.2.1.cell (i := 3) rfl
  have hR3 := hS.2.1.cell (i := 3) rfl
  have hF3 := hS.2.1.free 3
  have hbz := hS.2.2.2
  go_wp2
  exact bodyPost_ret (v := .tuple #[.agg #[.int .i64 0, .int .i64 0, .int .i64 0, .int .i64 0], .int .i64 1, .int .i64 5]) (by simp [results, Tryd.results38, go_sem, hR0, hR1, hR2, hR3]) rfl ⟨rfl, by repeat' (first | exact hbz | (refine Below.setCell ?_ ?_ _) | (simp; done) | (simp; omega))⟩

set_option maxHeartbeats 2000000 in
theorem nums_tt2 (a1 a2 : Option Addr) (m c1 n c2 en k : Nat) (va : Value) (w : World) (hk : k < 10) (hK : HasK w) (n1 : Int) (Hn1 : NumCall (.agg #[.slice a1 m c1, .slice a2 n c2, .int .i64 en]) w 1 0 9999 n1 0) (HM : ManyCall va w n1 false) (hV : hasV k = true) (n2 : Int) (e2 : Int) (Hn2 : NumCall (.agg #[.slice a1 m c1, .slice a2 n c2, .int .i64 en]) w 2 0 7 n2 e2) (he2 : ¬ e2 = 0) :
    Calls Tryd.prog 38 #[.agg #[.slice a1 m c1, .slice a2 n c2, .int .i64 en], .int .i64 k, va] w fun e w' => e = .returned (.tuple #[.agg #[.int .i64 0, .int .i64 0, .int .i64 0, .int .i64 0], .int .i64 2, .int .i64 e2]) ∧ Below w.heap.size w w' := by
  have HK := Lib.hid hK
  clear hK
  have Hn1h := Lib.hid Hn1
  clear Hn1
  have HMh := Lib.hid HM
  clear HM
  have HVh := Lib.hid hV
  clear hV
  have Hn2h := Lib.hid Hn2
  clear Hn2
  have te2 : ((e2 : Int) != 0) = true := by simpa using he2
  clear he2
  have hS := St.start w #[.slice a1 m c1, .slice a2 n c2, .int .i64 en] #[.int .i64 0, .int .i64 0, .int .i64 0, .int .i64 0] #[.int .i64 k, .int .i64 0, .int .i64 0, .int .i64 0]
  go_enter Tryd.func38, Tryd.ntmps38
  go_wp2_with fail
  generalize ((w.alloc (.cells #[.slice a1 m c1, .slice a2 n c2, .int .i64 en] 48)).alloc (.cells #[.int .i64 0, .int .i64 0, .int .i64 0, .int .i64 0] 44)).alloc (.cells #[.int .i64 k, .int .i64 0, .int .i64 0, .int .i64 0] 44) = w0 at *
  refine (Hn1h.out _ hS.2.2.2).mono ?_
  rintro e w1 ⟨rfl, hb'⟩
  have hS := hS.call hb'
  clear hb'
  have hA0 := hS.1.cell (i := 0) rfl
  have hA1 := hS.1.cell (i := 1) rfl
  have hA2 := hS.1.cell (i := 2) rfl
  have hE0 := hS.2.2.1.cell (i := 0) rfl
  have hR0 := hS.2.1.cell (i := 0) rfl
  have hF0 := hS.2.1.free 0
  have hE1 := hS.2.2.1.cell (i := 1) rfl
  have hR1 := hS.2.1.cell (i := 1) rfl
  have hF1 := hS.2.1.free 1
  have hE2 := hS.2.2.1.cell (i := 2) rfl
  have hR2 := hS.2.1.cell (i := 2) rfl
  have hF2 := hS.2.1.free 2
  have hE3 := hS.2.2.1.cell (i := 3) rfl
  have hR3 := hS.2.1.cell (i := 3) rfl
  have hF3 := hS.2.1.free 3
  have hG := hS.2.2.1.free 1
  have hkv := (HK.out.later hS.2.2.2 (Nat.le_refl _)).hasV hk
  rw [HVh.out] at hkv
  go_wp2_with fail
  clear hA0 hA1 hA2 hE0 hR0 hF0 hE1 hR1 hF1 hE2 hR2 hF2 hE3 hR3 hF3 hG hkv
  have hS := hS.setE 1 (.int .i64 n1)
  rw [setE_1] at hS
  generalize w1.setCell ⟨w.heap.size + 1 + 1, 1, none⟩ (.int .i64 n1) = w2 at *
  refine (HMh.out _ hS.2.2.2).mono ?_
  rintro e w3 ⟨rfl, hb'⟩
  have hS := hS.call hb'
  clear hb'
  have hA0 := hS.1.cell (i := 0) rfl
  have hA1 := hS.1.cell (i := 1) rfl
  have hA2 := hS.1.cell (i := 2) rfl
  have hE0 := hS.2.2.1.cell (i := 0) rfl
  have hR0 := hS.2.1.cell (i := 0) rfl
  have hF0 := hS.2.1.free 0
  have hE1 := hS.2.2.1.cell (i := 1) rfl
  have hR1 := hS.2.1.cell (i := 1) rfl
  have hF1 := hS.2.1.free 1
  have hE2 := hS.2.2.1.cell (i := 2) rfl
  have hR2 := hS.2.1.cell (i := 2) rfl
  have hF2 := hS.2.1.free 2
  have hE3 := hS.2.2.1.cell (i := 3) rfl
  have hR3 := hS.2.1.cell (i := 3) rfl
  have hF3 := hS.2.1.free 3
  have hkv := (HK.out.later hS.2.2.2 (Nat.le_refl _)).hasV hk
  rw [HVh.out] at hkv
  go_wp2_with fail
  clear hA0 hA1 hA2 hE0 hR0 hF0 hE1 hR1 hF1 hE2 hR2 hF2 hE3 hR3 hF3 hkv
  refine (Hn2h.out _ hS.2.2.2).mono ?_
  rintro e w4 ⟨rfl, hb'⟩
  have hS := hS.call hb'
  clear hb'
  have hA0 := hS.1.cell (i := 0) rfl
  have hA1 := hS.1.cell (i := 1) rfl
  have hA2 := hS.1.cell (i := 2) rfl
  have hE0 := hS.2.2.1.cell (i := 0) rfl
  have hR0 := hS.2.1.cell (i := 0) rfl
  have hF0 := hS.2.1.free 0
  have hE1 := hS.2.2.1.cell (i := 1) rfl
  have hR1 := hS.2.1.cell (i := 1) rfl
  have hF1 := hS.2.1.free 1
  have hE2 := hS.2.2.1.cell (i := 2) rfl
  have hR2 := hS.2.1.cell (i := 2) rfl
  have hF2 := hS.2.1.free 2
  have hE3 := hS.2.2.1.cell (i := 3) rfl
  have hR3 := hS.2.1.cell (i := 3) rfl
  have hF3 := hS.2.1.free 3
  have hG := hS.2.2.1.free 2
  have hkv := (HK.out.later hS.2.2.2 (Nat.le_refl _)).hasV hk
  rw [HVh.out] at hkv
  have hbz := hS.2.2.2
  go_wp2
  exact bodyPost_ret (v := .tuple #[.agg #[.int .i64 0, .int .i64 0, .int .i64 0, .int .i64 0], .int .i64 2, .int .i64 e2]) (by simp [results, Tryd.results38, go_sem, hR0, hR1, hR2, hR3]) rfl ⟨rfl, by repeat' (first | exact hbz | (refine Below.setCell ?_ ?_ _) | (simp; done) | (simp; omega))⟩

set_option maxHeartbeats 2000000 in
theorem nums_tt3 (a1 a2 : Option Addr) (m c1 n c2 en k : Nat) (va : Value) (w : World) (hk : k < 10) (hK : HasK w) (n1 : Int) (Hn1 : NumCall (.agg #[.slice a1 m c1, .slice a2 n c2, .int .i64 en]) w 1 0 9999 n1 0) (HM : ManyCall va w n1 false) (hV : hasV k = true) (n2 : Int) (Hn2 : NumCall (.agg #[.slice a1 m c1, .slice a2 n c2, .int .i64 en]) w 2 0 7 n2 0) (hX : hasX k = true) (n3 : Int) (e3 : Int) (Hn3 : NumCall (.agg #[.slice a1 m c1, .slice a2 n c2, .int .i64 en]) w 3 (-2147483648) 2147483647 n3 e3) (he3 : ¬ e3 = 0) :
    Calls Tryd.prog 38 #[.agg #[.slice a1 m c1, .slice a2 n c2, .int .i64 en], .int .i64 k, va] w fun e w' => e = .returned (.tuple #[.agg #[.int .i64 0, .int .i64 0, .int .i64 0, .int .i64 0], .int .i64 3, .int .i64 e3]) ∧ Below w.heap.size w w' := by
  have HK := Lib.hid hK
  clear hK
  have Hn1h := Lib.hid Hn1
  clear Hn1
  have HMh := Lib.hid HM
  clear HM
  have HVh := Lib.hid hV
  clear hV
  have Hn2h := Lib.hid Hn2
  clear Hn2
  have HXh := Lib.hid hX
  clear hX
  have Hn3h := Lib.hid Hn3
  clear Hn3
  have te3 : ((e3 : Int) != 0) = true := by simpa using he3
  clear he3
  have hS := St.start w #[.slice a1 m c1, .slice a2 n c2, .int .i64 en] #[.int .i64 0, .int .i64 0, .int .i64 0, .int .i64 0] #[.int .i64 k, .int .i64 0, .int .i64 0, .int .i64 0]
  go_enter Tryd.func38, Tryd.ntmps38
  go_wp2_with fail
  generalize ((w.alloc (.cells #[.slice a1 m c1, .slice a2 n c2, .int .i64 en] 48)).alloc (.cells #[.int .i64 0, .int .i64 0, .int .i64 0, .int .i64 0] 44)).alloc (.cells #[.int .i64 k, .int .i64 0, .int .i64 0, .int .i64 0] 44) = w0 at *
  refine (Hn1h.out _ hS.2.2.2).mono ?_
  rintro e w1 ⟨rfl, hb'⟩
  have hS := hS.call hb'
  clear hb'
  have hA0 := hS.1.cell (i := 0) rfl
  have hA1 := hS.1.cell (i := 1) rfl
  have hA2 := hS.1.cell (i := 2) rfl
  have hE0 := hS.2.2.1.cell (i := 0) rfl
  have hR0 := hS.2.1.cell (i := 0) rfl
  have hF0 := hS.2.1.free 0
  have hE1 := hS.2.2.1.cell (i := 1) rfl
  have hR1 := hS.2.1.cell (i := 1) rfl
  have hF1 := hS.2.1.free 1
  have hE2 := hS.2.2.1.cell (i := 2) rfl
  have hR2 := hS.2.1.cell (i := 2) rfl
  have hF2 := hS.2.1.free 2
  have hE3 := hS.2.2.1.cell (i := 3) rfl
  have hR3 := hS.2.1.cell (i := 3) rfl
  have hF3 := hS.2.1.free 3
  have hG := hS.2.2.1.free 1
  have hkv := (HK.out.later hS.2.2.2 (Nat.le_refl _)).hasV hk
  rw [HVh.out] at hkv
  have hkx := (HK.out.later hS.2.2.2 (Nat.le_refl _)).hasX hk
  rw [HXh.out] at hkx
  go_wp2_with fail
  clear hA0 hA1 hA2 hE0 hR0 hF0 hE1 hR1 hF1 hE2 hR2 hF2 hE3 hR3 hF3 hG hkv hkx
  have hS := hS.setE 1 (.int .i64 n1)
  rw [setE_1] at hS
  generalize w1.setCell ⟨w.heap.size + 1 + 1, 1, none⟩ (.int .i64 n1) = w2 at *
  refine (HMh.out _ hS.2.2.2).mono ?_
  rintro e w3 ⟨rfl, hb'⟩
  have hS := hS.call hb'
  clear hb'
  have hA0 := hS.1.cell (i := 0) rfl
  have hA1 := hS.1.cell (i := 1) rfl
  have hA2 := hS.1.cell (i := 2) rfl
  have hE0 := hS.2.2.1.cell (i := 0) rfl
  have hR0 := hS.2.1.cell (i := 0) rfl
  have hF0 := hS.2.1.free 0
  have hE1 := hS.2.2.1.cell (i := 1) rfl
  have hR1 := hS.2.1.cell (i := 1) rfl
  have hF1 := hS.2.1.free 1
  have hE2 := hS.2.2.1.cell (i := 2) rfl
  have hR2 := hS.2.1.cell (i := 2) rfl
  have hF2 := hS.2.1.free 2
  have hE3 := hS.2.2.1.cell (i := 3) rfl
  have hR3 := hS.2.1.cell (i := 3) rfl
  have hF3 := hS.2.1.free 3
  have hkv := (HK.out.later hS.2.2.2 (Nat.le_refl _)).hasV hk
  rw [HVh.out] at hkv
  have hkx := (HK.out.later hS.2.2.2 (Nat.le_refl _)).hasX hk
  rw [HXh.out] at hkx
  go_wp2_with fail
  clear hA0 hA1 hA2 hE0 hR0 hF0 hE1 hR1 hF1 hE2 hR2 hF2 hE3 hR3 hF3 hkv hkx
  refine (Hn2h.out _ hS.2.2.2).mono ?_
  rintro e w4 ⟨rfl, hb'⟩
  have hS := hS.call hb'
  clear hb'
  have hA0 := hS.1.cell (i := 0) rfl
  have hA1 := hS.1.cell (i := 1) rfl
  have hA2 := hS.1.cell (i := 2) rfl
  have hE0 := hS.2.2.1.cell (i := 0) rfl
  have hR0 := hS.2.1.cell (i := 0) rfl
  have hF0 := hS.2.1.free 0
  have hE1 := hS.2.2.1.cell (i := 1) rfl
  have hR1 := hS.2.1.cell (i := 1) rfl
  have hF1 := hS.2.1.free 1
  have hE2 := hS.2.2.1.cell (i := 2) rfl
  have hR2 := hS.2.1.cell (i := 2) rfl
  have hF2 := hS.2.1.free 2
  have hE3 := hS.2.2.1.cell (i := 3) rfl
  have hR3 := hS.2.1.cell (i := 3) rfl
  have hF3 := hS.2.1.free 3
  have hG := hS.2.2.1.free 2
  have hkv := (HK.out.later hS.2.2.2 (Nat.le_refl _)).hasV hk
  rw [HVh.out] at hkv
  have hkx := (HK.out.later hS.2.2.2 (Nat.le_refl _)).hasX hk
  rw [HXh.out] at hkx
  go_wp2_with fail
  clear hA0 hA1 hA2 hE0 hR0 hF0 hE1 hR1 hF1 hE2 hR2 hF2 hE3 hR3 hF3 hG hkv hkx
  have hS := hS.setE 2 (.int .i64 n2)
  rw [setE_2] at hS
  generalize w4.setCell ⟨w.heap.size + 1 + 1, 2, none⟩ (.int .i64 n2) = w5 at *
  refine (Hn3h.out _ hS.2.2.2).mono ?_
  rintro e w6 ⟨rfl, hb'⟩
  have hS := hS.call hb'
  clear hb'
  have hA0 := hS.1.cell (i := 0) rfl
  have hA1 := hS.1.cell (i := 1) rfl
  have hA2 := hS.1.cell (i := 2) rfl
  have hE0 := hS.2.2.1.cell (i := 0) rfl
  have hR0 := hS.2.1.cell (i := 0) rfl
  have hF0 := hS.2.1.free 0
  have hE1 := hS.2.2.1.cell (i := 1) rfl
  have hR1 := hS.2.1.cell (i := 1) rfl
  have hF1 := hS.2.1.free 1
  have hE2 := hS.2.2.1.cell (i := 2) rfl
  have hR2 := hS.2.1.cell (i := 2) rfl
  have hF2 := hS.2.1.free 2
  have hE3 := hS.2.2.1.cell (i := 3) rfl
  have hR3 := hS.2.1.cell (i := 3) rfl
  have hF3 := hS.2.1.free 3
  have hG := hS.2.2.1.free 3
  have hkv := (HK.out.later hS.2.2.2 (Nat.le_refl _)).hasV hk
  rw [HVh.out] at hkv
  have hkx := (HK.out.later hS.2.2.2 (Nat.le_refl _)).hasX hk
  rw [HXh.out] at hkx
  have hbz := hS.2.2.2
  go_wp2
  exact bodyPost_ret (v := .tuple #[.agg #[.int .i64 0, .int .i64 0, .int .i64 0, .int .i64 0], .int .i64 3, .int .i64 e3]) (by simp [results, Tryd.results38, go_sem, hR0, hR1, hR2, hR3]) rfl ⟨rfl, by repeat' (first | exact hbz | (refine Below.setCell ?_ ?_ _) | (simp; done) | (simp; omega))⟩

set_option maxHeartbeats 2000000 in
theorem nums_tt (a1 a2 : Option Addr) (m c1 n c2 en k : Nat) (va : Value) (w : World) (hk : k < 10) (hK : HasK w) (n1 : Int) (Hn1 : NumCall (.agg #[.slice a1 m c1, .slice a2 n c2, .int .i64 en]) w 1 0 9999 n1 0) (HM : ManyCall va w n1 false) (hV : hasV k = true) (n2 : Int) (Hn2 : NumCall (.agg #[.slice a1 m c1, .slice a2 n c2, .int .i64 en]) w 2 0 7 n2 0) (hX : hasX k = true) (n3 : Int) (Hn3 : NumCall (.agg #[.slice a1 m c1, .slice a2 n c2, .int .i64 en]) w 3 (-2147483648) 2147483647 n3 0) :
    Calls Tryd.prog 38 #[.agg #[.slice a1 m c1, .slice a2 n c2, .int .i64 en], .int .i64 k, va] w fun e w' => e = .returned (.tuple #[.agg #[.int .i64 k, .int .i64 n1, .int .i64 n2, .int .i64 n3], .int .i64 4, .int .i64 0]) ∧ Below w.heap.size w w' := by
  have HK := Lib.hid hK
  clear hK
  have Hn1h := Lib.hid Hn1
  clear Hn1
  have HMh := Lib.hid HM
  clear HM
  have HVh := Lib.hid hV
  clear hV
  have Hn2h := Lib.hid Hn2
  clear Hn2
  have HXh := Lib.hid hX
  clear hX
  have Hn3h := Lib.hid Hn3
  clear Hn3
  have hS := St.start w #[.slice a1 m c1, .slice a2 n c2, .int .i64 en] #[.int .i64 0, .int .i64 0, .int .i64 0, .int .i64 0] #[.int .i64 k, .int .i64 0, .int .i64 0, .int .i64 0]
  go_enter Tryd.func38, Tryd.ntmps38
  go_wp2_with fail
  generalize ((w.alloc (.cells #[.slice a1 m c1, .slice a2 n c2, .int .i64 en] 48)).alloc (.cells #[.int .i64 0, .int .i64 0, .int .i64 0, .int .i64 0] 44)).alloc (.cells #[.int .i64 k, .int .i64 0, .int .i64 0, .int .i64 0] 44) = w0 at *
  refine (Hn1h.out _ hS.2.2.2).mono ?_
  rintro e w1 ⟨rfl, hb'⟩
  have hS := hS.call hb'
  clear hb'
  have hA0 := hS.1.cell (i := 0) rfl
  have hA1 := hS.1.cell (i := 1) rfl
  have hA2 := hS.1.cell (i := 2) rfl
  have hE0 := hS.2.2.1.cell (i := 0) rfl
  have hR0 := hS.2.1.cell (i := 0) rfl
  have hF0 := hS.2.1.free 0
  have hE1 := hS.2.2.1.cell (i := 1) rfl
  have hR1 := hS.2.1.cell (i := 1) rfl
  have hF1 := hS.2.1.free 1
  have hE2 := hS.2.2.1.cell (i := 2) rfl
  have hR2 := hS.2.1.cell (i := 2) rfl
  have hF2 := hS.2.1.free 2
  have hE3 := hS.2.2.1.cell (i := 3) rfl
  have hR3 := hS.2.1.cell (i := 3) rfl
  have hF3 := hS.2.1.free 3
  have hG := hS.2.2.1.free 1
  have hkv := (HK.out.later hS.2.2.2 (Nat.le_refl _)).hasV hk
  rw [HVh.out] at hkv
  have hkx := (HK.out.later hS.2.2.2 (Nat.le_refl _)).hasX hk
  rw [HXh.out] at hkx
  go_wp2_with fail
  clear hA0 hA1 hA2 hE0 hR0 hF0 hE1 hR1 hF1 hE2 hR2 hF2 hE3 hR3 hF3 hG hkv hkx
  have hS := hS.setE 1 (.int .i64 n1)
  rw [setE_1] at hS
  generalize w1.setCell ⟨w.heap.size + 1 + 1, 1, none⟩ (.int .i64 n1) = w2 at *
  refine (HMh.out _ hS.2.2.2).mono ?_
  rintro e w3 ⟨rfl, hb'⟩
  have hS := hS.call hb'
  clear hb'
  have hA0 := hS.1.cell (i := 0) rfl
  have hA1 := hS.1.cell (i := 1) rfl
  have hA2 := hS.1.cell (i := 2) rfl
  have hE0 := hS.2.2.1.cell (i := 0) rfl
  have hR0 := hS.2.1.cell (i := 0) rfl
  have hF0 := hS.2.1.free 0
  have hE1 := hS.2.2.1.cell (i := 1) rfl
  have hR1 := hS.2.1.cell (i := 1) rfl
  have hF1 := hS.2.1.free 1
  have hE2 := hS.2.2.1.cell (i := 2) rfl
  have hR2 := hS.2.1.cell (i := 2) rfl
  have hF2 := hS.2.1.free 2
  have hE3 := hS.2.2.1.cell (i := 3) rfl
  have hR3 := hS.2.1.cell (i := 3) rfl
  have hF3 := hS.2.1.free 3
  have hkv := (HK.out.later hS.2.2.2 (Nat.le_refl _)).hasV hk
  rw [HVh.out] at hkv
  have hkx := (HK.out.later hS.2.2.2 (Nat.le_refl _)).hasX hk
  rw [HXh.out] at hkx
  go_wp2_with fail
  clear hA0 hA1 hA2 hE0 hR0 hF0 hE1 hR1 hF1 hE2 hR2 hF2 hE3 hR3 hF3 hkv hkx
  refine (Hn2h.out _ hS.2.2.2).mono ?_
  rintro e w4 ⟨rfl, hb'⟩
  have hS := hS.call hb'
  clear hb'
  have hA0 := hS.1.cell (i := 0) rfl
  have hA1 := hS.1.cell (i := 1) rfl
  have hA2 := hS.1.cell (i := 2) rfl
  have hE0 := hS.2.2.1.cell (i := 0) rfl
  have hR0 := hS.2.1.cell (i := 0) rfl
  have hF0 := hS.2.1.free 0
  have hE1 := hS.2.2.1.cell (i := 1) rfl
  have hR1 := hS.2.1.cell (i := 1) rfl
  have hF1 := hS.2.1.free 1
  have hE2 := hS.2.2.1.cell (i := 2) rfl
  have hR2 := hS.2.1.cell (i := 2) rfl
  have hF2 := hS.2.1.free 2
  have hE3 := hS.2.2.1.cell (i := 3) rfl
  have hR3 := hS.2.1.cell (i := 3) rfl
  have hF3 := hS.2.1.free 3
  have hG := hS.2.2.1.free 2
  have hkv := (HK.out.later hS.2.2.2 (Nat.le_refl _)).hasV hk
  rw [HVh.out] at hkv
  have hkx := (HK.out.later hS.2.2.2 (Nat.le_refl _)).hasX hk
  rw [HXh.out] at hkx
  go_wp2_with fail
  clear hA0 hA1 hA2 hE0 hR0 hF0 hE1 hR1 hF1 hE2 hR2 hF2 hE3 hR3 hF3 hG hkv hkx
  have hS := hS.setE 2 (.int .i64 n2)
  rw [setE_2] at hS
  generalize w4.setCell ⟨w.heap.size + 1 + 1, 2, none⟩ (.int .i64 n2) = w5 at *
  refine (Hn3h.out _ hS.2.2.2).mono ?_
  rintro e w6 ⟨rfl, hb'⟩
  have hS := hS.call hb'
  clear hb'
  have hA0 := hS.1.cell (i := 0) rfl
  have hA1 := hS.1.cell (i := 1) rfl
  have hA2 := hS.1.cell (i := 2) rfl
  have hE0 := hS.2.2.1.cell (i := 0) rfl
  have hR0 := hS.2.1.cell (i := 0) rfl
  have hF0 := hS.2.1.free 0
  have hE1 := hS.2.2.1.cell (i := 1) rfl
  have hR1 := hS.2.1.cell (i := 1) rfl
  have hF1 := hS.2.1.free 1
  have hE2 := hS.2.2.1.cell (i := 2) rfl
  have hR2 := hS.2.1.cell (i := 2) rfl
  have hF2 := hS.2.1.free 2
  have hE3 := hS.2.2.1.cell (i := 3) rfl
  have hR3 := hS.2.1.cell (i := 3) rfl
  have hF3 := hS.2.1.free 3
  have hG := hS.2.2.1.free 3
  have hkv := (HK.out.later hS.2.2.2 (Nat.le_refl _)).hasV hk
  rw [HVh.out] at hkv
  have hkx := (HK.out.later hS.2.2.2 (Nat.le_refl _)).hasX hk
  rw [HXh.out] at hkx
  have hbz := hS.2.2.2
  go_wp2
  exact bodyPost_ret (v := .tuple #[.agg #[.int .i64 k, .int .i64 n1, .int .i64 n2, .int .i64 n3], .int .i64 4, .int .i64 0]) (by simp [results, Tryd.results38, go_sem, hR0, hR1, hR2, hR3]) rfl ⟨rfl, by repeat' (first | exact hbz | (refine Below.setCell ?_ ?_ _) | (simp; done) | (simp; omega))⟩

set_option maxHeartbeats 2000000 in
theorem nums_tf (a1 a2 : Option Addr) (m c1 n c2 en k : Nat) (va : Value) (w : World) (hk : k < 10) (hK : HasK w) (n1 : Int) (Hn1 : NumCall (.agg #[.slice a1 m c1, .slice a2 n c2, .int .i64 en]) w 1 0 9999 n1 0) (HM : ManyCall va w n1 false) (hV : hasV k = true) (n2 : Int) (Hn2 : NumCall (.agg #[.slice a1 m c1, .slice a2 n c2, .int .i64 en]) w 2 0 7 n2 0) (hX : hasX k = false) :
    Calls Tryd.prog 38 #[.agg #[.slice a1 m c1, .slice a2 n c2, .int .i64 en], .int .i64 k, va] w fun e w' => e = .returned (.tuple #[.agg #[.int .i64 k, .int .i64 n1, .int .i64 n2, .int .i64 0], .int .i64 3, .int .i64 0]) ∧ Below w.heap.size w w' := by
  have HK := Lib.hid hK
  clear hK
  have Hn1h := Lib.hid Hn1
  clear Hn1
  have HMh := Lib.hid HM
  clear HM
  have HVh := Lib.hid hV
  clear hV
  have Hn2h := Lib.hid Hn2
  clear Hn2
  have HXh := Lib.hid hX
  clear hX
  have hS := St.start w #[.slice a1 m c1, .slice a2 n c2, .int .i64 en] #[.int .i64 0, .int .i64 0, .int .i64 0, .int .i64 0] #[.int .i64 k, .int .i64 0, .int .i64 0, .int .i64 0]
  go_enter Tryd.func38, Tryd.ntmps38
  go_wp2_with fail
  generalize ((w.alloc (.cells #[.slice a1 m c1, .slice a2 n c2, .int .i64 en] 48)).alloc (.cells #[.int .i64 0, .int .i64 0, .int .i64 0, .int .i64 0] 44)).alloc (.cells #[.int .i64 k, .int .i64 0, .int .i64 0, .int .i64 0] 44) = w0 at *
  refine (Hn1h.out _ hS.2.2.2).mono ?_
  rintro e w1 ⟨rfl, hb'⟩
  have hS := hS.call hb'
  clear hb'
  have hA0 := hS.1.cell (i := 0) rfl
  have hA1 := hS.1.cell (i := 1) rfl
  have hA2 := hS.1.cell (i := 2) rfl
  have hE0 := hS.2.2.1.cell (i := 0) rfl
  have hR0 := hS.2.1.cell (i := 0) rfl
  have hF0 := hS.2.1.free 0
  have hE1 := hS.2.2.1.cell (i := 1) rfl
  have hR1 := hS.2.1.cell (i := 1) rfl
  have hF1 := hS.2.1.free 1
  have hE2 := hS.2.2.1.cell (i := 2) rfl
  have hR2 := hS.2.1.cell (i := 2) rfl
  have hF2 := hS.2.1.free 2
  have hE3 := hS.2.2.1.cell (i := 3) rfl
  have hR3 := hS.2.1.cell (i := 3) rfl
  have hF3 := hS.2.1.free 3
  have hG := hS.2.2.1.free 1
  have hkv := (HK.out.later hS.2.2.2 (Nat.le_refl _)).hasV hk
  rw [HVh.out] at hkv
  have hkx := (HK.out.later hS.2.2.2 (Nat.le_refl _)).hasX hk
  rw [HXh.out] at hkx
  go_wp2_with fail
  clear hA0 hA1 hA2 hE0 hR0 hF0 hE1 hR1 hF1 hE2 hR2 hF2 hE3 hR3 hF3 hG hkv hkx
  have hS := hS.setE 1 (.int .i64 n1)
  rw [setE_1] at hS
  generalize w1.setCell ⟨w.heap.size + 1 + 1, 1, none⟩ (.int .i64 n1) = w2 at *
  refine (HMh.out _ hS.2.2.2).mono ?_
  rintro e w3 ⟨rfl, hb'⟩
  have hS := hS.call hb'
  clear hb'
  have hA0 := hS.1.cell (i := 0) rfl
  have hA1 := hS.1.cell (i := 1) rfl
  have hA2 := hS.1.cell (i := 2) rfl
  have hE0 := hS.2.2.1.cell (i := 0) rfl
  have hR0 := hS.2.1.cell (i := 0) rfl
  have hF0 := hS.2.1.free 0
  have hE1 := hS.2.2.1.cell (i := 1) rfl
  have hR1 := hS.2.1.cell (i := 1) rfl
  have hF1 := hS.2.1.free 1
  have hE2 := hS.2.2.1.cell (i := 2) rfl
  have hR2 := hS.2.1.cell (i := 2) rfl
  have hF2 := hS.2.1.free 2
  have hE3 := hS.2.2.1.cell (i := 3) rfl
  have hR3 := hS.2.1.cell (i := 3) rfl
  have hF3 := hS.2.1.free 3
  have hkv := (HK.out.later hS.2.2.2 (Nat.le_refl _)).hasV hk
  rw [HVh.out] at hkv
  have hkx := (HK.out.later hS.2.2.2 (Nat.le_refl _)).hasX hk
  rw [HXh.out] at hkx
  go_wp2_with fail
  clear hA0 hA1 hA2 hE0 hR0 hF0 hE1 hR1 hF1 hE2 hR2 hF2 hE3 hR3 hF3 hkv hkx
  refine (Hn2h.out _ hS.2.2.2).mono ?_
  rintro e w4 ⟨rfl, hb'⟩
  have hS := hS.call hb'
  clear hb'
  have hA0 := hS.1.cell (i := 0) rfl
  have hA1 := hS.1.cell (i := 1) rfl
  have hA2 := hS.1.cell (i := 2) rfl
  have hE0 := hS.2.2.1.cell (i := 0) rfl
  have hR0 := hS.2.1.cell (i := 0) rfl
  have hF0 := hS.2.1.free 0
  have hE1 := hS.2.2.1.cell (i := 1) rfl
  have hR1 := hS.2.1.cell (i := 1) rfl
  have hF1 := hS.2.1.free 1
  have hE2 := hS.2.2.1.cell (i := 2) rfl
  have hR2 := hS.2.1.cell (i := 2) rfl
  have hF2 := hS.2.1.free 2
  have hE3 := hS.2.2.1.cell (i := 3) rfl
  have hR3 := hS.2.1.cell (i := 3) rfl
  have hF3 := hS.2.1.free 3
  have hG := hS.2.2.1.free 2
  have hkv := (HK.out.later hS.2.2.2 (Nat.le_refl _)).hasV hk
  rw [HVh.out] at hkv
  have hkx := (HK.out.later hS.2.2.2 (Nat.le_refl _)).hasX hk
  rw [HXh.out] at hkx
  have hbz := hS.2.2.2
  go_wp2
  exact bodyPost_ret (v := .tuple #[.agg #[.int .i64 k, .int .i64 n1, .int .i64 n2, .int .i64 0], .int .i64 3, .int .i64 0]) (by simp [results, Tryd.results38, go_sem, hR0, hR1, hR2, hR3]) rfl ⟨rfl, by repeat' (first | exact hbz | (refine Below.setCell ?_ ?_ _) | (simp; done) | (simp; omega))⟩

set_option maxHeartbeats 2000000 in
theorem nums_ft2 (a1 a2 : Option Addr) (m c1 n c2 en k : Nat) (va : Value) (w : World) (hk : k < 10) (hK : HasK w) (n1 : Int) (Hn1 : NumCall (.agg #[.slice a1 m c1, .slice a2 n c2, .int .i64 en]) w 1 0 9999 n1 0) (HM : ManyCall va w n1 false) (hV : hasV k = false) (hX : hasX k = true) (n2 : Int) (e2 : Int) (Hn2 : NumCall (.agg #[.slice a1 m c1, .slice a2 n c2, .int .i64 en]) w 2 (-2147483648) 2147483647 n2 e2) (he2 : ¬ e2 = 0) :
    Calls Tryd.prog 38 #[.agg #[.slice a1 m c1, .slice a2 n c2, .int .i64 en], .int .i64 k, va] w fun e w' => e = .returned (.tuple #[.agg #[.int .i64 0, .int .i64 0, .int .i64 0, .int .i64 0], .int .i64 2, .int .i64 e2]) ∧ Below w.heap.size w w' := by
  have HK := Lib.hid hK
  clear hK
  have Hn1h := Lib.hid Hn1
  clear Hn1
  have HMh := Lib.hid HM
  clear HM
  have HVh := Lib.hid hV
  clear hV
  have HXh := Lib.hid hX
  clear hX
  have Hn2h := Lib.hid Hn2
  clear Hn2
  have te2 : ((e2 : Int) != 0) = true := by simpa using he2
  clear he2
  have hS := St.start w #[.slice a1 m c1, .slice a2 n c2, .int .i64 en] #[.int .i64 0, .int .i64 0, .int .i64 0, .int .i64 0] #[.int .i64 k, .int .i64 0, .int .i64 0, .int .i64 0]
  go_enter Tryd.func38, Tryd.ntmps38
  go_wp2_with fail
  generalize ((w.alloc (.cells #[.slice a1 m c1, .slice a2 n c2, .int .i64 en] 48)).alloc (.cells #[.int .i64 0, .int .i64 0, .int .i64 0, .int .i64 0] 44)).alloc (.cells #[.int .i64 k, .int .i64 0, .int .i64 0, .int .i64 0] 44) = w0 at *
  refine (Hn1h.out _ hS.2.2.2).mono ?_
  rintro e w1 ⟨rfl, hb'⟩
  have hS := hS.call hb'
  clear hb'
  have hA0 := hS.1.cell (i := 0) rfl
  have hA1 := hS.1.cell (i := 1) rfl
  have hA2 := hS.1.cell (i := 2) rfl
  have hE0 := hS.2.2.1.cell (i := 0) rfl
  have hR0 := hS.2.1.cell (i := 0) rfl
  have hF0 := hS.2.1.free 0
  have hE1 := hS.2.2.1.cell (i := 1) rfl
  have hR1 := hS.2.1.cell (i := 1) rfl
  have hF1 := hS.2.1.free 1
  have hE2 := hS.2.2.1.cell (i := 2) rfl
  have hR2 := hS.2.1.cell (i := 2) rfl
  have hF2 := hS.2.1.free 2
  have hE3 := hS.2.2.1.cell (i := 3) rfl
  have hR3 := hS.2.1.cell (i := 3) rfl
  have hF3 := hS.2.1.free 3
  have hG := hS.2.2.1.free 1
  have hkv := (HK.out.later hS.2.2.2 (Nat.le_refl _)).hasV hk
  rw [HVh.out] at hkv
  have hkx := (HK.out.later hS.2.2.2 (Nat.le_refl _)).hasX hk
  rw [HXh.out] at hkx
  go_wp2_with fail
  clear hA0 hA1 hA2 hE0 hR0 hF0 hE1 hR1 hF1 hE2 hR2 hF2 hE3 hR3 hF3 hG hkv hkx
  have hS := hS.setE 1 (.int .i64 n1)
  rw [setE_1] at hS
  generalize w1.setCell ⟨w.heap.size + 1 + 1, 1, none⟩ (.int .i64 n1) = w2 at *
  refine (HMh.out _ hS.2.2.2).mono ?_
  rintro e w3 ⟨rfl, hb'⟩
  have hS := hS.call hb'
  clear hb'
  have hA0 := hS.1.cell (i := 0) rfl
  have hA1 := hS.1.cell (i := 1) rfl
  have hA2 := hS.1.cell (i := 2) rfl
  have hE0 := hS.2.2.1.cell (i := 0) rfl
  have hR0 := hS.2.1.cell (i := 0) rfl
  have hF0 := hS.2.1.free 0
  have hE1 := hS.2.2.1.cell (i := 1) rfl
  have hR1 := hS.2.1.cell (i := 1) rfl
  have hF1 := hS.2.1.free 1
  have hE2 := hS.2.2.1.cell (i := 2) rfl
  have hR2 := hS.2.1.cell (i := 2) rfl
  have hF2 := hS.2.1.free 2
  have hE3 := hS.2.2.1.cell (i := 3) rfl
  have hR3 := hS.2.1.cell (i := 3) rfl
  have hF3 := hS.2.1.free 3
  have hkv := (HK.out.later hS.2.2.2 (Nat.le_refl _)).hasV hk
  rw [HVh.out] at hkv
  have hkx := (HK.out.later hS.2.2.2 (Nat.le_refl _)).hasX hk
  rw [HXh.out] at hkx
  go_wp2_with fail
  clear hA0 hA1 hA2 hE0 hR0 hF0 hE1 hR1 hF1 hE2 hR2 hF2 hE3 hR3 hF3 hkv hkx
  refine (Hn2h.out _ hS.2.2.2).mono ?_
  rintro e w4 ⟨rfl, hb'⟩
  have hS := hS.call hb'
  clear hb'
  have hA0 := hS.1.cell (i := 0) rfl
  have hA1 := hS.1.cell (i := 1) rfl
  have hA2 := hS.1.cell (i := 2) rfl
  have hE0 := hS.2.2.1.cell (i := 0) rfl
  have hR0 := hS.2.1.cell (i := 0) rfl
  have hF0 := hS.2.1.free 0
  have hE1 := hS.2.2.1.cell (i := 1) rfl
  have hR1 := hS.2.1.cell (i := 1) rfl
  have hF1 := hS.2.1.free 1
  have hE2 := hS.2.2.1.cell (i := 2) rfl
  have hR2 := hS.2.1.cell (i := 2) rfl
  have hF2 := hS.2.1.free 2
  have hE3 := hS.2.2.1.cell (i := 3) rfl
  have hR3 := hS.2.1.cell (i := 3) rfl
  have hF3 := hS.2.1.free 3
  have hG := hS.2.2.1.free 3
  have hkv := (HK.out.later hS.2.2.2 (Nat.le_refl _)).hasV hk
  rw [HVh.out] at hkv
  have hkx := (HK.out.later hS.2.2.2 (Nat.le_refl _)).hasX hk
  rw [HXh.out] at hkx
  have hbz := hS.2.2.2
  go_wp2
  exact bodyPost_ret (v := .tuple #[.agg #[.int .i64 0, .int .i64 0, .int .i64 0, .int .i64 0], .int .i64 2, .int .i64 e2]) (by simp [results, Tryd.results38, go_sem, hR0, hR1, hR2, hR3]) rfl ⟨rfl, by repeat' (first | exact hbz | (refine Below.setCell ?_ ?_ _) | (simp; done) | (simp; omega))⟩

set_option maxHeartbeats 2000000 in
theorem nums_ft (a1 a2 : Option Addr) (m c1 n c2 en k : Nat) (va : Value) (w : World) (hk : k < 10) (hK : HasK w) (n1 : Int) (Hn1 : NumCall (.agg #[.slice a1 m c1, .slice a2 n c2, .int .i64 en]) w 1 0 9999 n1 0) (HM : ManyCall va w n1 false) (hV : hasV k = false) (hX : hasX k = true) (n2 : Int) (Hn2 : NumCall (.agg #[.slice a1 m c1, .slice a2 n c2, .int .i64 en]) w 2 (-2147483648) 2147483647 n2 0) :
    Calls Tryd.prog 38 #[.agg #[.slice a1 m c1, .slice a2 n c2, .int .i64 en], .int .i64 k, va] w fun e w' => e = .returned (.tuple #[.agg #[.int .i64 k, .int .i64 n1, .int .i64 0, .int .i64 n2], .int .i64 3, .int .i64 0]) ∧ Below w.heap.size w w' := by
  have HK := Lib.hid hK
  clear hK
  have Hn1h := Lib.hid Hn1
  clear Hn1
  have HMh := Lib.hid HM
  clear HM
  have HVh := Lib.hid hV
  clear hV
  have HXh := Lib.hid hX
  clear hX
  have Hn2h := Lib.hid Hn2
  clear Hn2
  have hS := St.start w #[.slice a1 m c1, .slice a2 n c2, .int .i64 en] #[.int .i64 0, .int .i64 0, .int .i64 0, .int .i64 0] #[.int .i64 k, .int .i64 0, .int .i64 0, .int .i64 0]
  go_enter Tryd.func38, Tryd.ntmps38
  go_wp2_with fail
  generalize ((w.alloc (.cells #[.slice a1 m c1, .slice a2 n c2, .int .i64 en] 48)).alloc (.cells #[.int .i64 0, .int .i64 0, .int .i64 0, .int .i64 0] 44)).alloc (.cells #[.int .i64 k, .int .i64 0, .int .i64 0, .int .i64 0] 44) = w0 at *
  refine (Hn1h.out _ hS.2.2.2).mono ?_
  rintro e w1 ⟨rfl, hb'⟩
  have hS := hS.call hb'
  clear hb'
  have hA0 := hS.1.cell (i := 0) rfl
  have hA1 := hS.1.cell (i := 1) rfl
  have hA2 := hS.1.cell (i := 2) rfl
  have hE0 := hS.2.2.1.cell (i := 0) rfl
  have hR0 := hS.2.1.cell (i := 0) rfl
  have hF0 := hS.2.1.free 0
  have hE1 := hS.2.2.1.cell (i := 1) rfl
  have hR1 := hS.2.1.cell (i := 1) rfl
  have hF1 := hS.2.1.free 1
  have hE2 := hS.2.2.1.cell (i := 2) rfl
  have hR2 := hS.2.1.cell (i := 2) rfl
  have hF2 := hS.2.1.free 2
  have hE3 := hS.2.2.1.cell (i := 3) rfl
  have hR3 := hS.2.1.cell (i := 3) rfl
  have hF3 := hS.2.1.free 3
  have hG := hS.2.2.1.free 1
  have hkv := (HK.out.later hS.2.2.2 (Nat.le_refl _)).hasV hk
  rw [HVh.out] at hkv
  have hkx := (HK.out.later hS.2.2.2 (Nat.le_refl _)).hasX hk
  rw [HXh.out] at hkx
  go_wp2_with fail
  clear hA0 hA1 hA2 hE0 hR0 hF0 hE1 hR1 hF1 hE2 hR2 hF2 hE3 hR3 hF3 hG hkv hkx
  have hS := hS.setE 1 (.int .i64 n1)
  rw [setE_1] at hS
  generalize w1.setCell ⟨w.heap.size + 1 + 1, 1, none⟩ (.int .i64 n1) = w2 at *
  refine (HMh.out _ hS.2.2.2).mono ?_
  rintro e w3 ⟨rfl, hb'⟩
  have hS := hS.call hb'
  clear hb'
  have hA0 := hS.1.cell (i := 0) rfl
  have hA1 := hS.1.cell (i := 1) rfl
  have hA2 := hS.1.cell (i := 2) rfl
  have hE0 := hS.2.2.1.cell (i := 0) rfl
  have hR0 := hS.2.1.cell (i := 0) rfl
  have hF0 := hS.2.1.free 0
  have hE1 := hS.2.2.1.cell (i := 1) rfl
  have hR1 := hS.2.1.cell (i := 1) rfl
  have hF1 := hS.2.1.free 1
  have hE2 := hS.2.2.1.cell (i := 2) rfl
  have hR2 := hS.2.1.cell (i := 2) rfl
  have hF2 := hS.2.1.free 2
  have hE3 := hS.2.2.1.cell (i := 3) rfl
  have hR3 := hS.2.1.cell (i := 3) rfl
  have hF3 := hS.2.1.free 3
  have hkv := (HK.out.later hS.2.2.2 (Nat.le_refl _)).hasV hk
  rw [HVh.out] at hkv
  have hkx := (HK.out.later hS.2.2.2 (Nat.le_refl _)).hasX hk
  rw [HXh.out] at hkx
  go_wp2_with fail
  clear hA0 hA1 hA2 hE0 hR0 hF0 hE1 hR1 hF1 hE2 hR2 hF2 hE3 hR3 hF3 hkv hkx
  refine (Hn2h.out _ hS.2.2.2).mono ?_
  rintro e w4 ⟨rfl, hb'⟩
  have hS := hS.call hb'
  clear hb'
  have hA0 := hS.1.cell (i := 0) rfl
  have hA1 := hS.1.cell (i := 1) rfl
  have hA2 := hS.1.cell (i := 2) rfl
  have hE0 := hS.2.2.1.cell (i := 0) rfl
  have hR0 := hS.2.1.cell (i := 0) rfl
  have hF0 := hS.2.1.free 0
  have hE1 := hS.2.2.1.cell (i := 1) rfl
  have hR1 := hS.2.1.cell (i := 1) rfl
  have hF1 := hS.2.1.free 1
  have hE2 := hS.2.2.1.cell (i := 2) rfl
  have hR2 := hS.2.1.cell (i := 2) rfl
  have hF2 := hS.2.1.free 2
  have hE3 := hS.2.2.1.cell (i := 3) rfl
  have hR3 := hS.2.1.cell (i := 3) rfl
  have hF3 := hS.2.1.free 3
  have hG := hS.2.2.1.free 3
  have hkv := (HK.out.later hS.2.2.2 (Nat.le_refl _)).hasV hk
  rw [HVh.out] at hkv
  have hkx := (HK.out.later hS.2.2.2 (Nat.le_refl _)).hasX hk
  rw [HXh.out] at hkx
  have hbz := hS.2.2.2
  go_wp2
  exact bodyPost_ret (v := .tuple #[.agg #[.int .i64 k, .int .i64 n1, .int .i64 0, .int .i64 n2], .int .i64 3, .int .i64 0]) (by simp [results, Tryd.results38, go_sem, hR0, hR1, hR2, hR3]) rfl ⟨rfl, by repeat' (first | exact hbz | (refine Below.setCell ?_ ?_ _) | (simp; done) | (simp; omega))⟩

set_option maxHeartbeats 2000000 in
theorem nums_ff (a1 a2 : Option Addr) (m c1 n c2 en k : Nat) (va : Value) (w : World) (hk : k < 10) (hK : HasK w) (n1 : Int) (Hn1 : NumCall (.agg #[.slice a1 m c1, .slice a2 n c2, .int .i64 en]) w 1 0 9999 n1 0) (HM : ManyCall va w n1 false) (hV : hasV k = false) (hX : hasX k = false) :
    Calls Tryd.prog 38 #[.agg #[.slice a1 m c1, .slice a2 n c2, .int .i64 en], .int .i64 k, va] w fun e w' => e = .returned (.tuple #[.agg #[.int .i64 k, .int .i64 n1, .int .i64 0, .int .i64 0], .int .i64 2, .int .i64 0]) ∧ Below w.heap.size w w' := by
  have HK := Lib.hid hK
  clear hK
  have Hn1h := Lib.hid Hn1
  clear Hn1
  have HMh := Lib.hid HM
  clear HM
  have HVh := Lib.hid hV
  clear hV
  have HXh := Lib.hid hX
  clear hX
  have hS := St.start w #[.slice a1 m c1, .slice a2 n c2, .int .i64 en] #[.int .i64 0, .int .i64 0, .int .i64 0, .int .i64 0] #[.int .i64 k, .int .i64 0, .int .i64 0, .int .i64 0]
  go_enter Tryd.func38, Tryd.ntmps38
  go_wp2_with fail
  generalize ((w.alloc (.cells #[.slice a1 m c1, .slice a2 n c2, .int .i64 en] 48)).alloc (.cells #[.int .i64 0, .int .i64 0, .int .i64 0, .int .i64 0] 44)).alloc (.cells #[.int .i64 k, .int .i64 0, .int .i64 0, .int .i64 0] 44) = w0 at *
  refine (Hn1h.out _ hS.2.2.2).mono ?_
  rintro e w1 ⟨rfl, hb'⟩
  have hS := hS.call hb'
  clear hb'
  have hA0 := hS.1.cell (i := 0) rfl
  have hA1 := hS.1.cell (i := 1) rfl
  have hA2 := hS.1.cell (i := 2) rfl
  have hE0 := hS.2.2.1.cell (i := 0) rfl
  have hR0 := hS.2.1.cell (i := 0) rfl
  have hF0 := hS.2.1.free 0
  have hE1 := hS.2.2.1.cell (i := 1) rfl
  have hR1 := hS.2.1.cell (i := 1) rfl
  have hF1 := hS.2.1.free 1
  have hE2 := hS.2.2.1.cell (i := 2) rfl
  have hR2 := hS.2.1.cell (i := 2) rfl
  have hF2 := hS.2.1.free 2
  have hE3 := hS.2.2.1.cell (i := 3) rfl
  have hR3 := hS.2.1.cell (i := 3) rfl
  have hF3 := hS.2.1.free 3
  have hG := hS.2.2.1.free 1
  have hkv := (HK.out.later hS.2.2.2 (Nat.le_refl _)).hasV hk
  rw [HVh.out] at hkv
  have hkx := (HK.out.later hS.2.2.2 (Nat.le_refl _)).hasX hk
  rw [HXh.out] at hkx
  go_wp2_with fail
  clear hA0 hA1 hA2 hE0 hR0 hF0 hE1 hR1 hF1 hE2 hR2 hF2 hE3 hR3 hF3 hG hkv hkx
  have hS := hS.setE 1 (.int .i64 n1)
  rw [setE_1] at hS
  generalize w1.setCell ⟨w.heap.size + 1 + 1, 1, none⟩ (.int .i64 n1) = w2 at *
  refine (HMh.out _ hS.2.2.2).mono ?_
  rintro e w3 ⟨rfl, hb'⟩
  have hS := hS.call hb'
  clear hb'
  have hA0 := hS.1.cell (i := 0) rfl
  have hA1 := hS.1.cell (i := 1) rfl
  have hA2 := hS.1.cell (i := 2) rfl
  have hE0 := hS.2.2.1.cell (i := 0) rfl
  have hR0 := hS.2.1.cell (i := 0) rfl
  have hF0 := hS.2.1.free 0
  have hE1 := hS.2.2.1.cell (i := 1) rfl
  have hR1 := hS.2.1.cell (i := 1) rfl
  have hF1 := hS.2.1.free 1
  have hE2 := hS.2.2.1.cell (i := 2) rfl
  have hR2 := hS.2.1.cell (i := 2) rfl
  have hF2 := hS.2.1.free 2
  have hE3 := hS.2.2.1.cell (i := 3) rfl
  have hR3 := hS.2.1.cell (i := 3) rfl
  have hF3 := hS.2.1.free 3
  have hkv := (HK.out.later hS.2.2.2 (Nat.le_refl _)).hasV hk
  rw [HVh.out] at hkv
  have hkx := (HK.out.later hS.2.2.2 (Nat.le_refl _)).hasX hk
  rw [HXh.out] at hkx
  have hbz := hS.2.2.2
  go_wp2
  exact bodyPost_ret (v := .tuple #[.agg #[.int .i64 k, .int .i64 n1, .int .i64 0, .int .i64 0], .int .i64 2, .int .i64 0]) (by simp [results, Tryd.results38, go_sem, hR0, hR1, hR2, hR3]) rfl ⟨rfl, by repeat' (first | exact hbz | (refine Below.setCell ?_ ?_ _) | (simp; done) | (simp; omega))⟩

theorem nums_any (v va : Value) (L : Ln) (k : Nat) (h : List Ev) (w : World) (hL : IsLn w v L) (ho : LnOk L) (hk : k < 10) (hK : HasK w) (hv : Evs w va h) (hl : h.length ≤ 65536) :
    Calls Tryd.prog 38 #[v, .int .i64 k, va] w fun e w' => e = .returned (.tuple #[evVal (numsOf L k h).1, .int .i64 (numsOf L k h).2.1, .int .i64 (numsOf L k h).2.2]) ∧ Below w.heap.size w w' := by
  have N1 := numCall v L w 1 0 9999 hL ho (by omega)
  have N2 := numCall v L w 2 0 7 hL ho (by omega)
  have X2 := numCall v L w 2 (-2147483648) 2147483647 hL ho (by omega)
  have X3 := numCall v L w 3 (-2147483648) 2147483647 hL ho (by omega)
  have NM := manyCall va h w (numAt L 1 0 9999).1 hv hl
  obtain ⟨v1, v2, rfl, h1, h2⟩ := hL
  obtain ⟨a1, c1, rfl⟩ := h1.len
  obtain ⟨a2, c2, rfl⟩ := h2.len
  clear h1 h2
  simp only [List.length_map] at *
  unfold numsOf
  by_cases he1 : (numAt L 1 0 9999).2 = 0
  · rw [if_neg (by simpa using he1)]
    rw [he1] at N1
    cases hm : tooMany (numAt L 1 0 9999).1 h with
    | true => rw [if_pos rfl]; rw [hm] at NM; exact nums_B a1 a2 _ c1 _ c2 _ k va w hk hK _ N1 NM
    | false =>
      rw [if_neg (by simp)]
      rw [hm] at NM
      cases hV : hasV k with
      | true =>
        rw [if_pos rfl]
        by_cases he2 : (numAt L 2 0 7).2 = 0
        · rw [if_neg (by simpa using he2)]
          rw [he2] at N2
          cases hX : hasX k with
          | true =>
            rw [if_pos rfl]
            by_cases he3 : (numAt L 3 (-2147483648) 2147483647).2 = 0
            · rw [if_neg (by simpa using he3)]
              rw [he3] at X3
              exact nums_tt a1 a2 _ c1 _ c2 _ k va w hk hK _ N1 NM hV _ N2 hX _ X3
            · rw [if_pos he3]
              exact nums_tt3 a1 a2 _ c1 _ c2 _ k va w hk hK _ N1 NM hV _ N2 hX _ _ X3 he3
          | false =>
            rw [if_neg (by simp)]
            exact nums_tf a1 a2 _ c1 _ c2 _ k va w hk hK _ N1 NM hV _ N2 hX
        · rw [if_pos he2]
          exact nums_tt2 a1 a2 _ c1 _ c2 _ k va w hk hK _ N1 NM hV _ _ N2 he2
      | false =>
        rw [if_neg (by simp)]
        cases hX : hasX k with
        | true =>
          rw [if_pos rfl]
          by_cases he3 : (numAt L 2 (-2147483648) 2147483647).2 = 0
          · rw [if_neg (by simpa using he3)]
            rw [he3] at X2
            exact nums_ft a1 a2 _ c1 _ c2 _ k va w hk hK _ N1 NM hV hX _ X2
          · rw [if_pos he3]
            exact nums_ft2 a1 a2 _ c1 _ c2 _ k va w hk hK _ N1 NM hV hX _ _ X2 he3
        | false =>
          rw [if_neg (by simp)]
          exact nums_ff a1 a2 _ c1 _ c2 _ k va w hk hK _ N1 NM hV hX
  · rw [if_pos he1]
    exact nums_A a1 a2 _ c1 _ c2 _ k va w hk hK _ _ N1 he1
end Go.Proofs.YtnbecfgoambbpaaDoor
