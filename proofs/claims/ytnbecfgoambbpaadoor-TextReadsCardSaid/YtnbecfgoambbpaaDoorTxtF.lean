/- The walk of package text's parseEvent. (Written by gen_txtF.py.) -/
import Derived.Test.YtnbecfgoambbpaaDoorTxtE
namespace Go.Proofs.YtnbecfgoambbpaaDoor
open Go.RowKit WPlain

/-- what place answers, of a line, in every later world -/
def PlaceCall (v : Value) (w : World) (i : Nat) (p : Nat) : Prop :=
  ∀ w', Below w.heap.size w w' → Calls Tryd.prog 36 #[v, .int .i64 i] w' fun en w2 => en = .returned (.int .i64 p) ∧ Below w'.heap.size w' w2
theorem placeCall (v : Value) (L : Ln) (w : World) (i : Nat) (h : IsLn w v L) (ho : LnOk L) (hi0 : i ≤ 2147483648) : PlaceCall v w i (placeAt L i) :=
  fun _ hb => place_any v L i _ (h.later hb (Nat.le_refl _)) hi0 ho.2.1
def KindCall (s : ByteArray) (w : World) (a : Value) : Prop :=
  ∀ w', Below w.heap.size w w' → Calls Tryd.prog 37 #[.string s] w' fun en w2 => en = .returned a ∧ Below w'.heap.size w' w2
theorem kindCall (s : ByteArray) (w : World) (hK : HasK w) : KindCall s w (kindAns s.data.toList) :=
  fun _ hb => kindOf_any s _ (hK.later hb (Nat.le_refl _))
def NumsCall (v va : Value) (w : World) (k : Nat) (e : Value) (nx : Nat) (er : Int) : Prop :=
  ∀ w', Below w.heap.size w w' → Calls Tryd.prog 38 #[v, .int .i64 k, va] w' fun en w2 => en = .returned (.tuple #[e, .int .i64 nx, .int .i64 er]) ∧ Below w'.heap.size w' w2
theorem numsCall (v va : Value) (L : Ln) (k : Nat) (h : List Ev) (w : World) (hL : IsLn w v L) (ho : LnOk L) (hk : k < 10) (hK : HasK w) (hv : Evs w va h) (hl : h.length ≤ 65536) :
    NumsCall v va w k (evVal (numsOf L k h).1) (numsOf L k h).2.1 (numsOf L k h).2.2 :=
  fun _ hb => nums_any v va L k h _ (hL.later hb (Nat.le_refl _)) ho hk (hK.later hb (Nat.le_refl _)) (hv.below hb (Nat.le_refl _)) hl

/-- two blocks of the call's own -/
def St2 (w w' : World) (A R : Array Value) : Prop :=
  At w' w.heap.size A 48 ∧ At w' (w.heap.size + 1) R 44 ∧ Below w.heap.size w w'
theorem St2.start (w : World) (A R : Array Value) : St2 w ((w.alloc (.cells A 48)).alloc (.cells R 44)) A R := by
  have hR := At.new (w.alloc (.cells A 48)) R 44
  simp only [World.size_alloc] at hR
  exact ⟨(At.new w A 48).alloc _, hR, ((Below.refl w.heap.size w).alloc (Nat.le_refl _) _).alloc (by simp) _⟩
theorem St2.call {w w1 w2 : World} {A R : Array Value} (h : St2 w w1 A R) (hb : Below w1.heap.size w1 w2) : St2 w w2 A R :=
  ⟨h.1.below hb h.1.lt, h.2.1.below hb h.2.1.lt, h.2.2.trans (hb.mono h.2.2.size)⟩
theorem St2.alloc {w w1 : World} {A R : Array Value} (h : St2 w w1 A R) (ob : Obj) : St2 w (w1.alloc ob) A R :=
  ⟨h.1.alloc ob, h.2.1.alloc ob, h.2.2.alloc h.2.2.size ob⟩

set_option maxHeartbeats 2000000 in
theorem event_60 (b o m c1 : Nat) (a2 av : Option Addr) (n c2 en lh cv : Nat) (w : World) (p : Nat) (H0 : PlaceCall (.agg #[.slice (some ⟨b, o, none⟩) m c1, .slice a2 n c2, .int .i64 en]) w 0 p) (h60 : lh = 60) :
    Calls Tryd.prog 18 #[.agg #[.slice (some ⟨b, o, none⟩) m c1, .slice a2 n c2, .int .i64 en], .slice av lh cv] w fun e w' => e = .returned (.tuple #[(.agg #[.int .i64 0, .int .i64 0, .int .i64 0, .int .i64 0]), .int .i64 p, .int .i64 5]) ∧ Below w.heap.size w w' := by
  have H0h := Lib.hid H0
  clear H0
  have t60 : ((lh : Int) == 60) = true := by simp [h60]
  clear h60
  have hS := St2.start w #[.slice (some ⟨b, o, none⟩) m c1, .slice a2 n c2, .int .i64 en] #[.int .i64 0, .int .i64 0, .int .i64 0, .int .i64 0]
  have hlt := hS.2.1.lt
  go_enter Tryd.func18, Tryd.ntmps18
  go_wp2_with fail
  generalize (w.alloc (.cells #[.slice (some ⟨b, o, none⟩) m c1, .slice a2 n c2, .int .i64 en] 48)).alloc (.cells #[.int .i64 0, .int .i64 0, .int .i64 0, .int .i64 0] 44) = w0 at *
  refine (H0h.out _ hS.2.2).mono ?_
  rintro e w1 ⟨rfl, hb'⟩
  have hS := hS.call hb'
  have hlt := hS.2.1.lt
  have hlt0 := hS.1.lt
  clear hb'
  have hA0 := hS.1.cell (i := 0) rfl
  have hA1 := hS.1.cell (i := 1) rfl
  have hA2 := hS.1.cell (i := 2) rfl
  have hR0 := hS.2.1.cell (i := 0) rfl
  have hF0 := hS.2.1.free 0
  have hR1 := hS.2.1.cell (i := 1) rfl
  have hF1 := hS.2.1.free 1
  have hR2 := hS.2.1.cell (i := 2) rfl
  have hF2 := hS.2.1.free 2
  have hR3 := hS.2.1.cell (i := 3) rfl
  have hF3 := hS.2.1.free 3
  have hbz := hS.2.2
  go_wp2
  exact bodyPost_ret (v := .tuple #[(.agg #[.int .i64 0, .int .i64 0, .int .i64 0, .int .i64 0]), .int .i64 p, .int .i64 5]) (by simp [results, Tryd.results18, go_sem, hR0, hR1, hR2, hR3]) rfl ⟨rfl, by repeat' (first | exact hbz | (refine Below.setCell ?_ ?_ _) | (refine Below.alloc ?_ ?_ _) | (exact hbz.size) | (simp; done) | (simp; omega))⟩

set_option maxHeartbeats 2000000 in
theorem event_kind (b o m c1 : Nat) (a2 av : Option Addr) (n c2 en lh cv : Nat) (s : ByteArray) (w : World) (hb : b < w.heap.size) (hc : w.cell? ⟨b, o, none⟩ = some (.string s)) (hm : 0 < m) (p : Nat) (H0 : PlaceCall (.agg #[.slice (some ⟨b, o, none⟩) m c1, .slice a2 n c2, .int .i64 en]) w 0 p) (h60 : ¬ lh = 60) (HK : KindCall s w (.tuple #[.int .i64 0, .bool false])) :
    Calls Tryd.prog 18 #[.agg #[.slice (some ⟨b, o, none⟩) m c1, .slice a2 n c2, .int .i64 en], .slice av lh cv] w fun e w' => e = .returned (.tuple #[(.agg #[.int .i64 0, .int .i64 0, .int .i64 0, .int .i64 0]), .int .i64 p, .int .i64 2]) ∧ Below w.heap.size w w' := by
  have H0h := Lib.hid H0
  clear H0
  have HKh := Lib.hid HK
  clear HK
  have t60 : ((lh : Int) == 60) = false := by simp; omega
  clear h60
  have hS := St2.start w #[.slice (some ⟨b, o, none⟩) m c1, .slice a2 n c2, .int .i64 en] #[.int .i64 0, .int .i64 0, .int .i64 0, .int .i64 0]
  have hlt := hS.2.1.lt
  go_enter Tryd.func18, Tryd.ntmps18
  go_wp2_with fail
  generalize (w.alloc (.cells #[.slice (some ⟨b, o, none⟩) m c1, .slice a2 n c2, .int .i64 en] 48)).alloc (.cells #[.int .i64 0, .int .i64 0, .int .i64 0, .int .i64 0] 44) = w0 at *
  refine (HKh.out _ hS.2.2).mono ?_
  rintro e w1 ⟨rfl, hb'⟩
  have hS := hS.call hb'
  have hlt := hS.2.1.lt
  have hlt0 := hS.1.lt
  clear hb'
  have hA0 := hS.1.cell (i := 0) rfl
  have hA1 := hS.1.cell (i := 1) rfl
  have hA2 := hS.1.cell (i := 2) rfl
  have hR0 := hS.2.1.cell (i := 0) rfl
  have hF0 := hS.2.1.free 0
  have hR1 := hS.2.1.cell (i := 1) rfl
  have hF1 := hS.2.1.free 1
  have hR2 := hS.2.1.cell (i := 2) rfl
  have hF2 := hS.2.1.free 2
  have hR3 := hS.2.1.cell (i := 3) rfl
  have hF3 := hS.2.1.free 3
  go_wp2_with fail
  clear hA0 hA1 hA2 hR0 hR1 hR2 hR3 hF0 hF1 hF2 hF3
  refine (H0h.out _ hS.2.2).mono ?_
  rintro e w2 ⟨rfl, hb'⟩
  have hS := hS.call hb'
  have hlt := hS.2.1.lt
  have hlt0 := hS.1.lt
  clear hb'
  have hA0 := hS.1.cell (i := 0) rfl
  have hA1 := hS.1.cell (i := 1) rfl
  have hA2 := hS.1.cell (i := 2) rfl
  have hR0 := hS.2.1.cell (i := 0) rfl
  have hF0 := hS.2.1.free 0
  have hR1 := hS.2.1.cell (i := 1) rfl
  have hF1 := hS.2.1.free 1
  have hR2 := hS.2.1.cell (i := 2) rfl
  have hF2 := hS.2.1.free 2
  have hR3 := hS.2.1.cell (i := 3) rfl
  have hF3 := hS.2.1.free 3
  have hbz := hS.2.2
  go_wp2
  exact bodyPost_ret (v := .tuple #[(.agg #[.int .i64 0, .int .i64 0, .int .i64 0, .int .i64 0]), .int .i64 p, .int .i64 2]) (by simp [results, Tryd.results18, go_sem, hR0, hR1, hR2, hR3]) rfl ⟨rfl, by repeat' (first | exact hbz | (refine Below.setCell ?_ ?_ _) | (refine Below.alloc ?_ ?_ _) | (exact hbz.size) | (simp; done) | (simp; omega))⟩

set_option maxHeartbeats 2000000 in
theorem event_more (b o m c1 : Nat) (a2 av : Option Addr) (n c2 en lh cv : Nat) (s : ByteArray) (w : World) (hb : b < w.heap.size) (hc : w.cell? ⟨b, o, none⟩ = some (.string s)) (hm : 0 < m) (h60 : ¬ lh = 60) (k : Nat) (HK : KindCall s w (.tuple #[.int .i64 k, .bool true])) (x0 x1 x2 x3 er : Int) (nx : Nat) (HN : NumsCall (.agg #[.slice (some ⟨b, o, none⟩) m c1, .slice a2 n c2, .int .i64 en]) (.slice av lh cv) w k (.agg #[.int .i64 x0, .int .i64 x1, .int .i64 x2, .int .i64 x3]) nx er) (p : Nat) (H0 : PlaceCall (.agg #[.slice (some ⟨b, o, none⟩) m c1, .slice a2 n c2, .int .i64 en]) w nx p) (h0 : er = 0) (hn : nx < m) :
    Calls Tryd.prog 18 #[.agg #[.slice (some ⟨b, o, none⟩) m c1, .slice a2 n c2, .int .i64 en], .slice av lh cv] w fun e w' => e = .returned (.tuple #[(.agg #[.int .i64 0, .int .i64 0, .int .i64 0, .int .i64 0]), .int .i64 p, .int .i64 2]) ∧ Below w.heap.size w w' := by
  have HKh := Lib.hid HK
  clear HK
  have HNh := Lib.hid HN
  clear HN
  have H0h := Lib.hid H0
  clear H0
  have te : ((er : Int) == 0) = true := by simp [h0]
  have tn : ((er : Int) != 0) = false := by simp [h0]
  clear h0
  have hni : (nx : Int) < (m : Int) := by omega
  have t60 : ((lh : Int) == 60) = false := by simp; omega
  clear h60
  have hS := St2.start w #[.slice (some ⟨b, o, none⟩) m c1, .slice a2 n c2, .int .i64 en] #[.int .i64 0, .int .i64 0, .int .i64 0, .int .i64 0]
  have hlt := hS.2.1.lt
  go_enter Tryd.func18, Tryd.ntmps18
  go_wp2_with fail
  generalize (w.alloc (.cells #[.slice (some ⟨b, o, none⟩) m c1, .slice a2 n c2, .int .i64 en] 48)).alloc (.cells #[.int .i64 0, .int .i64 0, .int .i64 0, .int .i64 0] 44) = w0 at *
  refine (HKh.out _ hS.2.2).mono ?_
  rintro e w1 ⟨rfl, hb'⟩
  have hS := hS.call hb'
  have hlt := hS.2.1.lt
  have hlt0 := hS.1.lt
  clear hb'
  have hA0 := hS.1.cell (i := 0) rfl
  have hA1 := hS.1.cell (i := 1) rfl
  have hA2 := hS.1.cell (i := 2) rfl
  have hR0 := hS.2.1.cell (i := 0) rfl
  have hF0 := hS.2.1.free 0
  have hR1 := hS.2.1.cell (i := 1) rfl
  have hF1 := hS.2.1.free 1
  have hR2 := hS.2.1.cell (i := 2) rfl
  have hF2 := hS.2.1.free 2
  have hR3 := hS.2.1.cell (i := 3) rfl
  have hF3 := hS.2.1.free 3
  go_wp2_with fail
  clear hA0 hA1 hA2 hR0 hR1 hR2 hR3 hF0 hF1 hF2 hF3
  refine (HNh.out _ hS.2.2).mono ?_
  rintro e w2 ⟨rfl, hb'⟩
  have hS := hS.call hb'
  have hlt := hS.2.1.lt
  have hlt0 := hS.1.lt
  clear hb'
  have hA0 := hS.1.cell (i := 0) rfl
  have hA1 := hS.1.cell (i := 1) rfl
  have hA2 := hS.1.cell (i := 2) rfl
  have hR0 := hS.2.1.cell (i := 0) rfl
  have hF0 := hS.2.1.free 0
  have hR1 := hS.2.1.cell (i := 1) rfl
  have hF1 := hS.2.1.free 1
  have hR2 := hS.2.1.cell (i := 2) rfl
  have hF2 := hS.2.1.free 2
  have hR3 := hS.2.1.cell (i := 3) rfl
  have hF3 := hS.2.1.free 3
  go_wp2_with fail
  clear hA0 hA1 hA2 hR0 hR1 hR2 hR3 hF0 hF1 hF2 hF3
  have hS := hS.alloc (.cells #[.int .i64 x0, .int .i64 x1, .int .i64 x2, .int .i64 x3] 44)
  generalize w2.alloc (.cells #[.int .i64 x0, .int .i64 x1, .int .i64 x2, .int .i64 x3] 44) = w3 at *
  refine (H0h.out _ hS.2.2).mono ?_
  rintro e w4 ⟨rfl, hb'⟩
  have hS := hS.call hb'
  have hlt := hS.2.1.lt
  have hlt0 := hS.1.lt
  clear hb'
  have hA0 := hS.1.cell (i := 0) rfl
  have hA1 := hS.1.cell (i := 1) rfl
  have hA2 := hS.1.cell (i := 2) rfl
  have hR0 := hS.2.1.cell (i := 0) rfl
  have hF0 := hS.2.1.free 0
  have hR1 := hS.2.1.cell (i := 1) rfl
  have hF1 := hS.2.1.free 1
  have hR2 := hS.2.1.cell (i := 2) rfl
  have hF2 := hS.2.1.free 2
  have hR3 := hS.2.1.cell (i := 3) rfl
  have hF3 := hS.2.1.free 3
  have hbz := hS.2.2
  go_wp2
  exact bodyPost_ret (v := .tuple #[(.agg #[.int .i64 0, .int .i64 0, .int .i64 0, .int .i64 0]), .int .i64 p, .int .i64 2]) (by simp [results, Tryd.results18, go_sem, hR0, hR1, hR2, hR3]) rfl ⟨rfl, by repeat' (first | exact hbz | (refine Below.setCell ?_ ?_ _) | (refine Below.alloc ?_ ?_ _) | (exact hbz.size) | (simp; done) | (simp; omega))⟩

set_option maxHeartbeats 2000000 in
theorem event_err (b o m c1 : Nat) (a2 av : Option Addr) (n c2 en lh cv : Nat) (s : ByteArray) (w : World) (hb : b < w.heap.size) (hc : w.cell? ⟨b, o, none⟩ = some (.string s)) (hm : 0 < m) (h60 : ¬ lh = 60) (k : Nat) (HK : KindCall s w (.tuple #[.int .i64 k, .bool true])) (x0 x1 x2 x3 er : Int) (nx : Nat) (HN : NumsCall (.agg #[.slice (some ⟨b, o, none⟩) m c1, .slice a2 n c2, .int .i64 en]) (.slice av lh cv) w k (.agg #[.int .i64 x0, .int .i64 x1, .int .i64 x2, .int .i64 x3]) nx er) (p : Nat) (H0 : PlaceCall (.agg #[.slice (some ⟨b, o, none⟩) m c1, .slice a2 n c2, .int .i64 en]) w nx p) (h0 : ¬ er = 0) :
    Calls Tryd.prog 18 #[.agg #[.slice (some ⟨b, o, none⟩) m c1, .slice a2 n c2, .int .i64 en], .slice av lh cv] w fun e w' => e = .returned (.tuple #[(.agg #[.int .i64 0, .int .i64 0, .int .i64 0, .int .i64 0]), .int .i64 p, .int .i64 er]) ∧ Below w.heap.size w w' := by
  have HKh := Lib.hid HK
  clear HK
  have HNh := Lib.hid HN
  clear HN
  have H0h := Lib.hid H0
  clear H0
  have te : ((er : Int) == 0) = false := by simpa using h0
  have tn : ((er : Int) != 0) = true := by simpa using h0
  clear h0
  have t60 : ((lh : Int) == 60) = false := by simp; omega
  clear h60
  have hS := St2.start w #[.slice (some ⟨b, o, none⟩) m c1, .slice a2 n c2, .int .i64 en] #[.int .i64 0, .int .i64 0, .int .i64 0, .int .i64 0]
  have hlt := hS.2.1.lt
  go_enter Tryd.func18, Tryd.ntmps18
  go_wp2_with fail
  generalize (w.alloc (.cells #[.slice (some ⟨b, o, none⟩) m c1, .slice a2 n c2, .int .i64 en] 48)).alloc (.cells #[.int .i64 0, .int .i64 0, .int .i64 0, .int .i64 0] 44) = w0 at *
  refine (HKh.out _ hS.2.2).mono ?_
  rintro e w1 ⟨rfl, hb'⟩
  have hS := hS.call hb'
  have hlt := hS.2.1.lt
  have hlt0 := hS.1.lt
  clear hb'
  have hA0 := hS.1.cell (i := 0) rfl
  have hA1 := hS.1.cell (i := 1) rfl
  have hA2 := hS.1.cell (i := 2) rfl
  have hR0 := hS.2.1.cell (i := 0) rfl
  have hF0 := hS.2.1.free 0
  have hR1 := hS.2.1.cell (i := 1) rfl
  have hF1 := hS.2.1.free 1
  have hR2 := hS.2.1.cell (i := 2) rfl
  have hF2 := hS.2.1.free 2
  have hR3 := hS.2.1.cell (i := 3) rfl
  have hF3 := hS.2.1.free 3
  go_wp2_with fail
  clear hA0 hA1 hA2 hR0 hR1 hR2 hR3 hF0 hF1 hF2 hF3
  refine (HNh.out _ hS.2.2).mono ?_
  rintro e w2 ⟨rfl, hb'⟩
  have hS := hS.call hb'
  have hlt := hS.2.1.lt
  have hlt0 := hS.1.lt
  clear hb'
  have hA0 := hS.1.cell (i := 0) rfl
  have hA1 := hS.1.cell (i := 1) rfl
  have hA2 := hS.1.cell (i := 2) rfl
  have hR0 := hS.2.1.cell (i := 0) rfl
  have hF0 := hS.2.1.free 0
  have hR1 := hS.2.1.cell (i := 1) rfl
  have hF1 := hS.2.1.free 1
  have hR2 := hS.2.1.cell (i := 2) rfl
  have hF2 := hS.2.1.free 2
  have hR3 := hS.2.1.cell (i := 3) rfl
  have hF3 := hS.2.1.free 3
  go_wp2_with fail
  clear hA0 hA1 hA2 hR0 hR1 hR2 hR3 hF0 hF1 hF2 hF3
  have hS := hS.alloc (.cells #[.int .i64 x0, .int .i64 x1, .int .i64 x2, .int .i64 x3] 44)
  generalize w2.alloc (.cells #[.int .i64 x0, .int .i64 x1, .int .i64 x2, .int .i64 x3] 44) = w3 at *
  refine (H0h.out _ hS.2.2).mono ?_
  rintro e w4 ⟨rfl, hb'⟩
  have hS := hS.call hb'
  have hlt := hS.2.1.lt
  have hlt0 := hS.1.lt
  clear hb'
  have hA0 := hS.1.cell (i := 0) rfl
  have hA1 := hS.1.cell (i := 1) rfl
  have hA2 := hS.1.cell (i := 2) rfl
  have hR0 := hS.2.1.cell (i := 0) rfl
  have hF0 := hS.2.1.free 0
  have hR1 := hS.2.1.cell (i := 1) rfl
  have hF1 := hS.2.1.free 1
  have hR2 := hS.2.1.cell (i := 2) rfl
  have hF2 := hS.2.1.free 2
  have hR3 := hS.2.1.cell (i := 3) rfl
  have hF3 := hS.2.1.free 3
  have hbz := hS.2.2
  go_wp2
  exact bodyPost_ret (v := .tuple #[(.agg #[.int .i64 0, .int .i64 0, .int .i64 0, .int .i64 0]), .int .i64 p, .int .i64 er]) (by simp [results, Tryd.results18, go_sem, hR0, hR1, hR2, hR3]) rfl ⟨rfl, by repeat' (first | exact hbz | (refine Below.setCell ?_ ?_ _) | (refine Below.alloc ?_ ?_ _) | (exact hbz.size) | (simp; done) | (simp; omega))⟩

set_option maxHeartbeats 2000000 in
theorem event_ok (b o m c1 : Nat) (a2 av : Option Addr) (n c2 en lh cv : Nat) (s : ByteArray) (w : World) (hb : b < w.heap.size) (hc : w.cell? ⟨b, o, none⟩ = some (.string s)) (hm : 0 < m) (h60 : ¬ lh = 60) (k : Nat) (HK : KindCall s w (.tuple #[.int .i64 k, .bool true])) (x0 x1 x2 x3 er : Int) (nx : Nat) (HN : NumsCall (.agg #[.slice (some ⟨b, o, none⟩) m c1, .slice a2 n c2, .int .i64 en]) (.slice av lh cv) w k (.agg #[.int .i64 x0, .int .i64 x1, .int .i64 x2, .int .i64 x3]) nx er) (h0 : er = 0) (hn : ¬ nx < m) :
    Calls Tryd.prog 18 #[.agg #[.slice (some ⟨b, o, none⟩) m c1, .slice a2 n c2, .int .i64 en], .slice av lh cv] w fun e w' => e = .returned (.tuple #[(.agg #[.int .i64 x0, .int .i64 x1, .int .i64 x2, .int .i64 x3]), .int .i64 0, .int .i64 0]) ∧ Below w.heap.size w w' := by
  have HKh := Lib.hid HK
  clear HK
  have HNh := Lib.hid HN
  clear HN
  have te : ((er : Int) == 0) = true := by simp [h0]
  have tn : ((er : Int) != 0) = false := by simp [h0]
  clear h0
  have hni : decide ((nx : Int) < (m : Int)) = false := by simp; omega
  have hni2 : decide (nx < m) = false := by simp; omega
  clear hn
  have t60 : ((lh : Int) == 60) = false := by simp; omega
  clear h60
  have hS := St2.start w #[.slice (some ⟨b, o, none⟩) m c1, .slice a2 n c2, .int .i64 en] #[.int .i64 0, .int .i64 0, .int .i64 0, .int .i64 0]
  have hlt := hS.2.1.lt
  go_enter Tryd.func18, Tryd.ntmps18
  go_wp2_with fail
  generalize (w.alloc (.cells #[.slice (some ⟨b, o, none⟩) m c1, .slice a2 n c2, .int .i64 en] 48)).alloc (.cells #[.int .i64 0, .int .i64 0, .int .i64 0, .int .i64 0] 44) = w0 at *
  refine (HKh.out _ hS.2.2).mono ?_
  rintro e w1 ⟨rfl, hb'⟩
  have hS := hS.call hb'
  have hlt := hS.2.1.lt
  have hlt0 := hS.1.lt
  clear hb'
  have hA0 := hS.1.cell (i := 0) rfl
  have hA1 := hS.1.cell (i := 1) rfl
  have hA2 := hS.1.cell (i := 2) rfl
  have hR0 := hS.2.1.cell (i := 0) rfl
  have hF0 := hS.2.1.free 0
  have hR1 := hS.2.1.cell (i := 1) rfl
  have hF1 := hS.2.1.free 1
  have hR2 := hS.2.1.cell (i := 2) rfl
  have hF2 := hS.2.1.free 2
  have hR3 := hS.2.1.cell (i := 3) rfl
  have hF3 := hS.2.1.free 3
  go_wp2_with fail
  clear hA0 hA1 hA2 hR0 hR1 hR2 hR3 hF0 hF1 hF2 hF3
  refine (HNh.out _ hS.2.2).mono ?_
  rintro e w2 ⟨rfl, hb'⟩
  have hS := hS.call hb'
  have hlt := hS.2.1.lt
  have hlt0 := hS.1.lt
  clear hb'
  have hA0 := hS.1.cell (i := 0) rfl
  have hA1 := hS.1.cell (i := 1) rfl
  have hA2 := hS.1.cell (i := 2) rfl
  have hR0 := hS.2.1.cell (i := 0) rfl
  have hF0 := hS.2.1.free 0
  have hR1 := hS.2.1.cell (i := 1) rfl
  have hF1 := hS.2.1.free 1
  have hR2 := hS.2.1.cell (i := 2) rfl
  have hF2 := hS.2.1.free 2
  have hR3 := hS.2.1.cell (i := 3) rfl
  have hF3 := hS.2.1.free 3
  have hbz := hS.2.2
  go_wp2
  exact bodyPost_ret (v := .tuple #[(.agg #[.int .i64 x0, .int .i64 x1, .int .i64 x2, .int .i64 x3]), .int .i64 0, .int .i64 0]) (by simp [results, Tryd.results18, go_sem, hR0, hR1, hR2, hR3, hlt]) rfl ⟨rfl, by repeat' (first | exact hbz | (refine Below.setCell ?_ ?_ _) | (refine Below.alloc ?_ ?_ _) | (exact hbz.size) | (simp; done) | (simp; omega))⟩

theorem headD_get (l : List (List UInt8)) (h : 0 < l.length) : l.headD [] = l[0] := by
  cases l with
  | nil => simp at h
  | cons x r => rfl
theorem event_any (v va : Value) (L : Ln) (h : List Ev) (w : World) (hL : IsLn w v L) (ho : LnOk L) (hm : 0 < L.ws.length) (hK : HasK w) (hv : Evs w va h) (hl : h.length ≤ 65536) :
    Calls Tryd.prog 18 #[v, va] w fun e w' => e = .returned (.tuple #[evVal (evOf L h).1, .int .i64 (evOf L h).2.1, .int .i64 (evOf L h).2.2]) ∧ Below w.heap.size w w' := by
  have P0 := placeCall v L w 0 hL ho (by omega)
  have hnx : (numsOf L (kindIx (L.ws.headD [])) h).2.1 ≤ 2147483648 := by
    unfold numsOf
    repeat' split
    all_goals simp
  have PN := placeCall v L w (numsOf L (kindIx (L.ws.headD [])) h).2.1 hL ho hnx
  have NC : kindIx (L.ws.headD []) < 10 → NumsCall v va w (kindIx (L.ws.headD [])) (evVal (numsOf L (kindIx (L.ws.headD [])) h).1) (numsOf L (kindIx (L.ws.headD [])) h).2.1 (numsOf L (kindIx (L.ws.headD [])) h).2.2 := fun hk => numsCall v va L _ h w hL ho hk hK hv hl
  have KC : KindCall ⟨(L.ws.headD []).toArray⟩ w (kindAns (L.ws.headD [])) := kindCall ⟨(L.ws.headD []).toArray⟩ w hK
  have hkl := kindIx_le (L.ws.headD [])
  obtain ⟨v1, v2, rfl, h1, h2⟩ := hL
  obtain ⟨b, o, c1, rfl, hb, hc⟩ := h1.opened (by rw [List.length_map]; exact hm)
  have hc0 := hc 0 (.string ⟨(L.ws.headD []).toArray⟩) (by rw [List.getElem?_map, List.getElem?_eq_getElem hm, headD_get _ hm]; rfl)
  obtain ⟨a2, c2, rfl⟩ := h2.len
  obtain ⟨av, cv, rfl⟩ := hv.len
  clear h1 h2 hc
  simp only [List.length_map] at *
  unfold evOf
  by_cases h60 : h.length = 60
  · rw [if_pos h60]
    exact event_60 b o _ c1 a2 av _ c2 _ _ cv w _ P0 h60
  · rw [if_neg h60]
    unfold kindAns at KC
    by_cases hk : kindIx (L.ws.headD []) = 10
    · rw [if_pos hk]
      rw [if_pos hk] at KC
      exact event_kind b o _ c1 a2 av _ c2 _ _ cv _ w hb hc0 hm _ P0 h60 KC
    · rw [if_neg hk]
      rw [if_neg hk] at KC
      have NC' := NC (by omega)
      by_cases h0 : (numsOf L (kindIx (L.ws.headD [])) h).2.2 = 0
      · rw [if_pos h0]
        by_cases hn : (numsOf L (kindIx (L.ws.headD [])) h).2.1 < L.ws.length
        · rw [if_pos hn]
          exact event_more b o _ c1 a2 av _ c2 _ _ cv _ w hb hc0 hm h60 _ KC _ _ _ _ _ _ NC' _ PN h0 hn
        · rw [if_neg hn]
          exact event_ok b o _ c1 a2 av _ c2 _ _ cv _ w hb hc0 hm h60 _ KC _ _ _ _ _ _ NC' h0 hn
      · rw [if_neg h0]
        exact event_err b o _ c1 a2 av _ c2 _ _ cv _ w hb hc0 hm h60 _ KC _ _ _ _ _ _ NC' _ PN h0
end Go.Proofs.YtnbecfgoambbpaaDoor
