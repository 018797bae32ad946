/- The walks of the reference's kind and number. (Written by gen_txtW.py.) -/
import Derived.Test.YtnbecfgoambbpaaDoorTxtS
import Derived.Test.YtnbecfgoambbpaaDoorTxtC
import Derived.Test.YtnbecfgoambbpaaDoorTxtE
import Derived.Test.YtnbecfgoambbpaaDoorRefInt
import Derived.RegionTactic
namespace Go.Proofs.YtnbecfgoambbpaaDoor
open Go.RowKit WPlain

def kindNum (l : List UInt8) : Int := if kindIx l = 10 then -1 else kindIx l
set_option maxHeartbeats 1000000 in
theorem kind2_any (s : ByteArray) (w : World) :
    Calls Tryd.prog 39 #[.string s] w fun e w' => e = .returned (.int .i64 (kindNum s.data.toList)) ∧ Below w.heap.size w w' := by
  have hb0 := Below.refl w.heap.size w
  go_enter Tryd.func39, Tryd.ntmps39
  go_wp2_with fail
  go_loopw [3] (fun x wr => ∃ k : Nat, k ≤ 10 ∧ x = .int .i64 k ∧ Hid (∀ j, j < k → kwords.getD j [] ≠ s.data.toList) ∧ Below w.heap.size w wr) (fun x _ => 10 - (intOf x).toNat)
  case atStart => exact ⟨0, by omega, rfl, fun j hj => absurd hj (Nat.not_lt_zero _), hb0⟩
  case round =>
    clear hb0
    obtain ⟨k, hk, rfl, HN, hb⟩ := hrel
    by_cases hlt : k < 10
    · have HW := Lib.hid (word_any k hlt)
      by_cases heq : kwords.getD k [] = s.data.toList
      · have hs : kbytes k = s := by unfold kbytes; rw [heq]
        have HA : Hid (kindNum s.data.toList = k) := by
          unfold Hid kindNum
          have hki : kindIx s.data.toList = k := idxOf_first kwords _ k (fun j hj => ⟨HN.out j hj, by show j < 10; omega⟩) heq hlt
          rw [hki, if_neg (by omega)]
        rw [hs] at HW
        clear heq hs
        go_wp2_with fail
        refine (HW.out _).mono ?_
        rintro e w2 ⟨rfl, hb2⟩
        have hb3 := hb.trans (hb2.mono hb.size)
        clear hb hb2
        go_wp2
        go_ret
        exact ⟨by rw [HA.out]; rfl, hb3⟩
      · have h2 : ((kbytes k).toList == s.toList) = false := by
          rw [Lib.toList_data, Lib.toList_data]
          refine beq_eq_false_iff_ne.2 fun h => heq ?_
          simpa [kbytes] using h
        have HN2 : Hid (∀ j, j < k + 1 → kwords.getD j [] ≠ s.data.toList) := by
          intro j hj
          by_cases hj' : j < k
          · exact HN.out j hj'
          · obtain rfl : j = k := by omega
            exact heq
        clear heq
        generalize kbytes k = kb at *
        go_wp2_with fail
        refine (HW.out _).mono ?_
        rintro e w2 ⟨rfl, hb2⟩
        have hb3 := hb.trans (hb2.mono hb.size)
        clear hb hb2
        go_wp2
        go_roundw
        case rel => exact ⟨k + 1, by omega, by go_num, HN2, hb3⟩
        case measure => simp [intOf]; omega
    · go_wp2
      obtain rfl : k = 10 := by omega
      have hki : kindIx s.data.toList = 10 := idxOf_none kwords _ (fun j hj => HN.out j hj)
      go_ret
      exact ⟨by unfold kindNum; rw [if_pos hki]; rfl, hb⟩

/-- three blocks of the call's own -/
def St3 (w w' : World) (A E R : Array Value) : Prop :=
  At w' w.heap.size A 50 ∧ At w' (w.heap.size + 1) E 53 ∧ At w' (w.heap.size + 1 + 1) R 53 ∧ Below w.heap.size w w'
theorem St3.start (w : World) (A E R : Array Value) : St3 w (((w.alloc (.cells A 50)).alloc (.cells E 53)).alloc (.cells R 53)) A E R := by
  have hR := (At.new (w.alloc (.cells A 50)) E 53).alloc (.cells R 53)
  have hE := At.new ((w.alloc (.cells A 50)).alloc (.cells E 53)) R 53
  simp only [World.size_alloc] at hR hE
  exact ⟨((At.new w A 50).alloc _).alloc _, hR, hE, (((Below.refl w.heap.size w).alloc (Nat.le_refl _) _).alloc (by simp) _).alloc (by simp; omega) _⟩
theorem St3.call {w w1 w2 : World} {A E R : Array Value} (h : St3 w w1 A E R) (hb : Below w1.heap.size w1 w2) : St3 w w2 A E R :=
  ⟨h.1.below hb h.1.lt, h.2.1.below hb h.2.1.lt, h.2.2.1.below hb h.2.2.1.lt, h.2.2.2.trans (hb.mono h.2.2.2.size)⟩
theorem St3.alloc {w w1 : World} {A E R : Array Value} (h : St3 w w1 A E R) (o : Obj) : St3 w (w1.alloc o) A E R :=
  ⟨h.1.alloc o, h.2.1.alloc o, h.2.2.1.alloc o, h.2.2.2.alloc h.2.2.2.size o⟩
set_option maxRecDepth 100000 in
set_option maxHeartbeats 1000000 in
theorem rnum_err (v1s v2s : Value) (x0 x1 x2 x3 i n0 at' er lo hi en : Int) (w : World) (he : ¬ er = 0) :
    Calls Tryd.prog 40 #[.agg #[v1s, v2s], .agg #[.int .i64 x0, .int .i64 x1, .int .i64 x2, .int .i64 x3, .int .i64 i, .int .i64 n0, .int .i64 at', .int .i64 er], .int .i64 lo, .int .i64 hi, .int .i64 en] w fun e w' => e = .returned (.agg #[.int .i64 x0, .int .i64 x1, .int .i64 x2, .int .i64 x3, .int .i64 i, .int .i64 n0, .int .i64 at', .int .i64 er]) ∧ Below w.heap.size w w' := by
  have te : ((er : Int) != 0) = true := by simpa using he
  clear he
  have hb := (((Below.refl w.heap.size w).alloc (Nat.le_refl _) (.cells #[v1s, v2s] 50)).alloc (by simp) (.cells #[.int .i64 x0, .int .i64 x1, .int .i64 x2, .int .i64 x3, .int .i64 i, .int .i64 n0, .int .i64 at', .int .i64 er] 53)).alloc (by simp; omega) (.cells #[.int .i64 x0, .int .i64 x1, .int .i64 x2, .int .i64 x3, .int .i64 i, .int .i64 n0, .int .i64 at', .int .i64 er] 53)
  go_enter Tryd.func40, Tryd.ntmps40
  go_wp2
  exact bodyPost_ret (v := .agg #[.int .i64 x0, .int .i64 x1, .int .i64 x2, .int .i64 x3, .int .i64 i, .int .i64 n0, .int .i64 at', .int .i64 er]) (by simp [results, Tryd.results40, go_sem]) rfl ⟨rfl, hb⟩

set_option maxRecDepth 100000 in
set_option maxHeartbeats 1000000 in
theorem rnum_end (a1 a2 : Option Addr) (m c1 c2 i en : Nat) (x0 x1 x2 x3 n0 lo hi : Int) (w : World) (hi0 : m ≤ i) :
    Calls Tryd.prog 40 #[.agg #[.slice a1 m c1, .slice a2 m c2], .agg #[.int .i64 x0, .int .i64 x1, .int .i64 x2, .int .i64 x3, .int .i64 i, .int .i64 n0, .int .i64 0, .int .i64 0], .int .i64 lo, .int .i64 hi, .int .i64 en] w fun e w' => e = .returned (.agg #[.int .i64 0, .int .i64 0, .int .i64 0, .int .i64 0, .int .i64 0, .int .i64 0, .int .i64 en, .int .i64 4]) ∧ Below w.heap.size w w' := by
  have hi1 : (m : Int) ≤ (i : Int) := by omega
  have hb := (((Below.refl w.heap.size w).alloc (Nat.le_refl _) (.cells #[.slice a1 m c1, .slice a2 m c2] 50)).alloc (by simp) (.cells #[.int .i64 x0, .int .i64 x1, .int .i64 x2, .int .i64 x3, .int .i64 i, .int .i64 n0, .int .i64 0, .int .i64 0] 53)).alloc (by simp; omega) (.cells #[.int .i64 0, .int .i64 0, .int .i64 0, .int .i64 0, .int .i64 0, .int .i64 0, .int .i64 en, .int .i64 4] 53)
  go_enter Tryd.func40, Tryd.ntmps40
  go_wp2
  exact bodyPost_ret (v := .agg #[.int .i64 0, .int .i64 0, .int .i64 0, .int .i64 0, .int .i64 0, .int .i64 0, .int .i64 en, .int .i64 4]) (by simp [results, Tryd.results40, go_sem]) rfl ⟨rfl, hb⟩

set_option maxRecDepth 100000 in
set_option maxHeartbeats 1000000 in
theorem rnum_bad (b1 o1 m c1 b2 o2 c2 : Nat) (i en : Nat) (x0 x1 x2 x3 n0 lo hi : Int) (w : World) (s : ByteArray) (bg n1 e1 : Int) (hb1 : b1 < w.heap.size) (hc1 : w.cell? ⟨b1, o1 + i, none⟩ = some (.string s)) (hb2 : b2 < w.heap.size) (hc2 : w.cell? ⟨b2, o2 + i, none⟩ = some (.int .i64 bg)) (hlt : i < m) (HI : ∀ w, Calls Tryd.prog 55 #[.string s] w fun e w' => e = .returned (.agg #[.int .i64 n1, .int .i64 e1]) ∧ Below w.heap.size w w') (he : ¬ e1 = 0) :
    Calls Tryd.prog 40 #[.agg #[.slice (some ⟨b1, o1, none⟩) m c1, .slice (some ⟨b2, o2, none⟩) m c2], .agg #[.int .i64 x0, .int .i64 x1, .int .i64 x2, .int .i64 x3, .int .i64 i, .int .i64 n0, .int .i64 0, .int .i64 0], .int .i64 lo, .int .i64 hi, .int .i64 en] w fun e w' => e = .returned (.agg #[.int .i64 0, .int .i64 0, .int .i64 0, .int .i64 0, .int .i64 0, .int .i64 0, .int .i64 bg, .int .i64 e1]) ∧ Below w.heap.size w w' := by
  have hS := St3.start w #[.slice (some ⟨b1, o1, none⟩) m c1, .slice (some ⟨b2, o2, none⟩) m c2] #[.int .i64 x0, .int .i64 x1, .int .i64 x2, .int .i64 x3, .int .i64 i, .int .i64 n0, .int .i64 0, .int .i64 0] #[.int .i64 0, .int .i64 0, .int .i64 0, .int .i64 0, .int .i64 0, .int .i64 0, .int .i64 0, .int .i64 0]
  have HIh := Lib.hid HI
  clear HI
  have hbA : b1 < w.heap.size + 1 := by omega
  have hbB : b1 < w.heap.size + 1 + 1 := by omega
  have te : ((e1 : Int) != 0) = true := by simpa using he
  have hki : (0 : Int) ≤ (i : Int) := by omega
  have hkm : (i : Int) < (m : Int) := by omega
  clear he
  go_enter Tryd.func40, Tryd.ntmps40
  go_wp2_with fail
  generalize ((w.alloc (.cells #[.slice (some ⟨b1, o1, none⟩) m c1, .slice (some ⟨b2, o2, none⟩) m c2] 50)).alloc (.cells #[.int .i64 x0, .int .i64 x1, .int .i64 x2, .int .i64 x3, .int .i64 i, .int .i64 n0, .int .i64 0, .int .i64 0] 53)).alloc (.cells #[.int .i64 0, .int .i64 0, .int .i64 0, .int .i64 0, .int .i64 0, .int .i64 0, .int .i64 0, .int .i64 0] 53) = w0 at *
  refine (HIh.out _).mono ?_
  rintro e w1 ⟨rfl, hb'⟩
  have hc2' : w1.cell? ⟨b2, o2 + i, none⟩ = some (.int .i64 bg) := ((hS.2.2.2.trans (hb'.mono hS.2.2.2.size)).cell (p := ⟨b2, o2 + i, none⟩) hb2).trans hc2
  have hS := hS.call hb'
  have hlt0 := hS.1.lt
  have hlt1 := hS.2.1.lt
  have hlt2 := hS.2.2.1.lt
  have hb2' : b2 < w1.heap.size := Nat.lt_of_lt_of_le hb2 hS.2.2.2.size
  clear hb' hc1 hc2 hb1
  have hA0 := hS.1.cell (i := 0) rfl
  have hA1 := hS.1.cell (i := 1) rfl
  have hE0 := hS.2.1.cell (i := 0) rfl
  have hR0 := hS.2.2.1.cell (i := 0) rfl
  have hG0 := hS.2.2.1.free 0
  have hF0 := hS.2.1.free 0
  have hE1 := hS.2.1.cell (i := 1) rfl
  have hR1 := hS.2.2.1.cell (i := 1) rfl
  have hG1 := hS.2.2.1.free 1
  have hF1 := hS.2.1.free 1
  have hE2 := hS.2.1.cell (i := 2) rfl
  have hR2 := hS.2.2.1.cell (i := 2) rfl
  have hG2 := hS.2.2.1.free 2
  have hF2 := hS.2.1.free 2
  have hE3 := hS.2.1.cell (i := 3) rfl
  have hR3 := hS.2.2.1.cell (i := 3) rfl
  have hG3 := hS.2.2.1.free 3
  have hF3 := hS.2.1.free 3
  have hE4 := hS.2.1.cell (i := 4) rfl
  have hR4 := hS.2.2.1.cell (i := 4) rfl
  have hG4 := hS.2.2.1.free 4
  have hF4 := hS.2.1.free 4
  have hE5 := hS.2.1.cell (i := 5) rfl
  have hR5 := hS.2.2.1.cell (i := 5) rfl
  have hG5 := hS.2.2.1.free 5
  have hF5 := hS.2.1.free 5
  have hE6 := hS.2.1.cell (i := 6) rfl
  have hR6 := hS.2.2.1.cell (i := 6) rfl
  have hG6 := hS.2.2.1.free 6
  have hF6 := hS.2.1.free 6
  have hE7 := hS.2.1.cell (i := 7) rfl
  have hR7 := hS.2.2.1.cell (i := 7) rfl
  have hG7 := hS.2.2.1.free 7
  have hF7 := hS.2.1.free 7
  go_wp2_with fail
  go_region
  have hbz := hS.2.2.2
  go_wp2
  exact bodyPost_ret (v := .agg #[.int .i64 0, .int .i64 0, .int .i64 0, .int .i64 0, .int .i64 0, .int .i64 0, .int .i64 bg, .int .i64 e1]) (by simp [results, Tryd.results40, go_sem, hR0, hR1, hR2, hR3, hR4, hR5, hR6, hR7, hlt2]) rfl ⟨rfl, by repeat' (first | (with_reducible exact hbz) | (with_reducible refine Below.setCell ?_ ?_ _) | (with_reducible refine Below.alloc ?_ ?_ _) | (with_reducible refine Below.drew ?_) | (with_reducible exact hbz.size) | (simp; done) | (simp; omega))⟩

set_option maxRecDepth 100000 in
set_option maxHeartbeats 1000000 in
theorem rnum_lo (b1 o1 m c1 b2 o2 c2 : Nat) (i en : Nat) (x0 x1 x2 x3 n0 lo hi : Int) (w : World) (s : ByteArray) (bg n1 e1 : Int) (hb1 : b1 < w.heap.size) (hc1 : w.cell? ⟨b1, o1 + i, none⟩ = some (.string s)) (hb2 : b2 < w.heap.size) (hc2 : w.cell? ⟨b2, o2 + i, none⟩ = some (.int .i64 bg)) (hlt : i < m) (HI : ∀ w, Calls Tryd.prog 55 #[.string s] w fun e w' => e = .returned (.agg #[.int .i64 n1, .int .i64 e1]) ∧ Below w.heap.size w w') (he : e1 = 0) (hn : n1 < lo) :
    Calls Tryd.prog 40 #[.agg #[.slice (some ⟨b1, o1, none⟩) m c1, .slice (some ⟨b2, o2, none⟩) m c2], .agg #[.int .i64 x0, .int .i64 x1, .int .i64 x2, .int .i64 x3, .int .i64 i, .int .i64 n0, .int .i64 0, .int .i64 0], .int .i64 lo, .int .i64 hi, .int .i64 en] w fun e w' => e = .returned (.agg #[.int .i64 0, .int .i64 0, .int .i64 0, .int .i64 0, .int .i64 0, .int .i64 0, .int .i64 bg, .int .i64 3]) ∧ Below w.heap.size w w' := by
  have hS := St3.start w #[.slice (some ⟨b1, o1, none⟩) m c1, .slice (some ⟨b2, o2, none⟩) m c2] #[.int .i64 x0, .int .i64 x1, .int .i64 x2, .int .i64 x3, .int .i64 i, .int .i64 n0, .int .i64 0, .int .i64 0] #[.int .i64 0, .int .i64 0, .int .i64 0, .int .i64 0, .int .i64 0, .int .i64 0, .int .i64 0, .int .i64 0]
  have HIh := Lib.hid HI
  clear HI
  have hbA : b1 < w.heap.size + 1 := by omega
  have hbB : b1 < w.heap.size + 1 + 1 := by omega
  subst he
  go_enter Tryd.func40, Tryd.ntmps40
  go_wp2_with fail
  generalize ((w.alloc (.cells #[.slice (some ⟨b1, o1, none⟩) m c1, .slice (some ⟨b2, o2, none⟩) m c2] 50)).alloc (.cells #[.int .i64 x0, .int .i64 x1, .int .i64 x2, .int .i64 x3, .int .i64 i, .int .i64 n0, .int .i64 0, .int .i64 0] 53)).alloc (.cells #[.int .i64 0, .int .i64 0, .int .i64 0, .int .i64 0, .int .i64 0, .int .i64 0, .int .i64 0, .int .i64 0] 53) = w0 at *
  refine (HIh.out _).mono ?_
  rintro e w1 ⟨rfl, hb'⟩
  have hc2' : w1.cell? ⟨b2, o2 + i, none⟩ = some (.int .i64 bg) := ((hS.2.2.2.trans (hb'.mono hS.2.2.2.size)).cell (p := ⟨b2, o2 + i, none⟩) hb2).trans hc2
  have hS := hS.call hb'
  have hlt0 := hS.1.lt
  have hlt1 := hS.2.1.lt
  have hlt2 := hS.2.2.1.lt
  have hb2' : b2 < w1.heap.size := Nat.lt_of_lt_of_le hb2 hS.2.2.2.size
  clear hb' hc1 hc2 hb1
  have hA0 := hS.1.cell (i := 0) rfl
  have hA1 := hS.1.cell (i := 1) rfl
  have hE0 := hS.2.1.cell (i := 0) rfl
  have hR0 := hS.2.2.1.cell (i := 0) rfl
  have hG0 := hS.2.2.1.free 0
  have hF0 := hS.2.1.free 0
  have hE1 := hS.2.1.cell (i := 1) rfl
  have hR1 := hS.2.2.1.cell (i := 1) rfl
  have hG1 := hS.2.2.1.free 1
  have hF1 := hS.2.1.free 1
  have hE2 := hS.2.1.cell (i := 2) rfl
  have hR2 := hS.2.2.1.cell (i := 2) rfl
  have hG2 := hS.2.2.1.free 2
  have hF2 := hS.2.1.free 2
  have hE3 := hS.2.1.cell (i := 3) rfl
  have hR3 := hS.2.2.1.cell (i := 3) rfl
  have hG3 := hS.2.2.1.free 3
  have hF3 := hS.2.1.free 3
  have hE4 := hS.2.1.cell (i := 4) rfl
  have hR4 := hS.2.2.1.cell (i := 4) rfl
  have hG4 := hS.2.2.1.free 4
  have hF4 := hS.2.1.free 4
  have hE5 := hS.2.1.cell (i := 5) rfl
  have hR5 := hS.2.2.1.cell (i := 5) rfl
  have hG5 := hS.2.2.1.free 5
  have hF5 := hS.2.1.free 5
  have hE6 := hS.2.1.cell (i := 6) rfl
  have hR6 := hS.2.2.1.cell (i := 6) rfl
  have hG6 := hS.2.2.1.free 6
  have hF6 := hS.2.1.free 6
  have hE7 := hS.2.1.cell (i := 7) rfl
  have hR7 := hS.2.2.1.cell (i := 7) rfl
  have hG7 := hS.2.2.1.free 7
  have hF7 := hS.2.1.free 7
  have hbz := hS.2.2.2
  go_wp2
  exact bodyPost_ret (v := .agg #[.int .i64 0, .int .i64 0, .int .i64 0, .int .i64 0, .int .i64 0, .int .i64 0, .int .i64 bg, .int .i64 3]) (by simp [results, Tryd.results40, go_sem, hR0, hR1, hR2, hR3, hR4, hR5, hR6, hR7, hlt2]) rfl ⟨rfl, by repeat' (first | (with_reducible exact hbz) | (with_reducible refine Below.setCell ?_ ?_ _) | (with_reducible refine Below.alloc ?_ ?_ _) | (with_reducible exact hbz.size) | (simp; done) | (simp; omega))⟩

set_option maxRecDepth 100000 in
set_option maxHeartbeats 1000000 in
theorem rnum_hi (b1 o1 m c1 b2 o2 c2 : Nat) (i en : Nat) (x0 x1 x2 x3 n0 lo hi : Int) (w : World) (s : ByteArray) (bg n1 e1 : Int) (hb1 : b1 < w.heap.size) (hc1 : w.cell? ⟨b1, o1 + i, none⟩ = some (.string s)) (hb2 : b2 < w.heap.size) (hc2 : w.cell? ⟨b2, o2 + i, none⟩ = some (.int .i64 bg)) (hlt : i < m) (HI : ∀ w, Calls Tryd.prog 55 #[.string s] w fun e w' => e = .returned (.agg #[.int .i64 n1, .int .i64 e1]) ∧ Below w.heap.size w w') (he : e1 = 0) (hn : ¬ n1 < lo) (hn2 : hi < n1) :
    Calls Tryd.prog 40 #[.agg #[.slice (some ⟨b1, o1, none⟩) m c1, .slice (some ⟨b2, o2, none⟩) m c2], .agg #[.int .i64 x0, .int .i64 x1, .int .i64 x2, .int .i64 x3, .int .i64 i, .int .i64 n0, .int .i64 0, .int .i64 0], .int .i64 lo, .int .i64 hi, .int .i64 en] w fun e w' => e = .returned (.agg #[.int .i64 0, .int .i64 0, .int .i64 0, .int .i64 0, .int .i64 0, .int .i64 0, .int .i64 bg, .int .i64 3]) ∧ Below w.heap.size w w' := by
  have hS := St3.start w #[.slice (some ⟨b1, o1, none⟩) m c1, .slice (some ⟨b2, o2, none⟩) m c2] #[.int .i64 x0, .int .i64 x1, .int .i64 x2, .int .i64 x3, .int .i64 i, .int .i64 n0, .int .i64 0, .int .i64 0] #[.int .i64 0, .int .i64 0, .int .i64 0, .int .i64 0, .int .i64 0, .int .i64 0, .int .i64 0, .int .i64 0]
  have HIh := Lib.hid HI
  clear HI
  have hbA : b1 < w.heap.size + 1 := by omega
  have hbB : b1 < w.heap.size + 1 + 1 := by omega
  subst he
  go_enter Tryd.func40, Tryd.ntmps40
  go_wp2_with fail
  generalize ((w.alloc (.cells #[.slice (some ⟨b1, o1, none⟩) m c1, .slice (some ⟨b2, o2, none⟩) m c2] 50)).alloc (.cells #[.int .i64 x0, .int .i64 x1, .int .i64 x2, .int .i64 x3, .int .i64 i, .int .i64 n0, .int .i64 0, .int .i64 0] 53)).alloc (.cells #[.int .i64 0, .int .i64 0, .int .i64 0, .int .i64 0, .int .i64 0, .int .i64 0, .int .i64 0, .int .i64 0] 53) = w0 at *
  refine (HIh.out _).mono ?_
  rintro e w1 ⟨rfl, hb'⟩
  have hc2' : w1.cell? ⟨b2, o2 + i, none⟩ = some (.int .i64 bg) := ((hS.2.2.2.trans (hb'.mono hS.2.2.2.size)).cell (p := ⟨b2, o2 + i, none⟩) hb2).trans hc2
  have hS := hS.call hb'
  have hlt0 := hS.1.lt
  have hlt1 := hS.2.1.lt
  have hlt2 := hS.2.2.1.lt
  have hb2' : b2 < w1.heap.size := Nat.lt_of_lt_of_le hb2 hS.2.2.2.size
  clear hb' hc1 hc2 hb1
  have hA0 := hS.1.cell (i := 0) rfl
  have hA1 := hS.1.cell (i := 1) rfl
  have hE0 := hS.2.1.cell (i := 0) rfl
  have hR0 := hS.2.2.1.cell (i := 0) rfl
  have hG0 := hS.2.2.1.free 0
  have hF0 := hS.2.1.free 0
  have hE1 := hS.2.1.cell (i := 1) rfl
  have hR1 := hS.2.2.1.cell (i := 1) rfl
  have hG1 := hS.2.2.1.free 1
  have hF1 := hS.2.1.free 1
  have hE2 := hS.2.1.cell (i := 2) rfl
  have hR2 := hS.2.2.1.cell (i := 2) rfl
  have hG2 := hS.2.2.1.free 2
  have hF2 := hS.2.1.free 2
  have hE3 := hS.2.1.cell (i := 3) rfl
  have hR3 := hS.2.2.1.cell (i := 3) rfl
  have hG3 := hS.2.2.1.free 3
  have hF3 := hS.2.1.free 3
  have hE4 := hS.2.1.cell (i := 4) rfl
  have hR4 := hS.2.2.1.cell (i := 4) rfl
  have hG4 := hS.2.2.1.free 4
  have hF4 := hS.2.1.free 4
  have hE5 := hS.2.1.cell (i := 5) rfl
  have hR5 := hS.2.2.1.cell (i := 5) rfl
  have hG5 := hS.2.2.1.free 5
  have hF5 := hS.2.1.free 5
  have hE6 := hS.2.1.cell (i := 6) rfl
  have hR6 := hS.2.2.1.cell (i := 6) rfl
  have hG6 := hS.2.2.1.free 6
  have hF6 := hS.2.1.free 6
  have hE7 := hS.2.1.cell (i := 7) rfl
  have hR7 := hS.2.2.1.cell (i := 7) rfl
  have hG7 := hS.2.2.1.free 7
  have hF7 := hS.2.1.free 7
  have hbz := hS.2.2.2
  go_wp2
  exact bodyPost_ret (v := .agg #[.int .i64 0, .int .i64 0, .int .i64 0, .int .i64 0, .int .i64 0, .int .i64 0, .int .i64 bg, .int .i64 3]) (by simp [results, Tryd.results40, go_sem, hR0, hR1, hR2, hR3, hR4, hR5, hR6, hR7, hlt2]) rfl ⟨rfl, by repeat' (first | (with_reducible exact hbz) | (with_reducible refine Below.setCell ?_ ?_ _) | (with_reducible refine Below.alloc ?_ ?_ _) | (with_reducible exact hbz.size) | (simp; done) | (simp; omega))⟩

set_option maxRecDepth 100000 in
set_option maxHeartbeats 1000000 in
theorem rnum_ok (b1 o1 m c1 b2 o2 c2 : Nat) (i en : Nat) (x0 x1 x2 x3 n0 lo hi : Int) (w : World) (s : ByteArray) (bg n1 e1 : Int) (hb1 : b1 < w.heap.size) (hc1 : w.cell? ⟨b1, o1 + i, none⟩ = some (.string s)) (hb2 : b2 < w.heap.size) (hc2 : w.cell? ⟨b2, o2 + i, none⟩ = some (.int .i64 bg)) (hlt : i < m) (HI : ∀ w, Calls Tryd.prog 55 #[.string s] w fun e w' => e = .returned (.agg #[.int .i64 n1, .int .i64 e1]) ∧ Below w.heap.size w w') (he : e1 = 0) (hn : ¬ n1 < lo) (hn2 : ¬ hi < n1) (hib : i ≤ 2147483648) :
    Calls Tryd.prog 40 #[.agg #[.slice (some ⟨b1, o1, none⟩) m c1, .slice (some ⟨b2, o2, none⟩) m c2], .agg #[.int .i64 x0, .int .i64 x1, .int .i64 x2, .int .i64 x3, .int .i64 i, .int .i64 n0, .int .i64 0, .int .i64 0], .int .i64 lo, .int .i64 hi, .int .i64 en] w fun e w' => e = .returned (.agg #[.int .i64 x0, .int .i64 x1, .int .i64 x2, .int .i64 x3, .int .i64 (i + 1 : Nat), .int .i64 n1, .int .i64 0, .int .i64 0]) ∧ Below w.heap.size w w' := by
  have hS := St3.start w #[.slice (some ⟨b1, o1, none⟩) m c1, .slice (some ⟨b2, o2, none⟩) m c2] #[.int .i64 x0, .int .i64 x1, .int .i64 x2, .int .i64 x3, .int .i64 i, .int .i64 n0, .int .i64 0, .int .i64 0] #[.int .i64 0, .int .i64 0, .int .i64 0, .int .i64 0, .int .i64 0, .int .i64 0, .int .i64 0, .int .i64 0]
  have HIh := Lib.hid HI
  clear HI
  have hbA : b1 < w.heap.size + 1 := by omega
  have hbB : b1 < w.heap.size + 1 + 1 := by omega
  subst he
  have t2 : decide (hi < n1) = false := by simpa using hn2
  go_enter Tryd.func40, Tryd.ntmps40
  go_wp2_with fail
  generalize ((w.alloc (.cells #[.slice (some ⟨b1, o1, none⟩) m c1, .slice (some ⟨b2, o2, none⟩) m c2] 50)).alloc (.cells #[.int .i64 x0, .int .i64 x1, .int .i64 x2, .int .i64 x3, .int .i64 i, .int .i64 n0, .int .i64 0, .int .i64 0] 53)).alloc (.cells #[.int .i64 0, .int .i64 0, .int .i64 0, .int .i64 0, .int .i64 0, .int .i64 0, .int .i64 0, .int .i64 0] 53) = w0 at *
  refine (HIh.out _).mono ?_
  rintro e w1 ⟨rfl, hb'⟩
  have hc2' : w1.cell? ⟨b2, o2 + i, none⟩ = some (.int .i64 bg) := ((hS.2.2.2.trans (hb'.mono hS.2.2.2.size)).cell (p := ⟨b2, o2 + i, none⟩) hb2).trans hc2
  have hS := hS.call hb'
  have hlt0 := hS.1.lt
  have hlt1 := hS.2.1.lt
  have hlt2 := hS.2.2.1.lt
  have hb2' : b2 < w1.heap.size := Nat.lt_of_lt_of_le hb2 hS.2.2.2.size
  clear hb' hc1 hc2 hb1
  have hA0 := hS.1.cell (i := 0) rfl
  have hA1 := hS.1.cell (i := 1) rfl
  have hE0 := hS.2.1.cell (i := 0) rfl
  have hR0 := hS.2.2.1.cell (i := 0) rfl
  have hG0 := hS.2.2.1.free 0
  have hF0 := hS.2.1.free 0
  have hE1 := hS.2.1.cell (i := 1) rfl
  have hR1 := hS.2.2.1.cell (i := 1) rfl
  have hG1 := hS.2.2.1.free 1
  have hF1 := hS.2.1.free 1
  have hE2 := hS.2.1.cell (i := 2) rfl
  have hR2 := hS.2.2.1.cell (i := 2) rfl
  have hG2 := hS.2.2.1.free 2
  have hF2 := hS.2.1.free 2
  have hE3 := hS.2.1.cell (i := 3) rfl
  have hR3 := hS.2.2.1.cell (i := 3) rfl
  have hG3 := hS.2.2.1.free 3
  have hF3 := hS.2.1.free 3
  have hE4 := hS.2.1.cell (i := 4) rfl
  have hR4 := hS.2.2.1.cell (i := 4) rfl
  have hG4 := hS.2.2.1.free 4
  have hF4 := hS.2.1.free 4
  have hE5 := hS.2.1.cell (i := 5) rfl
  have hR5 := hS.2.2.1.cell (i := 5) rfl
  have hG5 := hS.2.2.1.free 5
  have hF5 := hS.2.1.free 5
  have hE6 := hS.2.1.cell (i := 6) rfl
  have hR6 := hS.2.2.1.cell (i := 6) rfl
  have hG6 := hS.2.2.1.free 6
  have hF6 := hS.2.1.free 6
  have hE7 := hS.2.1.cell (i := 7) rfl
  have hR7 := hS.2.2.1.cell (i := 7) rfl
  have hG7 := hS.2.2.1.free 7
  have hF7 := hS.2.1.free 7
  have hbz := hS.2.2.2
  go_wp2
  exact bodyPost_ret (v := .agg #[.int .i64 x0, .int .i64 x1, .int .i64 x2, .int .i64 x3, .int .i64 (i + 1 : Nat), .int .i64 n1, .int .i64 0, .int .i64 0]) (by simp [results, Tryd.results40, go_sem, hR0, hR1, hR2, hR3, hR4, hR5, hR6, hR7, hlt2]) rfl ⟨rfl, by repeat' (first | (with_reducible exact hbz) | (with_reducible refine Below.setCell ?_ ?_ _) | (with_reducible refine Below.alloc ?_ ?_ _) | (with_reducible exact hbz.size) | (simp; done) | (simp; omega))⟩

end Go.Proofs.YtnbecfgoambbpaaDoor
