/- The walks of the reference's most and signed. (Written by gen_binS.py.) -/
import Derived.Test.YtgdijlmfpboecaaDoorBinO
import Derived.Test.YtgdijlmfpboecaaDoorBinP
namespace Go.Proofs.YtgdijlmfpboecaaDoor.WPlain
end Go.Proofs.YtgdijlmfpboecaaDoor.WPlain
namespace Go.Proofs.YtgdijlmfpboecaaDoor.VPlain
end Go.Proofs.YtgdijlmfpboecaaDoor.VPlain
namespace Go.Proofs.YtgdijlmfpboecaaDoor
open Go.RowKit WPlain VPlain BPlain

/-- from a number that was read, one of so much at most -/
def mostS (L : List Nat) (s : Nat × Nat × Nat) (top : Nat) : Nat × Nat × Nat := if s.2.2 = 0 then upS L s.2.1 top 3 else s
set_option maxRecDepth 100000 in
set_option maxHeartbeats 1000000 in
theorem rmost_over (a : Option Addr) (l c x i er en top n q : Nat) (w : World) (hN : ∀ W, Below w.heap.size w W → Calls Tryd.prog 9 #[.slice a l c, .agg #[.int .u64 x, .int .i64 i, .int .i64 er], .int .i64 en] W fun e w' => e = .returned (.agg #[.int .u64 n, .int .i64 q, .int .i64 0]) ∧ Below W.heap.size W w') (hov : top < n) :
    Calls Tryd.prog 19 #[.slice a l c, .agg #[.int .u64 x, .int .i64 i, .int .i64 er], .int .i64 en, .int .u64 top] w fun e w' => e = .returned (.agg #[.int .u64 0, .int .i64 (i : Int), .int .i64 3]) ∧ Below w.heap.size w w' := by
  have hA := (At.new w #[.int .u64 (x : Int), .int .i64 (i : Int), .int .i64 (er : Int)] 40).alloc (.cells #[.int .u64 0, .int .i64 0, .int .i64 0] 40)
  have hR := two_at w #[.int .u64 (x : Int), .int .i64 (i : Int), .int .i64 (er : Int)] #[.int .u64 0, .int .i64 0, .int .i64 0] 40 40
  have HB2 := Lib.hid (two_below w #[.int .u64 (x : Int), .int .i64 (i : Int), .int .i64 (er : Int)] #[.int .u64 0, .int .i64 0, .int .i64 0] 40 40)
  have HN := Lib.hid (hN _ HB2.out)
  have c0 := hA.cell (i := 0) (v := .int .u64 (x : Int)) rfl
  have c1 := hA.cell (i := 1) (v := .int .i64 (i : Int)) rfl
  have c2 := hA.cell (i := 2) (v := .int .i64 (er : Int)) rfl
  have hsz : w.heap.size + 2 ≤ ((w.alloc (.cells #[.int .u64 (x : Int), .int .i64 (i : Int), .int .i64 (er : Int)] 40)).alloc (.cells #[.int .u64 0, .int .i64 0, .int .i64 0] 40)).heap.size := by simp
  have HA := Lib.hid hA
  have HR := Lib.hid hR
  have hd : decide (top < n) = true := decide_eq_true hov
  clear hA hR hN
  go_enter Tryd.func19, Tryd.ntmps19
  go_wp2_with fail
  generalize (w.alloc (.cells #[.int .u64 (x : Int), .int .i64 (i : Int), .int .i64 (er : Int)] 40)).alloc (.cells #[.int .u64 0, .int .i64 0, .int .i64 0] 40) = w2 at *
  refine HN.out.mono ?_
  rintro e w3 ⟨rfl, hb3⟩
  have HB4 := Lib.hid (HB2.out.trans ((hb3.mono (show w.heap.size ≤ w2.heap.size by omega)).alloc (Nat.le_trans (by omega) hb3.size) (.cells #[.int .u64 (n : Int), .int .i64 (q : Int), .int .i64 0] 40)))
  have hG := At.new w3 #[.int .u64 (n : Int), .int .i64 (q : Int), .int .i64 0] 40
  have hA4 := (HA.out.below hb3 (by omega)).alloc (.cells #[.int .u64 (n : Int), .int .i64 (q : Int), .int .i64 0] 40)
  have hR4 := (HR.out.below hb3 (by omega)).alloc (.cells #[.int .u64 (n : Int), .int .i64 (q : Int), .int .i64 0] 40)
  have hwlt : w2.heap.size ≤ w3.heap.size := hb3.size
  clear c0 c1 c2 hb3 HN HA HR HB2
  have k0 := hG.cell (i := 0) (v := .int .u64 (n : Int)) rfl
  have k1 := hG.cell (i := 1) (v := .int .i64 (q : Int)) rfl
  have k2 := hG.cell (i := 2) (v := .int .i64 0) rfl
  have b1 := hA4.cell (i := 1) (v := .int .i64 (i : Int)) rfl
  have r0 := hR4.cell (i := 0) (v := .int .u64 0) rfl
  have r1 := hR4.cell (i := 1) (v := .int .i64 0) rfl
  have r2 := hR4.cell (i := 2) (v := .int .i64 0) rfl
  have f0 := hR4.free 0
  have f1 := hR4.free 1
  have f2 := hR4.free 2
  have HF := Lib.hid (((hR4.set 0 (.int .u64 0)).set 1 (.int .i64 (i : Int))).set 2 (.int .i64 3))
  clear hG hA4 hR4
  go_wp2_with fail
  have e0 := HF.out.cell (i := 0) (v := .int .u64 0) rfl
  have e1' := HF.out.cell (i := 1) (v := .int .i64 (i : Int)) rfl
  have e2 := HF.out.cell (i := 2) (v := .int .i64 3) rfl
  exact bodyPost_ret (v := .agg #[.int .u64 0, .int .i64 (i : Int), .int .i64 3]) (by simp [results, Tryd.results19, go_sem, e0, e1', e2]) rfl ⟨rfl, ((HB4.out.setCell (p := ⟨w.heap.size + 1, 0, none⟩) (by simp) _).setCell (p := ⟨w.heap.size + 1, 1, none⟩) (by simp) _).setCell (p := ⟨w.heap.size + 1, 2, none⟩) (by simp) _⟩
set_option maxRecDepth 100000 in
set_option maxHeartbeats 1000000 in
theorem rmost_fine (a : Option Addr) (l c x i er en top n q : Nat) (w : World) (hN : ∀ W, Below w.heap.size w W → Calls Tryd.prog 9 #[.slice a l c, .agg #[.int .u64 x, .int .i64 i, .int .i64 er], .int .i64 en] W fun e w' => e = .returned (.agg #[.int .u64 n, .int .i64 q, .int .i64 0]) ∧ Below W.heap.size W w') (hov : ¬ top < n) :
    Calls Tryd.prog 19 #[.slice a l c, .agg #[.int .u64 x, .int .i64 i, .int .i64 er], .int .i64 en, .int .u64 top] w fun e w' => e = .returned (.agg #[.int .u64 (n : Int), .int .i64 (q : Int), .int .i64 0]) ∧ Below w.heap.size w w' := by
  have hA := (At.new w #[.int .u64 (x : Int), .int .i64 (i : Int), .int .i64 (er : Int)] 40).alloc (.cells #[.int .u64 0, .int .i64 0, .int .i64 0] 40)
  have hR := two_at w #[.int .u64 (x : Int), .int .i64 (i : Int), .int .i64 (er : Int)] #[.int .u64 0, .int .i64 0, .int .i64 0] 40 40
  have HB2 := Lib.hid (two_below w #[.int .u64 (x : Int), .int .i64 (i : Int), .int .i64 (er : Int)] #[.int .u64 0, .int .i64 0, .int .i64 0] 40 40)
  have HN := Lib.hid (hN _ HB2.out)
  have c0 := hA.cell (i := 0) (v := .int .u64 (x : Int)) rfl
  have c1 := hA.cell (i := 1) (v := .int .i64 (i : Int)) rfl
  have c2 := hA.cell (i := 2) (v := .int .i64 (er : Int)) rfl
  have hsz : w.heap.size + 2 ≤ ((w.alloc (.cells #[.int .u64 (x : Int), .int .i64 (i : Int), .int .i64 (er : Int)] 40)).alloc (.cells #[.int .u64 0, .int .i64 0, .int .i64 0] 40)).heap.size := by simp
  have HA := Lib.hid hA
  have HR := Lib.hid hR
  have hd : decide (top < n) = false := decide_eq_false hov
  clear hA hR hN
  go_enter Tryd.func19, Tryd.ntmps19
  go_wp2_with fail
  generalize (w.alloc (.cells #[.int .u64 (x : Int), .int .i64 (i : Int), .int .i64 (er : Int)] 40)).alloc (.cells #[.int .u64 0, .int .i64 0, .int .i64 0] 40) = w2 at *
  refine HN.out.mono ?_
  rintro e w3 ⟨rfl, hb3⟩
  have HB4 := Lib.hid (HB2.out.trans ((hb3.mono (show w.heap.size ≤ w2.heap.size by omega)).alloc (Nat.le_trans (by omega) hb3.size) (.cells #[.int .u64 (n : Int), .int .i64 (q : Int), .int .i64 0] 40)))
  have hG := At.new w3 #[.int .u64 (n : Int), .int .i64 (q : Int), .int .i64 0] 40
  have hA4 := (HA.out.below hb3 (by omega)).alloc (.cells #[.int .u64 (n : Int), .int .i64 (q : Int), .int .i64 0] 40)
  have hR4 := (HR.out.below hb3 (by omega)).alloc (.cells #[.int .u64 (n : Int), .int .i64 (q : Int), .int .i64 0] 40)
  have hwlt : w2.heap.size ≤ w3.heap.size := hb3.size
  clear c0 c1 c2 hb3 HN HA HR HB2
  have k0 := hG.cell (i := 0) (v := .int .u64 (n : Int)) rfl
  have k1 := hG.cell (i := 1) (v := .int .i64 (q : Int)) rfl
  have k2 := hG.cell (i := 2) (v := .int .i64 0) rfl
  have b1 := hA4.cell (i := 1) (v := .int .i64 (i : Int)) rfl
  have r0 := hR4.cell (i := 0) (v := .int .u64 0) rfl
  have r1 := hR4.cell (i := 1) (v := .int .i64 0) rfl
  have r2 := hR4.cell (i := 2) (v := .int .i64 0) rfl
  have f0 := hR4.free 0
  have f1 := hR4.free 1
  have f2 := hR4.free 2
  have HF := Lib.hid (((hR4.set 0 (.int .u64 (n : Int))).set 1 (.int .i64 (q : Int))).set 2 (.int .i64 0))
  clear hG hA4 hR4
  go_wp2_with fail
  have e0 := HF.out.cell (i := 0) (v := .int .u64 (n : Int)) rfl
  have e1' := HF.out.cell (i := 1) (v := .int .i64 (q : Int)) rfl
  have e2 := HF.out.cell (i := 2) (v := .int .i64 0) rfl
  exact bodyPost_ret (v := .agg #[.int .u64 (n : Int), .int .i64 (q : Int), .int .i64 0]) (by simp [results, Tryd.results19, go_sem, e0, e1', e2]) rfl ⟨rfl, ((HB4.out.setCell (p := ⟨w.heap.size + 1, 0, none⟩) (by simp) _).setCell (p := ⟨w.heap.size + 1, 1, none⟩) (by simp) _).setCell (p := ⟨w.heap.size + 1, 2, none⟩) (by simp) _⟩
set_option maxRecDepth 100000 in
set_option maxHeartbeats 1000000 in
theorem rmost_bad (a : Option Addr) (l c x i er en top n q e1 : Nat) (w : World) (hN : ∀ W, Below w.heap.size w W → Calls Tryd.prog 9 #[.slice a l c, .agg #[.int .u64 x, .int .i64 i, .int .i64 er], .int .i64 en] W fun e w' => e = .returned (.agg #[.int .u64 n, .int .i64 q, .int .i64 e1]) ∧ Below W.heap.size W w') (h0 : e1 ≠ 0) :
    Calls Tryd.prog 19 #[.slice a l c, .agg #[.int .u64 x, .int .i64 i, .int .i64 er], .int .i64 en, .int .u64 top] w fun e w' => e = .returned (.agg #[.int .u64 (n : Int), .int .i64 (q : Int), .int .i64 (e1 : Int)]) ∧ Below w.heap.size w w' := by
  have hA := (At.new w #[.int .u64 (x : Int), .int .i64 (i : Int), .int .i64 (er : Int)] 40).alloc (.cells #[.int .u64 0, .int .i64 0, .int .i64 0] 40)
  have hR := two_at w #[.int .u64 (x : Int), .int .i64 (i : Int), .int .i64 (er : Int)] #[.int .u64 0, .int .i64 0, .int .i64 0] 40 40
  have HB2 := Lib.hid (two_below w #[.int .u64 (x : Int), .int .i64 (i : Int), .int .i64 (er : Int)] #[.int .u64 0, .int .i64 0, .int .i64 0] 40 40)
  have HN := Lib.hid (hN _ HB2.out)
  have c0 := hA.cell (i := 0) (v := .int .u64 (x : Int)) rfl
  have c1 := hA.cell (i := 1) (v := .int .i64 (i : Int)) rfl
  have c2 := hA.cell (i := 2) (v := .int .i64 (er : Int)) rfl
  have hsz : w.heap.size + 2 ≤ ((w.alloc (.cells #[.int .u64 (x : Int), .int .i64 (i : Int), .int .i64 (er : Int)] 40)).alloc (.cells #[.int .u64 0, .int .i64 0, .int .i64 0] 40)).heap.size := by simp
  have HA := Lib.hid hA
  have HR := Lib.hid hR
  have hd : ((e1 : Int) == 0) = false := by simp; omega
  clear hA hR hN
  go_enter Tryd.func19, Tryd.ntmps19
  go_wp2_with fail
  generalize (w.alloc (.cells #[.int .u64 (x : Int), .int .i64 (i : Int), .int .i64 (er : Int)] 40)).alloc (.cells #[.int .u64 0, .int .i64 0, .int .i64 0] 40) = w2 at *
  refine HN.out.mono ?_
  rintro e w3 ⟨rfl, hb3⟩
  have HB4 := Lib.hid (HB2.out.trans ((hb3.mono (show w.heap.size ≤ w2.heap.size by omega)).alloc (Nat.le_trans (by omega) hb3.size) (.cells #[.int .u64 (n : Int), .int .i64 (q : Int), .int .i64 (e1 : Int)] 40)))
  have hG := At.new w3 #[.int .u64 (n : Int), .int .i64 (q : Int), .int .i64 (e1 : Int)] 40
  have hA4 := (HA.out.below hb3 (by omega)).alloc (.cells #[.int .u64 (n : Int), .int .i64 (q : Int), .int .i64 (e1 : Int)] 40)
  have hR4 := (HR.out.below hb3 (by omega)).alloc (.cells #[.int .u64 (n : Int), .int .i64 (q : Int), .int .i64 (e1 : Int)] 40)
  have hwlt : w2.heap.size ≤ w3.heap.size := hb3.size
  clear c0 c1 c2 hb3 HN HA HR HB2
  have k0 := hG.cell (i := 0) (v := .int .u64 (n : Int)) rfl
  have k1 := hG.cell (i := 1) (v := .int .i64 (q : Int)) rfl
  have k2 := hG.cell (i := 2) (v := .int .i64 (e1 : Int)) rfl
  have b1 := hA4.cell (i := 1) (v := .int .i64 (i : Int)) rfl
  have r0 := hR4.cell (i := 0) (v := .int .u64 0) rfl
  have r1 := hR4.cell (i := 1) (v := .int .i64 0) rfl
  have r2 := hR4.cell (i := 2) (v := .int .i64 0) rfl
  have f0 := hR4.free 0
  have f1 := hR4.free 1
  have f2 := hR4.free 2
  have HF := Lib.hid (((hR4.set 0 (.int .u64 (n : Int))).set 1 (.int .i64 (q : Int))).set 2 (.int .i64 (e1 : Int)))
  clear hG hA4 hR4
  go_wp2_with fail
  have e0 := HF.out.cell (i := 0) (v := .int .u64 (n : Int)) rfl
  have e1' := HF.out.cell (i := 1) (v := .int .i64 (q : Int)) rfl
  have e2 := HF.out.cell (i := 2) (v := .int .i64 (e1 : Int)) rfl
  exact bodyPost_ret (v := .agg #[.int .u64 (n : Int), .int .i64 (q : Int), .int .i64 (e1 : Int)]) (by simp [results, Tryd.results19, go_sem, e0, e1', e2]) rfl ⟨rfl, ((HB4.out.setCell (p := ⟨w.heap.size + 1, 0, none⟩) (by simp) _).setCell (p := ⟨w.heap.size + 1, 1, none⟩) (by simp) _).setCell (p := ⟨w.heap.size + 1, 2, none⟩) (by simp) _⟩
set_option maxRecDepth 100000 in
set_option maxHeartbeats 1000000 in
theorem rsign_low (a : Option Addr) (l c x i er en n q : Nat) (w : World) (hN : ∀ W, Below w.heap.size w W → Calls Tryd.prog 9 #[.slice a l c, .agg #[.int .u64 x, .int .i64 i, .int .i64 er], .int .i64 en] W fun e w' => e = .returned (.agg #[.int .u64 n, .int .i64 q, .int .i64 0]) ∧ Below W.heap.size W w') (hn : n < 18446744073709551616) (hz : zagI n < -2147483648) :
    Calls Tryd.prog 24 #[.slice a l c, .agg #[.int .u64 x, .int .i64 i, .int .i64 er], .int .i64 en] w fun e w' => e = .returned (.agg #[.int .u64 0, .int .i64 (i : Int), .int .i64 3]) ∧ Below w.heap.size w w' := by
  have hA := (At.new w #[.int .u64 (x : Int), .int .i64 (i : Int), .int .i64 (er : Int)] 40).alloc (.cells #[.int .u64 0, .int .i64 0, .int .i64 0] 40)
  have hR := two_at w #[.int .u64 (x : Int), .int .i64 (i : Int), .int .i64 (er : Int)] #[.int .u64 0, .int .i64 0, .int .i64 0] 40 40
  have HB2 := Lib.hid (two_below w #[.int .u64 (x : Int), .int .i64 (i : Int), .int .i64 (er : Int)] #[.int .u64 0, .int .i64 0, .int .i64 0] 40 40)
  have HN := Lib.hid (hN _ HB2.out)
  have c0 := hA.cell (i := 0) (v := .int .u64 (x : Int)) rfl
  have c1 := hA.cell (i := 1) (v := .int .i64 (i : Int)) rfl
  have c2 := hA.cell (i := 2) (v := .int .i64 (er : Int)) rfl
  have hsz : w.heap.size + 2 ≤ ((w.alloc (.cells #[.int .u64 (x : Int), .int .i64 (i : Int), .int .i64 (er : Int)] 40)).alloc (.cells #[.int .u64 0, .int .i64 0, .int .i64 0] 40)).heap.size := by simp
  have HA := Lib.hid hA
  have HR := Lib.hid hR
  have hd : decide (zagI n < -2147483648) = true := decide_eq_true hz
  clear hA hR hN
  go_enter Tryd.func24, Tryd.ntmps24
  go_wp2_with fail
  generalize (w.alloc (.cells #[.int .u64 (x : Int), .int .i64 (i : Int), .int .i64 (er : Int)] 40)).alloc (.cells #[.int .u64 0, .int .i64 0, .int .i64 0] 40) = w2 at *
  refine HN.out.mono ?_
  rintro e w3 ⟨rfl, hb3⟩
  have HB4 := Lib.hid (HB2.out.trans ((hb3.mono (show w.heap.size ≤ w2.heap.size by omega)).alloc (Nat.le_trans (by omega) hb3.size) (.cells #[.int .u64 (n : Int), .int .i64 (q : Int), .int .i64 0] 40)))
  have hG := At.new w3 #[.int .u64 (n : Int), .int .i64 (q : Int), .int .i64 0] 40
  have hA4 := (HA.out.below hb3 (by omega)).alloc (.cells #[.int .u64 (n : Int), .int .i64 (q : Int), .int .i64 0] 40)
  have hR4 := (HR.out.below hb3 (by omega)).alloc (.cells #[.int .u64 (n : Int), .int .i64 (q : Int), .int .i64 0] 40)
  have hwlt : w2.heap.size ≤ w3.heap.size := hb3.size
  clear c0 c1 c2 hb3 HN HA HR HB2
  have k0 := hG.cell (i := 0) (v := .int .u64 (n : Int)) rfl
  have k1 := hG.cell (i := 1) (v := .int .i64 (q : Int)) rfl
  have k2 := hG.cell (i := 2) (v := .int .i64 0) rfl
  have b1 := hA4.cell (i := 1) (v := .int .i64 (i : Int)) rfl
  have r0 := hR4.cell (i := 0) (v := .int .u64 0) rfl
  have r1 := hR4.cell (i := 1) (v := .int .i64 0) rfl
  have r2 := hR4.cell (i := 2) (v := .int .i64 0) rfl
  have f0 := hR4.free 0
  have f1 := hR4.free 1
  have f2 := hR4.free 2
  have HF := Lib.hid (((hR4.set 0 (.int .u64 0)).set 1 (.int .i64 (i : Int))).set 2 (.int .i64 3))
  clear hG hA4 hR4
  go_wp2_with fail
  refine (refZag_any n hn _).mono ?_
  rintro e wz ⟨rfl, rfl⟩
  go_wp2_with fail
  have e0 := HF.out.cell (i := 0) (v := .int .u64 0) rfl
  have e1' := HF.out.cell (i := 1) (v := .int .i64 (i : Int)) rfl
  have e2 := HF.out.cell (i := 2) (v := .int .i64 3) rfl
  exact bodyPost_ret (v := .agg #[.int .u64 0, .int .i64 (i : Int), .int .i64 3]) (by simp [results, Tryd.results24, go_sem, e0, e1', e2]) rfl ⟨rfl, ((HB4.out.setCell (p := ⟨w.heap.size + 1, 0, none⟩) (by simp) _).setCell (p := ⟨w.heap.size + 1, 1, none⟩) (by simp) _).setCell (p := ⟨w.heap.size + 1, 2, none⟩) (by simp) _⟩
set_option maxRecDepth 100000 in
set_option maxHeartbeats 1000000 in
theorem rsign_high (a : Option Addr) (l c x i er en n q : Nat) (w : World) (hN : ∀ W, Below w.heap.size w W → Calls Tryd.prog 9 #[.slice a l c, .agg #[.int .u64 x, .int .i64 i, .int .i64 er], .int .i64 en] W fun e w' => e = .returned (.agg #[.int .u64 n, .int .i64 q, .int .i64 0]) ∧ Below W.heap.size W w') (hn : n < 18446744073709551616) (hz0 : ¬ zagI n < -2147483648) (hz : 2147483647 < zagI n) :
    Calls Tryd.prog 24 #[.slice a l c, .agg #[.int .u64 x, .int .i64 i, .int .i64 er], .int .i64 en] w fun e w' => e = .returned (.agg #[.int .u64 0, .int .i64 (i : Int), .int .i64 3]) ∧ Below w.heap.size w w' := by
  have hA := (At.new w #[.int .u64 (x : Int), .int .i64 (i : Int), .int .i64 (er : Int)] 40).alloc (.cells #[.int .u64 0, .int .i64 0, .int .i64 0] 40)
  have hR := two_at w #[.int .u64 (x : Int), .int .i64 (i : Int), .int .i64 (er : Int)] #[.int .u64 0, .int .i64 0, .int .i64 0] 40 40
  have HB2 := Lib.hid (two_below w #[.int .u64 (x : Int), .int .i64 (i : Int), .int .i64 (er : Int)] #[.int .u64 0, .int .i64 0, .int .i64 0] 40 40)
  have HN := Lib.hid (hN _ HB2.out)
  have c0 := hA.cell (i := 0) (v := .int .u64 (x : Int)) rfl
  have c1 := hA.cell (i := 1) (v := .int .i64 (i : Int)) rfl
  have c2 := hA.cell (i := 2) (v := .int .i64 (er : Int)) rfl
  have hsz : w.heap.size + 2 ≤ ((w.alloc (.cells #[.int .u64 (x : Int), .int .i64 (i : Int), .int .i64 (er : Int)] 40)).alloc (.cells #[.int .u64 0, .int .i64 0, .int .i64 0] 40)).heap.size := by simp
  have HA := Lib.hid hA
  have HR := Lib.hid hR
  have hd0 : decide (zagI n < -2147483648) = false := decide_eq_false hz0
  have hd : decide (2147483647 < zagI n) = true := decide_eq_true hz
  clear hA hR hN
  go_enter Tryd.func24, Tryd.ntmps24
  go_wp2_with fail
  generalize (w.alloc (.cells #[.int .u64 (x : Int), .int .i64 (i : Int), .int .i64 (er : Int)] 40)).alloc (.cells #[.int .u64 0, .int .i64 0, .int .i64 0] 40) = w2 at *
  refine HN.out.mono ?_
  rintro e w3 ⟨rfl, hb3⟩
  have HB4 := Lib.hid (HB2.out.trans ((hb3.mono (show w.heap.size ≤ w2.heap.size by omega)).alloc (Nat.le_trans (by omega) hb3.size) (.cells #[.int .u64 (n : Int), .int .i64 (q : Int), .int .i64 0] 40)))
  have hG := At.new w3 #[.int .u64 (n : Int), .int .i64 (q : Int), .int .i64 0] 40
  have hA4 := (HA.out.below hb3 (by omega)).alloc (.cells #[.int .u64 (n : Int), .int .i64 (q : Int), .int .i64 0] 40)
  have hR4 := (HR.out.below hb3 (by omega)).alloc (.cells #[.int .u64 (n : Int), .int .i64 (q : Int), .int .i64 0] 40)
  have hwlt : w2.heap.size ≤ w3.heap.size := hb3.size
  clear c0 c1 c2 hb3 HN HA HR HB2
  have k0 := hG.cell (i := 0) (v := .int .u64 (n : Int)) rfl
  have k1 := hG.cell (i := 1) (v := .int .i64 (q : Int)) rfl
  have k2 := hG.cell (i := 2) (v := .int .i64 0) rfl
  have b1 := hA4.cell (i := 1) (v := .int .i64 (i : Int)) rfl
  have r0 := hR4.cell (i := 0) (v := .int .u64 0) rfl
  have r1 := hR4.cell (i := 1) (v := .int .i64 0) rfl
  have r2 := hR4.cell (i := 2) (v := .int .i64 0) rfl
  have f0 := hR4.free 0
  have f1 := hR4.free 1
  have f2 := hR4.free 2
  have HF := Lib.hid (((hR4.set 0 (.int .u64 0)).set 1 (.int .i64 (i : Int))).set 2 (.int .i64 3))
  clear hG hA4 hR4
  go_wp2_with fail
  refine (refZag_any n hn _).mono ?_
  rintro e wz ⟨rfl, rfl⟩
  go_wp2_with fail
  have e0 := HF.out.cell (i := 0) (v := .int .u64 0) rfl
  have e1' := HF.out.cell (i := 1) (v := .int .i64 (i : Int)) rfl
  have e2 := HF.out.cell (i := 2) (v := .int .i64 3) rfl
  exact bodyPost_ret (v := .agg #[.int .u64 0, .int .i64 (i : Int), .int .i64 3]) (by simp [results, Tryd.results24, go_sem, e0, e1', e2]) rfl ⟨rfl, ((HB4.out.setCell (p := ⟨w.heap.size + 1, 0, none⟩) (by simp) _).setCell (p := ⟨w.heap.size + 1, 1, none⟩) (by simp) _).setCell (p := ⟨w.heap.size + 1, 2, none⟩) (by simp) _⟩
set_option maxRecDepth 100000 in
set_option maxHeartbeats 1000000 in
theorem rsign_fine (a : Option Addr) (l c x i er en n q : Nat) (w : World) (hN : ∀ W, Below w.heap.size w W → Calls Tryd.prog 9 #[.slice a l c, .agg #[.int .u64 x, .int .i64 i, .int .i64 er], .int .i64 en] W fun e w' => e = .returned (.agg #[.int .u64 n, .int .i64 q, .int .i64 0]) ∧ Below W.heap.size W w') (hn : n < 18446744073709551616) (hz0 : ¬ zagI n < -2147483648) (hz : ¬ 2147483647 < zagI n) :
    Calls Tryd.prog 24 #[.slice a l c, .agg #[.int .u64 x, .int .i64 i, .int .i64 er], .int .i64 en] w fun e w' => e = .returned (.agg #[.int .u64 (n : Int), .int .i64 (q : Int), .int .i64 0]) ∧ Below w.heap.size w w' := by
  have hA := (At.new w #[.int .u64 (x : Int), .int .i64 (i : Int), .int .i64 (er : Int)] 40).alloc (.cells #[.int .u64 0, .int .i64 0, .int .i64 0] 40)
  have hR := two_at w #[.int .u64 (x : Int), .int .i64 (i : Int), .int .i64 (er : Int)] #[.int .u64 0, .int .i64 0, .int .i64 0] 40 40
  have HB2 := Lib.hid (two_below w #[.int .u64 (x : Int), .int .i64 (i : Int), .int .i64 (er : Int)] #[.int .u64 0, .int .i64 0, .int .i64 0] 40 40)
  have HN := Lib.hid (hN _ HB2.out)
  have c0 := hA.cell (i := 0) (v := .int .u64 (x : Int)) rfl
  have c1 := hA.cell (i := 1) (v := .int .i64 (i : Int)) rfl
  have c2 := hA.cell (i := 2) (v := .int .i64 (er : Int)) rfl
  have hsz : w.heap.size + 2 ≤ ((w.alloc (.cells #[.int .u64 (x : Int), .int .i64 (i : Int), .int .i64 (er : Int)] 40)).alloc (.cells #[.int .u64 0, .int .i64 0, .int .i64 0] 40)).heap.size := by simp
  have HA := Lib.hid hA
  have HR := Lib.hid hR
  have hd0 : decide (zagI n < -2147483648) = false := decide_eq_false hz0
  have hd : decide (2147483647 < zagI n) = false := decide_eq_false hz
  clear hA hR hN
  go_enter Tryd.func24, Tryd.ntmps24
  go_wp2_with fail
  generalize (w.alloc (.cells #[.int .u64 (x : Int), .int .i64 (i : Int), .int .i64 (er : Int)] 40)).alloc (.cells #[.int .u64 0, .int .i64 0, .int .i64 0] 40) = w2 at *
  refine HN.out.mono ?_
  rintro e w3 ⟨rfl, hb3⟩
  have HB4 := Lib.hid (HB2.out.trans ((hb3.mono (show w.heap.size ≤ w2.heap.size by omega)).alloc (Nat.le_trans (by omega) hb3.size) (.cells #[.int .u64 (n : Int), .int .i64 (q : Int), .int .i64 0] 40)))
  have hG := At.new w3 #[.int .u64 (n : Int), .int .i64 (q : Int), .int .i64 0] 40
  have hA4 := (HA.out.below hb3 (by omega)).alloc (.cells #[.int .u64 (n : Int), .int .i64 (q : Int), .int .i64 0] 40)
  have hR4 := (HR.out.below hb3 (by omega)).alloc (.cells #[.int .u64 (n : Int), .int .i64 (q : Int), .int .i64 0] 40)
  have hwlt : w2.heap.size ≤ w3.heap.size := hb3.size
  clear c0 c1 c2 hb3 HN HA HR HB2
  have k0 := hG.cell (i := 0) (v := .int .u64 (n : Int)) rfl
  have k1 := hG.cell (i := 1) (v := .int .i64 (q : Int)) rfl
  have k2 := hG.cell (i := 2) (v := .int .i64 0) rfl
  have b1 := hA4.cell (i := 1) (v := .int .i64 (i : Int)) rfl
  have r0 := hR4.cell (i := 0) (v := .int .u64 0) rfl
  have r1 := hR4.cell (i := 1) (v := .int .i64 0) rfl
  have r2 := hR4.cell (i := 2) (v := .int .i64 0) rfl
  have f0 := hR4.free 0
  have f1 := hR4.free 1
  have f2 := hR4.free 2
  have HF := Lib.hid (((hR4.set 0 (.int .u64 (n : Int))).set 1 (.int .i64 (q : Int))).set 2 (.int .i64 0))
  clear hG hA4 hR4
  go_wp2_with fail
  refine (refZag_any n hn _).mono ?_
  rintro e wz ⟨rfl, rfl⟩
  go_wp2_with fail
  have e0 := HF.out.cell (i := 0) (v := .int .u64 (n : Int)) rfl
  have e1' := HF.out.cell (i := 1) (v := .int .i64 (q : Int)) rfl
  have e2 := HF.out.cell (i := 2) (v := .int .i64 0) rfl
  exact bodyPost_ret (v := .agg #[.int .u64 (n : Int), .int .i64 (q : Int), .int .i64 0]) (by simp [results, Tryd.results24, go_sem, e0, e1', e2]) rfl ⟨rfl, ((HB4.out.setCell (p := ⟨w.heap.size + 1, 0, none⟩) (by simp) _).setCell (p := ⟨w.heap.size + 1, 1, none⟩) (by simp) _).setCell (p := ⟨w.heap.size + 1, 2, none⟩) (by simp) _⟩
set_option maxRecDepth 100000 in
set_option maxHeartbeats 1000000 in
theorem rsign_bad (a : Option Addr) (l c x i er en n q e1 : Nat) (w : World) (hN : ∀ W, Below w.heap.size w W → Calls Tryd.prog 9 #[.slice a l c, .agg #[.int .u64 x, .int .i64 i, .int .i64 er], .int .i64 en] W fun e w' => e = .returned (.agg #[.int .u64 n, .int .i64 q, .int .i64 e1]) ∧ Below W.heap.size W w') (hn : n < 18446744073709551616) (h0 : e1 ≠ 0) :
    Calls Tryd.prog 24 #[.slice a l c, .agg #[.int .u64 x, .int .i64 i, .int .i64 er], .int .i64 en] w fun e w' => e = .returned (.agg #[.int .u64 (n : Int), .int .i64 (q : Int), .int .i64 (e1 : Int)]) ∧ Below w.heap.size w w' := by
  have hA := (At.new w #[.int .u64 (x : Int), .int .i64 (i : Int), .int .i64 (er : Int)] 40).alloc (.cells #[.int .u64 0, .int .i64 0, .int .i64 0] 40)
  have hR := two_at w #[.int .u64 (x : Int), .int .i64 (i : Int), .int .i64 (er : Int)] #[.int .u64 0, .int .i64 0, .int .i64 0] 40 40
  have HB2 := Lib.hid (two_below w #[.int .u64 (x : Int), .int .i64 (i : Int), .int .i64 (er : Int)] #[.int .u64 0, .int .i64 0, .int .i64 0] 40 40)
  have HN := Lib.hid (hN _ HB2.out)
  have c0 := hA.cell (i := 0) (v := .int .u64 (x : Int)) rfl
  have c1 := hA.cell (i := 1) (v := .int .i64 (i : Int)) rfl
  have c2 := hA.cell (i := 2) (v := .int .i64 (er : Int)) rfl
  have hsz : w.heap.size + 2 ≤ ((w.alloc (.cells #[.int .u64 (x : Int), .int .i64 (i : Int), .int .i64 (er : Int)] 40)).alloc (.cells #[.int .u64 0, .int .i64 0, .int .i64 0] 40)).heap.size := by simp
  have HA := Lib.hid hA
  have HR := Lib.hid hR
  have hd : ((e1 : Int) == 0) = false := by simp; omega
  clear hA hR hN
  go_enter Tryd.func24, Tryd.ntmps24
  go_wp2_with fail
  generalize (w.alloc (.cells #[.int .u64 (x : Int), .int .i64 (i : Int), .int .i64 (er : Int)] 40)).alloc (.cells #[.int .u64 0, .int .i64 0, .int .i64 0] 40) = w2 at *
  refine HN.out.mono ?_
  rintro e w3 ⟨rfl, hb3⟩
  have HB4 := Lib.hid (HB2.out.trans ((hb3.mono (show w.heap.size ≤ w2.heap.size by omega)).alloc (Nat.le_trans (by omega) hb3.size) (.cells #[.int .u64 (n : Int), .int .i64 (q : Int), .int .i64 (e1 : Int)] 40)))
  have hG := At.new w3 #[.int .u64 (n : Int), .int .i64 (q : Int), .int .i64 (e1 : Int)] 40
  have hA4 := (HA.out.below hb3 (by omega)).alloc (.cells #[.int .u64 (n : Int), .int .i64 (q : Int), .int .i64 (e1 : Int)] 40)
  have hR4 := (HR.out.below hb3 (by omega)).alloc (.cells #[.int .u64 (n : Int), .int .i64 (q : Int), .int .i64 (e1 : Int)] 40)
  have hwlt : w2.heap.size ≤ w3.heap.size := hb3.size
  clear c0 c1 c2 hb3 HN HA HR HB2
  have k0 := hG.cell (i := 0) (v := .int .u64 (n : Int)) rfl
  have k1 := hG.cell (i := 1) (v := .int .i64 (q : Int)) rfl
  have k2 := hG.cell (i := 2) (v := .int .i64 (e1 : Int)) rfl
  have b1 := hA4.cell (i := 1) (v := .int .i64 (i : Int)) rfl
  have r0 := hR4.cell (i := 0) (v := .int .u64 0) rfl
  have r1 := hR4.cell (i := 1) (v := .int .i64 0) rfl
  have r2 := hR4.cell (i := 2) (v := .int .i64 0) rfl
  have f0 := hR4.free 0
  have f1 := hR4.free 1
  have f2 := hR4.free 2
  have HF := Lib.hid (((hR4.set 0 (.int .u64 (n : Int))).set 1 (.int .i64 (q : Int))).set 2 (.int .i64 (e1 : Int)))
  clear hG hA4 hR4
  go_wp2_with fail
  refine (refZag_any n hn _).mono ?_
  rintro e wz ⟨rfl, rfl⟩
  go_wp2_with fail
  have e0 := HF.out.cell (i := 0) (v := .int .u64 (n : Int)) rfl
  have e1' := HF.out.cell (i := 1) (v := .int .i64 (q : Int)) rfl
  have e2 := HF.out.cell (i := 2) (v := .int .i64 (e1 : Int)) rfl
  exact bodyPost_ret (v := .agg #[.int .u64 (n : Int), .int .i64 (q : Int), .int .i64 (e1 : Int)]) (by simp [results, Tryd.results24, go_sem, e0, e1', e2]) rfl ⟨rfl, ((HB4.out.setCell (p := ⟨w.heap.size + 1, 0, none⟩) (by simp) _).setCell (p := ⟨w.heap.size + 1, 1, none⟩) (by simp) _).setCell (p := ⟨w.heap.size + 1, 2, none⟩) (by simp) _⟩
theorem rsign_any (B : Nat) (a : Option Addr) (c : Nat) (L : List Nat) (x i er en : Nat) (w : World) (hB : Bin B w a c L) (hBw : B ≤ w.heap.size) (hen : en ≤ L.length) (hi : i ≤ en) (hx : x < 18446744073709551616) :
    Calls Tryd.prog 24 #[.slice a L.length c, .agg #[.int .u64 x, .int .i64 i, .int .i64 er], .int .i64 en] w fun e w' => e = .returned (nv (mostS (L.take en) (x, i, er) 4294967295)) ∧ Below w.heap.size w w' := by
  unfold mostS
  dsimp only
  by_cases h0 : er = 0
  · subst h0
    rw [if_pos rfl]
    have hN : ∀ W, Below w.heap.size w W → Calls Tryd.prog 9 #[.slice a L.length c, .agg #[.int .u64 x, .int .i64 i, .int .i64 0], .int .i64 en] W fun e w' => e = .returned (nv (numS (L.take en) i)) ∧ Below W.heap.size W w' :=
      fun W hb => rnum_ok B a c L x i en W (hB.below (hb.mono hBw)) (Nat.le_trans hBw hb.size) hen hi
    have hlt := numS_lt (L := L.take en) (fun y hy => hB.byte y (List.mem_of_mem_take hy)) i
    unfold upS
    obtain ⟨z, hz⟩ : ∃ z, numS (L.take en) i = z := ⟨_, rfl⟩
    obtain ⟨n, q, e1⟩ := z
    rw [hz] at hN hlt ⊢
    unfold nv at hN ⊢
    dsimp only at hN hlt ⊢
    by_cases h1 : e1 = 0
    · subst h1
      by_cases h2 : 4294967295 < n
      · rw [if_pos ⟨rfl, h2⟩]
        by_cases h3 : zagI n < -2147483648
        · exact rsign_low a L.length c x i 0 en n q w hN hlt h3
        · exact rsign_high a L.length c x i 0 en n q w hN hlt h3 ((zag_out h2).resolve_left h3)
      · rw [if_neg (fun hh => h2 hh.2)]
        have h3 := zag_range (n := n) (by omega)
        exact rsign_fine a L.length c x i 0 en n q w hN hlt (by omega) (by omega)
    · rw [if_neg (fun hh => h1 hh.1)]
      exact rsign_bad a L.length c x i 0 en n q e1 w hN hlt h1
  · rw [if_neg h0]
    exact rsign_bad a L.length c x i er en x i er w (fun W _ => rnum_bad a L.length c x i er en W h0) hx h0
/-- .. behind whatever was read -/
theorem rmost_any (B : Nat) (a : Option Addr) (c : Nat) (L : List Nat) (x i er en top : Nat) (w : World) (hB : Bin B w a c L) (hBw : B ≤ w.heap.size) (hen : en ≤ L.length) (hi : i ≤ en) :
    Calls Tryd.prog 19 #[.slice a L.length c, .agg #[.int .u64 x, .int .i64 i, .int .i64 er], .int .i64 en, .int .u64 top] w fun e w' => e = .returned (nv (mostS (L.take en) (x, i, er) top)) ∧ Below w.heap.size w w' := by
  unfold mostS
  dsimp only
  by_cases h0 : er = 0
  · subst h0
    rw [if_pos rfl]
    have hN : ∀ W, Below w.heap.size w W → Calls Tryd.prog 9 #[.slice a L.length c, .agg #[.int .u64 x, .int .i64 i, .int .i64 0], .int .i64 en] W fun e w' => e = .returned (nv (numS (L.take en) i)) ∧ Below W.heap.size W w' :=
      fun W hb => rnum_ok B a c L x i en W (hB.below (hb.mono hBw)) (Nat.le_trans hBw hb.size) hen hi
    unfold upS
    obtain ⟨z, hz⟩ : ∃ z, numS (L.take en) i = z := ⟨_, rfl⟩
    obtain ⟨n, q, e1⟩ := z
    rw [hz] at hN ⊢
    unfold nv at hN ⊢
    dsimp only at hN ⊢
    by_cases h1 : e1 = 0
    · subst h1
      by_cases h2 : top < n
      · rw [if_pos ⟨rfl, h2⟩]
        exact rmost_over a L.length c x i 0 en top n q w hN h2
      · rw [if_neg (fun hh => h2 hh.2)]
        exact rmost_fine a L.length c x i 0 en top n q w hN h2
    · rw [if_neg (fun hh => h1 hh.1)]
      exact rmost_bad a L.length c x i 0 en top n q e1 w hN h1
  · rw [if_neg h0]
    exact rmost_bad a L.length c x i er en top x i er w (fun W _ => rnum_bad a L.length c x i er en W h0) h0
end Go.Proofs.YtgdijlmfpboecaaDoor
