/- The walks of the reference's numbers: number, most, signed. -/
import Derived.Test.YtgdijlmfpboecaaDoorKitF
import Derived.Test.YtgdijlmfpboecaaDoorVarH
import Derived.Test.YtgdijlmfpboecaaDoorVarZ
import Derived.Deep.RegionHeld
import Derived.Deep.DrawnRows
import Derived.Deep.DeepMust
namespace Go.Proofs.YtgdijlmfpboecaaDoor.WPlain
end Go.Proofs.YtgdijlmfpboecaaDoor.WPlain
namespace Go.Proofs.YtgdijlmfpboecaaDoor.VPlain
end Go.Proofs.YtgdijlmfpboecaaDoor.VPlain
attribute [local go_sem ↓] Go.wp_at_zero Go.wp_at_succ
namespace Go.Proofs.YtgdijlmfpboecaaDoor
open Go.RowKit WPlain VPlain BPlain

theorem belo_dr (w : World) : Below w.heap.size w w.drew := (Below.refl _ _).drew
theorem belo_stp {wz w6 : World} (h : Below wz.drew.heap.size wz.drew w6) : Below wz.heap.size wz w6 := (belo_dr wz).trans h
/-- a number, as the reference has it -/
def nv (s : Nat × Nat × Nat) : Value := .agg #[.int .u64 (s.1 : Nat), .int .i64 (s.2.1 : Nat), .int .i64 (s.2.2 : Nat)]
theorem refGet_all (B : Nat) (a : Option Addr) (c : Nat) (L : List Nat) (i : Nat) (w : World) (hB : Bin B w a c L) (hi : i ≤ L.length) :
    Calls Tryd.prog 14 #[.slice a L.length c, .int .i64 i] w fun e w' => e = .returned (nv (numS L i)) ∧ Below w.heap.size w w' := by
  have hcap := hB.cap
  by_cases h : i = L.length
  · subst h
    have h0 : numS L L.length = (0, L.length, 4) := by unfold numS; rw [List.drop_length]; rfl
    rw [h0]
    exact refGet_end a L.length c hB.fit (by omega) w
  · obtain ⟨b, o, rfl, _, hc⟩ := hB.read (by omega)
    exact refGet_in b o c L i (by omega) hB.fit (by omega) hB.byte w hc _ _ _ rfl
/-- two blocks laid one after the other -/
theorem two_at (w : World) (A R : Array Value) (t u : TypeId) : At ((w.alloc (.cells A t)).alloc (.cells R u)) (w.heap.size + 1) R u := by
  have h0 := At.new (w.alloc (.cells A t)) R u
  simpa using h0
theorem two_below (w : World) (A R : Array Value) (t u : TypeId) : Below w.heap.size w ((w.alloc (.cells A t)).alloc (.cells R u)) :=
  ((Below.refl w.heap.size w).alloc (Nat.le_refl _) _).alloc (by simp) _

set_option maxRecDepth 100000 in
theorem rnum_bad (a : Option Addr) (n c x i er en : Nat) (w : World) (her : er ≠ 0) :
    Calls Tryd.prog 9 #[.slice a n c, .agg #[.int .u64 x, .int .i64 i, .int .i64 er], .int .i64 en] w fun e w' => e = .returned (.agg #[.int .u64 x, .int .i64 i, .int .i64 er]) ∧ Below w.heap.size w w' := by
  have hne : ((er : Int) != 0) = true := by simp; omega
  have hA := (At.new w #[.int .u64 (x : Int), .int .i64 (i : Int), .int .i64 (er : Int)] 40).alloc (.cells #[.int .u64 0, .int .i64 0, .int .i64 0] 40)
  have hR := two_at w #[.int .u64 (x : Int), .int .i64 (i : Int), .int .i64 (er : Int)] #[.int .u64 0, .int .i64 0, .int .i64 0] 40 40
  have c0 := hA.cell (i := 0) (v := .int .u64 (x : Int)) rfl
  have c1 := hA.cell (i := 1) (v := .int .i64 (i : Int)) rfl
  have c2 := hA.cell (i := 2) (v := .int .i64 (er : Int)) rfl
  have r0 := hR.cell (i := 0) (v := .int .u64 0) rfl
  have r1 := hR.cell (i := 1) (v := .int .i64 0) rfl
  have r2 := hR.cell (i := 2) (v := .int .i64 0) rfl
  have f0 := hR.free 0
  have f1 := hR.free 1
  have f2 := hR.free 2
  have HF := Lib.hid (two_at w #[.int .u64 (x : Int), .int .i64 (i : Int), .int .i64 (er : Int)] #[.int .u64 (x : Int), .int .i64 (i : Int), .int .i64 (er : Int)] 40 40)
  have HB := Lib.hid (two_below w #[.int .u64 (x : Int), .int .i64 (i : Int), .int .i64 (er : Int)] #[.int .u64 (x : Int), .int .i64 (i : Int), .int .i64 (er : Int)] 40 40)
  clear hA hR
  go_enter Tryd.func9, Tryd.ntmps9
  go_wp2_with fail
  have q0 := HF.out.cell (i := 0) (v := .int .u64 (x : Int)) rfl
  have q1 := HF.out.cell (i := 1) (v := .int .i64 (i : Int)) rfl
  have q2 := HF.out.cell (i := 2) (v := .int .i64 (er : Int)) rfl
  exact bodyPost_ret (v := .agg #[.int .u64 x, .int .i64 i, .int .i64 er]) (by simp [results, Tryd.results9, go_sem, q0, q1, q2]) rfl ⟨rfl, HB.out⟩

set_option maxRecDepth 100000 in
set_option maxHeartbeats 1000000 in
theorem rnum_ok (B : Nat) (a : Option Addr) (c : Nat) (L : List Nat) (x i en : Nat) (w : World) (hB : Bin B w a c L) (hBw : B ≤ w.heap.size) (hen : en ≤ L.length) (hi : i ≤ en) :
    Calls Tryd.prog 9 #[.slice a L.length c, .agg #[.int .u64 x, .int .i64 i, .int .i64 0], .int .i64 en] w fun e w' => e = .returned (nv (numS (L.take en) i)) ∧ Below w.heap.size w w' := by
  have hfit := hB.fit
  have htl : (L.take en).length = en := by rw [List.length_take]; omega
  have hb2 := two_below w #[.int .u64 (x : Int), .int .i64 (i : Int), .int .i64 0] #[.int .u64 0, .int .i64 0, .int .i64 0] 40 40
  have hA := (At.new w #[.int .u64 (x : Int), .int .i64 (i : Int), .int .i64 0] 40).alloc (.cells #[.int .u64 0, .int .i64 0, .int .i64 0] 40)
  have hR := two_at w #[.int .u64 (x : Int), .int .i64 (i : Int), .int .i64 0] #[.int .u64 0, .int .i64 0, .int .i64 0] 40 40
  have hsz : w.heap.size + 2 ≤ ((w.alloc (.cells #[.int .u64 (x : Int), .int .i64 (i : Int), .int .i64 0] 40)).alloc (.cells #[.int .u64 0, .int .i64 0, .int .i64 0] 40)).heap.size := by simp
  have hG : ∀ W, Below ((w.alloc (.cells #[.int .u64 (x : Int), .int .i64 (i : Int), .int .i64 0] 40)).alloc (.cells #[.int .u64 0, .int .i64 0, .int .i64 0] 40)).heap.size ((w.alloc (.cells #[.int .u64 (x : Int), .int .i64 (i : Int), .int .i64 0] 40)).alloc (.cells #[.int .u64 0, .int .i64 0, .int .i64 0] 40)) W →
      Calls Tryd.prog 14 #[.slice a en c, .int .i64 i] W fun e w' => e = .returned (nv (numS (L.take en) i)) ∧ Below W.heap.size W w' := by
    intro W hbw
    have h0 := refGet_all B a c (L.take en) i W ((hB.below ((hb2.trans (hbw.mono hb2.size)).mono hBw)).cut en) (by rw [htl]; exact hi)
    rw [htl] at h0
    exact h0
  obtain ⟨z, hz⟩ : ∃ z, numS (L.take en) i = z := ⟨_, rfl⟩
  obtain ⟨n, q, er⟩ := z
  rw [hz] at hG ⊢
  unfold nv at hG ⊢
  dsimp only at hG ⊢
  have HG := Lib.hid hG
  have HA := Lib.hid hA
  have HR := Lib.hid hR
  have HB2 := Lib.hid hb2
  have c2 := hA.cell (i := 2) (v := .int .i64 0) rfl
  have s0 : (0 : Int) ≤ (en : Int) := by omega
  have s1 : (en : Int) ≤ (c : Int) := by omega
  clear hG hA hR hb2 hz hB htl
  go_enter Tryd.func9, Tryd.ntmps9
  go_wp2_with fail
  generalize (w.alloc (.cells #[.int .u64 (x : Int), .int .i64 (i : Int), .int .i64 0] 40)).alloc (.cells #[.int .u64 0, .int .i64 0, .int .i64 0] 40) = w2 at *
  clear c2
  have HS : Hid (∀ W, Below w2.heap.size w2 W → W.cell? ⟨w.heap.size, 1, none⟩ = some (.int .i64 (i : Int))) := fun W hb => (HA.out.below hb (by omega)).cell (i := 1) rfl
  have HRB : Hid (∀ W, Below w2.heap.size w2 W → At W (w.heap.size + 1) #[.int .u64 0, .int .i64 0, .int .i64 0] 40) := fun W hb => HR.out.below hb (by omega)
  first
  | go_must (go_region_held (fun w' => w'.cell? ⟨w.heap.size, 1, none⟩ = some (.int .i64 (i : Int)))
      (first | exact HS.out _ (((hb3.setCell (Nat.le_refl _) _).setCell (Nat.le_refl _) _).setCell (Nat.le_refl _) _) | exact HS.out _ (hb3.alloc hb3.size _) | exact HS.out _ hb3 | exact HS.out _ ((belo_dr _).alloc (Nat.le_refl _) _) | exact HS.out _ (belo_dr _))
      (first
        | (go_at_call 14; refine (HG.out _ ((belo_dr _).alloc (Nat.le_refl _) _)).mono ?_; rintro e w3 ⟨rfl, hbc⟩; have hb3 : Below w2.heap.size w2 w3 := ((belo_dr w2).alloc (Nat.le_refl _) _).trans (hbc.mono (by simp)); have hlt3 := hb3.size; have hGA : At w3 w2.heap.size #[.int .u64 0, .int .i64 0, .int .i64 0] 49 := (At.new w2.drew #[.int .u64 0, .int .i64 0, .int .i64 0] 49).below hbc (by simp); have ga0 := hGA.cell (i := 0) (v := .int .u64 0) rfl; have ga1 := hGA.cell (i := 1) (v := .int .i64 0) rfl; have ga2 := hGA.cell (i := 2) (v := .int .i64 0) rfl; have gf0 := hGA.free 0; have gf1 := hGA.free 1; have gf2 := hGA.free 2)
        | (go_at_call 14; refine (HG.out _ (belo_dr _)).mono ?_; rintro e w3 ⟨rfl, hbc⟩; have hb3 : Below w2.heap.size w2 w3 := belo_stp hbc; have hlt3 := hb3.size)))
  | fail
  all_goals first
  | (have hg4 := ((hGA.set 0 (.int .u64 (n : Int))).set 1 (.int .i64 (q : Int))).set 2 (.int .i64 (er : Int))
     have hr4 := (((HRB.out _ hb3).other (a := ⟨w2.heap.size, 0, none⟩) (by simp; omega) (.int .u64 (n : Int))).other (a := ⟨w2.heap.size, 1, none⟩) (by simp; omega) (.int .i64 (q : Int))).other (a := ⟨w2.heap.size, 2, none⟩) (by simp; omega) (.int .i64 (er : Int))
     have hb4 := HB2.out.trans (((((hb3.mono (show w.heap.size ≤ w2.heap.size by omega)).setCell (p := ⟨w2.heap.size, 0, none⟩) (by simp; omega) (.int .u64 (n : Int))).setCell (p := ⟨w2.heap.size, 1, none⟩) (by simp; omega) (.int .i64 (q : Int))).setCell (p := ⟨w2.heap.size, 2, none⟩) (by simp; omega) (.int .i64 (er : Int))))
     clear hGA ga0 ga1 ga2 gf0 gf1 gf2 hbc
     generalize ((w3.setCell ⟨w2.heap.size, 0, none⟩ (.int .u64 (n : Int))).setCell ⟨w2.heap.size, 1, none⟩ (.int .i64 (q : Int))).setCell ⟨w2.heap.size, 2, none⟩ (.int .i64 (er : Int)) = w4 at *
     have k0 := hg4.cell (i := 0) (v := .int .u64 (n : Int)) rfl
     have k1 := hg4.cell (i := 1) (v := .int .i64 (q : Int)) rfl
     have k2 := hg4.cell (i := 2) (v := .int .i64 (er : Int)) rfl
     have r0 := hr4.cell (i := 0) (v := .int .u64 0) rfl
     have r1 := hr4.cell (i := 1) (v := .int .i64 0) rfl
     have r2 := hr4.cell (i := 2) (v := .int .i64 0) rfl
     have f0 := hr4.free 0
     have f1 := hr4.free 1
     have f2 := hr4.free 2
     have HB4 := Lib.hid hb4
     have HF := Lib.hid (((hr4.set 0 (.int .u64 (n : Int))).set 1 (.int .i64 (q : Int))).set 2 (.int .i64 (er : Int)))
     clear hg4 hr4 hb4
     go_wp2_with fail
     have e0 := HF.out.cell (i := 0) (v := .int .u64 (n : Int)) rfl
     have e1 := HF.out.cell (i := 1) (v := .int .i64 (q : Int)) rfl
     have e2 := HF.out.cell (i := 2) (v := .int .i64 (er : Int)) rfl
     exact bodyPost_ret (v := .agg #[.int .u64 n, .int .i64 q, .int .i64 er]) (by simp [results, Tryd.results9, go_sem, e0, e1, e2]) rfl ⟨rfl, ((HB4.out.setCell (p := ⟨w.heap.size + 1, 0, none⟩) (by simp) _).setCell (p := ⟨w.heap.size + 1, 1, none⟩) (by simp) _).setCell (p := ⟨w.heap.size + 1, 2, none⟩) (by simp) _⟩)
  | (have hg4 := At.new w3 #[.int .u64 (n : Int), .int .i64 (q : Int), .int .i64 (er : Int)] 49
     have hr4 := (HRB.out _ hb3).alloc (.cells #[.int .u64 (n : Int), .int .i64 (q : Int), .int .i64 (er : Int)] 49)
     have hb4 := HB2.out.trans ((hb3.mono (show w.heap.size ≤ w2.heap.size by omega)).alloc (by omega) (.cells #[.int .u64 (n : Int), .int .i64 (q : Int), .int .i64 (er : Int)] 49))
     clear hbc
     generalize w3.alloc (.cells #[.int .u64 (n : Int), .int .i64 (q : Int), .int .i64 (er : Int)] 49) = w4 at *
     have k0 := hg4.cell (i := 0) (v := .int .u64 (n : Int)) rfl
     have k1 := hg4.cell (i := 1) (v := .int .i64 (q : Int)) rfl
     have k2 := hg4.cell (i := 2) (v := .int .i64 (er : Int)) rfl
     have r0 := hr4.cell (i := 0) (v := .int .u64 0) rfl
     have r1 := hr4.cell (i := 1) (v := .int .i64 0) rfl
     have r2 := hr4.cell (i := 2) (v := .int .i64 0) rfl
     have f0 := hr4.free 0
     have f1 := hr4.free 1
     have f2 := hr4.free 2
     have HB4 := Lib.hid hb4
     have HF := Lib.hid (((hr4.set 0 (.int .u64 (n : Int))).set 1 (.int .i64 (q : Int))).set 2 (.int .i64 (er : Int)))
     clear hg4 hr4 hb4
     go_wp2_with fail
     have e0 := HF.out.cell (i := 0) (v := .int .u64 (n : Int)) rfl
     have e1 := HF.out.cell (i := 1) (v := .int .i64 (q : Int)) rfl
     have e2 := HF.out.cell (i := 2) (v := .int .i64 (er : Int)) rfl
     exact bodyPost_ret (v := .agg #[.int .u64 n, .int .i64 q, .int .i64 er]) (by simp [results, Tryd.results9, go_sem, e0, e1, e2]) rfl ⟨rfl, ((HB4.out.setCell (p := ⟨w.heap.size + 1, 0, none⟩) (by simp) _).setCell (p := ⟨w.heap.size + 1, 1, none⟩) (by simp) _).setCell (p := ⟨w.heap.size + 1, 2, none⟩) (by simp) _⟩)
end Go.Proofs.YtgdijlmfpboecaaDoor
