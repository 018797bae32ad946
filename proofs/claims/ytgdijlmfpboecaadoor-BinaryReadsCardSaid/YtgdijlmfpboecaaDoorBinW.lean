/- The walk of the reference's body at a kind below 10: six names, and another. -/
import Derived.Test.YtgdijlmfpboecaaDoorBinT
import Derived.Test.YtgdijlmfpboecaaDoorBinU
namespace Go.Proofs.YtgdijlmfpboecaaDoor.WPlain
end Go.Proofs.YtgdijlmfpboecaaDoor.WPlain
namespace Go.Proofs.YtgdijlmfpboecaaDoor.VPlain
end Go.Proofs.YtgdijlmfpboecaaDoor.VPlain
namespace Go.Proofs.YtgdijlmfpboecaaDoor
open Go.RowKit WPlain VPlain BPlain
set_option maxRecDepth 100000 in
set_option maxHeartbeats 1000000 in
theorem rbody_full (B : Nat) (a ha : Option Addr) (c hc : Nat) (L : List Nat) (h : List Ev) (i en k hn t p : Nat) (w : World) (hB : Bin B w a c L) (hBw : B ≤ w.heap.size) (hen : en ≤ L.length) (hi : i < en) (hk : L[i]'(by omega) = k) (h10 : k < 10)
    (hL : L.length ≤ 65536) (hE : Evs w (.slice ha hn hc) h) (hhl : h.length ≤ 60) (ht : t ≤ 9999) (hful : fullS (t : Int) h = true)
    (hM : ∀ W, Below w.heap.size w W → Calls Tryd.prog 19 #[.slice a L.length c, .agg #[.int .u64 0, .int .i64 ((i : Int) + 1), .int .i64 0], .int .i64 en, .int .u64 9999] W fun e w' => e = .returned (.agg #[.int .u64 t, .int .i64 p, .int .i64 0]) ∧ Below W.heap.size W w') :
    Calls Tryd.prog 15 #[.slice a L.length c, .int .i64 i, .int .i64 en, .slice ha hn hc] w (BadR w (i + 1) 5) := by
  obtain ⟨b, o, rfl, hbB, hcell⟩ := hB.read (by omega)
  have hcl := hcell i _ (bs_at (by omega))
  rw [hk] at hcl
  have hR := At.new w #[.slice none 0 0, .int .i64 0, .int .i64 0] 28
  have hRF := (hR.alloc (.cells #[.int .i64 (k : Int), .int .i64 0, .int .i64 0, .int .i64 0] 44))
  have hQ := two_at w #[.slice none 0 0, .int .i64 0, .int .i64 0] #[.int .i64 (k : Int), .int .i64 0, .int .i64 0, .int .i64 0] 28 44
  have hB2 := two_below w #[.slice none 0 0, .int .i64 0, .int .i64 0] #[.int .i64 (k : Int), .int .i64 0, .int .i64 0, .int .i64 0] 28 44
  have HB2 := Lib.hid hB2
  have HM := Lib.hid (hM _ hB2)
  have HE := Lib.hid hE
  have HR := Lib.hid hRF
  have HQ := Lib.hid hQ
  have HSZ : Hid (w.heap.size + 2 ≤ ((w.alloc (.cells #[.slice none 0 0, .int .i64 0, .int .i64 0] 28)).alloc (.cells #[.int .i64 (k : Int), .int .i64 0, .int .i64 0, .int .i64 0] 44)).heap.size) := by unfold Hid; simp
  have hcl2 := ((Below.refl w.heap.size w).alloc (Nat.le_refl _) (.cells #[.slice none 0 0, .int .i64 0, .int .i64 0] 28)).cell (p := ⟨b, o + i, none⟩) (Nat.lt_of_lt_of_le hbB hBw)
  rw [hcl] at hcl2
  have q0 := hQ.cell (i := 0) (v := .int .i64 (k : Int)) rfl
  have hi0 : (0 : Int) ≤ (i : Int) := by omega
  have hi1 : (i : Int) < (L.length : Int) := by omega
  have hw : IntKind.i64.wrap (k : Int) = (k : Int) := IntWalk.i64_in _ (by omega)
  have hw1 : IntKind.i64.wrap ((i : Int) + 1) = (((i + 1 : Nat) : Int)) := by rw [IntWalk.i64_in _ (by omega)]; omega
  have hk9 : decide ((9 : Int) < (k : Int)) = false := decide_eq_false (by omega)
  clear hR hRF hQ hcell hk hB hE hB2 hM
  go_enter Tryd.func15, Tryd.ntmps15
  go_wp2_with fail
  generalize (w.alloc (.cells #[.slice none 0 0, .int .i64 0, .int .i64 0] 28)).alloc (.cells #[.int .i64 (k : Int), .int .i64 0, .int .i64 0, .int .i64 0] 44) = w2 at *
  have hsz : w.heap.size + 2 ≤ w2.heap.size := HSZ.out
  refine HM.out.mono ?_
  rintro e w3 ⟨rfl, hb3⟩
  have hs3 := hb3.size
  have HS : Hid (Sb w (w3.alloc (.cells #[.int .u64 (t : Int), .int .i64 (p : Int), .int .i64 0] 40)) w3.heap.size k 0 0 0 (t, p, 0)) := by
    refine ⟨(HR.out.below hb3 (by omega)).alloc _, (HQ.out.below hb3 (by omega)).alloc _, At.new w3 _ _, ?_, by show _ < w3.heap.size; omega⟩
    exact (HB2.out.trans (hb3.mono (by omega))).alloc (by omega) _
  have n0 := HS.out.n.cell (i := 0) (v := .int .u64 (t : Int)) rfl
  have q1 := HS.out.q.cell (i := 1) (v := .int .i64 0) rfl
  have k1f := HS.out.q.free 1
  have hwt : IntKind.i64.wrap (t : Int) = (t : Int) := IntWalk.i64_in _ (by omega)
  have HS2 := Lib.hid (HS.out.setT (t : Int))
  have HE2 := Lib.hid (HE.out.below HS2.out.below (Nat.le_refl _))
  clear HE HR HQ HB2 HM q0 hb3 hcl hcl2
  go_wp2_with fail
  obtain ⟨w4, hw4⟩ : ∃ w4, (w3.alloc (.cells #[.int .u64 (t : Int), .int .i64 (p : Int), .int .i64 0] 40)).setCell ⟨w.heap.size + 1, 1, none⟩ (.int .i64 (t : Int)) = w4 := ⟨_, rfl⟩
  rw [hw4] at HS2 HE2 ⊢
  clear HS n0 q1 k1f hw4
  refine (refNames_any _ h w4 HE2.out (by omega)).mono ?_
  rintro e w5 ⟨v', rfl, hrow, hb5⟩
  have HS5 := Lib.hid (HS2.out.call hb5)
  have HRD := Lib.hid (Rd.of_row hrow)
  have hnl := namesOf_len h
  have n2 := HS5.out.n.cell (i := 2) (v := .int .i64 0) rfl
  have q1 := HS5.out.q.cell (i := 1) (v := .int .i64 (t : Int)) rfl
  have hF : (namesOf h).length = 6 ∧ (namesOf h).contains (t : Int) = false := by simpa [fullS] using hful
  have h6 : (ints (namesOf h)).length = 6 := by rw [← hF.1]; simp [ints]
  have HF6 := Lib.hid hF
  obtain ⟨av, cv, rfl⟩ := HRD.out.len
  rw [h6] at HRD ⊢
  clear HS2 HE2 hrow hb5 hF h6 hful
  go_wp2_with fail
  refine (has_any _ (namesOf h) (t : Int) w5 HRD.out (by omega)).mono ?_
  rintro e w6 ⟨rfl, rfl⟩
  rw [HF6.out.2]
  have HR5 := Lib.hid HS5.out.r
  have r0 := HS5.out.r.cell (i := 0) (v := .slice none 0 0) rfl
  have r1 := HS5.out.r.cell (i := 1) (v := .int .i64 0) rfl
  have r2 := HS5.out.r.cell (i := 2) (v := .int .i64 0) rfl
  have f0 := HS5.out.r.free 0
  have f1 := HS5.out.r.free 1
  have f2 := HS5.out.r.free 2
  have HFin := Lib.hid (((HS5.out.r.set 0 (.slice none 0 0)).set 1 (.int .i64 ((i : Int) + 1))).set 2 (.int .i64 5))
  have HBe := Lib.hid HS5.out.below
  go_wp2_with fail
  have e0 := HFin.out.cell (i := 0) (v := .slice none 0 0) rfl
  have e1 := HFin.out.cell (i := 1) (v := .int .i64 ((i : Int) + 1)) rfl
  have e2 := HFin.out.cell (i := 2) (v := .int .i64 5) rfl
  exact bodyPost_ret (v := .agg #[.slice none 0 0, .int .i64 ((i : Int) + 1), .int .i64 5]) (by simp [results, Tryd.results15, go_sem, e0, e1, e2]) rfl ⟨by simp, ((HBe.out.setCell (p := ⟨w.heap.size, 0, none⟩) (by simp) _).setCell (p := ⟨w.heap.size, 1, none⟩) (by simp) _).setCell (p := ⟨w.heap.size, 2, none⟩) (by simp) _⟩
end Go.Proofs.YtgdijlmfpboecaaDoor
