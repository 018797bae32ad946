/- The walk of the reference's body at a kind below 10, but for six names and another. (Written by gen_binX.py.) -/
import Derived.Test.YtgdijlmfpboecaaDoorBinW
import Derived.Deep.Cut
import Derived.Deep.DeepCutAuto
namespace Go.Proofs.YtgdijlmfpboecaaDoor.WPlain
end Go.Proofs.YtgdijlmfpboecaaDoor.WPlain
namespace Go.Proofs.YtgdijlmfpboecaaDoor.VPlain
end Go.Proofs.YtgdijlmfpboecaaDoor.VPlain
namespace Go.Proofs.YtgdijlmfpboecaaDoor
open Go.RowKit WPlain VPlain BPlain
/-- what body answers: all well -/
def FineR (w : World) (en : Nat) (ev : Ev) (e : Ending) (w' : World) : Prop := ∃ b, e = .returned (.agg #[.slice (some ⟨b, 0, none⟩) 1 1, .int .i64 (en : Int), .int .i64 0]) ∧ w.heap.size ≤ b ∧ At w' b #[.int .i64 ev.k, .int .i64 ev.t, .int .i64 ev.v, .int .i64 ev.x] 44 ∧ Below w.heap.size w w'
theorem one_ev {w : World} {b : Nat} {ev : Ev} {ty : TypeId} (h : At w b #[.int .i64 ev.k, .int .i64 ev.t, .int .i64 ev.v, .int .i64 ev.x] ty) (c : Nat) : Evs w (.slice (some ⟨b, 0, none⟩) 1 c) [ev] := by
  refine .inr ⟨by simp, b, 0, c, rfl, h.lt, fun i hi => ?_⟩
  obtain rfl : i = 0 := by simp at hi; omega
  exact ⟨h.cell (i := 0) rfl, h.cell (i := 1) rfl, h.cell (i := 2) rfl, h.cell (i := 3) rfl⟩
/-- what body answers -/
def BodyR (w : World) (en : Nat) (ev : Ev) (p er : Nat) (e : Ending) (w' : World) : Prop :=
  (er ≠ 0 → BadR w p er e w') ∧ (er = 0 → p ≠ en → BadR w p 2 e w') ∧ (er = 0 → p = en → FineR w en ev e w')
set_option maxRecDepth 100000 in
set_option maxHeartbeats 2000000 in
theorem rbody_rest (B : Nat) (a ha : Option Addr) (c hc : Nat) (L : List Nat) (h : List Ev) (i en k hn t p e1 v p2 e2 x p3 e3 : Nat) (w : World) (hB : Bin B w a c L) (hBw : B ≤ w.heap.size) (hen : en ≤ L.length) (hi : i < en) (hk : L[i]'(by omega) = k) (h10 : k < 10)
    (hL : L.length ≤ 65536) (hE : Evs w (.slice ha hn hc) h) (hhl : h.length ≤ 60) (ht : t ≤ 9999) (hv : v ≤ 9999) (hx : x < 18446744073709551616) (hful : ¬ (e1 = 0 ∧ fullS (t : Int) h = true))
    (hM : ∀ W, Below w.heap.size w W → Calls Tryd.prog 19 #[.slice a L.length c, .agg #[.int .u64 0, .int .i64 ((i : Int) + 1), .int .i64 0], .int .i64 en, .int .u64 9999] W fun e w' => e = .returned (.agg #[.int .u64 t, .int .i64 p, .int .i64 e1]) ∧ Below W.heap.size W w')
    (hMv : if hasV k = true then ∀ W, Below w.heap.size w W → Calls Tryd.prog 19 #[.slice a L.length c, .agg #[.int .u64 t, .int .i64 p, .int .i64 e1], .int .i64 en, .int .u64 7] W fun e w' => e = .returned (.agg #[.int .u64 v, .int .i64 p2, .int .i64 e2]) ∧ Below W.heap.size W w' else (v, p2, e2) = (t, p, e1))
    (hMx : if hasX k = true then ∀ W, Below w.heap.size w W → Calls Tryd.prog 24 #[.slice a L.length c, .agg #[.int .u64 v, .int .i64 p2, .int .i64 e2], .int .i64 en] W fun e w' => e = .returned (.agg #[.int .u64 x, .int .i64 p3, .int .i64 e3]) ∧ Below W.heap.size W w' else (x, p3, e3) = (v, p2, e2)) :
    Calls Tryd.prog 15 #[.slice a L.length c, .int .i64 i, .int .i64 en, .slice ha hn hc] w (BodyR w en ⟨k, t, if hasV k = true then (v : Int) else 0, if hasX k = true then zagI x else 0⟩ p3 e3) := by
  obtain ⟨vv, hvv⟩ : ∃ vv : Int, vv = if hasV k = true then (v : Int) else 0 := ⟨_, rfl⟩
  obtain ⟨xx, hxx⟩ : ∃ xx : Int, xx = if hasX k = true then zagI x else 0 := ⟨_, rfl⟩
  rw [← hvv, ← hxx]
  have HVV := Lib.hid hvv
  have HXX := Lib.hid hxx
  clear hvv hxx
  obtain ⟨b, o, rfl, hbB, hcell⟩ := hB.read (by omega)
  have hcl := hcell i _ (bs_at (by omega))
  rw [hk] at hcl
  have hR := At.new w #[.slice none 0 0, .int .i64 0, .int .i64 0] 28
  have hRF := (hR.alloc (.cells #[.int .i64 (k : Int), .int .i64 0, .int .i64 0, .int .i64 0] 44))
  have hQ := two_at w #[.slice none 0 0, .int .i64 0, .int .i64 0] #[.int .i64 (k : Int), .int .i64 0, .int .i64 0, .int .i64 0] 28 44
  have hB2 := two_below w #[.slice none 0 0, .int .i64 0, .int .i64 0] #[.int .i64 (k : Int), .int .i64 0, .int .i64 0, .int .i64 0] 28 44
  have HB2 := Lib.hid hB2
  have HM := Lib.hid (hM _ hB2)
  have HE := Lib.hid hE
  have HR := Lib.hid hRF
  have HQ := Lib.hid hQ
  have HSZ : Hid (w.heap.size + 2 ≤ ((w.alloc (.cells #[.slice none 0 0, .int .i64 0, .int .i64 0] 28)).alloc (.cells #[.int .i64 (k : Int), .int .i64 0, .int .i64 0, .int .i64 0] 44)).heap.size) := by unfold Hid; simp
  have hcl2 := ((Below.refl w.heap.size w).alloc (Nat.le_refl _) (.cells #[.slice none 0 0, .int .i64 0, .int .i64 0] 28)).cell (p := ⟨b, o + i, none⟩) (Nat.lt_of_lt_of_le hbB hBw)
  rw [hcl] at hcl2
  have q0 := hQ.cell (i := 0) (v := .int .i64 (k : Int)) rfl
  have hi0 : (0 : Int) ≤ (i : Int) := by omega
  have hi1 : (i : Int) < (L.length : Int) := by omega
  have hw : IntKind.i64.wrap (k : Int) = (k : Int) := IntWalk.i64_in _ (by omega)
  have hw1 : IntKind.i64.wrap ((i : Int) + 1) = (((i + 1 : Nat) : Int)) := by rw [IntWalk.i64_in _ (by omega)]; omega
  have hk9 : decide ((9 : Int) < (k : Int)) = false := decide_eq_false (by omega)
  have HMv := Lib.hid hMv
  have HMx := Lib.hid hMx
  clear hMv hMx
  clear hR hRF hQ hcell hk hB hE hB2 hM
  go_enter Tryd.func15, Tryd.ntmps15
  go_wp2_with fail
  generalize (w.alloc (.cells #[.slice none 0 0, .int .i64 0, .int .i64 0] 28)).alloc (.cells #[.int .i64 (k : Int), .int .i64 0, .int .i64 0, .int .i64 0] 44) = w2 at *
  have hsz : w.heap.size + 2 ≤ w2.heap.size := HSZ.out
  refine HM.out.mono ?_
  rintro e w3 ⟨rfl, hb3⟩
  have hs3 := hb3.size
  have HS : Hid (Sb w (w3.alloc (.cells #[.int .u64 (t : Int), .int .i64 (p : Int), .int .i64 (e1 : Int)] 40)) w3.heap.size k 0 0 0 (t, p, e1)) := by
    refine ⟨(HR.out.below hb3 (by omega)).alloc _, (HQ.out.below hb3 (by omega)).alloc _, At.new w3 _ _, ?_, by show _ < w3.heap.size; omega⟩
    exact (HB2.out.trans (hb3.mono (by omega))).alloc (by omega) _
  have n0 := HS.out.n.cell (i := 0) (v := .int .u64 (t : Int)) rfl
  have q1 := HS.out.q.cell (i := 1) (v := .int .i64 0) rfl
  have k1f := HS.out.q.free 1
  have hwt : IntKind.i64.wrap (t : Int) = (t : Int) := IntWalk.i64_in _ (by omega)
  have HS2 := Lib.hid (HS.out.setT (t : Int))
  have HE2 := Lib.hid (HE.out.below HS2.out.below (Nat.le_refl _))
  clear HE HR HQ HB2 HM q0 hb3 hcl hcl2
  go_wp2_with fail
  obtain ⟨w4, hw4⟩ : ∃ w4, (w3.alloc (.cells #[.int .u64 (t : Int), .int .i64 (p : Int), .int .i64 (e1 : Int)] 40)).setCell ⟨w.heap.size + 1, 1, none⟩ (.int .i64 (t : Int)) = w4 := ⟨_, rfl⟩
  rw [hw4] at HS2 HE2 ⊢
  clear HS n0 q1 k1f hw4
  refine (refNames_any _ h w4 HE2.out (by omega)).mono ?_
  rintro e w5 ⟨v', rfl, hrow, hb5⟩
  have HS5 := Lib.hid (HS2.out.call hb5)
  have HRD := Lib.hid (Rd.of_row hrow)
  have hnl := namesOf_len h
  have n2 := HS5.out.n.cell (i := 2) (v := .int .i64 (e1 : Int)) rfl
  have q1 := HS5.out.q.cell (i := 1) (v := .int .i64 (t : Int)) rfl
  have q0 := HS5.out.q.cell (i := 0) (v := .int .i64 (k : Int)) rfl
  obtain ⟨av, cv, rfl⟩ := HRD.out.len
  have hl0 : (ints (namesOf h)).length = (namesOf h).length := by simp [ints]
  rw [hl0] at HRD ⊢
  have HF := Lib.hid hful
  clear hful HS2 HE2 hrow hb5 hl0
  go_upto_region 7 with fail
  go_cut [49] from 12 (fun c wx => c = .bool false ∧ wx = w5)
  case first =>
    by_cases h0 : e1 = 0
    · have t0 : ((e1 : Int) == 0) = true := by simp [h0]
      by_cases h6 : (namesOf h).length = 6
      · have t6 : (((namesOf h).length : Int) == 6) = true := by simp [h6]
        have hh : Hid ((!(namesOf h).contains (t : Int)) = false) := by
          have hf := HF.out
          unfold Hid
          simp only [fullS, h0, h6, true_and, beq_self_eq_true, Bool.true_and] at hf
          simpa using hf
        clear h6 h0 HF
        go_wp2_with fail
        refine (has_any _ (namesOf h) (t : Int) w5 HRD.out (by omega)).mono ?_
        rintro e w6 ⟨rfl, rfl⟩
        go_wp2_with fail
        go_meet
        case rel => exact ⟨congrArg Value.bool (by have h := hh.out; simpa using h), rfl⟩
      · have t6 : (((namesOf h).length : Int) == 6) = false := by simp; omega
        clear h6 h0 HF
        go_wp2_with fail
        go_meet
        case rel => exact ⟨rfl, rfl⟩
    · have t0 : ((e1 : Int) == 0) = false := by simp; omega
      clear h0 HF
      go_wp2_with fail
      go_meet
      case rel => exact ⟨rfl, rfl⟩
  case rest =>
  obtain ⟨rfl, rfl⟩ := hcut
  clear HRD HF n2 q1
  go_wp2_with fail
  refine (variable_any k h10 wc).mono ?_
  rintro e w6 ⟨rfl, rfl⟩
  go_upto_if 55 with fail
  go_cut [] from 12 (fun wx => Sb w wx w3.heap.size k t vv 0 (v, p2, e2))
  case first =>
    cases hV : hasV k with
    | true =>
      have hMv := HMv.out
      rw [if_pos hV] at hMv
      have hvv := HVV.out
      rw [if_pos hV] at hvv
      have HCv := Lib.hid (hMv _ HS5.out.below)
      have n0 := HS5.out.n.cell (i := 0) (v := .int .u64 (t : Int)) rfl
      have n1 := HS5.out.n.cell (i := 1) (v := .int .i64 (p : Int)) rfl
      have n2 := HS5.out.n.cell (i := 2) (v := .int .i64 (e1 : Int)) rfl
      clear hMv hvv q0
      go_wp2_with fail
      refine HCv.out.mono ?_
      rintro e w7 ⟨rfl, hb7⟩
      have HS7 := Lib.hid (HS5.out.call hb7)
      have m0 := HS7.out.n.cell (i := 0) (v := .int .u64 (t : Int)) rfl
      have m1 := HS7.out.n.cell (i := 1) (v := .int .i64 (p : Int)) rfl
      have m2 := HS7.out.n.cell (i := 2) (v := .int .i64 (e1 : Int)) rfl
      have g0 := HS7.out.n.free 0
      have g1 := HS7.out.n.free 1
      have g2 := HS7.out.n.free 2
      have q2 := HS7.out.q.cell (i := 2) (v := .int .i64 0) rfl
      have k2f := HS7.out.q.free 2
      have hwv : IntKind.i64.wrap (v : Int) = (v : Int) := IntWalk.i64_in _ (by omega)
      have HS8 := Lib.hid ((HS7.out.setN v p2 e2).setV (v : Int))
      clear HCv hb7 n0 n1 n2 HS5
      go_wp2_with fail
      go_meet
      case rel =>
        have hvv := HVV.out
        rw [if_pos hV] at hvv
        rw [hvv]
        exact HS8.out
    | false =>
      have hMv := HMv.out
      rw [if_neg (by simp [hV])] at hMv
      have hvv := HVV.out
      rw [if_neg (by simp [hV])] at hvv
      have h1 : v = t := congrArg (·.1) hMv
      have h2 : p2 = p := congrArg (·.2.1) hMv
      have h3 : e2 = e1 := congrArg (·.2.2) hMv
      clear hMv q0
      go_wp2_with fail
      go_meet
      case rel =>
        rw [hvv, h1, h2, h3]
        exact HS5.out
  case rest =>
  clear HS5 q0 HMv HVV
  have HS5 := Lib.hid hcut
  clear hcut
  have q0 := HS5.out.q.cell (i := 0) (v := .int .i64 (k : Int)) rfl
  go_wp2_with fail
  refine (value_any k h10 wc).mono ?_
  rintro e w6 ⟨rfl, rfl⟩
  go_upto_if 66 with fail
  go_cut [] from 12 (fun wx => Sb w wx w3.heap.size k t vv xx (x, p3, e3))
  case first =>
    cases hX : hasX k with
    | true =>
      have hMx := HMx.out
      rw [if_pos hX] at hMx
      have HCx := Lib.hid (hMx _ HS5.out.below)
      have n0 := HS5.out.n.cell (i := 0) (v := .int .u64 (v : Int)) rfl
      have n1 := HS5.out.n.cell (i := 1) (v := .int .i64 (p2 : Int)) rfl
      have n2 := HS5.out.n.cell (i := 2) (v := .int .i64 (e2 : Int)) rfl
      clear hMx q0
      go_wp2_with fail
      refine HCx.out.mono ?_
      rintro e w7 ⟨rfl, hb7⟩
      have HS7 := Lib.hid (HS5.out.call hb7)
      have m0 := HS7.out.n.cell (i := 0) (v := .int .u64 (v : Int)) rfl
      have m1 := HS7.out.n.cell (i := 1) (v := .int .i64 (p2 : Int)) rfl
      have m2 := HS7.out.n.cell (i := 2) (v := .int .i64 (e2 : Int)) rfl
      have g0 := HS7.out.n.free 0
      have g1 := HS7.out.n.free 1
      have g2 := HS7.out.n.free 2
      have q3 := HS7.out.q.cell (i := 3) (v := .int .i64 0) rfl
      have k3f := HS7.out.q.free 3
      have HS8 := Lib.hid ((HS7.out.setN x p3 e3).setX (zagI x))
      have HSN := Lib.hid (HS7.out.setN x p3 e3)
      clear HCx hb7 n0 n1 n2 HS5
      go_wp2_with fail
      refine (refZag_any x hx _).mono ?_
      rintro e w8 ⟨rfl, rfl⟩
      go_wp2_with fail
      go_meet
      case rel =>
        have hxx := HXX.out
        rw [if_pos hX] at hxx
        rw [hxx]
        exact HS8.out
    | false =>
      have hMx := HMx.out
      rw [if_neg (by simp [hX])] at hMx
      have hxx := HXX.out
      rw [if_neg (by simp [hX])] at hxx
      have h1 : x = v := congrArg (·.1) hMx
      have h2 : p3 = p2 := congrArg (·.2.1) hMx
      have h3 : e3 = e2 := congrArg (·.2.2) hMx
      clear hMx q0
      go_wp2_with fail
      go_meet
      case rel =>
        rw [hxx, h1, h2, h3]
        exact HS5.out
  case rest =>
  clear HS5 q0 HMx HXX
  have HS5 := Lib.hid hcut
  clear hcut
  have n1 := HS5.out.n.cell (i := 1) (v := .int .i64 (p3 : Int)) rfl
  have n2 := HS5.out.n.cell (i := 2) (v := .int .i64 (e3 : Int)) rfl
  have r0 := HS5.out.r.cell (i := 0) (v := .slice none 0 0) rfl
  have r1 := HS5.out.r.cell (i := 1) (v := .int .i64 0) rfl
  have r2 := HS5.out.r.cell (i := 2) (v := .int .i64 0) rfl
  have f0 := HS5.out.r.free 0
  have f1 := HS5.out.r.free 1
  have f2 := HS5.out.r.free 2
  by_cases h0 : e3 = 0
  · have t0 : ((e3 : Int) != 0) = false := by simp [h0]
    by_cases hp : p3 = en
    · have tp : ((p3 : Int) != (en : Int)) = false := by simp [hp]
      have HP := Lib.hid hp
      have H0 := Lib.hid h0
      have q0 := HS5.out.q.cell (i := 0) (v := .int .i64 (k : Int)) rfl
      have q1 := HS5.out.q.cell (i := 1) (v := .int .i64 (t : Int)) rfl
      have q2 := HS5.out.q.cell (i := 2) (v := .int .i64 vv) rfl
      have q3 := HS5.out.q.cell (i := 3) (v := .int .i64 xx) rfl
      have hRA := HS5.out.r.alloc (.cells #[.int .i64 (k : Int), .int .i64 (t : Int), .int .i64 vv, .int .i64 xx] 44)
      have hNA := At.new wc #[.int .i64 (k : Int), .int .i64 (t : Int), .int .i64 vv, .int .i64 xx] 44
      have hlt := HS5.out.r.lt
      have HLT := Lib.hid hlt
      have HBe := Lib.hid (HS5.out.below.alloc (by omega) (.cells #[.int .i64 (k : Int), .int .i64 (t : Int), .int .i64 vv, .int .i64 xx] 44))
      have HFin := Lib.hid (((hRA.set 0 (.slice (some ⟨wc.heap.size, 0, none⟩) 1 1)).set 1 (.int .i64 (en : Int))).set 2 (.int .i64 0))
      have HEv := Lib.hid (((hNA.other (a := ⟨w.heap.size, 0, none⟩) (by simp; omega) (.slice (some ⟨wc.heap.size, 0, none⟩) 1 1)).other (a := ⟨w.heap.size, 1, none⟩) (by simp; omega) (.int .i64 (en : Int))).other (a := ⟨w.heap.size, 2, none⟩) (by simp; omega) (.int .i64 0))
      have s0 := hRA.cell (i := 0) (v := .slice none 0 0) rfl
      have s1 := hRA.cell (i := 1) (v := .int .i64 0) rfl
      have s2 := hRA.cell (i := 2) (v := .int .i64 0) rfl
      have f0 := hRA.free 0
      have f1 := hRA.free 1
      have f2 := hRA.free 2
      clear hp h0 hRA hNA r0 r1 r2 hlt
      go_wp2_with fail
      have e0 := HFin.out.cell (i := 0) (v := .slice (some ⟨wc.heap.size, 0, none⟩) 1 1) rfl
      have e1 := HFin.out.cell (i := 1) (v := .int .i64 (en : Int)) rfl
      have e2 := HFin.out.cell (i := 2) (v := .int .i64 0) rfl
      exact bodyPost_ret (v := .agg #[.slice (some ⟨wc.heap.size, 0, none⟩) 1 1, .int .i64 (en : Int), .int .i64 0]) (by simp [results, Tryd.results15, go_sem, e0, e1, e2]) rfl ⟨fun hc => absurd H0.out hc, fun _ hc => absurd HP.out hc, fun _ _ => ⟨_, rfl, Nat.le_of_lt HLT.out, HEv.out, ((HBe.out.setCell (p := ⟨w.heap.size, 0, none⟩) (by simp) _).setCell (p := ⟨w.heap.size, 1, none⟩) (by simp) _).setCell (p := ⟨w.heap.size, 2, none⟩) (by simp) _⟩⟩
    · have tp : ((p3 : Int) != (en : Int)) = true := by simp; omega
      have HFin := Lib.hid (((HS5.out.r.set 0 (.slice none 0 0)).set 1 (.int .i64 (p3 : Int))).set 2 (.int .i64 2))
      have HBe := Lib.hid HS5.out.below
      have HP := Lib.hid hp
      have H0 := Lib.hid h0
      clear hp h0
      go_wp2_with fail
      have e0 := HFin.out.cell (i := 0) (v := .slice none 0 0) rfl
      have e1 := HFin.out.cell (i := 1) (v := .int .i64 (p3 : Int)) rfl
      have e2 := HFin.out.cell (i := 2) (v := .int .i64 2) rfl
      exact bodyPost_ret (v := .agg #[.slice none 0 0, .int .i64 (p3 : Int), .int .i64 2]) (by simp [results, Tryd.results15, go_sem, e0, e1, e2]) rfl ⟨fun hc => absurd H0.out hc, fun _ _ => ⟨by simp, ((HBe.out.setCell (p := ⟨w.heap.size, 0, none⟩) (by simp) _).setCell (p := ⟨w.heap.size, 1, none⟩) (by simp) _).setCell (p := ⟨w.heap.size, 2, none⟩) (by simp) _⟩, fun _ hc => absurd hc HP.out⟩
  · have t0 : ((e3 : Int) != 0) = true := by simp; omega
    have HFin := Lib.hid (((HS5.out.r.set 0 (.slice none 0 0)).set 1 (.int .i64 (p3 : Int))).set 2 (.int .i64 (e3 : Int)))
    have HBe := Lib.hid HS5.out.below
    have H0 := Lib.hid h0
    clear h0
    go_wp2_with fail
    have e0 := HFin.out.cell (i := 0) (v := .slice none 0 0) rfl
    have e1 := HFin.out.cell (i := 1) (v := .int .i64 (p3 : Int)) rfl
    have e2 := HFin.out.cell (i := 2) (v := .int .i64 (e3 : Int)) rfl
    exact bodyPost_ret (v := .agg #[.slice none 0 0, .int .i64 (p3 : Int), .int .i64 (e3 : Int)]) (by simp [results, Tryd.results15, go_sem, e0, e1, e2]) rfl ⟨fun _ => ⟨rfl, ((HBe.out.setCell (p := ⟨w.heap.size, 0, none⟩) (by simp) _).setCell (p := ⟨w.heap.size, 1, none⟩) (by simp) _).setCell (p := ⟨w.heap.size, 2, none⟩) (by simp) _⟩, fun hc => absurd hc H0.out, fun hc => absurd hc H0.out⟩
end Go.Proofs.YtgdijlmfpboecaaDoor
