/- The walk of GraphBuilds. (Written by gen_gphX.py.) -/
import Derived.Test.YtegpelpnbkdgcaaDoorMg24
import Derived.Test.YtegpelpnbkdgcaaDoorMg26
namespace Go.Proofs.YtegpelpnbkdgcaaDoor.WPlain
end Go.Proofs.YtegpelpnbkdgcaaDoor.WPlain
namespace Go.Proofs.YtegpelpnbkdgcaaDoor.QPlain
end Go.Proofs.YtegpelpnbkdgcaaDoor.QPlain
namespace Go.Proofs.YtegpelpnbkdgcaaDoor.RPlain
end Go.Proofs.YtegpelpnbkdgcaaDoor.RPlain
namespace Go.Proofs.YtegpelpnbkdgcaaDoor
open Go.RowKit WPlain QPlain RPlain

theorem u32s_nil : u32s [] = [] := rfl
set_option maxRecDepth 100000 in
set_option maxHeartbeats 8000000 in
theorem gbld_walk (a : Option Addr) (n m c : Nat) (h : List Ev) (cm : Nat) (ra : Option Addr) (rl q rc : Nat) (row : List Int) (w : World) (hK : HasK w) (hn : n ≤ c) (hrc : rl ≤ rc) (HAE : Hid (min (n : Int) 65 = (m : Int))) (HRE : Hid (min (rl : Int) 12 = (q : Int)))
    (hmn : m ≤ n) (hqn : q ≤ rl) (hv : Evs w (.slice a m c) h) (hr : Rd w (.slice ra q rc) (ints row)) (h1 : h.length = m) (hq1 : row.length = q) (hm1 : m ≤ 65) (hq2 : q ≤ 12) (hx : cm < 4294967296) :
    Calls Tryd.prog 3 #[.slice a n c, .int .u32 (cm : Int), .slice ra rl rc] w fun e w' => e = .returned (.bool true) ∧ Below w.heap.size w w' := by
  have HRD := Lib.hid (fun (W : World) (hW : Below w.heap.size w W) => readableG_any _ h cm hx W (hK.later hW (Nat.le_refl _)) (hv.below hW (Nat.le_refl _)) (by omega))
  have HBD := Lib.hid (fun (W : World) (hW : Below w.heap.size w W) => buildG_any _ _ h cm row hx W (hK.later hW (Nat.le_refl _)) (hv.below hW (Nat.le_refl _)) (by omega) (hr.below hW (Nat.le_refl _)) (by omega))
  have HWY := Lib.hid (fun (W : World) (hW : Below w.heap.size w W) => whyGr_any _ h cm W (hv.below hW (Nat.le_refl _)) (by omega) (fun a' n' c' he => by simp at he; omega) hx)
  have HTB := Lib.hid (fun (W : World) (hW : Below w.heap.size w W) => refTable_any _ h W (hv.below hW (Nat.le_refl _)) (by omega) (fun a' n' c' he => by simp at he; omega))
  have HAL := Lib.hid (fun (W : World) (hW : Below w.heap.size w W) => aliveGr_any W (hK.later hW (Nat.le_refl _)))
  have HRO := Lib.hid (fun (W : World) (hW : Below w.heap.size w W) => hr.below hW (Nat.le_refl _))
  have e1 : (max (min (n : Int) 65) 0) = (m : Int) := by have := HAE.out; omega
  have e2 : (max (min (rl : Int) 12) 0) = (q : Int) := by have := HRE.out; omega
  have e3 := HAE.out
  have e4 := HRE.out
  have hqr : q ≤ rc := by omega
  clear hK hv hr
  by_cases h0 : errG h cm = 0
  · have HF := Lib.hid (fine_table (errU_zero (errG_zero h0).1).1)
    have hrd : rdG h cm = readS (tableS h) cm := by unfold rdG; rw [if_pos h0]
    have hb1 := errB_row (row := row) h0
    have hb2 := errB_read (row := row) h0
    have hb3 := errB_ok (row := row) h0
    have hbo := bld_off (h := h) (cm := cm) (row := row)
    rw [hrd, h0] at HRD
    rw [h0] at HWY
    have HRR := Lib.hid (fun (v : Value) (W : World) (hW : Txs W v (tableS h)) => refReadable_any v (tableS h) cm W hW HF.out hx)
    have HRW := Lib.hid (fun (v : Value) (W : World) (hS : ∃ a c, v = .slice a (tableS h).length c) (hW : Below w.heap.size w W) => refWhole17_any v _ (tableS h) row W hS HF.out.six (HRO.out W hW) (by omega))
    clear hrd
    cases hwh : wholeS (tableS h).length row with
    | false =>
      have hbe := hb1 hwh
      rw [hbo (by rw [hbe]; omega), hbe, u32s_nil] at HBD
      rw [hwh] at HRW
      have ts : (readS (tableS h) cm != readS (tableS h) cm) = false := by simp
      clear h0 hb1 hb2 hb3 hbo hwh hbe HRO HF
      generalize tableS h = l at *
      generalize readS l cm = r at *
      go_enter Tryd.func3, Tryd.ntmps3
      go_wp2_with fail
      go_region
      have HB0 := Lib.hid (Below.drew (Below.refl w.heap.size w))
      clear e1 e2 e3 e4
      go_wp2_with fail
      refine (HRD.out _ HB0.out).mono ?_
      rintro e w1 ⟨rfl, hbx⟩
      have HB1 := Lib.hid (HB0.out.trans (hbx.mono HB0.out.size))
      clear hbx HB0 HRD
      go_wp2_with fail
      refine (HBD.out _ HB1.out).mono ?_
      rintro e w2 ⟨v2, rfl, hv2, hbx⟩
      have HB2 := Lib.hid (HB1.out.trans (hbx.mono HB1.out.size))
      have HL2 := Lib.hid hv2
      obtain ⟨a2, c2, rfl⟩ := hv2.len
      clear hbx HB1 HBD hv2
      go_wp2_with fail
      refine (HWY.out _ HB2.out).mono ?_
      rintro e w3 ⟨rfl, hbx⟩
      have HB3 := Lib.hid (HB2.out.trans (hbx.mono HB2.out.size))
      have HL3 := Lib.hid (HL2.out.below hbx (Nat.le_refl _))
      clear hbx HB2 HWY HL2
      go_wp2_with fail
      refine (HTB.out _ HB3.out).mono ?_
      rintro e w4 ⟨v4, rfl, hv4, hbx⟩
      have HB4 := Lib.hid (HB3.out.trans (hbx.mono HB3.out.size))
      have HL4 := Lib.hid (HL3.out.below hbx (Nat.le_refl _))
      have HT4 := Lib.hid hv4
      have HRX := Lib.hid (HRR.out _ _ hv4)
      obtain ⟨a4, c4, rfl⟩ := hv4.len
      clear hbx HB3 HTB hv4 HL3 HRR
      go_wp2_with fail
      refine HRX.out.mono ?_
      rintro e w5 ⟨rfl, hbx⟩
      have HB5 := Lib.hid (HB4.out.trans (hbx.mono HB4.out.size))
      have HL5 := Lib.hid (HL4.out.below hbx (Nat.le_refl _))
      have HT5 := Lib.hid (HT4.out.below hbx (Nat.le_refl _))
      clear hbx HB4 HRX HL4 HT4
      go_wp2_with fail
      refine (HAL.out _ HB5.out).mono ?_
      rintro e w6 ⟨rfl, hbx⟩
      have HB6 := Lib.hid (HB5.out.trans (hbx.mono HB5.out.size))
      have HL6 := Lib.hid (HL5.out.below hbx (Nat.le_refl _))
      have HT6 := Lib.hid (HT5.out.below hbx (Nat.le_refl _))
      clear hbx HB5 HAL HL5 HT5
      have HWX := Lib.hid (HRW.out (.slice a4 l.length c4) w6 ⟨_, _, rfl⟩ HB6.out)
      clear HRW
      go_wp2_with fail
      refine HWX.out.mono ?_
      rintro e w7 ⟨rfl, rfl⟩
      clear HWX
      simp only [List.length_nil] at *
      go_wp2
      go_ret
      exact ⟨rfl, HB6.out⟩
    | true =>
      rw [hwh] at HRW
      cases hrd : readS (tableS h) cm with
      | false =>
        have hbe := hb2 hwh hrd
        rw [hbo (by rw [hbe]; omega), hbe, u32s_nil] at HBD
        rw [hrd] at HRD HRR
        clear h0 hb1 hb2 hb3 hbo hwh hbe HRO HF hrd
        generalize tableS h = l at *
        go_enter Tryd.func3, Tryd.ntmps3
        go_wp2_with fail
        go_region
        have HB0 := Lib.hid (Below.drew (Below.refl w.heap.size w))
        clear e1 e2 e3 e4
        go_wp2_with fail
        refine (HRD.out _ HB0.out).mono ?_
        rintro e w1 ⟨rfl, hbx⟩
        have HB1 := Lib.hid (HB0.out.trans (hbx.mono HB0.out.size))
        clear hbx HB0 HRD
        go_wp2_with fail
        refine (HBD.out _ HB1.out).mono ?_
        rintro e w2 ⟨v2, rfl, hv2, hbx⟩
        have HB2 := Lib.hid (HB1.out.trans (hbx.mono HB1.out.size))
        have HL2 := Lib.hid hv2
        obtain ⟨a2, c2, rfl⟩ := hv2.len
        clear hbx HB1 HBD hv2
        go_wp2_with fail
        refine (HWY.out _ HB2.out).mono ?_
        rintro e w3 ⟨rfl, hbx⟩
        have HB3 := Lib.hid (HB2.out.trans (hbx.mono HB2.out.size))
        have HL3 := Lib.hid (HL2.out.below hbx (Nat.le_refl _))
        clear hbx HB2 HWY HL2
        go_wp2_with fail
        refine (HTB.out _ HB3.out).mono ?_
        rintro e w4 ⟨v4, rfl, hv4, hbx⟩
        have HB4 := Lib.hid (HB3.out.trans (hbx.mono HB3.out.size))
        have HL4 := Lib.hid (HL3.out.below hbx (Nat.le_refl _))
        have HT4 := Lib.hid hv4
        have HRX := Lib.hid (HRR.out _ _ hv4)
        obtain ⟨a4, c4, rfl⟩ := hv4.len
        clear hbx HB3 HTB hv4 HL3 HRR
        go_wp2_with fail
        refine HRX.out.mono ?_
        rintro e w5 ⟨rfl, hbx⟩
        have HB5 := Lib.hid (HB4.out.trans (hbx.mono HB4.out.size))
        have HL5 := Lib.hid (HL4.out.below hbx (Nat.le_refl _))
        have HT5 := Lib.hid (HT4.out.below hbx (Nat.le_refl _))
        clear hbx HB4 HRX HL4 HT4
        go_wp2_with fail
        refine (HAL.out _ HB5.out).mono ?_
        rintro e w6 ⟨rfl, hbx⟩
        have HB6 := Lib.hid (HB5.out.trans (hbx.mono HB5.out.size))
        have HL6 := Lib.hid (HL5.out.below hbx (Nat.le_refl _))
        have HT6 := Lib.hid (HT5.out.below hbx (Nat.le_refl _))
        clear hbx HB5 HAL HL5 HT5
        have HWX := Lib.hid (HRW.out (.slice a4 l.length c4) w6 ⟨_, _, rfl⟩ HB6.out)
        clear HRW
        go_wp2_with fail
        refine HWX.out.mono ?_
        rintro e w7 ⟨rfl, rfl⟩
        clear HWX
        simp only [List.length_nil] at *
        go_wp2
        go_ret
        exact ⟨rfl, HB6.out⟩
      | true =>
        have hbe := hb3 hwh hrd
        obtain ⟨rn, hrow, hw⟩ := whole_iff.1 hwh
        have hbk := bld_ok (h := h) (cm := cm) (rn := rn) (by rw [← hrow]; exact hbe)
        rw [← hrow] at hbk
        rw [hbk, hbe] at HBD
        rw [hrd] at HRD HRR
        have hrl : rn.length = q := by rw [← hq1, hrow, List.length_map]
        have HRB := Lib.hid (fun (v : Value) (W : World) (hT : Txs W v (tableS h)) (hW : Below w.heap.size w W) => refBuild17_any v (tableS h) cm ra rc rn W hT HF.out hx (by rw [← hrow, hrl]; exact HRO.out W hW) (by omega))
        have hlB : (buildS (tableS h) cm rn).length ≤ 6 := by unfold buildS; rw [List.length_map, List.length_range]; exact HF.out.six
        have HSM := Lib.hid (fun (v v' : Value) (W : World) (h1 : Rd W v (u32s (buildS (tableS h) cm rn))) (h2 : Rd W v' (u32s (buildS (tableS h) cm rn))) => refSameU_any v v' _ _ W h1 h2 rfl (by omega))
        rw [hrl] at HRB
        clear h0 hb1 hb2 hb3 hbo hwh hbe HRO HF hrd hw hbk hrl hrow hlB
        generalize buildS (tableS h) cm rn = bl at *
        generalize tableS h = l at *
        go_enter Tryd.func3, Tryd.ntmps3
        go_wp2_with fail
        go_region
        have HB0 := Lib.hid (Below.drew (Below.refl w.heap.size w))
        clear e1 e2 e3 e4
        go_wp2_with fail
        refine (HRD.out _ HB0.out).mono ?_
        rintro e w1 ⟨rfl, hbx⟩
        have HB1 := Lib.hid (HB0.out.trans (hbx.mono HB0.out.size))
        clear hbx HB0 HRD
        go_wp2_with fail
        refine (HBD.out _ HB1.out).mono ?_
        rintro e w2 ⟨v2, rfl, hv2, hbx⟩
        have HB2 := Lib.hid (HB1.out.trans (hbx.mono HB1.out.size))
        have HL2 := Lib.hid hv2
        obtain ⟨a2, c2, rfl⟩ := hv2.len
        clear hbx HB1 HBD hv2
        go_wp2_with fail
        refine (HWY.out _ HB2.out).mono ?_
        rintro e w3 ⟨rfl, hbx⟩
        have HB3 := Lib.hid (HB2.out.trans (hbx.mono HB2.out.size))
        have HL3 := Lib.hid (HL2.out.below hbx (Nat.le_refl _))
        clear hbx HB2 HWY HL2
        go_wp2_with fail
        refine (HTB.out _ HB3.out).mono ?_
        rintro e w4 ⟨v4, rfl, hv4, hbx⟩
        have HB4 := Lib.hid (HB3.out.trans (hbx.mono HB3.out.size))
        have HL4 := Lib.hid (HL3.out.below hbx (Nat.le_refl _))
        have HT4 := Lib.hid hv4
        have HRX := Lib.hid (HRR.out _ _ hv4)
        obtain ⟨a4, c4, rfl⟩ := hv4.len
        clear hbx HB3 HTB hv4 HL3 HRR
        go_wp2_with fail
        refine HRX.out.mono ?_
        rintro e w5 ⟨rfl, hbx⟩
        have HB5 := Lib.hid (HB4.out.trans (hbx.mono HB4.out.size))
        have HL5 := Lib.hid (HL4.out.below hbx (Nat.le_refl _))
        have HT5 := Lib.hid (HT4.out.below hbx (Nat.le_refl _))
        clear hbx HB4 HRX HL4 HT4
        go_wp2_with fail
        refine (HAL.out _ HB5.out).mono ?_
        rintro e w6 ⟨rfl, hbx⟩
        have HB6 := Lib.hid (HB5.out.trans (hbx.mono HB5.out.size))
        have HL6 := Lib.hid (HL5.out.below hbx (Nat.le_refl _))
        have HT6 := Lib.hid (HT5.out.below hbx (Nat.le_refl _))
        clear hbx HB5 HAL HL5 HT5
        have HWX := Lib.hid (HRW.out (.slice a4 l.length c4) w6 ⟨_, _, rfl⟩ HB6.out)
        clear HRW
        go_wp2_with fail
        refine HWX.out.mono ?_
        rintro e w7 ⟨rfl, rfl⟩
        clear HWX
        have HBX := Lib.hid (HRB.out _ _ HT6.out HB6.out)
        clear HRB HT6
        go_wp2_with fail
        refine HBX.out.mono ?_
        rintro e w8 ⟨v8, rfl, hv8, hbx⟩
        have HB8 := Lib.hid (HB6.out.trans (hbx.mono HB6.out.size))
        have HL8 := Lib.hid (HL6.out.below hbx (Nat.le_refl _))
        have HS8 := Lib.hid (HSM.out _ _ w8 HL8.out hv8)
        obtain ⟨a8, c8, rfl⟩ := hv8.len
        clear hbx HB6 HBX HL6 hv8
        generalize (u32s bl).length = nb at *
        go_wp2_with fail
        refine HS8.out.mono ?_
        rintro e w9 ⟨rfl, z, rfl⟩
        have HB9 := Lib.hid (below_drN HB8.out z)
        go_wp2
        go_ret
        exact ⟨rfl, HB9.out⟩
  · have hrd : rdG h cm = false := by unfold rdG; rw [if_neg h0]
    have hbe := errB_off (row := row) h0
    rw [hrd] at HRD
    rw [bld_off (by rw [hbe]; exact h0), hbe, u32s_nil] at HBD
    have tn : ((errG h cm : Int) != 0) = true := by simp; omega
    have ts : ((errG h cm : Int) == (errG h cm : Int)) = true := by simp
    clear h0 hrd hbe HTB HRO
    generalize errG h cm = er at *
    go_enter Tryd.func3, Tryd.ntmps3
    go_wp2_with fail
    go_region
    have HB0 := Lib.hid (Below.drew (Below.refl w.heap.size w))
    clear e1 e2 e3 e4
    go_wp2_with fail
    refine (HRD.out _ HB0.out).mono ?_
    rintro e w1 ⟨rfl, hbx⟩
    have HB1 := Lib.hid (HB0.out.trans (hbx.mono HB0.out.size))
    clear hbx HB0 HRD
    go_wp2_with fail
    refine (HBD.out _ HB1.out).mono ?_
    rintro e w2 ⟨v2, rfl, hv2, hbx⟩
    have HB2 := Lib.hid (HB1.out.trans (hbx.mono HB1.out.size))
    have HL2 := Lib.hid hv2
    obtain ⟨a2, c2, rfl⟩ := hv2.len
    clear hbx HB1 HBD hv2
    go_wp2_with fail
    refine (HWY.out _ HB2.out).mono ?_
    rintro e w3 ⟨rfl, hbx⟩
    have HB3 := Lib.hid (HB2.out.trans (hbx.mono HB2.out.size))
    have HL3 := Lib.hid (HL2.out.below hbx (Nat.le_refl _))
    clear hbx HB2 HWY HL2
    go_wp2_with fail
    refine (HAL.out _ HB3.out).mono ?_
    rintro e w4 ⟨rfl, hbx⟩
    have HB4 := Lib.hid (HB3.out.trans (hbx.mono HB3.out.size))
    clear hbx HB3 HAL HL3
    have hl0 : ([] : List Value).length = 0 := rfl
    go_wp2
    go_ret
    exact ⟨rfl, HB4.out⟩
theorem gbld_any (a : Option Addr) (n c : Nat) (h : List Ev) (x : Int) (ra : Option Addr) (rn rc : Nat) (row : List Int) (w : World) (hK : HasK w) (hn : n ≤ c) (hrc : rn ≤ rc) (hv : Evs w (.slice a (min (n : Int) 65).toNat c) h) (hr : Rd w (.slice ra (min (rn : Int) 12).toNat rc) (ints row)) (hx : (Lit.int .u32 x).wf = true) :
    Calls Tryd.prog 3 #[.slice a n c, .int .u32 x, .slice ra rn rc] w fun e w' => e = .returned (.bool true) ∧ Below w.heap.size w w' := by
  obtain ⟨m, hm⟩ : ∃ m : Nat, min (n : Int) 65 = (m : Int) := ⟨(min (n : Int) 65).toNat, by omega⟩
  obtain ⟨q, hq⟩ : ∃ q : Nat, min (rn : Int) 12 = (q : Int) := ⟨(min (rn : Int) 12).toNat, by omega⟩
  rw [hm, Int.toNat_natCast] at hv
  rw [hq, Int.toNat_natCast] at hr
  have hx2 : 0 ≤ x ∧ x < 4294967296 := by
    have h1 : (decide ((0 : Int) ≤ x) && decide (x ≤ 4294967295)) = true := hx
    rw [Bool.and_eq_true, decide_eq_true_eq, decide_eq_true_eq] at h1
    omega
  obtain ⟨y, rfl⟩ : ∃ y : Nat, x = (y : Int) := ⟨x.toNat, by omega⟩
  have hrl : row.length = q := by
    obtain ⟨_, _, he⟩ := hr.len
    simp only [Value.slice.injEq, ints_len] at he
    exact he.2.1.symm
  exact gbld_walk a n m c h y ra rn q rc row w hK hn hrc hm hq (by omega) (by omega) hv hr hv.length.symm hrl (by omega) (by omega) (by omega)
end Go.Proofs.YtegpelpnbkdgcaaDoor
