/- The walk of LegalRows. -/
import Derived.Test.YtceipdmplnlogaaDoorLegL
namespace Go.Proofs.YtceipdmplnlogaaDoor.WPlain
end Go.Proofs.YtceipdmplnlogaaDoor.WPlain
namespace Go.Proofs.YtceipdmplnlogaaDoor.QPlain
end Go.Proofs.YtceipdmplnlogaaDoor.QPlain
namespace Go.Proofs.YtceipdmplnlogaaDoor.RPlain
end Go.Proofs.YtceipdmplnlogaaDoor.RPlain
namespace Go.Proofs.YtceipdmplnlogaaDoor.RPlain
open WPlain QPlain

theorem there_cap {n : Nat} : (max (min (n : Int) 65) 0) = min (n : Int) 65 := by omega
end Go.Proofs.YtceipdmplnlogaaDoor.RPlain
namespace Go.Proofs.YtceipdmplnlogaaDoor
open Go.RowKit WPlain QPlain RPlain

set_option maxRecDepth 100000 in
set_option maxHeartbeats 4000000 in
theorem lrows_walk (a : Option Addr) (n m c : Nat) (h : List Ev) (ra : Option Addr) (rn q rc : Nat) (row : List Int) (x : Nat) (w : World) (hK : HasK w) (hn : n ≤ c) (hrc : rn ≤ rc) (HAE : Hid (min (n : Int) 65 = (m : Int))) (HRE : Hid (min (rn : Int) 12 = (q : Int)))
    (hmn : m ≤ n) (hqn : q ≤ rn) (hv : Evs w (.slice a m c) h) (hr : Rd w (.slice ra q rc) (ints row)) (h1 : h.length = m) (hq1 : row.length = q) (hm1 : m ≤ 65) (hq2 : q ≤ 12) (hx : x < 4294967296) :
    Calls Tryd.prog 3 #[.slice a n c, .slice ra rn rc, .int .u32 (x : Int)] w fun e w' => e = .returned (.bool true) ∧ Below w.heap.size w w' := by
  have HK := Lib.hid hK
  have HLG := Lib.hid (fun (W : World) (hW : Below w.heap.size w W) => legal_any _ _ h row x W (hK.later hW (Nat.le_refl _)) (hv.below hW (Nat.le_refl _)) (by omega) (hr.below hW (Nat.le_refl _)) (by omega) hx)
  have HMY := Lib.hid (fun (W : World) (hW : Below w.heap.size w W) => memory_any _ _ h row x W (hK.later hW (Nat.le_refl _)) (hv.below hW (Nat.le_refl _)) (by omega) (hr.below hW (Nat.le_refl _)) (by omega) hx)
  have HWH := Lib.hid (fun (W : World) (hW : Below w.heap.size w W) => why_any _ h W (hv.below hW (Nat.le_refl _)) (by omega) (fun a' n' c' he => by simp at he; omega))
  have HTB := Lib.hid (fun (W : World) (hW : Below w.heap.size w W) => refTable_any _ h W (hv.below hW (Nat.le_refl _)) (by omega) (fun a' n' c' he => by simp at he; omega))
  have HRD := Lib.hid (fun (W : World) (hW : Below w.heap.size w W) => hr.below hW (Nat.le_refl _))
  rw [whyS_check] at HWH
  have e1 : (max (min (n : Int) 65) 0) = (m : Int) := by have := HAE.out; omega
  have e2 : (max (min (rn : Int) 12) 0) = (q : Int) := by have := HRE.out; omega
  have e3 := HAE.out
  have e4 := HRE.out
  have hqr : q ≤ rc := by omega
  clear hK hv hr
  by_cases h0 : (checkS h).2 = 0
  · have HMA : Hid (∀ (v : Value) (W : World), Below w.heap.size w W → (∃ a c, v = .slice a (tableS h).length c) → Calls Tryd.prog 10 #[v, .slice ra q rc] W fun e w' => e = .returned (.int .i64 ((mayR (tableS h) row : Nat) : Int)) ∧ w' = W) := fun v W hW hs => refMay_any v _ (tableS h) row W hs (HRD.out W hW) (fun a' m' c' he => by simp at he; omega) (by omega)
    by_cases hy : errL h row = 0
    · have HY := Lib.hid hy
      obtain ⟨rnn, hrow, hrn, hnd, h66⟩ := errL_nil hy
      have h6 := table_six h0
      have hopl := table_ops h0
      have HOL : Hid (∀ i, (opsAt (tableS h) i).length ≤ 60) := fun i => by
        by_cases hi : i < (tableS h).length
        · rw [opsAtL_get hi]; exact (hopl _ (List.getElem_mem hi)).2
        · unfold opsAt; rw [List.getElem?_eq_none (by omega)]; simp
      have hleg : legR h row x = legalS (tableS h) x rnn := by unfold legR; rw [if_pos hy, hrow, natsR_cast]
      have hmem : memR h row x = behindS (tableS h) x zeroM rnn := by unfold memR; rw [hrow, natsR_cast]
      have hmay : mayR (tableS h) row = 0 := by rw [← errL_may h0]; exact hy
      rw [hy, hleg] at HLG
      rw [hy, hmem] at HMY
      rw [hmay] at HMA
      rw [h0] at HWH
      simp only [if_true] at HMY
      have hrl : rnn.length = q := by rw [← hq1, hrow, List.length_map]
      subst hrow
      clear h0 hy hopl hnd hleg hmem hmay HY
      generalize tableS h = l at *
      go_enter Tryd.func3, Tryd.ntmps3
      go_wp2_with fail
      go_region
      have HB0 := Lib.hid (Below.drew (Below.refl w.heap.size w))
      clear e1 e2 e3 e4
      go_wp2_with fail
      refine (HLG.out _ HB0.out).mono ?_
      rintro e w1 ⟨rfl, hb1⟩
      have HB1 := Lib.hid (HB0.out.trans (hb1.mono HB0.out.size))
      clear hb1 HB0 HLG
      go_wp2_with fail
      refine (HMY.out _ HB1.out).mono ?_
      rintro e w2 ⟨v2, rfl, hv2, hb2⟩
      have HB2 := Lib.hid (HB1.out.trans (hb2.mono HB1.out.size))
      have HV2 := Lib.hid hv2
      obtain ⟨a2, c2, rfl⟩ := hv2.len
      clear hb2 HB1 HMY hv2
      go_wp2_with fail
      refine (HWH.out _ HB2.out).mono ?_
      rintro e w3 ⟨rfl, hb3⟩
      have HB3 := Lib.hid (HB2.out.trans (hb3.mono HB2.out.size))
      have HV3 := Lib.hid (HV2.out.below hb3 (Nat.le_refl _))
      clear hb3 HB2 HV2 HWH
      go_wp2_with fail
      refine (HTB.out _ HB3.out).mono ?_
      rintro e w4 ⟨v4, rfl, hv4, hb4⟩
      have HB4 := Lib.hid (HB3.out.trans (hb4.mono HB3.out.size))
      have HV4 := Lib.hid (HV3.out.below hb4 (Nat.le_refl _))
      clear HB3 HV3 hb4
      have HML := Lib.hid (HMA.out v4 w4 HB4.out hv4.len)
      obtain ⟨a4, c4, rfl⟩ := hv4.len
      clear hv4 HMA
      go_wp2_with fail
      refine HML.out.mono ?_
      rintro e w5 ⟨rfl, rfl⟩
      clear HML
      go_wp2_with fail
      refine (HTB.out _ HB4.out).mono ?_
      rintro e w6 ⟨v6, rfl, hv6, hb6⟩
      have HB6 := Lib.hid (HB4.out.trans (hb6.mono HB4.out.size))
      have HV6 := Lib.hid (HV4.out.below hb6 (Nat.le_refl _))
      have HT6 := Lib.hid hv6
      obtain ⟨a6, c6, rfl⟩ := hv6.len
      clear hb6 HB4 HV4 HTB hv6
      go_wp2_with fail
      refine (aliveG_any _ (HK.out.later HB6.out (Nat.le_refl _))).mono ?_
      rintro e w7 ⟨rfl, hb7⟩
      have HB7 := Lib.hid (HB6.out.trans (hb7.mono HB6.out.size))
      have HV7 := Lib.hid (HV6.out.below hb7 (Nat.le_refl _))
      have HT7 := Lib.hid (HT6.out.below hb7 (Nat.le_refl _))
      clear hb7 HB6 HV6 HT6
      go_wp2_with fail
      refine (refLegal_any _ _ l rnn x _ HT7.out (HRD.out _ HB7.out) (fun a' m' c' he => by simp at he; omega) hrn h6 HOL.out (by omega) hx).mono ?_
      rintro e w8 ⟨rfl, hb8⟩
      have HB8 := Lib.hid (HB7.out.trans (hb8.mono HB7.out.size))
      have HV8 := Lib.hid (HV7.out.below hb8 (Nat.le_refl _))
      have HT8 := Lib.hid (HT7.out.below hb8 (Nat.le_refl _))
      clear hb8 HB7 HV7 HT7
      go_wp2_with fail
      refine (refBehind_any _ _ l rnn x _ HT8.out (HRD.out _ HB8.out) hrn h6 HOL.out (by omega) hx).mono ?_
      rintro e w9 ⟨v9, rfl, hm9, hb9⟩
      have HB9 := Lib.hid (HB8.out.trans (hb9.mono HB8.out.size))
      have HV9 := Lib.hid (HV8.out.below hb9 (Nat.le_refl _))
      have HVA := Lib.hid (refValues_any v9 (behindL l x rnn) w9 hm9.1 (by have := behindL_len HOL.out x rnn; omega))
      rw [memL_behind] at HVA
      clear hb9 HB8 HV8 HT8 hm9
      go_wp2_with fail
      refine HVA.out.mono ?_
      rintro e w10 ⟨v10, rfl, hv10, hb10⟩
      have HB10 := Lib.hid (HB9.out.trans (hb10.mono HB9.out.size))
      have HIS := Lib.hid (ints_same _ _ _ w10 (by simp [mem8]) (HV9.out.below hb10 (Nat.le_refl _)) hv10)
      clear hb10 HB9 HV9 HVA hv10
      go_wp2_with fail
      refine HIS.out.mono ?_
      rintro e w11 ⟨rfl, z, rfl⟩
      have HB11 := Lib.hid (below_drN HB10.out z)
      go_wp2
      go_ret
      exact ⟨rfl, HB11.out⟩
    · obtain ⟨er, her⟩ : ∃ er, errL h row = er := ⟨_, rfl⟩
      have hleg : legR h row x = 0 := legR_bad x hy
      have hmay : mayR (tableS h) row = er := by rw [← errL_may h0]; exact her
      rw [hleg] at HLG
      rw [her] at HLG HMY hy
      rw [hmay] at HMA
      rw [h0] at HWH
      simp only [if_neg hy] at HMY
      have te : ((er : Int) != 0) = true := by simp; omega
      clear h0 hy hleg hmay her
      generalize tableS h = l at *
      go_enter Tryd.func3, Tryd.ntmps3
      go_wp2_with fail
      go_region
      have HB0 := Lib.hid (Below.drew (Below.refl w.heap.size w))
      clear e1 e2 e3 e4
      go_wp2_with fail
      refine (HLG.out _ HB0.out).mono ?_
      rintro e w1 ⟨rfl, hb1⟩
      have HB1 := Lib.hid (HB0.out.trans (hb1.mono HB0.out.size))
      clear hb1 HB0 HLG
      go_wp2_with fail
      refine (HMY.out _ HB1.out).mono ?_
      rintro e w2 ⟨v2, rfl, hv2, hb2⟩
      have HB2 := Lib.hid (HB1.out.trans (hb2.mono HB1.out.size))
      obtain ⟨a2, c2, rfl⟩ := hv2.len
      clear hb2 HB1 HMY hv2
      go_wp2_with fail
      refine (HWH.out _ HB2.out).mono ?_
      rintro e w3 ⟨rfl, hb3⟩
      have HB3 := Lib.hid (HB2.out.trans (hb3.mono HB2.out.size))
      clear hb3 HB2 HWH
      go_wp2_with fail
      refine (HTB.out _ HB3.out).mono ?_
      rintro e w4 ⟨v4, rfl, hv4, hb4⟩
      have HB4 := Lib.hid (HB3.out.trans (hb4.mono HB3.out.size))
      clear HB3 hb4
      have HML := Lib.hid (HMA.out v4 w4 HB4.out hv4.len)
      obtain ⟨a4, c4, rfl⟩ := hv4.len
      clear hv4 HMA
      go_wp2_with fail
      refine HML.out.mono ?_
      rintro e w5 ⟨rfl, rfl⟩
      clear HML
      go_wp2_with fail
      refine (aliveG_any _ (HK.out.later HB4.out (Nat.le_refl _))).mono ?_
      rintro e w7 ⟨rfl, hb7⟩
      have HB7 := Lib.hid (HB4.out.trans (hb7.mono HB4.out.size))
      clear hb7 HB4
      go_wp2
      go_ret
      exact ⟨by simp, HB7.out⟩
  · have hy : ¬ errL h row = 0 := by rw [errL_not h0]; exact h0
    have hleg : legR h row x = 0 := legR_bad x hy
    rw [hleg] at HLG
    rw [errL_not h0] at HLG HMY
    obtain ⟨er, her⟩ : ∃ er, (checkS h).2 = er := ⟨_, rfl⟩
    rw [her] at HLG HMY HWH h0
    simp only [if_neg h0] at HMY
    have te : ((er : Int) != 0) = true := by simp; omega
    have te2 : ((er : Int) == 0) = false := by simp; omega
    clear hy hleg her h0
    go_enter Tryd.func3, Tryd.ntmps3
    go_wp2_with fail
    go_region
    have HB0 := Lib.hid (Below.drew (Below.refl w.heap.size w))
    clear e1 e2 e3 e4
    go_wp2_with fail
    refine (HLG.out _ HB0.out).mono ?_
    rintro e w1 ⟨rfl, hb1⟩
    have HB1 := Lib.hid (HB0.out.trans (hb1.mono HB0.out.size))
    clear hb1 HB0 HLG
    go_wp2_with fail
    refine (HMY.out _ HB1.out).mono ?_
    rintro e w2 ⟨v2, rfl, hv2, hb2⟩
    have HB2 := Lib.hid (HB1.out.trans (hb2.mono HB1.out.size))
    obtain ⟨a2, c2, rfl⟩ := hv2.len
    clear hb2 HB1 HMY hv2
    go_wp2_with fail
    refine (HWH.out _ HB2.out).mono ?_
    rintro e w3 ⟨rfl, hb3⟩
    have HB3 := Lib.hid (HB2.out.trans (hb3.mono HB2.out.size))
    clear hb3 HB2 HWH
    go_wp2_with fail
    refine (aliveG_any _ (HK.out.later HB3.out (Nat.le_refl _))).mono ?_
    rintro e w7 ⟨rfl, hb7⟩
    have HB7 := Lib.hid (HB3.out.trans (hb7.mono HB3.out.size))
    clear hb7 HB3
    go_wp2
    go_ret
    exact ⟨by simp, HB7.out⟩
theorem lrows_any (a : Option Addr) (n c : Nat) (h : List Ev) (ra : Option Addr) (rn rc : Nat) (row : List Int) (x : Int) (w : World) (hK : HasK w) (hn : n ≤ c) (hrc : rn ≤ rc) (hv : Evs w (.slice a (min (n : Int) 65).toNat c) h) (hr : Rd w (.slice ra (min (rn : Int) 12).toNat rc) (ints row)) (hx : (Lit.int .u32 x).wf = true) :
    Calls Tryd.prog 3 #[.slice a n c, .slice ra rn rc, .int .u32 x] w fun e w' => e = .returned (.bool true) ∧ Below w.heap.size w w' := by
  obtain ⟨m, hm⟩ : ∃ m : Nat, min (n : Int) 65 = (m : Int) := ⟨(min (n : Int) 65).toNat, by omega⟩
  obtain ⟨q, hq⟩ : ∃ q : Nat, min (rn : Int) 12 = (q : Int) := ⟨(min (rn : Int) 12).toNat, by omega⟩
  rw [hm, Int.toNat_natCast] at hv
  rw [hq, Int.toNat_natCast] at hr
  have hx2 : 0 ≤ x ∧ x < 4294967296 := by
    have h1 : (decide ((0 : Int) ≤ x) && decide (x ≤ 4294967295)) = true := hx
    rw [Bool.and_eq_true, decide_eq_true_eq, decide_eq_true_eq] at h1
    omega
  obtain ⟨y, rfl⟩ : ∃ y : Nat, x = (y : Int) := ⟨x.toNat, by omega⟩
  have hrl : row.length = q := by
    obtain ⟨_, _, he⟩ := hr.len
    simp only [Value.slice.injEq, ints_len] at he
    exact he.2.1.symm
  exact lrows_walk a n m c h ra rn q rc row y w hK hn hrc hm hq (by omega) (by omega) hv hr hv.length.symm hrl (by omega) (by omega) (by omega)
end Go.Proofs.YtceipdmplnlogaaDoor
