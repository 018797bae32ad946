/- The walk of SerialRight. -/
import Derived.Test.YtnnjlefljmbhkaaDoorMg25
import Derived.Test.YtnnjlefljmbhkaaDoorSrlL
namespace Go.Proofs.YtnnjlefljmbhkaaDoor.WPlain
end Go.Proofs.YtnnjlefljmbhkaaDoor.WPlain
namespace Go.Proofs.YtnnjlefljmbhkaaDoor.QPlain
end Go.Proofs.YtnnjlefljmbhkaaDoor.QPlain
namespace Go.Proofs.YtnnjlefljmbhkaaDoor.RPlain
end Go.Proofs.YtnnjlefljmbhkaaDoor.RPlain
namespace Go.Proofs.YtnnjlefljmbhkaaDoor
open Go.RowKit WPlain QPlain RPlain

theorem mod_million (i : Int) : ∃ I : Nat, (wrap64 (i.tmod 1000000 + 1000000)).tmod 1000000 = (I : Int) ∧ I < 1000000 := by
  have hp1 : i.tmod 1000000 < 1000000 := Int.tmod_lt_of_pos _ (by omega)
  have hp2 : -1000000 < i.tmod 1000000 := Int.lt_tmod_of_pos _ (by omega)
  generalize i.tmod 1000000 = p at *
  rw [IntWalk.wrap64_in (p + 1000000) (by omega)]
  obtain ⟨t, ht⟩ : ∃ t : Nat, p + 1000000 = (t : Int) := ⟨(p + 1000000).toNat, by omega⟩
  refine ⟨t % 1000000, ?_, Nat.mod_lt t (by omega)⟩
  rw [ht]
  exact (Int.ofNat_tmod t 1000000).symm
theorem srchF_of {h : List Ev} {B : Nat} (h0 : srchE h (B : Int) = 0) : srchF h (B : Int) = searchG B (tableS h) (fun _ => 2 ^ (tableS h).length - 1) (chL (tableS h)) 0 := by
  unfold srchF
  rw [if_pos h0, Int.toNat_natCast]
set_option maxRecDepth 100000 in
set_option maxHeartbeats 16000000 in
theorem serRight_walk (a : Option Addr) (n m c : Nat) (h : List Ev) (B mo : Int) (w : World) (hK : HasK w) (hn : n ≤ c) (HAE : Hid ((min (n : Int) 65).toNat = m)) (hv : Evs w (.slice a m c) h) (h1 : h.length = m) (hm1 : m ≤ 65) :
    Calls Tryd.prog 5 #[.slice a n c, .int .i64 B, .int .i64 mo] w fun e w' => e = .returned (.bool true) ∧ Below w.heap.size w w' := by
  have HK := Lib.hid hK
  have HV := Lib.hid hv
  have HS := Lib.hid (fun (B : Int) (W : World) (hW : Below w.heap.size w W) => searchS_any (.slice a m c) h B W (hK.later hW (Nat.le_refl _)) (hv.below hW (Nat.le_refl _)) (by omega))
  have HALV := Lib.hid (fun (W : World) (hW : Below w.heap.size w W) => aliveR_any W (hK.later hW (Nat.le_refl _)))
  clear hK hv
  by_cases h0 : srchE h B = 0
  · obtain ⟨hc0, hB0, hB1⟩ := srchE_zero h0
    obtain ⟨BN, rfl⟩ : ∃ BN : Nat, B = (BN : Int) := ⟨B.toNat, by omega⟩
    obtain ⟨M, hM1, hM2⟩ := mod_million mo
    have h6 := table_six hc0
    obtain ⟨B2, hB2⟩ : ∃ B2 : Nat, max (BN : Int) (M : Int) = (B2 : Int) := ⟨max BN M, by omega⟩
    have hb12 : BN ≤ B2 := by omega
    have h02 : srchE h (B2 : Int) = 0 := by unfold srchE; rw [if_pos hc0, if_neg (by omega)]
    have hk := right_known hc0 hb12
    have HS1 := Lib.hid (HS.out (BN : Int) w (Below.refl _ _))
    have HS2 := Lib.hid (HS.out (B2 : Int))
    rw [h0, srchF_of h0] at HS1
    simp only [h02, srchF_of h02] at HS2
    simp only at hk
    obtain ⟨x, hx⟩ : ∃ x, searchG BN (tableS h) (fun _ => 2 ^ (tableS h).length - 1) (chL (tableS h)) 0 = x := ⟨_, rfl⟩
    obtain ⟨y, hy⟩ : ∃ y, searchG B2 (tableS h) (fun _ => 2 ^ (tableS h).length - 1) (chL (tableS h)) 0 = y := ⟨_, rfl⟩
    have HXE := Lib.hid hx
    have HRL := Lib.hid (srch_len hc0 (B := BN))
    rw [hx] at HS1 HRL
    simp only [hy] at HS2
    rw [hx, hy] at hk
    obtain ⟨xv, C, R, sx⟩ := x
    simp only at hk HS1 HRL
    obtain ⟨g1, g2, g3, g4, g5⟩ := hk
    have HG5 := Lib.hid g5
    have HTE := Lib.hid hM1
    have HC0 := Lib.hid hc0
    have HXF : Hid (xv = 0 → C ∈ chL (tableS h) ∧ C < 2 ^ (tableS h).length ∧ Expl (tableS h) (2 ^ (tableS h).length - 1) C R) := fun h1 => found_facts HXE.out h1
    have HXN : Hid (xv = 1 → ∀ c ∈ chL (tableS h), ∀ row ∈ allS (afterS (tableS h)), legalS (tableS h) c row ≠ row.length) := fun h1 => none_expl (B := BN) (by rw [HXE.out]; exact h1)
    unfold fndV at HS1 HS2
    clear hx hy h0 h02 hc0 hM1 g5 HXE HS
    go_enter Tryd.func5, Tryd.ntmps5
    go_upto_region 2 with fail
    rw [HAE.out]
    go_wp2_with fail
    refine HS1.out.mono ?_
    rintro e w1 ⟨rv, rfl, hr1, -, hb1⟩
    obtain ⟨rb, rc, rfl⟩ := hr1.len
    obtain ⟨rn, hrn⟩ : ∃ z, (nats R).length = z := ⟨_, rfl⟩
    rw [hrn] at hr1 ⊢
    obtain ⟨N7, hN7⟩ : ∃ z, w1.heap.size = z := ⟨_, rfl⟩
    obtain ⟨w2, hw2⟩ : ∃ z, w1.alloc (.cells #[.int .i64 (xv : Int), .int .u32 (C : Int), .slice rb rn rc, .int .i64 (sx : Int)] 26) = z := ⟨_, rfl⟩
    have ha7 : At w2 N7 #[.int .i64 (xv : Int), .int .u32 (C : Int), .slice rb rn rc, .int .i64 (sx : Int)] 26 := by
      rw [← hw2, ← hN7]; exact At.new w1 _ _
    have hb12 : Below w1.heap.size w1 w2 := by rw [← hw2]; exact (Below.refl _ w1).alloc (Nat.le_refl _) _
    have HB2 := Lib.hid (hb1.trans (hb12.mono hb1.size))
    have HA7 := Lib.hid ha7
    have HR2 := Lib.hid (hr1.below hb12 (Nat.le_refl _))
    have HW2 := Lib.hid hw2
    have HRN := Lib.hid hrn
    clear hr1 hb1 ha7 hb12 HS1 hw2 hrn
    go_upto_region 6 with fail
    rw [HW2.out, HTE.out]
    clear HW2 HTE
    go_wp2_with fail
    refine (HS2.out w2 HB2.out).mono ?_
    rintro e w3 ⟨rv3, rfl, hr3, -, hb3⟩
    obtain ⟨gb, gc, rfl⟩ := hr3.len
    obtain ⟨gn, hgn⟩ : ∃ z, (nats y.2.2.1).length = z := ⟨_, rfl⟩
    rw [hgn] at hr3 ⊢
    obtain ⟨N9, hN9⟩ : ∃ z, w3.heap.size = z := ⟨_, rfl⟩
    obtain ⟨w4, hw4⟩ : ∃ z, w3.alloc (.cells #[.int .i64 (y.1 : Int), .int .u32 (y.2.1 : Int), .slice gb gn gc, .int .i64 (y.2.2.2 : Int)] 26) = z := ⟨_, rfl⟩
    have ha9 : At w4 N9 #[.int .i64 (y.1 : Int), .int .u32 (y.2.1 : Int), .slice gb gn gc, .int .i64 (y.2.2.2 : Int)] 26 := by
      rw [← hw4, ← hN9]; exact At.new w3 _ _
    have hb34 : Below w3.heap.size w3 w4 := by rw [← hw4]; exact (Below.refl _ w3).alloc (Nat.le_refl _) _
    have hb24 := hb3.trans (hb34.mono hb3.size)
    have HB4 := Lib.hid (HB2.out.trans (hb24.mono HB2.out.size))
    have HA74 := Lib.hid (HA7.out.below hb24 HA7.out.lt)
    have HR4 := Lib.hid (HR2.out.below hb24 (Nat.le_refl _))
    have HG4 := Lib.hid (hr3.below hb34 (Nat.le_refl _))
    have HA9 := Lib.hid ha9
    have HW4 := Lib.hid hw4
    clear hr3 hb3 ha9 hb34 hb24 hgn hw4 HA7 HR2 HB2 HS2
    go_upto_region 7 with fail
    rw [HW4.out]
    clear HW4
    have q0 : w4.cell? ⟨N7, 0, none⟩ = some (.int .i64 (xv : Int)) := HA74.out.cell rfl
    have q1 : w4.cell? ⟨N7, 1, none⟩ = some (.int .u32 (C : Int)) := HA74.out.cell rfl
    have q2 : w4.cell? ⟨N7, 2, none⟩ = some (.slice rb rn rc) := HA74.out.cell rfl
    have q3 : w4.cell? ⟨N7, 3, none⟩ = some (.int .i64 (sx : Int)) := HA74.out.cell rfl
    have p0 : w4.cell? ⟨N9, 0, none⟩ = some (.int .i64 (y.1 : Int)) := HA9.out.cell rfl
    have p1 : w4.cell? ⟨N9, 1, none⟩ = some (.int .u32 (y.2.1 : Int)) := HA9.out.cell rfl
    have p2 : w4.cell? ⟨N9, 2, none⟩ = some (.slice gb gn gc) := HA9.out.cell rfl
    have p3 : w4.cell? ⟨N9, 3, none⟩ = some (.int .i64 (y.2.2.2 : Int)) := HA9.out.cell rfl
    clear HA9
    have tsx : decide ((BN : Int) < (sx : Int)) = false := by simp; omega
    rcases g1 with rfl | rfl | rfl
    · -- found
      have hy := HG5.out (by decide)
      subst hy
      obtain ⟨hCm, hCl, hex⟩ := HXF.out rfl
      have hfull := expl_full hex
      have h64 := pow_le_64 h6
      have hC32 : C < 4294967296 := by omega
      have hlt : ∀ k ∈ R, k < (tableS h).length := fun k hk => ((hex.mem k).1 hk).1
      obtain ⟨el1, el2⟩ := legR_row HC0.out hlt hex.nodup C
      have hleg : legR h (R.map fun x : Nat => (x : Int)) C = R.length := el2.2 (by unfold okL; exact decide_eq_true hex.legal)
      have hth := row_there hlt
      have hep : errP h (R.map fun x : Nat => (x : Int)) = 0 := by unfold errP; rw [if_pos HC0.out, hth, if_pos rfl]
      have hkp : kepS h (R.map fun x : Nat => (x : Int)) = true := by unfold kepS; rw [if_pos hep]; exact expl_keeps hex
      have hR6 : R.length ≤ 6 := by omega
      have HSM := Lib.hid (refSame_same 0 C sx R (.slice rb rn rc) (.slice gb gn gc) w4 HR4.out HG4.out HRL.out)
      have HCH := Lib.hid (fun (W : World) (hW : Below w.heap.size w W) => choices_any (.slice a m c) h W (HK.out.later hW (Nat.le_refl _)) (HV.out.below hW (Nat.le_refl _)) (by omega))
      have HAF := Lib.hid (fun (W : World) (hW : Below w.heap.size w W) => after_any (.slice a m c) h W (HK.out.later hW (Nat.le_refl _)) (HV.out.below hW (Nat.le_refl _)) (by omega))
      simp only [HC0.out, if_true] at HCH HAF
      have HKE := Lib.hid (fun (W : World) (hW : Below w4.heap.size w4 W) => keeps_any (.slice a m c) (.slice rb rn rc) h (R.map fun x : Nat => (x : Int)) W (HK.out.later (HB4.out.trans (hW.mono HB4.out.size)) (Nat.le_refl _)) (HV.out.below (HB4.out.trans (hW.mono HB4.out.size)) (Nat.le_refl _)) (by omega) (by rw [← nats_intsS]; exact HR4.out.below hW (Nat.le_refl _)) (by rw [List.length_map]; omega))
      have HLE := Lib.hid (fun (W : World) (hW : Below w4.heap.size w4 W) => legal_any (.slice a m c) (.slice rb rn rc) h (R.map fun x : Nat => (x : Int)) C W (HK.out.later (HB4.out.trans (hW.mono HB4.out.size)) (Nat.le_refl _)) (HV.out.below (HB4.out.trans (hW.mono HB4.out.size)) (Nat.le_refl _)) (by omega) (by rw [← nats_intsS]; exact HR4.out.below hW (Nat.le_refl _)) (by rw [List.length_map]; omega) hC32)
      rw [hep, hkp] at HKE
      rw [el1, hleg] at HLE
      have hrnl : rn = R.length := by rw [← HRN.out, nats_len]
      have hal : (u32s (afterS (tableS h))).length = rn := by rw [u32s_len, afterS_len]; omega
      have HCO : Hid ((chL (tableS h)).contains C = true) := by unfold Hid; rw [List.contains_iff_mem]; exact hCm
      have HCN : Hid ((chL (tableS h)).length ≤ 65536) := by have h1 := choices_count (tableS h); rw [choices_chL h6] at h1; show _ ≤ _; omega
      rw [← hrnl] at HLE
      obtain ⟨cs, hcs⟩ : ∃ cs, chL (tableS h) = cs := ⟨_, rfl⟩
      obtain ⟨A, hA⟩ : ∃ A, afterS (tableS h) = A := ⟨_, rfl⟩
      simp only [hcs] at HCH HCO HCN
      simp only [hA] at HAF hal
      clear hCm hCl hex hfull hlt el1 el2 hleg hth hep hkp hR6 hrnl hcs hA HXF HXN HG5 g3 g4 hC32 h64
      go_wp2_with fail
      refine HSM.out.mono ?_
      rintro e w5 ⟨rfl, hb5⟩
      have HB45 := Lib.hid hb5
      have HB5 := Lib.hid (HB4.out.trans (hb5.mono HB4.out.size))
      clear hb5 HSM
      go_wp2_with fail
      refine (HALV.out w5 HB5.out).mono ?_
      rintro e w6 ⟨rfl, hb6⟩
      have HB46 := Lib.hid (HB45.out.trans (hb6.mono HB45.out.size))
      have HB6 := Lib.hid (HB5.out.trans (hb6.mono HB5.out.size))
      have r0 := cell_on HB46.out q0
      clear hb6 HB45 HB5
      go_wp2_with fail
      refine (HCH.out w6 HB6.out).mono ?_
      rintro e w7 ⟨v7, rfl, hr7, hb7⟩
      obtain ⟨a7, c7, rfl⟩ := hr7.len
      rw [u32s_len] at hr7 ⊢
      have HR7 := Lib.hid hr7
      have HB47 := Lib.hid (HB46.out.trans (hb7.mono HB46.out.size))
      have HB7 := Lib.hid (HB6.out.trans (hb7.mono HB6.out.size))
      have s2 := cell_on HB47.out q2
      clear hr7 hb7 HCH HB46 HB6 r0
      go_wp2_with fail
      refine (HKE.out w7 HB47.out).mono ?_
      rintro e w8 ⟨rfl, hb8⟩
      have HR8 := Lib.hid (HR7.out.below hb8 (Nat.le_refl _))
      have HB48 := Lib.hid (HB47.out.trans (hb8.mono HB47.out.size))
      have HB8 := Lib.hid (HB7.out.trans (hb8.mono HB7.out.size))
      have t1 := cell_on HB48.out q1
      have t2 := cell_on HB48.out q2
      clear hb8 HKE HB47 HB7 HR7 s2
      go_wp2_with fail
      refine (HLE.out w8 HB48.out).mono ?_
      rintro e w9 ⟨rfl, hb9⟩
      have HR9 := Lib.hid (HR8.out.below hb9 (Nat.le_refl _))
      have HB49 := Lib.hid (HB48.out.trans (hb9.mono HB48.out.size))
      have HB9 := Lib.hid (HB8.out.trans (hb9.mono HB8.out.size))
      clear hb9 HLE HB48 HB8 HR8 t1 t2
      go_wp2_with fail
      refine (HAF.out w9 HB9.out).mono ?_
      rintro e w10 ⟨v10, rfl, hr10, hb10⟩
      obtain ⟨a10, c10, rfl⟩ := hr10.len
      rw [hal]
      have HR10 := Lib.hid (HR9.out.below hb10 (Nat.le_refl _))
      have HB4A := Lib.hid (HB49.out.trans (hb10.mono HB49.out.size))
      have HBA := Lib.hid (HB9.out.trans (hb10.mono HB9.out.size))
      have u1 := cell_on HB4A.out q1
      have u2 := cell_on HB4A.out q2
      have HCT := Lib.hid (containsU32_any _ cs C w10 HR10.out HCN.out)
      rw [HCO.out] at HCT
      clear hr10 hb10 HAF HB49 HB9 HR9 hal
      go_wp2_with fail
      refine HCT.out.mono ?_
      rintro e w11 ⟨rfl, hw11⟩
      rw [hw11]
      clear hw11
      go_wp2_with fail
      go_ret
      exact ⟨rfl, HBA.out⟩
    · -- none
      have hy := HG5.out (by decide)
      subst hy
      obtain ⟨rfl, rfl⟩ := g4 (by decide)
      have hrn0 : rn = 0 := by rw [← HRN.out]; rfl
      subst hrn0
      have HNX := Lib.hid (HXN.out rfl)
      have HSM := Lib.hid (refSame_same 1 0 sx [] (.slice rb 0 rc) (.slice gb gn gc) w4 HR4.out HG4.out (by decide))
      have HEX := Lib.hid (fun (W : World) (hW : Below w.heap.size w W) => explained_none (.slice a m c) h W (HK.out.later hW (Nat.le_refl _)) (HV.out.below hW (Nat.le_refl _)) (by omega) HC0.out HNX.out)
      clear HXF HXN HG5 g3 g4 HNX
      go_wp2_with fail
      refine HSM.out.mono ?_
      rintro e w5 ⟨rfl, hb5⟩
      have HB45 := Lib.hid hb5
      have HB5 := Lib.hid (HB4.out.trans (hb5.mono HB4.out.size))
      clear hb5 HSM
      go_wp2_with fail
      refine (HALV.out w5 HB5.out).mono ?_
      rintro e w6 ⟨rfl, hb6⟩
      have HB46 := Lib.hid (HB45.out.trans (hb6.mono HB45.out.size))
      have HB6 := Lib.hid (HB5.out.trans (hb6.mono HB5.out.size))
      have r0 := cell_on HB46.out q0
      clear hb6 HB45 HB5
      go_wp2_with fail
      refine (HEX.out w6 HB6.out).mono ?_
      rintro e w7 ⟨rfl, hb7⟩
      have HB47 := Lib.hid (HB46.out.trans (hb7.mono HB46.out.size))
      have HB7 := Lib.hid (HB6.out.trans (hb7.mono HB6.out.size))
      have s1 := cell_on HB47.out q1
      have s2 := cell_on HB47.out q2
      clear hb7 HEX HB46 HB6 r0
      go_wp2_with fail
      go_ret
      exact ⟨rfl, HB7.out⟩
    · -- unknown
      obtain ⟨hsx, hlt⟩ := g3 rfl
      subst hsx
      obtain ⟨rfl, rfl⟩ := g4 (by decide)
      have hrn0 : rn = 0 := by rw [← HRN.out]; rfl
      subst hrn0
      have tge : decide ((125184 : Int) ≤ (sx : Int)) = false := by simp; omega
      clear HXF HXN HG5 g3 g4 hlt
      go_wp2_with fail
      refine (HALV.out w4 HB4.out).mono ?_
      rintro e w6 ⟨rfl, hb6⟩
      have HB6 := Lib.hid (HB4.out.trans (hb6.mono HB4.out.size))
      have r0 := cell_on hb6 q0
      have r1 := cell_on hb6 q1
      have r2 := cell_on hb6 q2
      clear hb6 q0 q1 q2 q3 p0 p1 p2 p3
      go_wp2_with fail
      go_ret
      exact ⟨rfl, HB6.out⟩
  · have hsf : srchF h B = (0, 0, [], 0) := by unfold srchF; rw [if_neg h0]
    have HS1 := Lib.hid (HS.out B w (Below.refl _ _))
    rw [hsf] at HS1
    obtain ⟨er, her⟩ : ∃ er, srchE h B = er := ⟨_, rfl⟩
    rw [her] at HS1 h0
    have te : ((er : Int) != 0) = true := by simp; omega
    unfold fndV at HS1
    clear her h0 hsf HS
    go_enter Tryd.func5, Tryd.ntmps5
    go_upto_region 2 with fail
    rw [HAE.out]
    go_wp2_with fail
    refine HS1.out.mono ?_
    rintro e w1 ⟨rv, rfl, hr1, -, hb1⟩
    obtain ⟨rb, rc, rfl⟩ := hr1.len
    have hnl : (nats []).length = 0 := rfl
    rw [hnl]
    obtain ⟨N7, hN7⟩ : ∃ z, w1.heap.size = z := ⟨_, rfl⟩
    obtain ⟨w2, hw2⟩ : ∃ z, w1.alloc (.cells #[.int .i64 0, .int .u32 0, .slice rb 0 rc, .int .i64 0] 26) = z := ⟨_, rfl⟩
    have ha7 : At w2 N7 #[.int .i64 0, .int .u32 0, .slice rb 0 rc, .int .i64 0] 26 := by
      rw [← hw2, ← hN7]; exact At.new w1 _ _
    have hb12 : Below w1.heap.size w1 w2 := by rw [← hw2]; exact (Below.refl _ w1).alloc (Nat.le_refl _) _
    have HB2 := Lib.hid (hb1.trans (hb12.mono hb1.size))
    have q3 : w2.cell? ⟨N7, 3, none⟩ = some (.int .i64 0) := ha7.cell rfl
    have HW2 := Lib.hid hw2
    clear hr1 hb1 ha7 hb12 HS1 hw2
    go_wp2_with fail
    rw [HW2.out]
    clear HW2
    refine (HALV.out w2 HB2.out).mono ?_
    rintro e w3 ⟨rfl, hb3⟩
    have HB3 := Lib.hid (HB2.out.trans (hb3.mono HB2.out.size))
    have r3 := cell_on hb3 q3
    clear hb3 q3
    go_wp2_with fail
    go_ret
    exact ⟨rfl, HB3.out⟩
theorem serRight_any (a : Option Addr) (n c : Nat) (h : List Ev) (B mo : Int) (w : World) (hK : HasK w) (hn : n ≤ c) (hv : Evs w (.slice a (min (n : Int) 65).toNat c) h) :
    Calls Tryd.prog 5 #[.slice a n c, .int .i64 B, .int .i64 mo] w fun e w' => e = .returned (.bool true) ∧ Below w.heap.size w w' := by
  obtain ⟨m, hm⟩ : ∃ m, (min (n : Int) 65).toNat = m := ⟨_, rfl⟩
  rw [hm] at hv
  exact serRight_walk a n m c h B mo w hK hn hm hv hv.length.symm (by omega)
end Go.Proofs.YtnnjlefljmbhkaaDoor
