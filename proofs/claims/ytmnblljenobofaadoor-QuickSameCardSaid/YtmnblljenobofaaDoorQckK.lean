/- The walk of QuickSame. -/
import Derived.Test.YtmnblljenobofaaDoorQckE
import Derived.Test.YtmnblljenobofaaDoorMg24
import Derived.Test.YtmnblljenobofaaDoorMg13
import Derived.Test.YtmnblljenobofaaDoorMg12
namespace Go.Proofs.YtmnblljenobofaaDoor.WPlain
end Go.Proofs.YtmnblljenobofaaDoor.WPlain
namespace Go.Proofs.YtmnblljenobofaaDoor.QPlain
end Go.Proofs.YtmnblljenobofaaDoor.QPlain
namespace Go.Proofs.YtmnblljenobofaaDoor.RPlain
end Go.Proofs.YtmnblljenobofaaDoor.RPlain
namespace Go.Proofs.YtmnblljenobofaaDoor
open Go.RowKit WPlain QPlain RPlain

/-- what is found by graphs explains the events -/
theorem quick_facts {h : List Ev} (hu : errU h = 0) {B : Nat} {x : Nat × Nat × List Nat × Nat} (hx : quickS B (tableS h) = x) (h1 : x.1 = 0) :
    x.2.1 ∈ chL (tableS h) ∧ x.2.1 < 2 ^ (tableS h).length ∧ Expl (tableS h) (2 ^ (tableS h).length - 1) x.2.1 x.2.2.1 := by
  have h6 := table_six (errU_zero hu).1
  obtain ⟨-, -, -, -, k3, -⟩ := quick_tells (B := B) (l := tableS h) (choicesS (tableS h)) 0 (Nat.zero_le _)
  have hq : quickG B (tableS h) (choicesS (tableS h)) 0 = x := hx
  rw [hq] at k3
  obtain ⟨hc, hread, row, hr, hh, hf⟩ := k3 h1
  rw [choices_chL h6] at hc
  refine ⟨hc, (mem_chL.1 hc).1, ?_⟩
  rw [hf]
  exact hit_expl h6 hr hread hh
/-- what holds of a check by graphs with all the budget it may take -/
theorem quick_rest {h : List Ev} (hu : errU h = 0) {x : Nat × Nat × List Nat × Nat} (hx : quickS 46080 (tableS h) = x) :
    (x.1 = 0 ∨ x.1 = 1) ∧ (x.1 ≠ 0 → x.2.1 = 0 ∧ x.2.2.1 = []) ∧ x.2.2.2 ≤ 46080 ∧ x.1 = (searchG 125184 (tableS h) (fun _ => 2 ^ (tableS h).length - 1) (chL (tableS h)) 0).1 := by
  have h0 := (errU_zero hu).1
  have h6 := table_six h0
  obtain ⟨k1, k0, -, k2, -, -⟩ := quick_tells (B := 46080) (l := tableS h) (choicesS (tableS h)) 0 (Nat.zero_le _)
  have hq : quickG 46080 (tableS h) (choicesS (tableS h)) 0 = x := hx
  have hk := quick_known (B := 46080) (l := tableS h) h6 (Nat.le_refl _)
  have hs := quick_same (B := 46080) (B' := 125184) (l := tableS h) h6 (self_table h) (unique_iff.1 (errU_zero hu).2) (Nat.le_refl _) (Nat.le_refl _)
  rw [hx] at hk hs
  rw [hq] at k1 k0 k2
  refine ⟨?_, k2, k0, ?_⟩
  · rcases k1 with k1 | k1 | k1
    · exact .inl k1
    · exact .inr k1
    · exact absurd k1 hk
  · rw [hs]
    unfold searchS
    rw [choices_chL h6]
theorem srchF_ofQ {h : List Ev} {B : Nat} (h0 : srchE h (B : Int) = 0) : srchF h (B : Int) = searchG B (tableS h) (fun _ => 2 ^ (tableS h).length - 1) (chL (tableS h)) 0 := by
  unfold srchF
  rw [if_pos h0, Int.toNat_natCast]
set_option maxRecDepth 100000 in
set_option maxHeartbeats 16000000 in
theorem qsame_walk (a : Option Addr) (n m c : Nat) (h : List Ev) (w : World) (hK : HasK w) (hn : n ≤ c) (HAE : Hid ((min (n : Int) 65).toNat = m)) (hv : Evs w (.slice a m c) h) (h1 : h.length = m) (hm1 : m ≤ 65) :
    Calls Tryd.prog 3 #[.slice a n c] w fun e w' => e = .returned (.bool true) ∧ Below w.heap.size w w' := by
  have HK := Lib.hid hK
  have HV := Lib.hid hv
  have HCK := Lib.hid (checkQ_any (.slice a m c) h ((46080 : Nat) : Int) w hK hv (by omega))
  have HS := Lib.hid (fun (W : World) (hW : Below w.heap.size w W) => searchS_any (.slice a m c) h ((125184 : Nat) : Int) W (hK.later hW (Nat.le_refl _)) (hv.below hW (Nat.le_refl _)) (by omega))
  have HALV := Lib.hid (fun (W : World) (hW : Below w.heap.size w W) => aliveQ_any W (hK.later hW (Nat.le_refl _)))
  clear hK hv
  by_cases h0 : qckE h ((46080 : Nat) : Int) = 0
  · obtain ⟨hu, -, -⟩ := qckE_zero h0
    have hc0 := (errU_zero hu).1
    have h6 := table_six hc0
    have hE : srchE h ((125184 : Nat) : Int) = 0 := by unfold srchE; rw [if_pos hc0, if_neg (by decide)]
    rw [qckF_of h0, h0] at HCK
    simp only [hE, srchF_ofQ hE] at HS
    obtain ⟨x, hx⟩ : ∃ x, quickS 46080 (tableS h) = x := ⟨_, rfl⟩
    obtain ⟨y, hy⟩ : ∃ y, searchG 125184 (tableS h) (fun _ => 2 ^ (tableS h).length - 1) (chL (tableS h)) 0 = y := ⟨_, rfl⟩
    obtain ⟨g1, g2, g3, g4⟩ := quick_rest hu hx
    have HXF := Lib.hid (quick_facts hu hx)
    have HYF := Lib.hid (fun hv => found_facts hy hv)
    rw [hy] at g4
    rw [hx] at HCK
    simp only [hy] at HS
    obtain ⟨xv, C, R, sx⟩ := x
    obtain ⟨yv, D, R2, sy⟩ := y
    simp only at g1 g2 g3 g4 HCK HS HXF HYF
    subst g4
    have HC0 := Lib.hid hc0
    unfold fndV at HCK HS
    clear hx hy h0 hc0 hu hE
    go_enter Tryd.func3, Tryd.ntmps3
    go_upto_region 2 with fail
    rw [HAE.out]
    go_wp2_with fail
    refine HCK.out.mono ?_
    rintro e w1 ⟨rv, rfl, hr1, hb1⟩
    obtain ⟨rb, rc, rfl⟩ := hr1.len
    obtain ⟨rn, hrn⟩ : ∃ z, (nats R).length = z := ⟨_, rfl⟩
    rw [hrn] at hr1 ⊢
    obtain ⟨N7, hN7⟩ : ∃ z, w1.heap.size = z := ⟨_, rfl⟩
    obtain ⟨w2, hw2⟩ : ∃ z, w1.alloc (.cells #[.int .i64 (xv : Int), .int .u32 (C : Int), .slice rb rn rc, .int .i64 (sx : Int)] 26) = z := ⟨_, rfl⟩
    have ha7 : At w2 N7 #[.int .i64 (xv : Int), .int .u32 (C : Int), .slice rb rn rc, .int .i64 (sx : Int)] 26 := by
      rw [← hw2, ← hN7]; exact At.new w1 _ _
    have hb12 : Below w1.heap.size w1 w2 := by rw [← hw2]; exact (Below.refl _ w1).alloc (Nat.le_refl _) _
    have HB2 := Lib.hid (hb1.trans (hb12.mono hb1.size))
    have HA7 := Lib.hid ha7
    have HR2 := Lib.hid (hr1.below hb12 (Nat.le_refl _))
    have HW2 := Lib.hid hw2
    have HRN := Lib.hid hrn
    clear hr1 hb1 ha7 hb12 HCK hw2 hrn
    go_wp2_with fail
    try rw [HW2.out]
    clear HW2
    refine (HS.out w2 HB2.out).mono ?_
    rintro e w3 ⟨rv3, rfl, hr3, -, hb3⟩
    obtain ⟨gb, gc, rfl⟩ := hr3.len
    obtain ⟨gn, hgn⟩ : ∃ z, (nats R2).length = z := ⟨_, rfl⟩
    rw [hgn] at hr3 ⊢
    obtain ⟨N9, hN9⟩ : ∃ z, w3.heap.size = z := ⟨_, rfl⟩
    obtain ⟨w4, hw4⟩ : ∃ z, w3.alloc (.cells #[.int .i64 (xv : Int), .int .u32 (D : Int), .slice gb gn gc, .int .i64 (sy : Int)] 26) = z := ⟨_, rfl⟩
    have ha9 : At w4 N9 #[.int .i64 (xv : Int), .int .u32 (D : Int), .slice gb gn gc, .int .i64 (sy : Int)] 26 := by
      rw [← hw4, ← hN9]; exact At.new w3 _ _
    have hb34 : Below w3.heap.size w3 w4 := by rw [← hw4]; exact (Below.refl _ w3).alloc (Nat.le_refl _) _
    have hb24 := hb3.trans (hb34.mono hb3.size)
    have HB4 := Lib.hid (HB2.out.trans (hb24.mono HB2.out.size))
    have HA74 := Lib.hid (HA7.out.below hb24 HA7.out.lt)
    have HR4 := Lib.hid (HR2.out.below hb24 (Nat.le_refl _))
    have HA9 := Lib.hid ha9
    have HW4 := Lib.hid hw4
    have HGN := Lib.hid hgn
    clear hr3 hb3 ha9 hb34 hb24 hgn hw4 HA7 HR2 HB2 HS
    go_upto_region 6 with fail
    try rw [HW4.out]
    clear HW4
    have q0 : w4.cell? ⟨N7, 0, none⟩ = some (.int .i64 (xv : Int)) := HA74.out.cell rfl
    have q1 : w4.cell? ⟨N7, 1, none⟩ = some (.int .u32 (C : Int)) := HA74.out.cell rfl
    have q2 : w4.cell? ⟨N7, 2, none⟩ = some (.slice rb rn rc) := HA74.out.cell rfl
    have p0 : w4.cell? ⟨N9, 0, none⟩ = some (.int .i64 (xv : Int)) := HA9.out.cell rfl
    have p2 : w4.cell? ⟨N9, 2, none⟩ = some (.slice gb gn gc) := HA9.out.cell rfl
    clear HA9
    rcases g1 with rfl | rfl
    · -- found
      obtain ⟨hCm, hCl, hex⟩ := HXF.out rfl
      obtain ⟨-, -, hex2⟩ := HYF.out rfl
      have hfull := expl_full hex
      have hfull2 := expl_full hex2
      have h64 := pow_le_64 h6
      have hC32 : C < 4294967296 := by omega
      have hlt : ∀ k ∈ R, k < (tableS h).length := fun k hk => ((hex.mem k).1 hk).1
      obtain ⟨el1, el2⟩ := legR_row HC0.out hlt hex.nodup C
      have hleg : legR h (R.map fun x : Nat => (x : Int)) C = R.length := el2.2 (by unfold okL; exact decide_eq_true hex.legal)
      have hth := row_there hlt
      have hep : errP h (R.map fun x : Nat => (x : Int)) = 0 := by unfold errP; rw [if_pos HC0.out, hth, if_pos rfl]
      have hkp : kepS h (R.map fun x : Nat => (x : Int)) = true := by unfold kepS; rw [if_pos hep]; exact expl_keeps hex
      have hR6 : R.length ≤ 6 := by omega
      have HCH := Lib.hid (fun (W : World) (hW : Below w.heap.size w W) => choices_any (.slice a m c) h W (HK.out.later hW (Nat.le_refl _)) (HV.out.below hW (Nat.le_refl _)) (by omega))
      simp only [HC0.out, if_true] at HCH
      have HKE := Lib.hid (fun (W : World) (hW : Below w4.heap.size w4 W) => keeps_any (.slice a m c) (.slice rb rn rc) h (R.map fun x : Nat => (x : Int)) W (HK.out.later (HB4.out.trans (hW.mono HB4.out.size)) (Nat.le_refl _)) (HV.out.below (HB4.out.trans (hW.mono HB4.out.size)) (Nat.le_refl _)) (by omega) (by rw [← nats_intsS]; exact HR4.out.below hW (Nat.le_refl _)) (by rw [List.length_map]; omega))
      have HLE := Lib.hid (fun (W : World) (hW : Below w4.heap.size w4 W) => legal_any (.slice a m c) (.slice rb rn rc) h (R.map fun x : Nat => (x : Int)) C W (HK.out.later (HB4.out.trans (hW.mono HB4.out.size)) (Nat.le_refl _)) (HV.out.below (HB4.out.trans (hW.mono HB4.out.size)) (Nat.le_refl _)) (by omega) (by rw [← nats_intsS]; exact HR4.out.below hW (Nat.le_refl _)) (by rw [List.length_map]; omega) hC32)
      rw [hep, hkp] at HKE
      rw [el1, hleg] at HLE
      have hrnl : rn = R.length := by rw [← HRN.out, nats_len]
      have hgnl : gn = rn := by rw [← HGN.out, nats_len, hrnl, hfull, hfull2]
      subst hgnl
      have HCO : Hid ((chL (tableS h)).contains C = true) := by unfold Hid; rw [List.contains_iff_mem]; exact hCm
      have HCN : Hid ((chL (tableS h)).length ≤ 65536) := by have h1 := choices_count (tableS h); rw [choices_chL h6] at h1; show _ ≤ _; omega
      rw [← hrnl] at HLE
      obtain ⟨cs, hcs⟩ : ∃ cs, chL (tableS h) = cs := ⟨_, rfl⟩
      simp only [hcs] at HCH HCO HCN
      clear hCm hCl hex hex2 hfull hfull2 hlt el1 el2 hleg hth hep hkp hR6 hrnl hcs HXF HYF g2 g3 hC32 h64 h6
      go_wp2_with fail
      refine (HALV.out w4 HB4.out).mono ?_
      rintro e w6 ⟨rfl, hb6⟩
      have HB46 := Lib.hid hb6
      have HB6 := Lib.hid (HB4.out.trans (hb6.mono HB4.out.size))
      have r0 := cell_on HB46.out q0
      have r0' := cell_on HB46.out p0
      clear hb6
      go_wp2_with fail
      refine (HCH.out w6 HB6.out).mono ?_
      rintro e w7 ⟨v7, rfl, hr7, hb7⟩
      obtain ⟨a7, c7, rfl⟩ := hr7.len
      rw [u32s_len] at hr7 ⊢
      have HR7 := Lib.hid hr7
      have HB47 := Lib.hid (HB46.out.trans (hb7.mono HB46.out.size))
      have HB7 := Lib.hid (HB6.out.trans (hb7.mono HB6.out.size))
      have s2 := cell_on HB47.out q2
      clear hr7 hb7 HCH HB46 HB6 r0 r0'
      go_wp2_with fail
      refine (HKE.out w7 HB47.out).mono ?_
      rintro e w8 ⟨rfl, hb8⟩
      have HR8 := Lib.hid (HR7.out.below hb8 (Nat.le_refl _))
      have HB48 := Lib.hid (HB47.out.trans (hb8.mono HB47.out.size))
      have HB8 := Lib.hid (HB7.out.trans (hb8.mono HB7.out.size))
      have t1 := cell_on HB48.out q1
      have t2 := cell_on HB48.out q2
      clear hb8 HKE HB47 HB7 HR7 s2
      go_wp2_with fail
      refine (HLE.out w8 HB48.out).mono ?_
      rintro e w9 ⟨rfl, hb9⟩
      have HR9 := Lib.hid (HR8.out.below hb9 (Nat.le_refl _))
      have HB49 := Lib.hid (HB48.out.trans (hb9.mono HB48.out.size))
      have HB9 := Lib.hid (HB8.out.trans (hb9.mono HB8.out.size))
      have u1 := cell_on HB49.out q1
      have u2 := cell_on HB49.out q2
      have u3 := cell_on HB49.out p2
      have HCT := Lib.hid (containsU32_any _ cs C w9 HR9.out HCN.out)
      rw [HCO.out] at HCT
      clear hb9 HLE HB48 HB8 HR8 t1 t2 HR9 HB49
      go_wp2_with fail
      refine HCT.out.mono ?_
      rintro e w11 ⟨rfl, hw11⟩
      rw [hw11]
      clear hw11
      go_wp2_with fail
      go_ret
      exact ⟨rfl, HB9.out⟩
    · -- none
      obtain ⟨rfl, rfl⟩ := g2 (by decide)
      have hrn0 : rn = 0 := by rw [← HRN.out]; rfl
      subst hrn0
      clear HXF HYF g2 g3 h6
      go_wp2_with fail
      refine (HALV.out w4 HB4.out).mono ?_
      rintro e w6 ⟨rfl, hb6⟩
      have HB6 := Lib.hid (HB4.out.trans (hb6.mono HB4.out.size))
      have r0 := cell_on hb6 q0
      have r2 := cell_on hb6 q2
      clear hb6
      go_wp2_with fail
      go_ret
      exact ⟨rfl, HB6.out⟩
  · rw [qckF_off h0] at HCK
    obtain ⟨er, her⟩ : ∃ er, qckE h ((46080 : Nat) : Int) = er := ⟨_, rfl⟩
    rw [her] at HCK h0
    have te : ((er : Int) != 0) = true := by simp; omega
    unfold fndV at HCK
    clear her h0 HS
    go_enter Tryd.func3, Tryd.ntmps3
    go_upto_region 2 with fail
    rw [HAE.out]
    go_wp2_with fail
    refine HCK.out.mono ?_
    rintro e w1 ⟨rv, rfl, hr1, hb1⟩
    obtain ⟨rb, rc, rfl⟩ := hr1.len
    have hnl : (nats []).length = 0 := rfl
    rw [hnl]
    obtain ⟨N7, hN7⟩ : ∃ z, w1.heap.size = z := ⟨_, rfl⟩
    obtain ⟨w2, hw2⟩ : ∃ z, w1.alloc (.cells #[.int .i64 0, .int .u32 0, .slice rb 0 rc, .int .i64 0] 26) = z := ⟨_, rfl⟩
    have ha7 : At w2 N7 #[.int .i64 0, .int .u32 0, .slice rb 0 rc, .int .i64 0] 26 := by
      rw [← hw2, ← hN7]; exact At.new w1 _ _
    have hb12 : Below w1.heap.size w1 w2 := by rw [← hw2]; exact (Below.refl _ w1).alloc (Nat.le_refl _) _
    have HB2 := Lib.hid (hb1.trans (hb12.mono hb1.size))
    have q3 : w2.cell? ⟨N7, 3, none⟩ = some (.int .i64 0) := ha7.cell rfl
    have HW2 := Lib.hid hw2
    clear hr1 hb1 ha7 hb12 HCK hw2
    go_wp2_with fail
    try rw [HW2.out]
    clear HW2
    refine (HALV.out w2 HB2.out).mono ?_
    rintro e w3 ⟨rfl, hb3⟩
    have HB3 := Lib.hid (HB2.out.trans (hb3.mono HB2.out.size))
    have r3 := cell_on hb3 q3
    clear hb3 q3
    go_wp2_with fail
    go_ret
    exact ⟨rfl, HB3.out⟩
theorem qsame_any (a : Option Addr) (n c : Nat) (h : List Ev) (w : World) (hK : HasK w) (hn : n ≤ c) (hv : Evs w (.slice a (min (n : Int) 65).toNat c) h) :
    Calls Tryd.prog 3 #[.slice a n c] w fun e w' => e = .returned (.bool true) ∧ Below w.heap.size w w' := by
  obtain ⟨m, hm⟩ : ∃ m, (min (n : Int) 65).toNat = m := ⟨_, rfl⟩
  rw [hm] at hv
  exact qsame_walk a n m c h w hK hn hm hv hv.length.symm (by omega)
end Go.Proofs.YtmnblljenobofaaDoor
