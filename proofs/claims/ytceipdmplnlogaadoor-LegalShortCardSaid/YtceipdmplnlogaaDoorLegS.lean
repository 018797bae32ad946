/- The walk of LegalShort. -/
import Derived.Test.YtceipdmplnlogaaDoorLegR
import Derived.Deep.RegionHeldLaw
import Derived.Deep.Cut
import Derived.Deep.DeepCutAuto
import Derived.BigQuiet
import Derived.Carry
namespace Go.Proofs.YtceipdmplnlogaaDoor.WPlain
end Go.Proofs.YtceipdmplnlogaaDoor.WPlain
namespace Go.Proofs.YtceipdmplnlogaaDoor.QPlain
end Go.Proofs.YtceipdmplnlogaaDoor.QPlain
namespace Go.Proofs.YtceipdmplnlogaaDoor.RPlain
end Go.Proofs.YtceipdmplnlogaaDoor.RPlain
namespace Go.Proofs.YtceipdmplnlogaaDoor
open Go.RowKit WPlain QPlain RPlain

set_option maxRecDepth 100000 in
set_option maxHeartbeats 4000000 in
theorem lshort_none (a : Option Addr) (n m c : Nat) (h : List Ev) (ra : Option Addr) (rn q rc : Nat) (row : List Int) (x : Nat) (k : Int) (w : World) (hK : HasK w) (hn : n ≤ c) (hrc : rn ≤ rc) (HAE : Hid (min (n : Int) 65 = (m : Int))) (HRE : Hid (min (rn : Int) 12 = (q : Int)))
    (hmn : m ≤ n) (hqn : q ≤ rn) (hv : Evs w (.slice a m c) h) (hr : Rd w (.slice ra q rc) (ints row)) (h1 : h.length = m) (hq1 : row.length = q) (hm1 : m ≤ 65) (hq2 : q ≤ 12) (hx : x < 4294967296) (hy : ¬ errL h row = 0) :
    Calls Tryd.prog 5 #[.slice a n c, .slice ra rn rc, .int .u32 (x : Int), .int .i64 k] w fun e w' => e = .returned (.bool true) ∧ Below w.heap.size w w' := by
  have HK := Lib.hid hK
  have HLG := Lib.hid (fun (W : World) (hW : Below w.heap.size w W) => legal_any _ _ h row x W (hK.later hW (Nat.le_refl _)) (hv.below hW (Nat.le_refl _)) (by omega) (hr.below hW (Nat.le_refl _)) (by omega) hx)
  rw [legR_bad x hy] at HLG
  have e1 : (max (min (n : Int) 65) 0) = (m : Int) := by have := HAE.out; omega
  have e2 : (max (min (rn : Int) 12) 0) = (q : Int) := by have := HRE.out; omega
  have e3 := HAE.out
  have e4 := HRE.out
  have te : ((errL h row : Int) != 0) = true := by simp; omega
  have hb0 := (Below.refl w.heap.size w).alloc (Nat.le_refl _) (.cells #[.int .u32 (x : Int)] 24)
  have ha0 := At.new w #[.int .u32 (x : Int)] 24
  have HB0 : Hid (Below w.heap.size w (w.alloc (.cells #[.int .u32 (x : Int)] 24)).drew) := hb0.drew
  have HA0 : Hid (At (w.alloc (.cells #[.int .u32 (x : Int)] 24)).drew w.heap.size #[.int .u32 (x : Int)] 24) := ha0.drew
  clear hK hv hr hb0 ha0 hy
  generalize errL h row = er at *
  go_enter Tryd.func5, Tryd.ntmps5
  go_wp2_with fail
  go_region
  clear e1 e2 e3 e4
  generalize (w.alloc (.cells #[.int .u32 (x : Int)] 24)).drew = w1 at *
  have c0 := HA0.out.cell (i := 0) (v := .int .u32 (x : Int)) rfl
  go_wp2_with fail
  refine (HLG.out _ HB0.out).mono ?_
  rintro e w2 ⟨rfl, hb2⟩
  have HB2 := Lib.hid (HB0.out.trans (hb2.mono HB0.out.size))
  clear hb2 HB0 HLG c0 HA0
  go_wp2_with fail
  refine (aliveG_any _ (HK.out.later HB2.out (Nat.le_refl _))).mono ?_
  rintro e w3 ⟨rfl, hb3⟩
  have HB3 := Lib.hid (HB2.out.trans (hb3.mono HB2.out.size))
  go_wp2
  go_ret
  exact ⟨rfl, HB3.out⟩
set_option maxRecDepth 100000 in
set_option maxHeartbeats 8000000 in
theorem lshort_walk (a : Option Addr) (n m c : Nat) (h : List Ev) (ra : Option Addr) (rn q rc : Nat) (row : List Int) (x : Nat) (k : Int) (K : Nat) (w : World) (hK : HasK w) (hn : n ≤ c) (hrc : rn ≤ rc) (HAE : Hid (min (n : Int) 65 = (m : Int))) (HRE : Hid (min (rn : Int) 12 = (q : Int)))
    (hmn : m ≤ n) (hqn : q ≤ rn) (hv : Evs w (.slice a m c) h) (hr : Rd w (.slice ra q rc) (ints row)) (h1 : h.length = m) (hq1 : row.length = q) (hm1 : m ≤ 65) (hq2 : q ≤ 12) (hx : x < 4294967296) (hy : errL h row = 0)
    (HKE : Hid ((wrap64 (wrap64 (k.tmod ((q : Int) + 1) + (q : Int)) + 1)).tmod ((q : Int) + 1) = (K : Int))) (hKq : K ≤ q) :
    Calls Tryd.prog 5 #[.slice a n c, .slice ra rn rc, .int .u32 (x : Int), .int .i64 k] w fun e w' => e = .returned (.bool true) ∧ Below w.heap.size w w' := by
  have HK := Lib.hid hK
  have HLG := Lib.hid (fun (W : World) (hW : Below w.heap.size w W) => legal_any _ _ h row x W (hK.later hW (Nat.le_refl _)) (hv.below hW (Nat.le_refl _)) (by omega) (hr.below hW (Nat.le_refl _)) (by omega) hx)
  have HMY := Lib.hid (fun (W : World) (hW : Below w.heap.size w W) => memory_any _ _ h row x W (hK.later hW (Nat.le_refl _)) (hv.below hW (Nat.le_refl _)) (by omega) (hr.below hW (Nat.le_refl _)) (by omega) hx)
  obtain ⟨hyk, hlk⟩ := legR_take hy x K
  obtain ⟨hyf, hmf⟩ := memR_filter hy x
  have hcut : ∀ W, Below w.heap.size w W → Rd W (.slice ra K rc) (ints (row.take K)) := fun W hW => by
    have h2 := (hr.below hW (Nat.le_refl _)).cut K hKq
    simpa [ints, List.map_take] using h2
  have HLK := Lib.hid (fun (W : World) (hW : Below w.heap.size w W) => legal_any _ _ h (row.take K) x W (hK.later hW (Nat.le_refl _)) (hv.below hW (Nat.le_refl _)) (by omega) (hcut W hW) (by rw [List.length_take]; omega) hx)
  have HMF := Lib.hid (fun (v : Value) (W : World) (hW : Below w.heap.size w W) (hs : Rd W v (ints (row.filter (keepB x)))) => memory_any _ v h (row.filter (keepB x)) x W (hK.later hW (Nat.le_refl _)) (hv.below hW (Nat.le_refl _)) (by omega) hs (Nat.le_trans (List.length_filter_le _ _) (by omega)) hx)
  have HTB := Lib.hid (fun (W : World) (hW : Below w.heap.size w W) => refTable_any _ h W (hv.below hW (Nat.le_refl _)) (by omega) (fun a' n' c' he => by simp at he; omega))
  have HRD := Lib.hid (fun (W : World) (hW : Below w.heap.size w W) => hr.below hW (Nat.le_refl _))
  have HCL := Lib.hid (fun (W : World) (hW : Below w.heap.size w W) => cloneI_any ra q rc row W (hr.below hW (Nat.le_refl _)) (by omega))
  rw [hy] at HLG HMY
  rw [hyk, hlk] at HLK
  rw [hyf, hmf] at HMF
  simp only [if_true] at HMY HMF
  obtain ⟨rl, hrow, hrl, hnd, h66⟩ := errL_nil hy
  obtain ⟨hc0, -, -⟩ := errL_zero hy
  have h6 := table_six hc0
  have hpr : ∀ t ∈ row, 0 ≤ t ∧ t < 32 := by
    intro t ht
    rw [hrow] at ht
    obtain ⟨b, hb, rfl⟩ := List.mem_map.1 ht
    have := hrl b hb
    omega
  have HDL := Lib.hid (fun (B N : Nat) (v : Value) (W : World) (hw : W.ownsRow B 3 1 v row.length (ints row)) (hN : N < B) (hB : B ≤ W.heap.size) (hc : W.cell? ⟨N, 0, none⟩ = some (.int .u32 (x : Int))) => delete_ints B N v row x W hw (by omega) hpr hx hN hB hc)
  have hln := legR_le h row x
  have hll : rl.length = q := by rw [← hq1, hrow, List.length_map]
  have HSM : Hid (∀ i (hi : i < rl.length), i < legR h row x → ∀ hlt : rl[i] < (tableS h).length, sameR (fun _ => none) (fun _ => false) (tableS h)[rl[i]].o = true) := fun i hi hin hlt => by
    have h3 := hy
    rw [hrow] at h3 hin
    exact legR_same h3 hin hi hlt
  have HRC : Hid (∀ i (hi : i < rl.length), (ints row)[i]? = some (.int .i64 (rl[i] : Int))) := fun i hi => by rw [hrow]; exact ints_castL rl i hi
  have HRL : Hid (∀ i (hi : i < rl.length), rl[i] < (tableS h).length) := fun i hi => hrl _ (List.getElem_mem hi)
  have HSO := Lib.hid (table_small_ops hc0)
  have HOL : Hid (∀ i (hi : i < (tableS h).length), (tableS h)[i].o.length ≤ 60) := fun i hi => (table_ops hc0 _ (List.getElem_mem hi)).2
  have e1 : (max (min (n : Int) 65) 0) = (m : Int) := by have := HAE.out; omega
  have e2 : (max (min (rn : Int) 12) 0) = (q : Int) := by have := HRE.out; omega
  have e3 := HAE.out
  have e4 := HRE.out
  have s1 : IntKind.i64.wrap ((q : Int) + 1) = ((q + 1 : Nat) : Int) := by rw [IntWalk.i64_in _ (by omega)]; omega
  have hm0 : ((q : Int) + 1 == 0) = false := by simp; omega
  have hm2 : (((q + 1 : Nat) : Int) == 0) = false := by simp; omega
  have hm3 : ¬ (((q + 1 : Nat) : Int) = 0) := by omega
  have hb0 := (Below.refl w.heap.size w).alloc (Nat.le_refl _) (.cells #[.int .u32 (x : Int)] 24)
  have ha0 := At.new w #[.int .u32 (x : Int)] 24
  have HB0 : Hid (Below w.heap.size w (w.alloc (.cells #[.int .u32 (x : Int)] 24)).drew) := hb0.drew
  have HA0 : Hid (At (w.alloc (.cells #[.int .u32 (x : Int)] 24)).drew w.heap.size #[.int .u32 (x : Int)] 24) := ha0.drew
  clear hK hv hr hb0 ha0 hyk hlk hyf hmf hcut hrow hnd hy hc0 hrl hpr
  have HVL : Hid ((mem8 (memR h row x)).length = 8) := rfl
  generalize mem8 (memR h row x) = V at *
  generalize tableS h = l at *
  generalize legR h row x = N1 at *
  go_enter Tryd.func5, Tryd.ntmps5
  go_wp2_with fail
  go_region
  clear e1 e2 e3 e4
  generalize (w.alloc (.cells #[.int .u32 (x : Int)] 24)).drew = w1 at *
  have c0 := HA0.out.cell (i := 0) (v := .int .u32 (x : Int)) rfl
  go_wp2_with fail
  refine (HLG.out _ HB0.out).mono ?_
  rintro e w2 ⟨rfl, hb2⟩
  have HB2 := Lib.hid (HB0.out.trans (hb2.mono HB0.out.size))
  have HA2 := Lib.hid (HA0.out.below hb2 HA0.out.lt)
  clear hb2 HB0 HLG c0 HA0
  go_upto_region 6 with fail
  rw [HKE.out]
  clear HKE hm0 hm2 hm3 s1
  have hkc : (K : Int) ≤ (rc : Int) := by omega
  have c0 := HA2.out.cell (i := 0) (v := .int .u32 (x : Int)) rfl
  have hNl := HA2.out.lt
  have HSC : Hid (∀ W, Below w2.heap.size w2 W → W.cell? ⟨w.heap.size, 0, none⟩ = some (.int .u32 (x : Int))) := fun W hW => (HA2.out.below hW hNl).cell (i := 0) rfl
  have HWB : Hid (∀ W, Below w2.heap.size w2 W → Below w.heap.size w W) := fun W hW => HB2.out.trans (hW.mono HB2.out.size)
  clear c0 HA2 HB2
  first
  | go_must (go_region_held_law (fun w' => w'.cell? ⟨w.heap.size, 0, none⟩ = some (.int .u32 (x : Int)))
      (first | exact HSC.out _ hb5 | exact HSC.out _ (below_drP _))
      (first
        | (go_at_call 7; refine (HLK.out _ (HWB.out _ (below_drP _))).mono ?_; rintro e w5 ⟨rfl, hb⟩; have hb5 := below_stpP hb)))
  | fail
  have HW5 : Hid (Below w2.heap.size w2 w5) := hb5
  clear hb5 hb HLK hkc
  have c5 := HSC.out _ HW5.out
  go_wp2_with fail
  refine (HMY.out _ (HWB.out _ HW5.out)).mono ?_
  rintro e w6 ⟨v6, rfl, hv6, hb6⟩
  have HB6 := Lib.hid (HWB.out _ (HW5.out.trans (hb6.mono HW5.out.size)))
  have HS6 := Lib.hid (HW5.out.trans (hb6.mono HW5.out.size))
  have c6 := HSC.out _ HS6.out
  have HNL : Hid (w.heap.size < w6.heap.size) := cell_lt c6
  have HSC8 : Hid (∀ W, Below w6.heap.size w6 W → W.cell? ⟨w.heap.size, 0, none⟩ = some (.int .u32 (x : Int))) := fun W hW => (hW.cell (p := ⟨w.heap.size, 0, none⟩) HNL.out).trans c6
  have HWB8 : Hid (∀ W, Below w6.heap.size w6 W → Below w.heap.size w W) := fun W hW => HB6.out.trans (hW.mono HB6.out.size)
  have HV6 := Lib.hid hv6
  obtain ⟨a6, c6', rfl⟩ := hv6.len
  clear hb6 hv6 HMY HS6 HW5 HSC HWB c5 c6
  have c6 := HSC8.out _ (Below.refl _ _)
  have HVL2 : Hid ((ints V).length = 8) := by unfold Hid; rw [ints_len]; exact HVL.out
  rw [HVL2.out] at HV6 ⊢
  go_upto_region 8 with fail
  clear c6
  go_cut [15, 16] from 79 to 88 (fun y e wx => ∃ a9 c9, y = .slice a9 8 c9 ∧ e = .int .i64 0 ∧ Hid (Rd wx (.slice a9 8 c9) (ints V)) ∧ Hid (Below w6.heap.size w6 wx))
  case first =>
    first
    | go_must (go_region_held_law (fun w' => w'.cell? ⟨w.heap.size, 0, none⟩ = some (.int .u32 (x : Int)))
        (first | exact HSC8.out _ hb9 | exact HSC8.out _ hb8 | exact HSC8.out _ hb7 | exact HSC8.out _ (below_drP _))
        (first
          | (go_at_call 21; refine (HCL.out _ (HWB8.out _ (below_drP _))).mono ?_; rintro e w7 ⟨v7, rfl, hr7, hb⟩; have hb7 := below_stpP hb)
          | (go_at_call 20; refine (HDL.out w6.heap.size w.heap.size v7 _ hr7 HNL.out hb7.size (HSC8.out _ hb7)).mono ?_; rintro e w8 ⟨v8, rfl, hv8, hb⟩; have hb8 := hb7.trans hb)
          | (go_at_call 8; refine (HMF.out v8 _ (HWB8.out _ hb8) hv8).mono ?_; rintro e w9 ⟨v9, rfl, hv9, hb⟩; have hb9 := hb8.trans (hb.mono hb8.size))))
    | fail
    all_goals
      have HV9 := Lib.hid hv9
      have HW9 := Lib.hid hb9
      obtain ⟨a9, c9, rfl⟩ := hv9.len
      rw [HVL2.out] at HV9 ⊢
      clear hb7 hb8 hb9 hr7 hv8 hv9
      go_wp2_with fail
      go_meet
      case rel => exact ⟨_, _, rfl, rfl, HV9, HW9⟩
  case rest =>
  obtain ⟨a9, c9, rfl, rfl, HV9, HW9⟩ := hcut
  have HB9 := Lib.hid (HWB8.out _ HW9.out)
  have HIS := Lib.hid (ints_same V _ _ wc (by have := HVL.out; omega) (HV6.out.below HW9.out (Nat.le_refl _)) HV9.out)
  clear HV6 HV9 HSC8 HWB8 HCL HDL HMF HNL HB6 HW9
  generalize wc = w9 at *
  have hnq : N1 ≤ q := by omega
  obtain ⟨Z, hZ⟩ : ∃ Z : Nat, min N1 K = Z := ⟨_, rfl⟩
  rw [hZ]
  have hmz : min (N1 : Int) (K : Int) = (Z : Int) := by omega
  have hnq2 : ¬ ((q : Int) < (N1 : Int)) := by omega
  clear hZ
  go_wp2_with fail
  refine HIS.out.mono ?_
  rintro e w10 ⟨rfl, z, rfl⟩
  have HB10 := Lib.hid (below_drN HB9.out z)
  clear HIS HB9
  generalize w9.drewN z = w10 at *
  go_wp2_with fail
  refine (aliveG_any _ (HK.out.later HB10.out (Nat.le_refl _))).mono ?_
  rintro e w11 ⟨rfl, hb11⟩
  have HB11 := Lib.hid (HB10.out.trans (hb11.mono HB10.out.size))
  clear hb11 HB10
  go_wp2_with fail
  refine (HTB.out _ HB11.out).mono ?_
  rintro e w12 ⟨v12, rfl, hv12, hb12⟩
  have HB12 := Lib.hid (HB11.out.trans (hb12.mono HB11.out.size))
  have HT12 := Lib.hid hv12
  obtain ⟨ta, tc, rfl⟩ := hv12.len
  clear hb12 HB11 hv12 HTB
  have hnrc : (N1 : Int) ≤ (rc : Int) := by omega
  go_wp2_with fail
  go_loopw [133] (fun u wr => ∃ i : Nat, i ≤ N1 ∧ u = .int .i64 i ∧ Hid (Below w12.heap.size w12 wr)) (fun u _ => N1 - (intOf u).toNat)
  case atStart => exact ⟨0, by omega, rfl, Below.refl _ _⟩
  case round =>
    clear hmz hnq2
    obtain ⟨i, hi, rfl, HB⟩ := hrel
    by_cases hlt : i < N1
    · have hil : i < rl.length := by omega
      obtain ⟨b, o, c', he, hbl, hcs⟩ := (HRD.out _ (HB12.out.trans (HB.out.mono HB12.out.size))).opened (by rw [ints_len]; omega)
      simp only [Value.slice.injEq] at he
      obtain ⟨rfl, -, rfl⟩ := he
      have hck := hcs i _ (HRC.out i hil)
      have hpl := HRL.out i hil
      have HSM2 := Lib.hid (HSM.out i hil hlt hpl)
      have hT := HT12.out.below HB.out (Nat.le_refl _)
      obtain ⟨b2, o2, c2, he2⟩ := hT.opened (by omega)
      simp only [Value.slice.injEq] at he2
      obtain ⟨rfl, -, rfl⟩ := he2
      obtain ⟨ov, x0, x1, x2, x3, x4, qo⟩ := hT.get rl[i] hpl
      obtain ⟨ua, uc, rfl, -⟩ := qo.len
      have HSO2 := Lib.hid (HSO.out _ hpl)
      have hol := HOL.out _ hpl
      clear hcs x0 x1 x2 x3 hT
      generalize l[rl[i]].o = ops at *
      generalize rl[i] = T at *
      have HB13 := Lib.hid HB.out
      have HQO := Lib.hid qo
      clear qo HB
      obtain ⟨w13, hw13⟩ : ∃ w13 : World, w13 = wr := ⟨wr, rfl⟩
      subst hw13
      have hbm := (Below.refl w13.heap.size w13).alloc (Nat.le_refl _) (.map #[] 0)
      have hbm2 := hbm.alloc hbm.size (.map #[] 0)
      have hb1 := (Below.refl (w13.alloc (.map #[] 0)).heap.size (w13.alloc (.map #[] 0))).alloc (Nat.le_refl _) (.map #[] 0)
      have hbs := BMap.start (w13.alloc (.map #[] 0))
      rw [show (w13.alloc (.map #[] 0)).heap.size = w13.heap.size + 1 from by simp] at hbs
      have HMS : Hid (∃ (S : Int → Option Int) (W : Int → Bool) (k1 k2 : Nat), k1 ≤ 0 ∧ k2 ≤ 0 ∧ IMap ((w13.alloc (.map #[] 0)).alloc (.map #[] 0)) w13.heap.size k1 S ∧ BMap ((w13.alloc (.map #[] 0)).alloc (.map #[] 0)) (w13.heap.size + 1) k2 W ∧ sameR S W (ops.drop 0) = true) := ⟨_, _, 0, 0, Nat.le_refl _, Nat.le_refl _, (IMap.start w13).below hb1, hbs, HSM2.out⟩
      have HBM := Lib.hid hbm2
      have x4' := (hbm2.cell (p := ⟨b2, o2 + T * 5 + 4, none⟩) (cell_lt x4)).trans x4
      clear hbm hbm2 hb1 hbs HSM2
      have hmm := @run_makeMap Tryd.prog
      go_wp2_with fail
      clear hmm
      go_loopw [145] (fun u wr => ∃ j : Nat, j ≤ ops.length ∧ u = .int .i64 j ∧ Hid (∃ (S : Int → Option Int) (W : Int → Bool) (k1 k2 : Nat), k1 ≤ j ∧ k2 ≤ j ∧ IMap wr w13.heap.size k1 S ∧ BMap wr (w13.heap.size + 1) k2 W ∧ sameR S W (ops.drop j) = true) ∧ Hid (Below w13.heap.size w13 wr)) (fun u _ => ops.length - (intOf u).toNat)
      case atStart => exact ⟨0, by omega, rfl, HMS, HBM⟩
      case round =>
        clear HMS HBM x4' x4 hck hbl
        obtain ⟨j, hj, rfl, HM, HB⟩ := hrel
        by_cases hjl : j < ops.length
        · obtain ⟨S, W, k1, k2, hk1, hk2, hM1, hM2, hsm⟩ := HM.out
          obtain ⟨b3, o3, rfl, hbl3, c0, c1, c2'⟩ := Opv.at (HQO.out.below HB.out (Nat.le_refl _)) j hjl
          obtain ⟨⟨hv0, hv1⟩, hx0, hx1⟩ := HSO2.out _ (List.getElem_mem hjl)
          rw [List.drop_eq_getElem_cons hjl, sameR] at hsm
          generalize ops[j] = O at *
          obtain ⟨ow, ov, ox⟩ := O
          dsimp only at *
          have hwf := wf64 hv0 hv1
          have hba := (Below.refl wr.heap.size wr).alloc (Nat.le_refl _) (.cells #[.bool ow, .int .i64 ov, .int .i64 ox] 47)
          have HB14 := Lib.hid (HB.out.alloc HB.out.size (.cells #[.bool ow, .int .i64 ov, .int .i64 ox] 47))
          have hM14 := hM1.below hba
          have hW14 := hM2.below hba
          have HE14 := Lib.hid (At.new wr #[.bool ow, .int .i64 ov, .int .i64 ox] 47)
          clear hba hM1 hM2 HM
          cases ow with
          | true =>
            rw [if_pos rfl] at hsm
            obtain ⟨w15, hr15, hm15, hg15⟩ := hW14.set hwf (by omega)
            have HM15 : Hid (∃ (S : Int → Option Int) (W : Int → Bool) (k1 k2 : Nat), k1 ≤ j + 1 ∧ k2 ≤ j + 1 ∧ IMap w15 w13.heap.size k1 S ∧ BMap w15 (w13.heap.size + 1) k2 W ∧ sameR S W (ops.drop (j + 1)) = true) := ⟨_, _, k1, k2 + 1, by omega, by omega, hM14.kept hg15 (by simp), hm15, hsm⟩
            have HB15 := Lib.hid (HB14.out.grown hg15 HB14.out.size (fun kb hkb => by simp at hkb; omega))
            clear hsm hm15 hg15 hM14 hW14 HE14
            go_wp2
            go_roundw
            case rel => exact ⟨j + 1, by omega, by go_num, HM15, HB15⟩
            case measure => simp [intOf]; omega
          | false =>
            rw [if_neg (by decide), Bool.and_eq_true] at hsm
            obtain ⟨w15, hr15, hm15, hg15⟩ := hM14.set hwf ox (by omega)
            have HM15 : Hid (∃ (S : Int → Option Int) (W : Int → Bool) (k1 k2 : Nat), k1 ≤ j + 1 ∧ k2 ≤ j + 1 ∧ IMap w15 w13.heap.size k1 S ∧ BMap w15 (w13.heap.size + 1) k2 W ∧ sameR S W (ops.drop (j + 1)) = true) := ⟨_, _, k1 + 1, k2, by omega, by omega, hm15, hW14.kept hg15 (by simp), hsm.2⟩
            have HB15 := Lib.hid (HB14.out.grown hg15 HB14.out.size (fun kb hkb => by simp at hkb; omega))
            have hlk := hM14.look hwf
            have hlw := hW14.look hwf
            have hs1 := hsm.1
            clear hsm hm15 hg15 hM14 hW14 HE14
            cases hS : S ov with
            | none =>
              rw [hS] at hlk
              clear hs1
              go_wp2
              go_roundw
              case rel => exact ⟨j + 1, by omega, by go_num, HM15, HB15⟩
              case measure => simp [intOf]; omega
            | some y =>
              rw [hS] at hlk hs1
              cases hW : W ov with
              | true =>
                rw [hW] at hlw
                clear hs1
                go_wp2
                go_roundw
                case rel => exact ⟨j + 1, by omega, by go_num, HM15, HB15⟩
                case measure => simp [intOf]; omega
              | false =>
                rw [hW] at hlw hs1
                have hyx : y = ox := by simpa using hs1
                subst hyx
                clear hs1
                go_wp2
                go_roundw
                case rel => exact ⟨j + 1, by omega, by go_num, HM15, HB15⟩
                case measure => simp [intOf]; omega
        · obtain rfl : j = ops.length := by omega
          go_wp2
          go_roundw
          case rel => exact ⟨i + 1, by omega, by go_num, HB13.out.trans (HB.out.mono HB13.out.size)⟩
          case measure => simp [intOf]; omega
    · obtain rfl : i = N1 := by omega
      go_wp2
      go_ret
      exact ⟨rfl, HB12.out.trans (HB.out.mono HB12.out.size)⟩
theorem lshort_any (a : Option Addr) (n c : Nat) (h : List Ev) (ra : Option Addr) (rn rc : Nat) (row : List Int) (x k : Int) (w : World) (hK : HasK w) (hn : n ≤ c) (hrc : rn ≤ rc) (hv : Evs w (.slice a (min (n : Int) 65).toNat c) h) (hr : Rd w (.slice ra (min (rn : Int) 12).toNat rc) (ints row)) (hx : (Lit.int .u32 x).wf = true) :
    Calls Tryd.prog 5 #[.slice a n c, .slice ra rn rc, .int .u32 x, .int .i64 k] w fun e w' => e = .returned (.bool true) ∧ Below w.heap.size w w' := by
  obtain ⟨m, hm⟩ : ∃ m : Nat, min (n : Int) 65 = (m : Int) := ⟨(min (n : Int) 65).toNat, by omega⟩
  obtain ⟨q, hq⟩ : ∃ q : Nat, min (rn : Int) 12 = (q : Int) := ⟨(min (rn : Int) 12).toNat, by omega⟩
  rw [hm, Int.toNat_natCast] at hv
  rw [hq, Int.toNat_natCast] at hr
  have hx2 : 0 ≤ x ∧ x < 4294967296 := by
    have h1 : (decide ((0 : Int) ≤ x) && decide (x ≤ 4294967295)) = true := hx
    rw [Bool.and_eq_true, decide_eq_true_eq, decide_eq_true_eq] at h1
    omega
  obtain ⟨y, rfl⟩ : ∃ y : Nat, x = (y : Int) := ⟨x.toNat, by omega⟩
  have hrl : row.length = q := by
    obtain ⟨_, _, he⟩ := hr.len
    simp only [Value.slice.injEq, ints_len] at he
    exact he.2.1.symm
  by_cases h0 : errL h row = 0
  · have hp1 : k.tmod ((q : Int) + 1) < (q : Int) + 1 := Int.tmod_lt_of_pos _ (by omega)
    have hp2 : -((q : Int) + 1) < k.tmod ((q : Int) + 1) := Int.lt_tmod_of_pos _ (by omega)
    obtain ⟨K, hK1, hK2⟩ : ∃ K : Nat, (wrap64 (wrap64 (k.tmod ((q : Int) + 1) + (q : Int)) + 1)).tmod ((q : Int) + 1) = (K : Int) ∧ K ≤ q := by
      generalize k.tmod ((q : Int) + 1) = p at *
      rw [IntWalk.wrap64_in (p + q) (by omega), IntWalk.wrap64_in (p + q + 1) (by omega)]
      obtain ⟨t, ht⟩ : ∃ t : Nat, p + q + 1 = (t : Int) := ⟨(p + q + 1).toNat, by omega⟩
      refine ⟨t % (q + 1), ?_, ?_⟩
      · rw [ht]
        exact (Int.ofNat_tmod t (q + 1)).symm
      · have := Nat.mod_lt t (show 0 < q + 1 by omega)
        omega
    exact lshort_walk a n m c h ra rn q rc row y k K w hK hn hrc hm hq (by omega) (by omega) hv hr hv.length.symm hrl (by omega) (by omega) (by omega) h0 hK1 hK2
  · exact lshort_none a n m c h ra rn q rc row y k w hK hn hrc hm hq (by omega) (by omega) hv hr hv.length.symm hrl (by omega) (by omega) (by omega) h0
end Go.Proofs.YtceipdmplnlogaaDoor
