/- The walk of GraphMore. -/
import Derived.Test.YtegpelpnbkdgcaaDoorMg28
import Derived.Test.YtegpelpnbkdgcaaDoorMg24
namespace Go.Proofs.YtegpelpnbkdgcaaDoor.WPlain
end Go.Proofs.YtegpelpnbkdgcaaDoor.WPlain
namespace Go.Proofs.YtegpelpnbkdgcaaDoor.QPlain
end Go.Proofs.YtegpelpnbkdgcaaDoor.QPlain
namespace Go.Proofs.YtegpelpnbkdgcaaDoor.RPlain
end Go.Proofs.YtegpelpnbkdgcaaDoor.RPlain
namespace Go.Proofs.YtegpelpnbkdgcaaDoor
open Go.RowKit WPlain QPlain RPlain

set_option maxRecDepth 100000 in
set_option maxHeartbeats 8000000 in
theorem gmore_walk (a : Option Addr) (n m c : Nat) (h : List Ev) (x y : Nat) (ra : Option Addr) (rl q rc : Nat) (row : List Int) (w : World) (hK : HasK w) (hn : n ≤ c) (hrc : rl ≤ rc) (HAE : Hid (min (n : Int) 65 = (m : Int))) (HRE : Hid (min (rl : Int) 12 = (q : Int)))
    (hmn : m ≤ n) (hqn : q ≤ rl) (hv : Evs w (.slice a m c) h) (hr : Rd w (.slice ra q rc) (ints row)) (h1 : h.length = m) (hq1 : row.length = q) (hm1 : m ≤ 65) (hq2 : q ≤ 12) (hx : x < 4294967296) (hy : y < 4294967296) :
    Calls Tryd.prog 5 #[.slice a n c, .int .u32 (x : Int), .int .u32 (y : Int), .slice ra rl rc] w fun e w' => e = .returned (.bool true) ∧ Below w.heap.size w w' := by
  have hxy : x ||| y < 4294967296 := Nat.or_lt_two_pow (n := 32) hx hy
  have hor := u32_or_nat x y hx hy
  have HBA := Lib.hid (fun (W : World) (hW : Below w.heap.size w W) => buildG_any _ _ h x row hx W (hK.later hW (Nat.le_refl _)) (hv.below hW (Nat.le_refl _)) (by omega) (hr.below hW (Nat.le_refl _)) (by omega))
  have HBB := Lib.hid (fun (W : World) (hW : Below w.heap.size w W) => buildG_any _ _ h (x ||| y) row hxy W (hK.later hW (Nat.le_refl _)) (hv.below hW (Nat.le_refl _)) (by omega) (hr.below hW (Nat.le_refl _)) (by omega))
  have HAL := Lib.hid (fun (W : World) (hW : Below w.heap.size w W) => aliveGr_any W (hK.later hW (Nat.le_refl _)))
  have e1 : (max (min (n : Int) 65) 0) = (m : Int) := by have := HAE.out; omega
  have e2 : (max (min (rl : Int) 12) 0) = (q : Int) := by have := HRE.out; omega
  have e3 := HAE.out
  have e4 := HRE.out
  have hqr : q ≤ rc := by omega
  clear hK hv hr
  by_cases hA : errB h x row = 0
  · by_cases hB : errB h (x ||| y) row = 0
    · obtain ⟨hg, hwh, -⟩ := errB_zero hA
      have hl6 := (fine_table (errU_zero (errG_zero hg).1).1).six
      obtain ⟨rn, hrow, hw⟩ := whole_iff.1 hwh
      have hka := bld_ok (h := h) (cm := x) (rn := rn) (by rw [← hrow]; exact hA)
      have hkb := bld_ok (h := h) (cm := x ||| y) (rn := rn) (by rw [← hrow]; exact hB)
      rw [← hrow] at hka hkb
      rw [hka, hA] at HBA
      rw [hkb, hB] at HBB
      have hlq : (tableS h).length = q := by rw [← wholeR_len hw, ← hq1, hrow, List.length_map]
      have HLA := Lib.hid ((bld_len (tableS h) x rn).trans hlq)
      have HLB := Lib.hid ((bld_len (tableS h) (x ||| y) rn).trans hlq)
      have HSA := Lib.hid (fun (i : Nat) (hi : i < (buildS (tableS h) x rn).length) => bld_small hl6 x rn hi)
      have HSB := Lib.hid (fun (i : Nat) (hi : i < (buildS (tableS h) (x ||| y) rn).length) => bld_small hl6 (x ||| y) rn hi)
      have HMO := Lib.hid (fun (i : Nat) (hi : i < (buildS (tableS h) x rn).length) (hi' : i < (buildS (tableS h) (x ||| y) rn).length) => bld_more hl6 x y rn hi hi')
      have hq6 : q ≤ 6 := by omega
      clear hA hB hg hwh hl6 hrow hw hka hkb hlq
      generalize buildS (tableS h) x rn = LA at *
      generalize buildS (tableS h) (x ||| y) rn = LB at *
      generalize x ||| y = xy at *
      go_enter Tryd.func5, Tryd.ntmps5
      go_wp2_with fail
      go_region
      have HB0 := Lib.hid (Below.drew (Below.refl w.heap.size w))
      clear e1 e2 e3 e4
      go_wp2_with fail
      refine (HBA.out _ HB0.out).mono ?_
      rintro e w1 ⟨v1, rfl, hv1, hb1⟩
      have HB1 := Lib.hid (HB0.out.trans (hb1.mono HB0.out.size))
      have HV1 := Lib.hid hv1
      obtain ⟨a1, c1, rfl⟩ := hv1.len
      have hlu : (u32s LA).length = q := by rw [← HLA.out]; simp [u32s]
      rw [hlu] at HV1 ⊢
      clear hv1 hb1 HBA HB0 hlu
      go_wp2_with fail
      refine (HBB.out _ HB1.out).mono ?_
      rintro e w2 ⟨v2, rfl, hv2, hb2⟩
      have HB2 := Lib.hid (HB1.out.trans (hb2.mono HB1.out.size))
      have HA2 := Lib.hid (HV1.out.below hb2 (Nat.le_refl _))
      have HV2 := Lib.hid hv2
      obtain ⟨a2, c2, rfl⟩ := hv2.len
      have hlu : (u32s LB).length = q := by rw [← HLB.out]; simp [u32s]
      rw [hlu] at HV2 ⊢
      clear hv2 hb2 HBB HB1 HV1 hlu hor
      have tq : ((q : Int) != (q : Int)) = false := by simp
      go_wp2_with fail
      refine (HAL.out _ HB2.out).mono ?_
      rintro e w3 ⟨rfl, hb3⟩
      have HB3 := Lib.hid (HB2.out.trans (hb3.mono HB2.out.size))
      have HA3 := Lib.hid (HA2.out.below hb3 (Nat.le_refl _))
      have HV3 := Lib.hid (HV2.out.below hb3 (Nat.le_refl _))
      clear hb3 HAL HB2 HA2 HV2
      go_wp2_with fail
      go_loopw [65] (fun u wr => ∃ i : Nat, i ≤ q ∧ u = .int .i64 i ∧ Hid (Below w3.heap.size w3 wr)) (fun u _ => q - (intOf u).toNat)
      case atStart => exact ⟨0, by omega, rfl, Below.refl _ _⟩
      case round =>
        obtain ⟨i, hi, rfl, HB⟩ := hrel
        by_cases hlt : i < q
        · have hia : i < LA.length := by rw [HLA.out]; exact hlt
          have hib : i < LB.length := by rw [HLB.out]; exact hlt
          obtain ⟨ba, oa, ca, hea, hba, hca⟩ := (HA3.out.below HB.out (Nat.le_refl _)).opened (by simp [u32s]; omega)
          obtain ⟨bb, ob, cb, heb, hbb, hcb⟩ := (HV3.out.below HB.out (Nat.le_refl _)).opened (by simp [u32s]; omega)
          simp only [Value.slice.injEq] at hea heb
          obtain ⟨rfl, -, -⟩ := hea
          obtain ⟨rfl, -, -⟩ := heb
          have g1 := hca i (.int .u32 ((LA[i] : Nat) : Int)) (by simp [u32s, hia])
          have g2 := hcb i (.int .u32 ((LB[i] : Nat) : Int)) (by simp [u32s, hib])
          have hno := u32_andNot_nat LA[i] LB[i] (HSA.out i hia) (HSB.out i hib)
          rw [HMO.out i hia hib] at hno
          clear hca hcb
          generalize LA[i] = p1 at *
          generalize LB[i] = p2 at *
          have hiq : (i : Int) < (q : Int) := by omega
          go_upto_region 11 with fail
          go_quiet (fail)
          have HB4 := Lib.hid (below_drN HB.out nq)
          clear HB
          go_wp2
          go_roundw
          case rel => exact ⟨i + 1, by omega, by go_num, HB4⟩
          case measure => simp [intOf]; omega
        · obtain rfl : i = q := by omega
          have HBF := Lib.hid (HB3.out.trans (HB.out.mono HB3.out.size))
          go_wp2
          go_ret
          exact ⟨rfl, HBF.out⟩
    · rw [bld_off hB] at HBB
      have tn : ((errB h (x ||| y) row : Int) != 0) = true := by simp; omega
      rw [hA] at HBA
      clear hB hA
      generalize bldS h x row = LA at *
      generalize errB h (x ||| y) row = er at *
      generalize x ||| y = xy at *
      go_enter Tryd.func5, Tryd.ntmps5
      go_wp2_with fail
      go_region
      have HB0 := Lib.hid (Below.drew (Below.refl w.heap.size w))
      clear e1 e2 e3 e4
      go_wp2_with fail
      refine (HBA.out _ HB0.out).mono ?_
      rintro e w1 ⟨v1, rfl, hv1, hb1⟩
      have HB1 := Lib.hid (HB0.out.trans (hb1.mono HB0.out.size))
      obtain ⟨a1, c1, rfl⟩ := hv1.len
      clear hv1 hb1 HBA HB0
      generalize (u32s LA).length = k1 at *
      go_wp2_with fail
      refine (HBB.out _ HB1.out).mono ?_
      rintro e w2 ⟨v2, rfl, hv2, hb2⟩
      have HB2 := Lib.hid (HB1.out.trans (hb2.mono HB1.out.size))
      obtain ⟨a2, c2, rfl⟩ := hv2.len
      clear hv2 hb2 HBB HB1 hor
      go_wp2_with fail
      refine (HAL.out _ HB2.out).mono ?_
      rintro e w3 ⟨rfl, hb3⟩
      have HB3 := Lib.hid (HB2.out.trans (hb3.mono HB2.out.size))
      go_wp2
      go_ret
      exact ⟨rfl, HB3.out⟩
  · have tn : ((errB h x row : Int) != 0) = true := by simp; omega
    clear hA
    generalize bldS h x row = LA at *
    generalize bldS h (x ||| y) row = LB at *
    generalize errB h x row = er at *
    generalize errB h (x ||| y) row = er2 at *
    generalize x ||| y = xy at *
    go_enter Tryd.func5, Tryd.ntmps5
    go_wp2_with fail
    go_region
    have HB0 := Lib.hid (Below.drew (Below.refl w.heap.size w))
    clear e1 e2 e3 e4
    go_wp2_with fail
    refine (HBA.out _ HB0.out).mono ?_
    rintro e w1 ⟨v1, rfl, hv1, hb1⟩
    have HB1 := Lib.hid (HB0.out.trans (hb1.mono HB0.out.size))
    obtain ⟨a1, c1, rfl⟩ := hv1.len
    clear hv1 hb1 HBA HB0
    generalize (u32s LA).length = k1 at *
    go_wp2_with fail
    refine (HBB.out _ HB1.out).mono ?_
    rintro e w2 ⟨v2, rfl, hv2, hb2⟩
    have HB2 := Lib.hid (HB1.out.trans (hb2.mono HB1.out.size))
    obtain ⟨a2, c2, rfl⟩ := hv2.len
    clear hv2 hb2 HBB HB1 hor
    generalize (u32s LB).length = k2 at *
    go_wp2_with fail
    refine (HAL.out _ HB2.out).mono ?_
    rintro e w3 ⟨rfl, hb3⟩
    have HB3 := Lib.hid (HB2.out.trans (hb3.mono HB2.out.size))
    go_wp2
    go_ret
    exact ⟨rfl, HB3.out⟩
theorem gmore_any (a : Option Addr) (n c : Nat) (h : List Ev) (x y : Int) (ra : Option Addr) (rn rc : Nat) (row : List Int) (w : World) (hK : HasK w) (hn : n ≤ c) (hrc : rn ≤ rc) (hv : Evs w (.slice a (min (n : Int) 65).toNat c) h) (hr : Rd w (.slice ra (min (rn : Int) 12).toNat rc) (ints row)) (hx : (Lit.int .u32 x).wf = true) (hy : (Lit.int .u32 y).wf = true) :
    Calls Tryd.prog 5 #[.slice a n c, .int .u32 x, .int .u32 y, .slice ra rn rc] w fun e w' => e = .returned (.bool true) ∧ Below w.heap.size w w' := by
  obtain ⟨m, hm⟩ : ∃ m : Nat, min (n : Int) 65 = (m : Int) := ⟨(min (n : Int) 65).toNat, by omega⟩
  obtain ⟨q, hq⟩ : ∃ q : Nat, min (rn : Int) 12 = (q : Int) := ⟨(min (rn : Int) 12).toNat, by omega⟩
  rw [hm, Int.toNat_natCast] at hv
  rw [hq, Int.toNat_natCast] at hr
  obtain ⟨x', rfl, hx'⟩ := u32_nat hx
  obtain ⟨y', rfl, hy'⟩ := u32_nat hy
  have hrl : row.length = q := by
    obtain ⟨_, _, he⟩ := hr.len
    simp only [Value.slice.injEq, ints_len] at he
    exact he.2.1.symm
  exact gmore_walk a n m c h x' y' ra rn q rc row w hK hn hrc hm hq (by omega) (by omega) hv hr hv.length.symm hrl (by omega) (by omega) hx' hy'
end Go.Proofs.YtegpelpnbkdgcaaDoor
