/- The walk of LegalSwap. -/
import Derived.Test.YtceipdmplnlogaaDoorLegO
import Derived.BigRegion
import Derived.BigQuiet
namespace Go.Proofs.YtceipdmplnlogaaDoor.WPlain
end Go.Proofs.YtceipdmplnlogaaDoor.WPlain
namespace Go.Proofs.YtceipdmplnlogaaDoor.QPlain
end Go.Proofs.YtceipdmplnlogaaDoor.QPlain
namespace Go.Proofs.YtceipdmplnlogaaDoor.RPlain
end Go.Proofs.YtceipdmplnlogaaDoor.RPlain
namespace Go.Proofs.YtceipdmplnlogaaDoor
open Go.RowKit WPlain QPlain RPlain

set_option maxRecDepth 100000 in
set_option maxHeartbeats 4000000 in
theorem lswap_none (a : Option Addr) (n m c : Nat) (h : List Ev) (ra : Option Addr) (rn q rc : Nat) (row : List Int) (x : Nat) (k : Int) (w : World) (hK : HasK w) (hn : n ≤ c) (hrc : rn ≤ rc) (HAE : Hid (min (n : Int) 65 = (m : Int))) (HRE : Hid (min (rn : Int) 12 = (q : Int)))
    (hmn : m ≤ n) (hqn : q ≤ rn) (hv : Evs w (.slice a m c) h) (hr : Rd w (.slice ra q rc) (ints row)) (h1 : h.length = m) (hq1 : row.length = q) (hm1 : m ≤ 65) (hq2 : q ≤ 12) (hx : x < 4294967296) (hy : errL h row ≠ 0 ∨ q < 2) :
    Calls Tryd.prog 6 #[.slice a n c, .slice ra rn rc, .int .u32 (x : Int), .int .i64 k] w fun e w' => e = .returned (.bool true) ∧ Below w.heap.size w w' := by
  have HK := Lib.hid hK
  have HLG := Lib.hid (fun (W : World) (hW : Below w.heap.size w W) => legal_any _ _ h row x W (hK.later hW (Nat.le_refl _)) (hv.below hW (Nat.le_refl _)) (by omega) (hr.below hW (Nat.le_refl _)) (by omega) hx)
  have e1 : (max (min (n : Int) 65) 0) = (m : Int) := by have := HAE.out; omega
  have e2 : (max (min (rn : Int) 12) 0) = (q : Int) := by have := HRE.out; omega
  have e3 := HAE.out
  have e4 := HRE.out
  clear hK hv hr
  generalize legR h row x = res at *
  generalize errL h row = er at *
  go_enter Tryd.func6, Tryd.ntmps6
  go_wp2_with fail
  go_region
  have HB0 := Lib.hid (Below.drew (Below.refl w.heap.size w))
  clear e1 e2 e3 e4
  go_wp2_with fail
  refine (HLG.out _ HB0.out).mono ?_
  rintro e w1 ⟨rfl, hb1⟩
  have HB1 := Lib.hid (HB0.out.trans (hb1.mono HB0.out.size))
  clear hb1 HB0 HLG
  by_cases h0 : er = 0
  · subst h0
    have hq3 : q < 2 := by rcases hy with h | h; exact absurd rfl h; exact h
    clear hy
    go_wp2_with fail
    refine (aliveG_any _ (HK.out.later HB1.out (Nat.le_refl _))).mono ?_
    rintro e w2 ⟨rfl, hb2⟩
    have HB2 := Lib.hid (HB1.out.trans (hb2.mono HB1.out.size))
    go_wp2
    go_ret
    exact ⟨rfl, HB2.out⟩
  · have te : ((er : Int) != 0) = true := by simp; omega
    clear hy h0
    go_wp2_with fail
    refine (aliveG_any _ (HK.out.later HB1.out (Nat.le_refl _))).mono ?_
    rintro e w2 ⟨rfl, hb2⟩
    have HB2 := Lib.hid (HB1.out.trans (hb2.mono HB1.out.size))
    go_wp2
    go_ret
    exact ⟨rfl, HB2.out⟩
theorem cast_at (rl : List Nat) (k : Nat) (hk : k < rl.length) : (rl.map (fun x : Nat => (x : Int)))[k]? = some (rl[k] : Int) := by
  rw [List.getElem?_map, List.getElem?_eq_getElem hk]
  rfl
theorem swap_facts {h : List Ev} {row : List Int} {rl : List Nat} {x K : Nat} (hy : errL h row = 0) (hrow : row = rl.map (fun x : Nat => (x : Int))) (hK : K + 1 < rl.length) {len : Nat} (hlen : rl.length = len) :
    apart (tableS h) rl[K] rl[K + 1] → mem8 (memR h (swapAt row K) x) = mem8 (memR h row x) ∧ (legR h row x = len ↔ legR h (swapAt row K) x = len) := by
  intro ha
  subst hlen
  have h1 := swap_all hK ha x
  have h2 : swapAt row K = (swapAt rl K).map (fun x : Nat => (x : Int)) := by rw [hrow]; exact swapAt_map _ hK
  have h3 : errL h (swapAt row K) = 0 := errL_swap (by rw [hrow, List.length_map]; exact hK) hy
  unfold memR legR
  rw [if_pos hy, if_pos h3, h2, hrow, natsR_cast, natsR_cast, h1.1]
  exact ⟨rfl, h1.2⟩
theorem swap_cells {cur : Array Value} {row : List Int} {K : Nat} {A B : Int} (hc : ∀ i (hi : i < row.length), cur[i]? = some (.int .i64 row[i])) (h1 : row[K]? = some A) (h2 : row[K + 1]? = some B) :
    ∀ i (hi : i < (swapAt row K).length), ((cur.setIfInBounds K (.int .i64 B)).setIfInBounds (K + 1) (.int .i64 A))[i]? = some (.int .i64 (swapAt row K)[i]) := by
  have he : swapAt row K = (row.set K B).set (K + 1) A := by unfold swapAt; rw [h1, h2]
  intro i hi
  have hir : i < row.length := by rw [swapAt_len] at hi; exact hi
  have hic : i < cur.size := (Array.getElem?_eq_some_iff.1 (hc i hir)).1
  have hgi : (swapAt row K)[i]? = ((row.set K B).set (K + 1) A)[i]? := by rw [he]
  rw [List.getElem?_eq_getElem hi] at hgi
  rw [Array.getElem?_setIfInBounds, Array.getElem?_setIfInBounds]
  rw [List.getElem?_set, List.getElem?_set] at hgi
  by_cases h3 : K + 1 = i
  · subst h3
    rw [if_pos rfl, if_pos (by rw [List.length_set]; exact hir)] at hgi
    rw [if_pos rfl, if_pos (by rw [Array.size_setIfInBounds]; exact hic), Option.some.inj hgi]
  · rw [if_neg h3] at hgi ⊢
    by_cases h4 : K = i
    · subst h4
      rw [if_pos rfl, if_pos hir] at hgi
      rw [if_pos rfl, if_pos hic, Option.some.inj hgi]
    · rw [if_neg h4, List.getElem?_eq_getElem hir] at hgi
      rw [if_neg h4, hc i hir, Option.some.inj hgi]
set_option maxRecDepth 100000 in
set_option maxHeartbeats 4000000 in
theorem lswap_walk (a : Option Addr) (n m c : Nat) (h : List Ev) (ra : Option Addr) (rn p rc : Nat) (row : List Int) (x : Nat) (k : Int) (K : Nat) (w : World) (hK : HasK w) (hn : n ≤ c) (hrc : rn ≤ rc) (HAE : Hid (min (n : Int) 65 = (m : Int))) (HRE : Hid (min (rn : Int) 12 = ((p + 2 : Nat) : Int)))
    (hmn : m ≤ n) (hqn : p + 2 ≤ rn) (hv : Evs w (.slice a m c) h) (hr : Rd w (.slice ra (p + 2) rc) (ints row)) (h1 : h.length = m) (hq1 : row.length = p + 2) (hm1 : m ≤ 65) (hq2 : p + 2 ≤ 12) (hx : x < 4294967296) (hy : errL h row = 0)
    (HKE : Hid ((wrap64 (wrap64 (k.tmod ((p : Int) + 2 - 1) + ((p : Int) + 2)) - 1)).tmod ((p : Int) + 2 - 1) = (K : Int))) (hKp : K ≤ p) :
    Calls Tryd.prog 6 #[.slice a n c, .slice ra rn rc, .int .u32 (x : Int), .int .i64 k] w fun e w' => e = .returned (.bool true) ∧ Below w.heap.size w w' := by
  have HK := Lib.hid hK
  have HLG := Lib.hid (fun (W : World) (hW : Below w.heap.size w W) => legal_any _ _ h row x W (hK.later hW (Nat.le_refl _)) (hv.below hW (Nat.le_refl _)) (by omega) (hr.below hW (Nat.le_refl _)) (by omega) hx)
  have HMY := Lib.hid (fun (W : World) (hW : Below w.heap.size w W) => memory_any _ _ h row x W (hK.later hW (Nat.le_refl _)) (hv.below hW (Nat.le_refl _)) (by omega) (hr.below hW (Nat.le_refl _)) (by omega) hx)
  have HLS := Lib.hid (fun (v : Value) (W : World) (hW : Below w.heap.size w W) (hs : Rd W v (ints (swapAt row K))) => legal_any _ v h (swapAt row K) x W (hK.later hW (Nat.le_refl _)) (hv.below hW (Nat.le_refl _)) (by omega) hs (by rw [swapAt_len]; omega) hx)
  have HMS := Lib.hid (fun (v : Value) (W : World) (hW : Below w.heap.size w W) (hs : Rd W v (ints (swapAt row K))) => memory_any _ v h (swapAt row K) x W (hK.later hW (Nat.le_refl _)) (hv.below hW (Nat.le_refl _)) (by omega) hs (by rw [swapAt_len]; omega) hx)
  have HTB := Lib.hid (fun (W : World) (hW : Below w.heap.size w W) => refTable_any _ h W (hv.below hW (Nat.le_refl _)) (by omega) (fun a' n' c' he => by simp at he; omega))
  have HRD := Lib.hid (fun (W : World) (hW : Below w.heap.size w W) => hr.below hW (Nat.le_refl _))
  have HCL := Lib.hid (fun (W : World) (hW : Below w.heap.size w W) => cloneI_any ra (p + 2) rc row W (hr.below hW (Nat.le_refl _)) (by omega))
  have hys := errL_swap (k := K) (by omega) hy
  rw [hy] at HLG HMY
  rw [hys] at HLS HMS
  simp only [if_true] at HMY HMS
  obtain ⟨rl, hrow, hrl, hnd, h66⟩ := errL_nil hy
  obtain ⟨hc0, -, -⟩ := errL_zero hy
  have hll : rl.length = p + 2 := by rw [← hq1, hrow, List.length_map]
  have HSW := Lib.hid (swap_facts (x := x) (K := K) hy hrow (by omega) hll)
  have h6 := table_six hc0
  have hopl := table_ops hc0
  have HOL : Hid (∀ i (hi : i < (tableS h).length), (tableS h)[i].o.length ≤ 60) := fun i hi => (hopl _ (List.getElem_mem hi)).2
  have ha1 : rl[K] < (tableS h).length := hrl _ (List.getElem_mem (by omega))
  have ha2 : rl[K + 1] < (tableS h).length := hrl _ (List.getElem_mem (by omega))
  have hg1 : row[K]? = some (rl[K] : Int) := (congrArg (fun r : List Int => r[K]?) hrow).trans (cast_at rl K (by omega))
  have hg2 : row[K + 1]? = some (rl[K + 1] : Int) := (congrArg (fun r : List Int => r[K + 1]?) hrow).trans (cast_at rl (K + 1) (by omega))
  have HAP : Hid ((∀ o ∈ (tableS h)[rl[K]].o, (tableS h)[rl[K + 1]].o.any (sameVar o.v) = false) → apart (tableS h) rl[K] rl[K + 1]) := fun hh => by
    refine apart_of ?_
    rw [opsAtL_get ha1, opsAtL_get ha2]
    exact hh
  have e1 : (max (min (n : Int) 65) 0) = (m : Int) := by have := HAE.out; omega
  have e2 : (max (min (rn : Int) 12) 0) = ((p + 2 : Nat) : Int) := by have := HRE.out; omega
  have e3 := HAE.out
  have e4 := HRE.out
  have hm0 : (((p : Int) + 2 - 1) == 0) = false := by simp; omega
  have HVL : Hid ((mem8 (memR h row x)).length = 8 ∧ (mem8 (memR h (swapAt row K) x)).length = 8) := ⟨rfl, rfl⟩
  clear hK hv hr hy hys hc0 hrow hnd hopl
  generalize legR h row x = n1 at *
  generalize legR h (swapAt row K) x = n2 at *
  generalize mem8 (memR h row x) = V1 at *
  generalize mem8 (memR h (swapAt row K) x) = V2 at *
  generalize tableS h = l at *
  generalize hA : rl[K] = A at *
  generalize hB : rl[K + 1] = B at *
  clear hA hB
  go_enter Tryd.func6, Tryd.ntmps6
  go_wp2_with fail
  go_region
  have HB0 := Lib.hid (Below.drew (Below.refl w.heap.size w))
  clear e1 e2 e3 e4
  go_wp2_with fail
  refine (HLG.out _ HB0.out).mono ?_
  rintro e w1 ⟨rfl, hb1⟩
  have HB1 := Lib.hid (HB0.out.trans (hb1.mono HB0.out.size))
  clear hb1 HB0 HLG
  go_upto_region 6 with fail
  rw [HKE.out]
  clear HKE hm0
  go_upto_region 7 with fail
  refine (HTB.out _ HB1.out).mono ?_
  rintro e w2 ⟨v2, rfl, hv2, hb2⟩
  have HB2 := Lib.hid (HB1.out.trans (hb2.mono HB1.out.size))
  have HT2 := Lib.hid hv2
  clear hb2 hv2 HB1 HTB
  obtain ⟨b, o, c', he, hbl, hcs⟩ := (HRD.out w (Below.refl _ _)).opened (by rw [ints_len]; omega)
  simp only [Value.slice.injEq] at he
  obtain ⟨rfl, -, rfl⟩ := he
  have hi1 : (ints row)[K]? = some (.int .i64 (A : Int)) := by unfold ints; rw [List.getElem?_map, hg1]; rfl
  have hi2 : (ints row)[K + 1]? = some (.int .i64 (B : Int)) := by unfold ints; rw [List.getElem?_map, hg2]; rfl
  have HCR : Hid (∀ W, Below w.heap.size w W → W.cell? ⟨b, o + K, none⟩ = some (.int .i64 (A : Int)) ∧ W.cell? ⟨b, o + (K + 1), none⟩ = some (.int .i64 (B : Int))) := fun W hW => ⟨(hW.cell (p := ⟨b, o + K, none⟩) hbl).trans (hcs _ _ hi1), (hW.cell (p := ⟨b, o + (K + 1), none⟩) hbl).trans (hcs _ _ hi2)⟩
  have HBL := Lib.hid hbl
  clear hcs hi1 hi2 hbl
  obtain ⟨b2, o2, c2, rfl⟩ := HT2.out.opened (by omega)
  obtain ⟨ov, -, -, -, -, xa, qa⟩ := HT2.out.get A ha1
  obtain ⟨ua, uc, rfl, -⟩ := qa.len
  obtain ⟨ov2, -, -, -, -, xb, qb⟩ := HT2.out.get B ha2
  obtain ⟨ub, ud, rfl, -⟩ := qb.len
  have hol1 := HOL.out A ha1
  have hol2 := HOL.out B ha2
  have HQA := Lib.hid qa
  have HQB := Lib.hid qb
  have HXB := Lib.hid xb
  have HLT : Hid (b2 < w2.heap.size) := cell_lt xb
  obtain ⟨r1, r2⟩ := HCR.out _ HB2.out
  clear qa qb xb HT2
  generalize l[A].o = OA at *
  generalize l[B].o = OB at *
  have HTE := Lib.hid (fun (j : Nat) (hj : j < OA.length) => List.take_succ_eq_append_getElem hj)
  go_wp2_with fail
  go_loopw [70] (fun x wr => ∃ j : Nat, j ≤ OA.length ∧ x = .int .i64 j ∧ Hid (∀ o ∈ OA.take j, OB.any (sameVar o.v) = false) ∧ Hid (Below w2.heap.size w2 wr)) (fun x _ => OA.length - (intOf x).toNat)
  case atStart => exact ⟨0, by omega, rfl, fun o ho => by simp at ho, Below.refl _ _⟩
  case round =>
    clear r1 r2 xa
    obtain ⟨j, hj, rfl, HN, HB⟩ := hrel
    by_cases hlt : j < OA.length
    · obtain ⟨b3, o3, rfl, hbl3, c0, c1, c2'⟩ := Opv.at (HQA.out.below HB.out (Nat.le_refl _)) j hlt
      have HTE2 := Lib.hid (HTE.out j hlt)
      generalize OA[j] = O at *
      obtain ⟨ow, ov, ox⟩ := O
      dsimp only at *
      have hba := (Below.refl wr.heap.size wr).alloc (Nat.le_refl _) (.cells #[.bool ow, .int .i64 ov, .int .i64 ox] 47)
      have HB3 := Lib.hid (HB.out.alloc HB.out.size (.cells #[.bool ow, .int .i64 ov, .int .i64 ox] 47))
      have hb3w := HB2.out.trans (HB3.out.mono HB2.out.size)
      obtain ⟨r1, r2⟩ := HCR.out _ hb3w
      have xb := (HB3.out.cell (p := ⟨b2, o2 + B * 5 + 4, none⟩) HLT.out).trans HXB.out
      have HCF := Lib.hid (containsSV_any (.slice ub OB.length ud) OB wr.heap.size ov (wr.alloc (.cells #[.bool ow, .int .i64 ov, .int .i64 ox] 47)) (HQB.out.below HB3.out (Nat.le_refl _)) (by omega) ((At.new wr #[.bool ow, .int .i64 ov, .int .i64 ox] 47).cell (i := 1) rfl))
      clear hba hb3w
      cases hany : OB.any (sameVar ov) with
      | true =>
        rw [hany] at HCF
        clear HTE2 hany HN
        go_wp2_with fail
        refine HCF.out.mono ?_
        rintro e w4 ⟨rfl, hb4⟩
        have HB4 := Lib.hid ((HB2.out.trans (HB3.out.mono HB2.out.size)).trans (hb4.mono (HB2.out.trans (HB3.out.mono HB2.out.size)).size))
        clear hb4
        go_wp2_with fail
        refine (aliveG_any _ (HK.out.later HB4.out (Nat.le_refl _))).mono ?_
        rintro e w5 ⟨rfl, hb5⟩
        have HB5 := Lib.hid (HB4.out.trans (hb5.mono HB4.out.size))
        clear hb5
        go_wp2
        go_ret
        exact ⟨rfl, HB5.out⟩
      | false =>
        rw [hany] at HCF
        have HN2 : Hid (∀ q ∈ OA.take (j + 1), OB.any (sameVar q.v) = false) := by
          intro q hq
          rw [HTE2.out] at hq
          rcases List.mem_append.1 hq with hq | hq
          · exact HN.out q hq
          · rw [List.mem_singleton.1 hq]; exact hany
        clear HTE2 hany HN
        go_wp2_with fail
        refine HCF.out.mono ?_
        rintro e w4 ⟨rfl, hb4⟩
        have HB4 := Lib.hid (HB3.out.trans (hb4.mono HB3.out.size))
        clear hb4
        go_wp2
        go_roundw
        case rel => exact ⟨j + 1, by omega, by go_num, HN2, HB4⟩
        case measure => simp [intOf]; omega
    · obtain rfl : j = OA.length := by omega
      obtain ⟨hve, hle⟩ := HSW.out (HAP.out (by have := HN.out; rwa [List.take_length] at this))
      subst hve
      have HLE := Lib.hid hle
      have HBW := Lib.hid (HB2.out.trans (HB.out.mono HB2.out.size))
      clear HN HSW HAP HTE HQA HQB HXB HLT HB hle
      go_wp2_with fail
      refine (HCL.out _ HBW.out).mono ?_
      rintro e w3 ⟨v3, rfl, hr3, hb3⟩
      have HB3 := Lib.hid (HBW.out.trans (hb3.mono HBW.out.size))
      obtain ⟨g, cap, cur, rfl, hg, hA3, hcap, hcc⟩ := row_at hr3 (by omega)
      rw [hq1] at hcap ⊢
      obtain ⟨r1, r2⟩ := HCR.out _ HB3.out
      have hwg : w.heap.size ≤ g := Nat.le_trans HBW.out.size hg
      have hk1 : cur[K]? = some (.int .i64 (A : Int)) := by
        rw [hcc K (by omega)]
        rw [List.getElem?_eq_getElem (by omega)] at hg1
        rw [Option.some.inj hg1]
      have hk2 : cur[K + 1]? = some (.int .i64 (B : Int)) := by
        rw [hcc (K + 1) (by omega)]
        rw [List.getElem?_eq_getElem (by omega)] at hg2
        rw [Option.some.inj hg2]
      have c1 := hA3.cell hk1
      have c2' := hA3.cell hk2
      have f1 := hA3.free K
      have f2 := hA3.free (K + 1)
      have HA3 := Lib.hid hA3
      have HCC := Lib.hid hcc
      clear hr3 hb3 hA3 hcc hk1 hk2 HBW hg
      have hbg : ¬ b = g := fun hc => by have := HBL.out; omega
      have hgb : ¬ g = b := fun hc => hbg hc.symm
      have hw1 : IntKind.i64.wrap ((K : Int) + 1) = (K : Int) + 1 := IntWalk.i64_in _ (by omega)
      have k0 : (K : Int) < (p : Int) + 2 := by omega
      have k1 : (K : Int) + 1 < (p : Int) + 2 := by omega
      have k2 : ((K : Int) + 1).toNat = K + 1 := by omega
      go_upto_region 14 with fail
      go_big_region
      have hA4 := ((HA3.out.set K (.int .i64 (B : Int))).set (K + 1) (.int .i64 (A : Int))).drew
      have hs4 := Rd.of_cells cap hA4 (swap_cells HCC.out hg1 hg2)
      rw [swapAt_len, hq1] at hs4
      have HS4 := Lib.hid hs4
      have HB4 := Lib.hid (((HB3.out.setCell (p := ⟨g, K, none⟩) hwg (.int .i64 (B : Int))).setCell (p := ⟨g, K + 1, none⟩) hwg (.int .i64 (A : Int))).drew)
      clear hA4 hs4 HA3 HCC r1 r2 c1 c2' f1 f2 hbg hgb hw1 k0 k1 k2 HB3
      generalize ((w3.setCell ⟨g, K, none⟩ (.int .i64 (B : Int))).setCell ⟨g, K + 1, none⟩ (.int .i64 (A : Int))).drew = w4 at *
      go_wp2_with fail
      refine (HLS.out _ _ HB4.out HS4.out).mono ?_
      rintro e w5 ⟨rfl, hb5⟩
      have HB5 := Lib.hid (HB4.out.trans (hb5.mono HB4.out.size))
      have HS5 := Lib.hid (HS4.out.below hb5 (Nat.le_refl _))
      clear hb5 HB4 HS4
      go_wp2_with fail
      refine (HMY.out _ HB5.out).mono ?_
      rintro e w6 ⟨v6, rfl, hv6, hb6⟩
      have HB6 := Lib.hid (HB5.out.trans (hb6.mono HB5.out.size))
      have HS6 := Lib.hid (HS5.out.below hb6 (Nat.le_refl _))
      have HV6 := Lib.hid hv6
      obtain ⟨a6, c6, rfl⟩ := hv6.len
      clear hb6 HB5 HS5 hv6
      go_wp2_with fail
      refine (HMS.out _ _ HB6.out HS6.out).mono ?_
      rintro e w7 ⟨v7, rfl, hv7, hb7⟩
      have HB7 := Lib.hid (HB6.out.trans (hb7.mono HB6.out.size))
      have HV7 := Lib.hid (HV6.out.below hb7 (Nat.le_refl _))
      have HU7 := Lib.hid hv7
      obtain ⟨a7, c7, rfl⟩ := hv7.len
      clear hb7 HB6 HS6 hv7 HV6
      go_wp2_with fail
      refine (aliveG_any _ (HK.out.later HB7.out (Nat.le_refl _))).mono ?_
      rintro e w8 ⟨rfl, hb8⟩
      have HB8 := Lib.hid (HB7.out.trans (hb8.mono HB7.out.size))
      have HIS := Lib.hid (ints_same _ _ _ w8 (by have := HVL.out; omega) (HV7.out.below hb8 (Nat.le_refl _)) (HU7.out.below hb8 (Nat.le_refl _)))
      clear hb8 HB7 HV7 HU7
      have tbe : (((n1 : Int) == (p : Int) + 2) == ((n2 : Int) == (p : Int) + 2)) = true := by
        have h := HLE.out
        by_cases h3 : n1 = p + 2
        · have h4 := h.1 h3
          subst h3 h4
          simp
        · have h4 : ¬ n2 = p + 2 := fun hc => h3 (h.2 hc)
          have h5 : ((n1 : Int) == (p : Int) + 2) = false := by simp; omega
          have h6 : ((n2 : Int) == (p : Int) + 2) = false := by simp; omega
          rw [h5, h6]
          rfl
      go_wp2_with fail
      refine HIS.out.mono ?_
      rintro e w9 ⟨rfl, z, rfl⟩
      have HB9 := Lib.hid (below_drN HB8.out z)
      clear HIS
      go_wp2
      go_ret
      exact ⟨rfl, HB9.out⟩
theorem lswap_any (a : Option Addr) (n c : Nat) (h : List Ev) (ra : Option Addr) (rn rc : Nat) (row : List Int) (x k : Int) (w : World) (hK : HasK w) (hn : n ≤ c) (hrc : rn ≤ rc) (hv : Evs w (.slice a (min (n : Int) 65).toNat c) h) (hr : Rd w (.slice ra (min (rn : Int) 12).toNat rc) (ints row)) (hx : (Lit.int .u32 x).wf = true) :
    Calls Tryd.prog 6 #[.slice a n c, .slice ra rn rc, .int .u32 x, .int .i64 k] w fun e w' => e = .returned (.bool true) ∧ Below w.heap.size w w' := by
  obtain ⟨m, hm⟩ : ∃ m : Nat, min (n : Int) 65 = (m : Int) := ⟨(min (n : Int) 65).toNat, by omega⟩
  obtain ⟨q, hq⟩ : ∃ q : Nat, min (rn : Int) 12 = (q : Int) := ⟨(min (rn : Int) 12).toNat, by omega⟩
  rw [hm, Int.toNat_natCast] at hv
  rw [hq, Int.toNat_natCast] at hr
  have hx2 : 0 ≤ x ∧ x < 4294967296 := by
    have h1 : (decide ((0 : Int) ≤ x) && decide (x ≤ 4294967295)) = true := hx
    rw [Bool.and_eq_true, decide_eq_true_eq, decide_eq_true_eq] at h1
    omega
  obtain ⟨y, rfl⟩ : ∃ y : Nat, x = (y : Int) := ⟨x.toNat, by omega⟩
  have hrl : row.length = q := by
    obtain ⟨_, _, he⟩ := hr.len
    simp only [Value.slice.injEq, ints_len] at he
    exact he.2.1.symm
  by_cases h0 : errL h row ≠ 0 ∨ q < 2
  · exact lswap_none a n m c h ra rn q rc row y k w hK hn hrc hm hq (by omega) (by omega) hv hr hv.length.symm hrl (by omega) (by omega) (by omega) h0
  · have hy : errL h row = 0 := Classical.byContradiction fun hc => h0 (.inl hc)
    have hq2 : 2 ≤ q := by
      rcases Nat.lt_or_ge q 2 with hc | hc
      · exact absurd (.inr hc) h0
      · exact hc
    obtain ⟨p, rfl⟩ : ∃ p, q = p + 2 := ⟨q - 2, by omega⟩
    have hpe : ((p : Int) + 2 - 1) = (p : Int) + 1 := by omega
    have hp1 : k.tmod ((p : Int) + 1) < (p : Int) + 1 := Int.tmod_lt_of_pos _ (by omega)
    have hp2 : -((p : Int) + 1) < k.tmod ((p : Int) + 1) := Int.lt_tmod_of_pos _ (by omega)
    obtain ⟨K, hK1, hK2⟩ : ∃ K : Nat, (wrap64 (wrap64 (k.tmod ((p : Int) + 2 - 1) + ((p : Int) + 2)) - 1)).tmod ((p : Int) + 2 - 1) = (K : Int) ∧ K ≤ p := by
      rw [hpe]
      generalize k.tmod ((p : Int) + 1) = z at *
      rw [IntWalk.wrap64_in (z + ((p : Int) + 2)) (by omega), IntWalk.wrap64_in (z + ((p : Int) + 2) - 1) (by omega)]
      obtain ⟨t, ht⟩ : ∃ t : Nat, z + ((p : Int) + 2) - 1 = (t : Int) := ⟨(z + ((p : Int) + 2) - 1).toNat, by omega⟩
      refine ⟨t % (p + 1), ?_, ?_⟩
      · rw [ht]
        exact (Int.ofNat_tmod t (p + 1)).symm
      · have := Nat.mod_lt t (show 0 < p + 1 by omega)
        omega
    exact lswap_walk a n m c h ra rn p rc row y k K w hK hn hrc hm hq (by omega) (by omega) hv hr hv.length.symm hrl (by omega) (by omega) (by omega) hy hK1 hK2
end Go.Proofs.YtceipdmplnlogaaDoor
