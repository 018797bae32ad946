/- The walks of the laws' alive, and of OrderTells. -/
import Derived.Test.YtampoikncgagkaaDoorOrdJ
import Derived.Test.YtampoikncgagkaaDoorPrpJ
namespace Go.Proofs.YtampoikncgagkaaDoor.WPlain
end Go.Proofs.YtampoikncgagkaaDoor.WPlain
namespace Go.Proofs.YtampoikncgagkaaDoor.QPlain
end Go.Proofs.YtampoikncgagkaaDoor.QPlain
namespace Go.Proofs.YtampoikncgagkaaDoor.RPlain
end Go.Proofs.YtampoikncgagkaaDoor.RPlain
namespace Go.Proofs.YtampoikncgagkaaDoor
open Go.RowKit WPlain QPlain RPlain

theorem afterAlive : afterS (tableS [⟨0, 1, 0, 0⟩, ⟨9, 1, 0, 0⟩, ⟨0, 2, 0, 0⟩]) = [2, 0] := by decide +kernel
set_option maxRecDepth 100000 in
set_option maxHeartbeats 1000000 in
theorem aliveO_any (w : World) (hK : HasK w) : Calls Tryd.prog 10 #[] w fun e w' => e = .returned (.bool true) ∧ Below w.heap.size w w' := by
  have hb0 := (Below.refl w.heap.size w).alloc (Nat.le_refl _) (.cells (evsCells [⟨0, 1, 0, 0⟩, ⟨9, 1, 0, 0⟩, ⟨0, 2, 0, 0⟩]).toArray 59)
  have hE := evs_at 3 [⟨0, 1, 0, 0⟩, ⟨9, 1, 0, 0⟩, ⟨0, 2, 0, 0⟩] (At.new w (evsCells [⟨0, 1, 0, 0⟩, ⟨9, 1, 0, 0⟩, ⟨0, 2, 0, 0⟩]).toArray 59)
  have hT := after_any _ _ _ (hK.later hb0 (Nat.le_refl _)) hE (by simp)
  have hc : (checkS [⟨0, 1, 0, 0⟩, ⟨9, 1, 0, 0⟩, ⟨0, 2, 0, 0⟩]).2 = 0 := by decide +kernel
  rw [hc, if_pos rfl, afterAlive] at hT
  simp only [evsCells, evCells, List.flatMap_cons, List.flatMap_nil, List.append_nil, List.cons_append, List.nil_append, List.length_cons, List.length_nil] at hT hb0
  have HT := Lib.hid hT
  have HB0 := Lib.hid hb0
  clear hT hc hb0 hE hK
  go_enter Tryd.func10, Tryd.ntmps10
  go_wp2_with fail
  refine HT.out.mono ?_
  rintro e w2 ⟨v, rfl, hv, hb⟩
  have HB := Lib.hid (HB0.out.trans (hb.mono HB0.out.size))
  obtain ⟨b, o, c, rfl, hbl, hcs⟩ := hv.opened (by simp [u32s])
  have y0 := hcs 0 (.int .u32 2) rfl
  have y1 := hcs 1 (.int .u32 0) rfl
  simp only [u32s, List.map_cons, List.map_nil, List.length_cons, List.length_nil, Nat.zero_add, Nat.reduceAdd, Nat.add_zero] at y0 y1 ⊢
  clear hv hb HT HB0 hcs
  go_wp2
  go_ret
  exact ⟨rfl, HB.out⟩
theorem ints_two (i k : Int) : ints [i, k] = [.int .i64 i, .int .i64 k] := rfl
set_option maxRecDepth 100000 in
set_option maxHeartbeats 4000000 in
theorem tellsO_walk (a : Option Addr) (n m c : Nat) (h : List Ev) (i k : Int) (ra : Option Addr) (rn q rc : Nat) (row : List Int) (w : World) (hK : HasK w) (hn : n ≤ c) (hrc : rn ≤ rc) (HAE : Hid (min (n : Int) 65 = (m : Int))) (HRE : Hid (min (rn : Int) 12 = (q : Int)))
    (hmn : m ≤ n) (hqn : q ≤ rn) (hv : Evs w (.slice a m c) h) (hr : Rd w (.slice ra q rc) (ints row)) (h1 : h.length = m) (hq1 : row.length = q) (hm1 : m ≤ 65) (hq2 : q ≤ 12) :
    Calls Tryd.prog 3 #[.slice a n c, .int .i64 i, .int .i64 k, .slice ra rn rc] w fun e w' => e = .returned (.bool true) ∧ Below w.heap.size w w' := by
  have HK := Lib.hid hK
  have HT := Lib.hid (fun (W : World) (hW : Below w.heap.size w W) => after_any _ h W (hK.later hW (Nat.le_refl _)) (hv.below hW (Nat.le_refl _)) (by omega))
  have HBF := Lib.hid (fun (W : World) (hW : Below w.heap.size w W) => before_any _ h i k W (hK.later hW (Nat.le_refl _)) (hv.below hW (Nat.le_refl _)) (by omega))
  have HKE := Lib.hid (fun (W : World) (hW : Below w.heap.size w W) => keeps_any _ _ h row W (hK.later hW (Nat.le_refl _)) (hv.below hW (Nat.le_refl _)) (by omega) (hr.below hW (Nat.le_refl _)) (by omega))
  have HWH := Lib.hid (fun (W : World) (hW : Below w.heap.size w W) => why_any _ h W (hv.below hW (Nat.le_refl _)) (by omega) (fun a' n' c' he => by simp at he; omega))
  have HOF := Lib.hid (fun (W : World) (hW : Below w.heap.size w W) => refOf_any _ h W (hv.below hW (Nat.le_refl _)) (by omega) (fun a' n' c' he => by simp at he; omega))
  have HR := Lib.hid hr
  rw [whyS_check] at HWH
  have e1 : (max (min (n : Int) 65) 0) = (m : Int) := by have := HAE.out; omega
  have e2 : (max (min (rn : Int) 12) 0) = (q : Int) := by have := HRE.out; omega
  have e3 := HAE.out
  have e4 := HRE.out
  clear hK hv hr
  by_cases h0 : (checkS h).2 = 0
  · rw [h0, if_pos rfl] at HT
    go_enter Tryd.func3, Tryd.ntmps3
    go_wp2_with fail
    go_region
    have HB0 := Lib.hid (Below.drew (Below.refl w.heap.size w))
    clear e1 e2 e3 e4
    have hsix := table_six h0
    have HEI : Hid (errP h [i, k] = if thereS (tableS h) [i, k] = true then 0 else 7) := by unfold Hid errP; rw [if_pos h0]
    have HER : Hid (errP h row = if thereS (tableS h) row = true then 0 else 7) := by unfold Hid errP; rw [if_pos h0]
    have HBV : Hid (befS h i k = if thereS (tableS h) [i, k] = true then bfrAt (tableS h) i.toNat k.toNat else false) := by
      unfold Hid befS
      rw [HEI.out]
      cases thereS (tableS h) [i, k] <;> rfl
    have HKV : Hid (kepS h row = if thereS (tableS h) row = true then keepsS (tableS h) row else false) := by
      unfold Hid kepS
      rw [HER.out]
      cases thereS (tableS h) row <;> rfl
    rw [h0] at HWH
    generalize tableS h = l at *
    generalize errP h [i, k] = ei at *
    generalize errP h row = er at *
    generalize befS h i k = bv at *
    generalize kepS h row = kv at *
    clear h0
    go_wp2_with fail
    refine (HT.out _ HB0.out).mono ?_
    rintro e w1 ⟨v1, rfl, hv1, hb1⟩
    have HB1 := Lib.hid (HB0.out.trans (hb1.mono HB0.out.size))
    obtain ⟨a1, c1, rfl⟩ := hv1.len
    have HV1 := Lib.hid hv1
    clear hb1 HB0 hv1 HT
    go_wp2_with fail
    refine (HBF.out _ HB1.out).mono ?_
    rintro e w2 ⟨rfl, hb2⟩
    have HB2 := Lib.hid (HB1.out.trans (hb2.mono HB1.out.size))
    have HV2 := Lib.hid (HV1.out.below hb2 (Nat.le_refl _))
    clear hb2 HB1 HV1 HBF
    go_wp2_with fail
    refine (HKE.out _ HB2.out).mono ?_
    rintro e w3 ⟨rfl, hb3⟩
    have HB3 := Lib.hid (HB2.out.trans (hb3.mono HB2.out.size))
    have HV3 := Lib.hid (HV2.out.below hb3 (Nat.le_refl _))
    clear hb3 HB2 HV2 HKE
    go_wp2_with fail
    refine (HWH.out _ HB3.out).mono ?_
    rintro e w4 ⟨rfl, hb4⟩
    have HB4 := Lib.hid (HB3.out.trans (hb4.mono HB3.out.size))
    have HV4 := Lib.hid (HV3.out.below hb4 (Nat.le_refl _))
    clear hb4 HB3 HV3 HWH
    go_wp2_with fail
    refine (HOF.out _ HB4.out).mono ?_
    rintro e w5 ⟨v5, rfl, hv5, hb5⟩
    have HB5 := Lib.hid (HB4.out.trans (hb5.mono HB4.out.size))
    have HV5 := Lib.hid (HV4.out.below hb5 (Nat.le_refl _))
    obtain ⟨a5, c5, rfl⟩ := hv5.len
    have HX5 := Lib.hid hv5
    clear hb5 HB4 HV4 HOF hv5
    go_wp2_with fail
    refine (refAfter_any _ l _ HX5.out hsix).mono ?_
    rintro e w6 ⟨v6, rfl, hv6, hb6⟩
    have HB6 := Lib.hid (HB5.out.trans (hb6.mono HB5.out.size))
    have HV6 := Lib.hid (HV5.out.below hb6 (Nat.le_refl _))
    have HX6 := Lib.hid (HX5.out.below hb6 (Nat.le_refl _))
    obtain ⟨a6, c6, rfl⟩ := hv6.len
    have HU6 := Lib.hid hv6
    clear hb6 HB5 HV5 HX5 hv6
    go_wp2_with fail
    refine (refSameU_any _ _ _ _ _ HV6.out HU6.out rfl (by rw [afterS_len]; omega)).mono ?_
    rintro e w7 ⟨rfl, z7, rfl⟩
    have HB7 := Lib.hid (below_drN HB6.out z7)
    have HX7 := Lib.hid (HX6.out.drewN z7)
    clear HV6 HU6 HX6 HB6
    generalize w6.drewN z7 = w7 at *
    go_wp2_with fail
    refine (aliveO_any _ (HK.out.later HB7.out (Nat.le_refl _))).mono ?_
    rintro e w8 ⟨rfl, hb8⟩
    have HB8 := Lib.hid (HB7.out.trans (hb8.mono HB7.out.size))
    have HX8 := Lib.hid (HX7.out.below hb8 (Nat.le_refl _))
    clear hb8 HB7 HX7
    have HBa := Lib.hid ((Below.refl w8.heap.size w8).alloc (Nat.le_refl _) (.cells #[.int .i64 i, .int .i64 k] 3))
    have HTH := Lib.hid (refThere_any _ (.slice (some ⟨w8.heap.size, 0, none⟩) 2 2) l [i, k] (w8.alloc (.cells #[.int .i64 i, .int .i64 k] 3)) HX8.out.len (Rd.of_at 2 (At.new w8 (ints [i, k]).toArray 3)) (by simp))
    have HB9 := Lib.hid (HB8.out.trans (HBa.out.mono HB8.out.size))
    have HX9 := Lib.hid (HX8.out.below HBa.out (Nat.le_refl _))
    clear HBa HB8 HX8
    have HN9 : Hid ((w8.alloc (.cells #[.int .i64 i, .int .i64 k] 3)).heap.size = w8.heap.size + 1) := by simp [Hid]
    cases ht : thereS l [i, k] with
    | false =>
      rw [ht] at HTH HEI HBV
      obtain rfl : ei = 7 := HEI.out
      obtain rfl : bv = false := HBV.out
      have HNO := Lib.hid ht
      clear ht
      go_wp2_with fail
      refine HTH.out.mono ?_
      rintro e wx ⟨rfl, rfl⟩
      generalize w8.alloc (.cells #[.int .i64 i, .int .i64 k] 3) = w9 at *
      clear HTH HN9
      have HBa := Lib.hid ((Below.refl w9.heap.size w9).alloc (Nat.le_refl _) (.cells #[.int .i64 i, .int .i64 k] 3))
      have HTJ := Lib.hid (refThere_any _ (.slice (some ⟨w9.heap.size, 0, none⟩) 2 2) l [i, k] (w9.alloc (.cells #[.int .i64 i, .int .i64 k] 3)) HX9.out.len (Rd.of_at 2 (At.new w9 (ints [i, k]).toArray 3)) (by simp))
      have HB10 := Lib.hid (HB9.out.trans (HBa.out.mono HB9.out.size))
      have HX10 := Lib.hid (HX9.out.below HBa.out (Nat.le_refl _))
      clear HBa HB9 HX9
      rw [HNO.out] at HTJ
      go_wp2_with fail
      refine HTJ.out.mono ?_
      rintro e wx ⟨rfl, rfl⟩
      generalize w9.alloc (.cells #[.int .i64 i, .int .i64 k] 3) = w10 at *
      clear HTJ HNO
      have HRP := Lib.hid (HR.out.below HB10.out (Nat.le_refl _))
      have HTR := Lib.hid (refThere_any _ _ l row w10 HX10.out.len HRP.out (by omega))
      cases hr2 : thereS l row with
      | false =>
        rw [hr2] at HTR HER HKV
        obtain rfl : er = 7 := HER.out
        obtain rfl : kv = false := HKV.out
        clear hr2
        go_wp2_with fail
        refine HTR.out.mono ?_
        rintro e wx ⟨rfl, rfl⟩
        go_wp2
        go_ret
        exact ⟨rfl, HB10.out⟩
      | true =>
        rw [hr2] at HTR HER HKV
        obtain rfl : er = 0 := HER.out
        obtain rfl : kv = keepsS l row := HKV.out
        obtain ⟨nn, hnn, hnl⟩ := row_nats hr2
        have hnq : nn.length = q := by rw [← hq1, hnn, List.length_map]
        rw [hnn, ← hnq] at HRP
        have HKP := Lib.hid (refKeeps_any _ ra rc l nn w10 HX10.out HRP.out (by omega) (by omega) (by omega) hnl)
        rw [← hnn, hnq] at HKP
        generalize keepsS l row = kb at *
        clear hr2 hnn hnl hnq HRP
        go_wp2_with fail
        refine HTR.out.mono ?_
        rintro e wx ⟨rfl, rfl⟩
        go_wp2_with fail
        refine HKP.out.mono ?_
        rintro e wy ⟨rfl, zy, rfl⟩
        have HBy := Lib.hid (below_drN HB10.out zy)
        cases kb
        · go_wp2
          go_ret
          exact ⟨rfl, HBy.out⟩
        · go_wp2
          go_ret
          exact ⟨rfl, HBy.out⟩
    | true =>
      rw [ht] at HTH HEI HBV
      obtain rfl : ei = 0 := HEI.out
      obtain rfl : bv = bfrAt l i.toNat k.toNat := HBV.out
      have HNO := Lib.hid ht
      have hik := (thereS_iff _ _).1 ht
      have hi0 := hik i (by simp)
      have hk0 := hik k (by simp)
      obtain ⟨I, rfl⟩ : ∃ I : Nat, i = (I : Int) := ⟨i.toNat, by omega⟩
      obtain ⟨K, rfl⟩ : ∃ K : Nat, k = (K : Int) := ⟨k.toNat, by omega⟩
      have hI : I < l.length := by omega
      have hKl : K < l.length := by omega
      rw [Int.toNat_natCast, Int.toNat_natCast, bfrAt_get hI hKl]
      clear ht hik hi0 hk0
      go_wp2_with fail
      refine HTH.out.mono ?_
      rintro e wx ⟨rfl, rfl⟩
      generalize w8.alloc (.cells #[.int .i64 (I : Int), .int .i64 (K : Int)] 3) = w9 at *
      clear HTH HN9
      have HBa := Lib.hid ((Below.refl w9.heap.size w9).alloc (Nat.le_refl _) (.cells #[.int .i64 (I : Int), .int .i64 (K : Int)] 3))
      have HTJ := Lib.hid (refThere_any _ (.slice (some ⟨w9.heap.size, 0, none⟩) 2 2) l [(I : Int), (K : Int)] (w9.alloc (.cells #[.int .i64 (I : Int), .int .i64 (K : Int)] 3)) HX9.out.len (Rd.of_at 2 (At.new w9 (ints [(I : Int), (K : Int)]).toArray 3)) (by simp))
      have HB10 := Lib.hid (HB9.out.trans (HBa.out.mono HB9.out.size))
      have HX10 := Lib.hid (HX9.out.below HBa.out (Nat.le_refl _))
      clear HBa HB9 HX9
      rw [HNO.out] at HTJ
      go_wp2_with fail
      refine HTJ.out.mono ?_
      rintro e wx ⟨rfl, rfl⟩
      generalize w9.alloc (.cells #[.int .i64 (I : Int), .int .i64 (K : Int)] 3) = w10 at *
      clear HTJ HNO
      have HBE := Lib.hid (refBefore_any _ l I K w10 HX10.out hI hKl (by omega))
      generalize bfr l[I] l[K] = bb at *
      go_wp2_with fail
      refine HBE.out.mono ?_
      rintro e wx ⟨rfl, z11, rfl⟩
      have HB11 := Lib.hid (below_drN HB10.out z11)
      have HX11 := Lib.hid (HX10.out.drewN z11)
      clear HBE HX10 HB10
      generalize w10.drewN z11 = w11 at *
      have hbb : (bb != bb) = false := by cases bb <;> rfl
      have HRP := Lib.hid (HR.out.below HB11.out (Nat.le_refl _))
      have HTR := Lib.hid (refThere_any _ _ l row w11 HX11.out.len HRP.out (by omega))
      cases hr2 : thereS l row with
      | false =>
        rw [hr2] at HTR HER HKV
        obtain rfl : er = 7 := HER.out
        obtain rfl : kv = false := HKV.out
        clear hr2
        go_wp2_with fail
        refine HTR.out.mono ?_
        rintro e wx ⟨rfl, rfl⟩
        go_wp2
        go_ret
        exact ⟨rfl, HB11.out⟩
      | true =>
        rw [hr2] at HTR HER HKV
        obtain rfl : er = 0 := HER.out
        obtain rfl : kv = keepsS l row := HKV.out
        obtain ⟨nn, hnn, hnl⟩ := row_nats hr2
        have hnq : nn.length = q := by rw [← hq1, hnn, List.length_map]
        rw [hnn, ← hnq] at HRP
        have HKP := Lib.hid (refKeeps_any _ ra rc l nn w11 HX11.out HRP.out (by omega) (by omega) (by omega) hnl)
        rw [← hnn, hnq] at HKP
        generalize keepsS l row = kb at *
        clear hr2 hnn hnl hnq HRP
        go_wp2_with fail
        refine HTR.out.mono ?_
        rintro e wx ⟨rfl, rfl⟩
        go_wp2_with fail
        refine HKP.out.mono ?_
        rintro e wy ⟨rfl, zy, rfl⟩
        have HBy := Lib.hid (below_drN HB11.out zy)
        cases kb
        · go_wp2
          go_ret
          exact ⟨rfl, HBy.out⟩
        · go_wp2
          go_ret
          exact ⟨rfl, HBy.out⟩
  · rw [if_neg h0] at HT
    have HEI : Hid (errP h [i, k] = (checkS h).2) := by unfold Hid errP; rw [if_neg h0]
    have HER : Hid (errP h row = (checkS h).2) := by unfold Hid errP; rw [if_neg h0]
    have HBV : Hid (befS h i k = false) := by unfold Hid befS; rw [HEI.out, if_neg h0]
    have HKV : Hid (kepS h row = false) := by unfold Hid kepS; rw [HER.out, if_neg h0]
    rw [HEI.out, HBV.out] at HBF
    rw [HER.out, HKV.out] at HKE
    clear HEI HBV HER HKV
    obtain ⟨er, her⟩ : ∃ er, (checkS h).2 = er := ⟨_, rfl⟩
    rw [her] at HT HWH HBF HKE h0
    have te : ((er : Int) != 0) = true := by simp; omega
    clear her h0 HOF
    go_enter Tryd.func3, Tryd.ntmps3
    go_wp2_with fail
    go_region
    have HB0 := Lib.hid (Below.drew (Below.refl w.heap.size w))
    clear e1 e2 e3 e4
    go_wp2_with fail
    refine (HT.out _ HB0.out).mono ?_
    rintro e w1 ⟨v1, rfl, hv1, hb1⟩
    have HB1 := Lib.hid (HB0.out.trans (hb1.mono HB0.out.size))
    obtain ⟨a1, c1, rfl⟩ := hv1.len
    clear hb1 HB0 hv1 HT
    go_wp2_with fail
    refine (HBF.out _ HB1.out).mono ?_
    rintro e w2 ⟨rfl, hb2⟩
    have HB2 := Lib.hid (HB1.out.trans (hb2.mono HB1.out.size))
    clear hb2 HB1 HBF
    go_wp2_with fail
    refine (HKE.out _ HB2.out).mono ?_
    rintro e w3 ⟨rfl, hb3⟩
    have HB3 := Lib.hid (HB2.out.trans (hb3.mono HB2.out.size))
    clear hb3 HB2 HKE
    go_wp2_with fail
    refine (HWH.out _ HB3.out).mono ?_
    rintro e w4 ⟨rfl, hb4⟩
    have HB4 := Lib.hid (HB3.out.trans (hb4.mono HB3.out.size))
    clear hb4 HB3 HWH
    go_wp2_with fail
    refine (aliveO_any _ (HK.out.later HB4.out (Nat.le_refl _))).mono ?_
    rintro e w5 ⟨rfl, hb5⟩
    have HB5 := Lib.hid (HB4.out.trans (hb5.mono HB4.out.size))
    clear hb5 HB4
    go_wp2
    go_ret
    exact ⟨rfl, HB5.out⟩
theorem tellsO_any (a : Option Addr) (n c : Nat) (h : List Ev) (i k : Int) (ra : Option Addr) (rn rc : Nat) (row : List Int) (w : World) (hK : HasK w) (hn : n ≤ c) (hrc : rn ≤ rc) (hv : Evs w (.slice a (min (n : Int) 65).toNat c) h) (hr : Rd w (.slice ra (min (rn : Int) 12).toNat rc) (ints row)) :
    Calls Tryd.prog 3 #[.slice a n c, .int .i64 i, .int .i64 k, .slice ra rn rc] w fun e w' => e = .returned (.bool true) ∧ Below w.heap.size w w' := by
  obtain ⟨m, hm⟩ : ∃ m, (min (n : Int) 65).toNat = m := ⟨_, rfl⟩
  obtain ⟨q, hq⟩ : ∃ q, (min (rn : Int) 12).toNat = q := ⟨_, rfl⟩
  rw [hm] at hv
  rw [hq] at hr
  have hrl : row.length = q := by
    obtain ⟨_, _, he⟩ := hr.len
    simp only [Value.slice.injEq, ints_len] at he
    exact he.2.1.symm
  exact tellsO_walk a n m c h i k ra rn q rc row w hK hn hrc (by unfold Hid; omega) (by unfold Hid; omega) (by omega) (by omega) hv hr hv.length.symm hrl (by omega) (by omega)
end Go.Proofs.YtampoikncgagkaaDoor
