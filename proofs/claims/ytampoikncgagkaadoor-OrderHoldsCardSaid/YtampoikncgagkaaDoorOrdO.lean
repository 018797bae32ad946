/- The walk of OrderHolds. -/
import Derived.Test.YtampoikncgagkaaDoorOrdN
import Derived.Deep.RegionHeld
import Derived.Deep.DeepMust
import Derived.Deep.Cut
import Derived.Deep.DeepCutAuto
namespace Go.Proofs.YtampoikncgagkaaDoor.WPlain
end Go.Proofs.YtampoikncgagkaaDoor.WPlain
namespace Go.Proofs.YtampoikncgagkaaDoor.QPlain
end Go.Proofs.YtampoikncgagkaaDoor.QPlain
namespace Go.Proofs.YtampoikncgagkaaDoor.RPlain
end Go.Proofs.YtampoikncgagkaaDoor.RPlain
namespace Go.Proofs.YtampoikncgagkaaDoor
open Go.RowKit WPlain QPlain RPlain

/-- what follows of two befores, of a table's places -/
theorem bfrAt_self {h : List Ev} {i : Nat} (hi : i < (tableS h).length) : bfrAt (tableS h) i i = false := by
  have hin : i < (namesOf h).length := by rw [tableS_len] at hi; exact hi
  rw [bfrAt_get hi hi, tableS_get hin]
  exact bfr_self h (List.getElem_mem hin)
theorem bfrAt_trans {h : List Ev} {i k m : Nat} (hi : i < (tableS h).length) (hk : k < (tableS h).length) (hm : m < (tableS h).length)
    (h1 : bfrAt (tableS h) i k = true) (h2 : bfrAt (tableS h) k m = true) : bfrAt (tableS h) i m = true := by
  have hin : i < (namesOf h).length := by rw [tableS_len] at hi; exact hi
  have hkn : k < (namesOf h).length := by rw [tableS_len] at hk; exact hk
  have hmn : m < (namesOf h).length := by rw [tableS_len] at hm; exact hm
  rw [bfrAt_get hi hk, tableS_get hin, tableS_get hkn] at h1
  rw [bfrAt_get hk hm, tableS_get hkn, tableS_get hmn] at h2
  rw [bfrAt_get hi hm, tableS_get hin, tableS_get hmn]
  exact bfr_trans h (List.getElem_mem hkn) h1 h2
theorem bfrAt_interval {h : List Ev} {i k m n : Nat} (hi : i < (tableS h).length) (hk : k < (tableS h).length) (hm : m < (tableS h).length) (hn : n < (tableS h).length)
    (h1 : bfrAt (tableS h) i k = true) (h2 : bfrAt (tableS h) m n = true) (h3 : bfrAt (tableS h) i n = false) : bfrAt (tableS h) m k = true := by
  have hin : i < (namesOf h).length := by rw [tableS_len] at hi; exact hi
  have hkn : k < (namesOf h).length := by rw [tableS_len] at hk; exact hk
  have hmn : m < (namesOf h).length := by rw [tableS_len] at hm; exact hm
  have hnn : n < (namesOf h).length := by rw [tableS_len] at hn; exact hn
  rw [bfrAt_get hi hk, tableS_get hin, tableS_get hkn] at h1
  rw [bfrAt_get hm hn, tableS_get hmn, tableS_get hnn] at h2
  rw [bfrAt_get hi hn, tableS_get hin, tableS_get hnn] at h3
  rw [bfrAt_get hm hk, tableS_get hmn, tableS_get hkn]
  rcases bfr_interval h h1 h2 with h4 | h4
  · rw [h3] at h4; cases h4
  · exact h4
theorem own_errP {h : List Ev} (h0 : (checkS h).2 = 0) : errP h ((List.range (tableS h).length).map Int.ofNat) = 0 ∧ kepS h ((List.range (tableS h).length).map Int.ofNat) = true := by
  have hth : thereS (tableS h) ((List.range (tableS h).length).map Int.ofNat) = true := by
    rw [thereS_iff]
    intro i hi
    obtain ⟨x, hx, rfl⟩ := List.mem_map.1 hi
    have := List.mem_range.1 hx
    have h2 : Int.ofNat x = (x : Int) := rfl
    rw [h2]
    omega
  have he : errP h ((List.range (tableS h).length).map Int.ofNat) = 0 := by unfold errP; rw [if_pos h0, if_pos hth]
  exact ⟨he, by unfold kepS; rw [if_pos he]; exact own_keeps h⟩
/-- the row that the law builds -/
def upto (k : Nat) : List Int := (List.range k).map Int.ofNat
theorem upto_len (k : Nat) : (upto k).length = k := by simp [upto]
theorem upto_snoc (k : Nat) : ints (upto (k + 1)) = ints (upto k) ++ [.int .i64 (k : Int)] := by
  unfold upto ints
  rw [List.range_succ, List.map_append, List.map_append]
  rfl
set_option maxRecDepth 100000 in
set_option maxHeartbeats 4000000 in
theorem holdsO_walk (a : Option Addr) (n m c : Nat) (h : List Ev) (x1 x2 x3 x4 : Int) (w : World) (hK : HasK w) (hn : n ≤ c) (HAE : Hid ((min (n : Int) 65).toNat = m)) (hv : Evs w (.slice a m c) h) (h1 : h.length = m) (hm1 : m ≤ 65) :
    Calls Tryd.prog 4 #[.slice a n c, .int .i64 x1, .int .i64 x2, .int .i64 x3, .int .i64 x4] w fun e w' => e = .returned (.bool true) ∧ Below w.heap.size w w' := by
  have HK := Lib.hid hK
  have H5 := Lib.hid (At.new w #[.slice a m c] 22)
  have HB0 := Lib.hid ((Below.refl w.heap.size w).alloc (Nat.le_refl _) (.cells #[.slice a m c] 22))
  have HV0 := Lib.hid (hv.below HB0.out (Nat.le_refl _))
  have HT := Lib.hid (after_any _ h _ (hK.later HB0.out (Nat.le_refl _)) HV0.out (by omega))
  clear hK hv
  obtain ⟨L, hL⟩ : ∃ L, (if (checkS h).2 = 0 then u32s (afterS (tableS h)) else []) = L := ⟨_, rfl⟩
  obtain ⟨er, her⟩ : ∃ er, (checkS h).2 = er := ⟨_, rfl⟩
  rw [hL, her] at HT
  have HL := Lib.hid hL
  have HER := Lib.hid her
  clear hL her
  have HEL : er ≠ 0 → L.length = 0 := fun hne => by
    rw [← HL.out, HER.out, if_neg hne]; rfl
  by_cases hz : L.length = 0
  · have hgd : er ≠ 0 ∨ er = 0 := by omega
    clear HL HEL
    go_enter Tryd.func4, Tryd.ntmps4
    go_upto_region 2 with fail
    rw [HAE.out]
    go_upto_region 3 with (first | (go_at_call 6; refine HT.out.mono ?_; rintro e w1 ⟨v1, rfl, hv1, hb1⟩; obtain ⟨a1, c1, rfl⟩ := hv1.len; rw [hz]) | fail)
    have HB1 := Lib.hid (HB0.out.trans ((hb1.alloc hb1.size (.cells #[.slice a1 0 c1] 24)).mono HB0.out.size))
    have h11 : (w1.alloc (.cells #[.slice a1 0 c1] 24)).cell? ⟨w1.heap.size, 0, none⟩ = some (.slice a1 0 c1) := (At.new w1 #[.slice a1 0 c1] 24).cell (i := 0) rfl
    have hlt := World.block_lt_of_cell? _ _ h11
    clear hv1 hb1 HT
    generalize w1.alloc (.cells #[.slice a1 0 c1] 24) = w2 at *
    generalize w1.heap.size = N at *
    rcases hgd with hgd | rfl
    · have te : ((er : Int) != 0) = true := by simp; omega
      go_wp2_with fail
      refine (aliveO_any _ (HK.out.later HB1.out (Nat.le_refl _))).mono ?_
      rintro e w3 ⟨rfl, hb3⟩
      have h12 := (hb3.cell hlt).trans h11
      go_wp2
      go_ret
      exact ⟨rfl, HB1.out.trans (hb3.mono HB1.out.size)⟩
    · go_wp2_with fail
      refine (aliveO_any _ (HK.out.later HB1.out (Nat.le_refl _))).mono ?_
      rintro e w3 ⟨rfl, hb3⟩
      have h12 := (hb3.cell hlt).trans h11
      go_wp2
      go_ret
      exact ⟨rfl, HB1.out.trans (hb3.mono HB1.out.size)⟩
  · obtain rfl : er = 0 := by
      by_cases he : er = 0
      · exact he
      · exact absurd (HEL he) hz
    have h0 : (checkS h).2 = 0 := HER.out
    obtain rfl : u32s (afterS (tableS h)) = L := by rw [← HL.out, if_pos h0]
    have hll : (u32s (afterS (tableS h))).length = (tableS h).length := by simp [u32s, afterS]
    obtain ⟨N, hN⟩ : ∃ N, (tableS h).length = N := ⟨_, rfl⟩
    rw [hll, hN] at hz
    have hsix := table_six h0
    rw [hN] at hsix
    clear HL HEL HER
    go_enter Tryd.func4, Tryd.ntmps4
    go_upto_region 2 with fail
    rw [HAE.out]
    go_upto_region 3 with (first | (go_at_call 6; refine HT.out.mono ?_; rintro e w1 ⟨v1, rfl, hv1, hb1⟩; obtain ⟨a1, c1, rfl⟩ := hv1.len; rw [hll, hN]) | fail)
    rw [hll, hN] at hv1
    have hbn := (Below.refl w1.heap.size w1).alloc (Nat.le_refl _) (.cells #[.slice a1 N c1] 24)
    have HB2 := Lib.hid (HB0.out.trans ((hb1.trans (hbn.mono hb1.size)).mono HB0.out.size))
    have HE2 := Lib.hid ((HV0.out.below hb1 (Nat.le_refl _)).below hbn (Nat.le_refl _))
    have H52 := Lib.hid ((H5.out.below hb1 H5.out.lt).below hbn (H5.out.below hb1 H5.out.lt).lt)
    have HL2 := Lib.hid (hv1.below hbn (Nat.le_refl _))
    have H11 := Lib.hid (At.new w1 #[.slice a1 N c1] 24)
    have HK2 := Lib.hid (HK.out.later HB2.out (Nat.le_refl _))
    clear hv1 hb1 hbn HT HB0 HV0 H5
    generalize w1.alloc (.cells #[.slice a1 N c1] 24) = w2 at *
    generalize w1.heap.size = N11 at *
    have hc11 := H11.out.cell (i := 0) (v := .slice a1 N c1) rfl
    have HAT : Hid (∀ (x : Int) W, (∃ z, W = w2.drewN z) → Calls Tryd.prog 17 #[.int .i64 x, .pointer (some ⟨N11, 0, none⟩)] W fun e w' => e = .returned (.int .i64 (plc N x : Nat)) ∧ ∃ z, w' = w2.drewN z) := by
      rintro x W ⟨z, rfl⟩
      refine (atH_any x N N11 c1 a1 (w2.drewN z) (by omega) hsix hc11).mono ?_
      rintro e w' ⟨he, z', rfl⟩
      exact ⟨he, z + z', by rw [World.drewN_drewN]⟩
    go_wp2_with fail
    refine (HAT.out _ _ ⟨0, rfl⟩).mono ?_
    rintro e wq ⟨rfl, z1, rfl⟩
    go_wp2_with fail
    refine (HAT.out _ _ ⟨_, rfl⟩).mono ?_
    rintro e wq ⟨rfl, z2, rfl⟩
    go_wp2_with fail
    refine (HAT.out _ _ ⟨_, rfl⟩).mono ?_
    rintro e wq ⟨rfl, z3, rfl⟩
    go_wp2_with fail
    refine (HAT.out _ _ ⟨_, rfl⟩).mono ?_
    rintro e wq ⟨rfl, z4, rfl⟩
    have HP1 := Lib.hid (plc_lt (n := N) (by omega) x1)
    have HP2 := Lib.hid (plc_lt (n := N) (by omega) x2)
    have HP3 := Lib.hid (plc_lt (n := N) (by omega) x3)
    have HP4 := Lib.hid (plc_lt (n := N) (by omega) x4)
    generalize plc N x1 = p1 at *
    generalize plc N x2 = p2 at *
    generalize plc N x3 = p3 at *
    generalize plc N x4 = p4 at *
    clear HAT hc11
    have HB3 := Lib.hid (below_drN HB2.out z4)
    have HK3 : Hid (HasK (w2.drewN z4)) := HK2.out
    have HE3 : Hid (Evs (w2.drewN z4) (.slice a m c) h) := HE2.out
    have HL3 : Hid (Rd (w2.drewN z4) (.slice a1 N c1) (u32s (afterS (tableS h)))) := HL2.out
    have H53 : Hid (At (w2.drewN z4) w.heap.size #[.slice a m c] 22) := H52.out
    have H113 : Hid (At (w2.drewN z4) N11 #[.slice a1 N c1] 24) := H11.out
    clear HB2 HK2 HE2 HL2 H52 H11
    generalize w2.drewN z4 = w3 at *
    go_upto_region 8 with (first | (go_at_call 10; refine (aliveO_any _ HK3.out).mono ?_; rintro e w4 ⟨rfl, hb4⟩) | fail)
    have hb5 := (Below.refl w4.heap.size w4).alloc (Nat.le_refl _) (.cells #[.bool true] 4)
    have HB5 := Lib.hid (HB3.out.trans ((hb4.trans (hb5.mono hb4.size)).mono HB3.out.size))
    have HK5 := Lib.hid (HK.out.later HB5.out (Nat.le_refl _))
    have HE5 := Lib.hid ((HE3.out.below hb4 (Nat.le_refl _)).below hb5 (Nat.le_refl _))
    have HL5 := Lib.hid ((HL3.out.below hb4 (Nat.le_refl _)).below hb5 (Nat.le_refl _))
    have H55 := Lib.hid ((H53.out.below hb4 H53.out.lt).below hb5 (H53.out.below hb4 H53.out.lt).lt)
    have H115 := Lib.hid ((H113.out.below hb4 H113.out.lt).below hb5 (H113.out.below hb4 H113.out.lt).lt)
    have H145 := Lib.hid (At.new w4 #[.bool true] 4)
    clear hb4 hb5 HB3 HK3 HE3 HL3 H53 H113
    generalize w4.alloc (.cells #[.bool true] 4) = w5 at *
    generalize w4.heap.size = N14 at *
    have HBF : Hid (∀ (I K : Nat), I < N → K < N → ∀ W, Below w5.heap.size w5 W → Calls Tryd.prog 18 #[.int .i64 (I : Int), .int .i64 (K : Int), .pointer (some ⟨w.heap.size, 0, none⟩), .pointer (some ⟨N14, 0, none⟩), .pointer (some ⟨N11, 0, none⟩)] W fun e w' => e = .returned (.bool (bfrAt (tableS h) I K)) ∧ Below W.heap.size W w') := fun I K hI hK W hW =>
      befH_any h I K w.heap.size N14 N11 m c a _ W (HK5.out.later hW (Nat.le_refl _)) h0 (by omega) (by omega) (by omega) (H55.out.below hW H55.out.lt) (H145.out.below hW H145.out.lt) (H115.out.below hW H115.out.lt) (HE5.out.below hW (Nat.le_refl _)) (HL5.out.below hW (Nat.le_refl _))
    have E11 := Lib.hid (bfrAt_self (h := h) (i := p1) (by have := HP1.out; omega))
    have ET := Lib.hid (fun h12 h23 => bfrAt_trans (h := h) (i := p1) (k := p2) (m := p3) (by have := HP1.out; omega) (by have := HP2.out; omega) (by have := HP3.out; omega) h12 h23)
    have EI := Lib.hid (fun h12 h34 h14 => bfrAt_interval (h := h) (i := p1) (k := p2) (m := p3) (n := p4) (by have := HP1.out; omega) (by have := HP2.out; omega) (by have := HP3.out; omega) (by have := HP4.out; omega) h12 h34 h14)
    have HKP := Lib.hid (fun (W : World) (hW : Below w5.heap.size w5 W) (rv : Value) (hr : Rd W rv (ints (upto N))) => keeps_any (.slice a m c) rv h (upto N) W (HK5.out.later hW (Nat.le_refl _)) (HE5.out.below hW (Nat.le_refl _)) (by omega) hr (by rw [upto_len]; omega))
    have hown := own_errP h0
    rw [hN] at hown
    unfold upto at HKP
    rw [hown.1, hown.2] at HKP
    clear hown
    have hq0 := Below.refl w5.heap.size w5
    clear HE5 HL5 HK5
    go_upto_region 9 with fail
    go_cut [106] from 20 (fun cc wx => cc = .bool false ∧ Below w5.heap.size w5 wx)
    case first =>
      clear HKP
      go_wp2_with fail
      refine (HBF.out _ _ HP1.out HP1.out _ hq0).mono ?_
      rintro e wq ⟨rfl, hp1⟩
      rw [E11.out]
      have hq1 := hq0.trans (hp1.mono hq0.size)
      clear hp1 hq0
      go_wp2_with fail
      refine (HBF.out _ _ HP1.out HP2.out _ hq1).mono ?_
      rintro e wq ⟨rfl, hp2⟩
      have hq2 := hq1.trans (hp2.mono hq1.size)
      clear hp2 hq1
      cases e12 : bfrAt (tableS h) p1 p2 with
      | false =>
        have E12 := Lib.hid e12
        clear e12 ET EI
        go_wp2_with fail
        refine (HBF.out _ _ HP1.out HP2.out _ hq2).mono ?_
        rintro e wq ⟨rfl, hp3⟩
        rw [E12.out]
        have hq3 := hq2.trans (hp3.mono hq2.size)
        clear hp3 hq2
        go_wp2_with fail
        go_meet
        exact ⟨rfl, hq3⟩
      | true =>
        have E12 := Lib.hid e12
        clear e12
        go_wp2_with fail
        refine (HBF.out _ _ HP2.out HP3.out _ hq2).mono ?_
        rintro e wq ⟨rfl, hp3⟩
        have hq3 := hq2.trans (hp3.mono hq2.size)
        clear hp3 hq2
        cases e23 : bfrAt (tableS h) p2 p3 with
        | false =>
          clear e23 ET
          go_wp2_with fail
          refine (HBF.out _ _ HP1.out HP2.out _ hq3).mono ?_
          rintro e wq ⟨rfl, hp4⟩
          rw [E12.out]
          have hq4 := hq3.trans (hp4.mono hq3.size)
          clear hp4 hq3
          go_wp2_with fail
          refine (HBF.out _ _ HP3.out HP4.out _ hq4).mono ?_
          rintro e wq ⟨rfl, hp5⟩
          have hq5 := hq4.trans (hp5.mono hq4.size)
          clear hp5 hq4
          cases e34 : bfrAt (tableS h) p3 p4 with
          | false =>
            clear e34 EI
            go_wp2_with fail
            go_meet
            exact ⟨rfl, hq5⟩
          | true =>
            have E34 := Lib.hid e34
            clear e34
            go_wp2_with fail
            refine (HBF.out _ _ HP1.out HP4.out _ hq5).mono ?_
            rintro e wq ⟨rfl, hp6⟩
            have hq6 := hq5.trans (hp6.mono hq5.size)
            clear hp6 hq5
            cases e14 : bfrAt (tableS h) p1 p4 with
            | true =>
              clear e14 EI
              go_wp2_with fail
              go_meet
              exact ⟨rfl, hq6⟩
            | false =>
              have E32 := Lib.hid (EI.out E12.out E34.out e14)
              clear e14 EI
              go_wp2_with fail
              refine (HBF.out _ _ HP3.out HP2.out _ hq6).mono ?_
              rintro e wq ⟨rfl, hp7⟩
              rw [E32.out]
              have hq7 := hq6.trans (hp7.mono hq6.size)
              clear hp7 hq6
              go_wp2_with fail
              go_meet
              exact ⟨rfl, hq7⟩
        | true =>
          have E13 := Lib.hid (ET.out E12.out e23)
          clear e23 ET
          go_wp2_with fail
          refine (HBF.out _ _ HP1.out HP3.out _ hq3).mono ?_
          rintro e wq ⟨rfl, hp4⟩
          rw [E13.out]
          have hq4 := hq3.trans (hp4.mono hq3.size)
          clear hp4 hq3
          go_wp2_with fail
          refine (HBF.out _ _ HP1.out HP2.out _ hq4).mono ?_
          rintro e wq ⟨rfl, hp5⟩
          rw [E12.out]
          have hq5 := hq4.trans (hp5.mono hq4.size)
          clear hp5 hq4
          go_wp2_with fail
          refine (HBF.out _ _ HP3.out HP4.out _ hq5).mono ?_
          rintro e wq ⟨rfl, hp6⟩
          have hq6 := hq5.trans (hp6.mono hq5.size)
          clear hp6 hq5
          cases e34 : bfrAt (tableS h) p3 p4 with
          | false =>
            clear e34 EI
            go_wp2_with fail
            go_meet
            exact ⟨rfl, hq6⟩
          | true =>
            have E34 := Lib.hid e34
            clear e34
            go_wp2_with fail
            refine (HBF.out _ _ HP1.out HP4.out _ hq6).mono ?_
            rintro e wq ⟨rfl, hp7⟩
            have hq7 := hq6.trans (hp7.mono hq6.size)
            clear hp7 hq6
            cases e14 : bfrAt (tableS h) p1 p4 with
            | true =>
              clear e14 EI
              go_wp2_with fail
              go_meet
              exact ⟨rfl, hq7⟩
            | false =>
              have E32 := Lib.hid (EI.out E12.out E34.out e14)
              clear e14 EI
              go_wp2_with fail
              refine (HBF.out _ _ HP3.out HP2.out _ hq7).mono ?_
              rintro e wq ⟨rfl, hp8⟩
              rw [E32.out]
              have hq8 := hq7.trans (hp8.mono hq7.size)
              clear hp8 hq7
              go_wp2_with fail
              go_meet
              exact ⟨rfl, hq8⟩
    case rest =>
    obtain ⟨rfl, hq⟩ := hcut
    have HQ := Lib.hid hq
    have hc11 := (H115.out.below hq H115.out.lt).cell (i := 0) (v := .slice a1 N c1) rfl
    obtain ⟨j0, hj0, hy0, hy1', hy2'⟩ := info_parts info3
    have hbw := HB5.out.size
    have hbq := hq.size
    clear hq ET EI E11 HBF hq0
    go_wp2_with fail
    go_loopw [16, 109] (fun y x wr => ∃ k : Nat, k ≤ N ∧ x = .int .i64 k ∧ wr.ownsRow wc.heap.size 3 1 y k (ints (upto k)) ∧ Below wc.heap.size wc wr) (fun _ x _ => N - (intOf x).toNat)
    case atStart => exact ⟨0, by omega, rfl, World.ownsRow_nil _ _ _ _, Below.refl _ _⟩
    case round =>
      obtain ⟨k, hk, rfl, hy, hb⟩ := hrel
      obtain ⟨ya, yc, rfl⟩ := row_slice hy
      have hbs := hb.size
      by_cases hlt : k < N
      · go_wp2_with (at_builtin; refine wpList_append_own _ rfl _ _ 23 rfl wc.heap.size 3 j0 (.int .i64 0) 1 8 Tryd.underlying23 hj0 hy0 hy1' hy2' rfl (by decide) (.slice ya k yc) k _ rfl (hy.alloc _) ⟨wr.heap.size, 0, none⟩ 1 1 [.int .i64 (k : Int)] rfl rfl (cell_one_at _ _ _) (one_int _ _) (by unfold maxLen; omega) (by omega) (by simp; omega) ?_)
        intro v2 w7 hy2 hg2 _
        have hb7 := (hb.alloc hbs (.cells #[.int .i64 (k : Int)] 3)).grown hg2 (by simp; omega) (fun k' hk' => (hy.lt k' hk').1)
        rw [← upto_snoc] at hy2
        have HY := Lib.hid hy2
        clear hy hy2 hg2 hb
        go_wp2
        go_roundw
        case rel => exact ⟨k + 1, by omega, by go_num, HY.out, hb7⟩
        case measure => simp [intOf]; omega
      · obtain rfl : k = N := by omega
        have HBR := Lib.hid (HQ.out.trans (hb.mono HQ.out.size))
        have hkp := HKP.out wr HBR.out _ (Rd.of_row hy)
        have hc5 := (H55.out.below HBR.out H55.out.lt).cell (i := 0) (v := .slice a m c) rfl
        have HBW := Lib.hid (HB5.out.trans (HBR.out.mono HB5.out.size))
        have H14R := Lib.hid (H145.out.below HBR.out H145.out.lt)
        clear hy hb
        go_wp2_with fail
        refine hkp.mono ?_
        rintro e w8 ⟨rfl, hb8⟩
        have hc14 := (H14R.out.below hb8 H14R.out.lt).cell (i := 0) (v := .bool true) rfl
        go_wp2
        go_ret
        exact ⟨rfl, HBW.out.trans (hb8.mono HBW.out.size)⟩
theorem holdsO_any (a : Option Addr) (n c : Nat) (h : List Ev) (x1 x2 x3 x4 : Int) (w : World) (hK : HasK w) (hn : n ≤ c) (hv : Evs w (.slice a (min (n : Int) 65).toNat c) h) :
    Calls Tryd.prog 4 #[.slice a n c, .int .i64 x1, .int .i64 x2, .int .i64 x3, .int .i64 x4] w fun e w' => e = .returned (.bool true) ∧ Below w.heap.size w w' := by
  obtain ⟨m, hm⟩ : ∃ m, (min (n : Int) 65).toNat = m := ⟨_, rfl⟩
  rw [hm] at hv
  exact holdsO_walk a n m c h x1 x2 x3 x4 w hK hn hm hv hv.length.symm (by omega)
end Go.Proofs.YtampoikncgagkaaDoor
