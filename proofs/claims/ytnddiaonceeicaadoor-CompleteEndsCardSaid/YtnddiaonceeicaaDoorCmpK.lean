/- The walk of CompleteEnds. -/
import Derived.Test.YtnddiaonceeicaaDoorCmpH
import Derived.Deep.QuietTactic
import Derived.BigQuiet
namespace Go.Proofs.YtnddiaonceeicaaDoor.WPlain
end Go.Proofs.YtnddiaonceeicaaDoor.WPlain
namespace Go.Proofs.YtnddiaonceeicaaDoor.QPlain
end Go.Proofs.YtnddiaonceeicaaDoor.QPlain
namespace Go.Proofs.YtnddiaonceeicaaDoor.RPlain
end Go.Proofs.YtnddiaonceeicaaDoor.RPlain
namespace Go.Proofs.YtnddiaonceeicaaDoor.RPlain
open WPlain QPlain

/-- what the law looks at, of a completion -/
structure Endd (h : List Ev) (n : Nat) (G : List Ev) : Prop where
  take : G.take h.length = h
  len : h.length ≤ G.length
  chk : (checkS G).2 = 0 ∧ (checkS G).1 = G.length
  aft : afterS (tableS G) = afterS (tableS h)
  st : ∀ k (hk : k < (tableS G).length), ((tableS G)[k].s = 2 ↔ n.testBit k = true) ∧ 2 ≤ (tableS G)[k].s
theorem choice_mem {h : List Ev} (h6 : (tableS h).length ≤ 6) {n : Nat} (hn : n ∈ chL (tableS h)) : n < 64 ∧ choiceS (tableS h) n = true := by
  rw [← choices_chL h6] at hn
  obtain ⟨h1, h2⟩ := List.mem_filter.1 hn
  exact ⟨List.mem_range.1 h1, h2⟩
theorem endd_of {h : List Ev} (h0 : (checkS h).2 = 0) {n : Nat} (hn : choiceS (tableS h) n = true) (hl : (completeS h n).length ≤ 60) : Endd h n (completeS h n) := by
  refine ⟨complete_take h n, by unfold completeS; rw [List.length_append]; omega, complete_check h0 n hl, complete_after h0 n hl, fun k hk => ?_⟩
  have hk2 : k < (namesOf (completeS h n)).length := by rw [← tableS_len]; exact hk
  rw [tableS_get hk2]
  have hk3 : k < (namesOf h).length := by rw [complete_names] at hk2; exact hk2
  have he : (namesOf (completeS h n))[k] = (namesOf h)[k] := by simp only [complete_names]
  rw [he]
  exact complete_state n hn hk3
end Go.Proofs.YtnddiaonceeicaaDoor.RPlain
namespace Go.Proofs.YtnddiaonceeicaaDoor
open Go.RowKit WPlain QPlain RPlain

set_option maxRecDepth 100000 in
set_option maxHeartbeats 1000000 in
theorem ends_bad (a : Option Addr) (n m c : Nat) (h : List Ev) (w : World) (hK : HasK w) (hn : n ≤ c) (HAE : Hid ((min (n : Int) 65).toNat = m)) (hv : Evs w (.slice a m c) h) (h1 : h.length = m) (hm1 : m ≤ 65) (h0 : (checkS h).2 ≠ 0) :
    Calls Tryd.prog 4 #[.slice a n c] w fun e w' => e = .returned (.bool true) ∧ Below w.heap.size w w' := by
  have HK := Lib.hid hK
  have HT := Lib.hid (choices_any _ h w hK hv (by omega))
  simp only [if_neg h0] at HT
  obtain ⟨er, her⟩ : ∃ er, (checkS h).2 = er := ⟨_, rfl⟩
  rw [her] at HT h0
  have te : ((er : Int) != 0) = true := by simp; omega
  clear hK hv her h0
  go_enter Tryd.func4, Tryd.ntmps4
  go_wp2_with fail
  rw [HAE.out]
  refine HT.out.mono ?_
  rintro e w1 ⟨v1, rfl, hv1, hb1⟩
  have HB1 := Lib.hid hb1
  obtain ⟨a1, c1, rfl⟩ := hv1.len
  clear hb1 HT hv1
  go_wp2_with fail
  refine (aliveC_any _ (HK.out.later HB1.out (Nat.le_refl _))).mono ?_
  rintro e w4 ⟨rfl, hb4⟩
  have HB4 := Lib.hid (HB1.out.trans (hb4.mono HB1.out.size))
  clear hb4 HB1
  go_wp2
  go_ret
  exact ⟨rfl, HB4.out⟩
set_option maxRecDepth 100000 in
set_option maxHeartbeats 4000000 in
theorem ends_good (a : Option Addr) (n m c : Nat) (h : List Ev) (w : World) (hK : HasK w) (hn : n ≤ c) (hz : a = none → c = 0) (HAE : Hid ((min (n : Int) 65).toNat = m)) (hmn : m ≤ n) (hv : Evs w (.slice a m c) h) (h1 : h.length = m) (hm1 : m ≤ 65) (h0 : (checkS h).2 = 0) :
    Calls Tryd.prog 4 #[.slice a n c] w fun e w' => e = .returned (.bool true) ∧ Below w.heap.size w w' := by
  have HK := Lib.hid hK
  have HV := Lib.hid hv
  have HSR : Hid (Src (.slice a m c)) := srcC hz (by omega)
  have HT := Lib.hid (choices_any _ h w hK hv (by omega))
  have HAF := Lib.hid (fun (W : World) (hW : Below w.heap.size w W) => after_any _ h W (hK.later hW (Nat.le_refl _)) (hv.below hW (Nat.le_refl _)) (by omega))
  simp only [h0, if_true] at HT HAF
  have h6 := table_six h0
  have HM : Hid (∀ x ∈ chL (tableS h), x < 64 ∧ compE h x = (if 60 < (completeS h x).length then 5 else 0) ∧ ((completeS h x).length ≤ 60 → Endd h x (completeS h x))) := fun x hx => by
    have hc := choice_mem h6 hx
    exact ⟨hc.1, compE_yes h0 hc.2, fun hl => endd_of h0 hc.2 hl⟩
  have hpos := chL_pos (tableS h)
  have hcl : (chL (tableS h)).length ≤ 64 := by
    rw [← choices_chL h6]
    have := List.length_filter_le (choiceS (tableS h)) (List.range 64)
    rw [List.length_range] at this
    exact this
  have hal := afterS_len (tableS h)
  generalize chL (tableS h) = L at *
  have hul : (u32s L).length = L.length := by simp [u32s]
  obtain ⟨A, hA⟩ : ∃ A, afterS (tableS h) = A := ⟨_, rfl⟩
  have HAA := Lib.hid hA
  rw [hA] at HAF hal
  have hau : (u32s A).length = A.length := by simp [u32s]
  have hA6 : A.length ≤ 6 := by omega
  have hne : ((L.length : Int) == 0) = false := beq_eq_false_iff_ne.2 (by omega)
  clear hA hal hK hv h0 hz h6
  go_enter Tryd.func4, Tryd.ntmps4
  go_wp2_with fail
  rw [HAE.out]
  refine HT.out.mono ?_
  rintro e w1 ⟨v1, rfl, hv1, hb1⟩
  have HB1 := Lib.hid hb1
  have HV1 := Lib.hid hv1
  obtain ⟨a1, c1, rfl⟩ := hv1.len
  rw [hul] at HV1 ⊢
  clear hb1 HT hv1 hul
  go_wp2_with fail
  refine (HAF.out _ HB1.out).mono ?_
  rintro e w2 ⟨v2, rfl, hv2, hb2⟩
  have HB2 := Lib.hid (HB1.out.trans (hb2.mono HB1.out.size))
  have HV2 := Lib.hid (HV1.out.below hb2 (Nat.le_refl _))
  have HO2 := Lib.hid hv2
  obtain ⟨a2, c2, rfl⟩ := hv2.len
  rw [hau] at HO2 ⊢
  clear hb2 HB1 hv2 HV1 HAF hau
  go_wp2_with fail
  refine (aliveC_any _ (HK.out.later HB2.out (Nat.le_refl _))).mono ?_
  rintro e w5 ⟨rfl, hb5⟩
  have HB5 := Lib.hid (HB2.out.trans (hb5.mono HB2.out.size))
  have HV5 := Lib.hid (HV2.out.below hb5 (Nat.le_refl _))
  have HO5 := Lib.hid (HO2.out.below hb5 (Nat.le_refl _))
  have HH5 := Lib.hid (HV.out.below HB5.out (Nat.le_refl _))
  have HK5 := Lib.hid (HK.out.later HB5.out (Nat.le_refl _))
  have HB0 := Lib.hid (Below.refl w5.heap.size w5)
  clear hb5 HB2 HV2 HO2 HV HK hne
  go_wp2_with fail
  go_loopw [55] (fun x wr => ∃ i : Nat, i ≤ L.length ∧ x = .int .i64 i ∧ Hid (Below w5.heap.size w5 wr)) (fun x _ => L.length - (intOf x).toNat)
  case atStart => exact ⟨0, by omega, rfl, HB0⟩
  case round =>
    clear HB0
    obtain ⟨i, hi, rfl, HB⟩ := hrel
    by_cases hlt : i < L.length
    · have hv6 := HV5.out.below HB.out (Nat.le_refl _)
      obtain ⟨b, o, c', he, hbl, hcs⟩ := hv6.opened (by simp [u32s]; omega)
      simp only [Value.slice.injEq] at he
      obtain ⟨rfl, -, rfl⟩ := he
      have hci := hcs i (.int .u32 (L[i] : Nat)) (by unfold u32s; rw [List.getElem?_map, List.getElem?_eq_getElem hlt]; rfl)
      obtain ⟨hx64, hce, hen⟩ := HM.out L[i] (List.getElem_mem hlt)
      have HC := Lib.hid (complete_any _ h L[i] wr (HK5.out.later HB.out (Nat.le_refl _)) (HH5.out.below HB.out (Nat.le_refl _)) HSR.out (by omega) (by omega))
      generalize L[i] = x at *
      have HEN := Lib.hid hen
      clear hcs hbl hv6 hen
      unfold Cmpl at HC
      rw [hce] at HC
      clear hce
      by_cases hg : 60 < (completeS h x).length
      · rw [if_pos hg] at HC
        rw [if_neg (show ¬ (5 : Nat) = 0 by decide)] at HC
        clear hg HEN
        go_wp2_with fail
        refine HC.out.mono ?_
        rintro e w6 ⟨v6, rfl, hr6, hb6⟩
        have HB6 := Lib.hid (HB.out.trans (hb6.mono HB.out.size))
        obtain ⟨a6, c6, rfl⟩ := row_slice hr6
        clear hr6 hb6 HC HB
        go_wp2
        go_roundw
        case rel => exact ⟨i + 1, by omega, by go_num, HB6⟩
        case measure => simp [intOf]; omega
      · rw [if_neg hg, if_pos rfl] at HC
        have HE := Lib.hid (HEN.out (by omega))
        clear HEN
        have hG60 : (completeS h x).length ≤ 60 := by omega
        have hhG := HE.out.len
        generalize completeS h x = G at *
        clear hg
        go_wp2_with fail
        refine HC.out.mono ?_
        rintro e w6 ⟨v6, rfl, hr6, hb6⟩
        have HB6 := Lib.hid (HB.out.trans (hb6.mono HB.out.size))
        have HG6 := Lib.hid (Evs.of_row hr6)
        have hcap : ∃ a6 c6, v6 = .slice a6 G.length c6 ∧ G.length ≤ c6 := by
          rcases hr6.2 with ⟨rfl, hn0⟩ | ⟨g, cap, cur, rfl, _, _, hcp, _⟩
          · exact ⟨none, 0, by rw [hn0], by omega⟩
          · exact ⟨_, _, rfl, hcp⟩
        obtain ⟨a6, c6, rfl, hcap⟩ := hcap
        clear hr6 hb6 HC HB
        have HCT : Hid (Evs w6 (.slice a6 m c6) h) := by
          have h2 := evs_cutP HG6.out m (by omega)
          have h3 := HE.out.take
          rw [h1] at h3
          rw [h3] at h2
          exact h2
        have hk0 : (0 : Int) ≤ (m : Int) := by omega
        have hkc : (m : Int) ≤ (c6 : Int) := by omega
        have tl : decide ((G.length : Int) < (m : Int)) = false := decide_eq_false (by omega)
        have tl2 : ¬ G.length < m := by omega
        have HH6 := Lib.hid (HH5.out.below HB6.out (Nat.le_refl _))
        go_wp2_with fail
        refine (same_any _ _ _ _ _ HCT.out HH6.out (by omega) (by omega)).mono ?_
        rintro e w7 ⟨rfl, z7, rfl⟩
        have HB7 := Lib.hid (below_drN HB6.out z7)
        have HG7 : Hid (Evs (w6.drewN z7) (.slice a6 G.length c6) G) := HG6.out
        clear HB6 HG6 HCT HH6 hk0 hkc tl tl2
        generalize w6.drewN z7 = w7 at *
        have HCK := Lib.hid (check_any _ G w7 (HK5.out.later HB7.out (Nat.le_refl _)) HG7.out (by omega))
        rw [HE.out.chk.1, HE.out.chk.2] at HCK
        go_wp2_with fail
        refine HCK.out.mono ?_
        rintro e w8 ⟨rfl, hb8⟩
        have HB8 := Lib.hid (HB7.out.trans (hb8.mono HB7.out.size))
        have HG8 := Lib.hid (HG7.out.below hb8 (Nat.le_refl _))
        clear hb8 HB7 HG7 HCK
        have HTA := Lib.hid (table_any _ G w8 (HK5.out.later HB8.out (Nat.le_refl _)) HG8.out (by omega))
        rw [HE.out.chk.1, if_pos rfl] at HTA
        go_wp2_with fail
        refine HTA.out.mono ?_
        rintro e w9 ⟨v9, rfl, hv9, hb9⟩
        have HB9 := Lib.hid (HB8.out.trans (hb9.mono HB8.out.size))
        have HG9 := Lib.hid (HG8.out.below hb9 (Nat.le_refl _))
        have HT9 := Lib.hid hv9
        obtain ⟨a9, c9, rfl⟩ := hv9.len
        clear hb9 hv9 HB8 HG8 HTA
        have HAG := Lib.hid (after_any _ G w9 (HK5.out.later HB9.out (Nat.le_refl _)) HG9.out (by omega))
        rw [HE.out.chk.1, if_pos rfl, HE.out.aft, HAA.out] at HAG
        have hau : (u32s A).length = A.length := by simp [u32s]
        have HAU := Lib.hid hau
        clear hau
        go_wp2_with fail
        refine HAG.out.mono ?_
        rintro e w10 ⟨v10, rfl, hv10, hb10⟩
        have HB10 := Lib.hid (HB9.out.trans (hb10.mono HB9.out.size))
        have HT10 := Lib.hid (HT9.out.below hb10 (Nat.le_refl _))
        have HF10 := Lib.hid hv10
        obtain ⟨a10, c10, rfl⟩ := hv10.len
        rw [HAU.out] at HF10 ⊢
        have HO10 := Lib.hid (HO5.out.below HB10.out (Nat.le_refl _))
        clear hb10 hv10 HB9 HT9 HG9 HAG
        go_wp2_with fail
        refine (refSameU_any _ _ _ _ _ HO10.out HF10.out rfl (by omega)).mono ?_
        rintro e w11 ⟨rfl, z11, rfl⟩
        have HB11 := Lib.hid (below_drN HB10.out z11)
        have HT11 := Lib.hid (HT10.out.drewN z11)
        clear HB10 HT10 HF10 HO10
        generalize w10.drewN z11 = w11 at *
        have HST := Lib.hid HE.out.st
        have hT6 := table_six HE.out.chk.1
        generalize tableS G = T at *
        have HB0 := Lib.hid (Below.refl w11.heap.size w11)
        clear HE hhG
        obtain ⟨wo, hwo⟩ : ∃ wo : World, wo = wr := ⟨wr, rfl⟩
        subst hwo
        go_wp2_with fail
        go_loopw [124] (fun y wr => ∃ k : Nat, k ≤ T.length ∧ y = .int .i64 k ∧ Hid (Below w11.heap.size w11 wr)) (fun y _ => T.length - (intOf y).toNat)
        case atStart => exact ⟨0, by omega, rfl, HB0⟩
        case round =>
          clear HB0
          obtain ⟨k, hk, rfl, HBK⟩ := hrel
          by_cases hlk : k < T.length
          · have hT := HT11.out.below HBK.out (Nat.le_refl _)
            obtain ⟨tb, tof, tc, he⟩ := hT.opened (by omega)
            simp only [Value.slice.injEq] at he
            obtain ⟨rfl, -, rfl⟩ := he
            obtain ⟨u, x0, x1, x2, x3, x4, q⟩ := hT.get k hlk
            obtain ⟨ua, uc, rfl, -⟩ := q.len
            have HB3 := Lib.hid (HBK.out.alloc HBK.out.size (.cells #[.int .i64 T[k].n, .int .i64 T[k].f, .int .i64 T[k].l, .int .i64 T[k].s, .slice ua T[k].o.length uc] 46))
            have hA := At.new wr #[.int .i64 T[k].n, .int .i64 T[k].f, .int .i64 T[k].l, .int .i64 T[k].s, .slice ua T[k].o.length uc] 46
            obtain ⟨hs2, hsl⟩ := HST.out k hlk
            generalize T[k] = X at *
            have y3 := hA.cell (i := 3) (v := .int .i64 X.s) rfl
            have hmin : min k 32 = k := Nat.min_eq_left (by omega)
            have tlt : decide (X.s < 2) = false := decide_eq_false (by omega)
            have hand : bits .and .u32 ((x : Int) / 2 ^ k) 1 = ((x / 2 ^ k % 2 : Nat) : Int) := by
              have hdl : x / 2 ^ k ≤ x := Nat.div_le_self _ _
              have h3 := u32_and_nat (x / 2 ^ k) 1 (by omega) (by omega)
              rw [Nat.and_one_is_mod] at h3
              have hcast : ((x / 2 ^ k : Nat) : Int) = (x : Int) / 2 ^ k := by simp
              rw [hcast] at h3
              exact h3
            have hbt : x.testBit k = decide (x / 2 ^ k % 2 = 1) := Nat.testBit_eq_decide_div_mod_eq
            clear hT q hA
            have hmod : x / 2 ^ k % 2 = 0 ∨ x / 2 ^ k % 2 = 1 := by omega
            rcases hmod with hmod | hmod
            · rw [hmod] at hand hbt
              replace hand : bits .and .u32 ((x : Int) / 2 ^ k) 1 = 0 := hand
              have ts : ((X.s : Int) == 2) = false := beq_eq_false_iff_ne.2 (fun hh => by rw [hs2.1 hh] at hbt; exact absurd hbt (by decide))
              clear hbt hmod hs2 hsl HBK
              go_wp2_with fail
              go_quiet (fail)
              clear hand
              go_wp2
              go_roundw
              case rel => exact ⟨k + 1, by omega, by go_num, below_drN HB3.out _⟩
              case measure => simp [intOf]; omega
            · rw [hmod] at hand hbt
              replace hand : bits .and .u32 ((x : Int) / 2 ^ k) 1 = 1 := hand
              have ts : ((X.s : Int) == 2) = true := beq_iff_eq.2 (hs2.2 (by rw [hbt]; rfl))
              clear hbt hmod hs2 hsl HBK
              go_wp2_with fail
              go_quiet (fail)
              clear hand
              go_wp2
              go_roundw
              case rel => exact ⟨k + 1, by omega, by go_num, below_drN HB3.out _⟩
              case measure => simp [intOf]; omega
          · obtain rfl : k = T.length := by omega
            have HBF := Lib.hid (HB11.out.trans (HBK.out.mono HB11.out.size))
            clear HBK
            go_wp2
            go_roundw
            case rel => exact ⟨i + 1, by omega, by go_num, HBF⟩
            case measure => simp [intOf]; omega
    · obtain rfl : i = L.length := by omega
      have HBF := Lib.hid (HB5.out.trans (HB.out.mono HB5.out.size))
      clear HB
      go_wp2
      go_ret
      exact ⟨rfl, HBF.out⟩
theorem ends_any (a : Option Addr) (n c : Nat) (h : List Ev) (w : World) (hK : HasK w) (hn : n ≤ c) (hz : a = none → c = 0) (hv : Evs w (.slice a (min (n : Int) 65).toNat c) h) :
    Calls Tryd.prog 4 #[.slice a n c] w fun e w' => e = .returned (.bool true) ∧ Below w.heap.size w w' := by
  obtain ⟨m, hm⟩ : ∃ m, (min (n : Int) 65).toNat = m := ⟨_, rfl⟩
  rw [hm] at hv
  by_cases h0 : (checkS h).2 = 0
  · exact ends_good a n m c h w hK hn hz hm (by omega) hv hv.length.symm (by omega) h0
  · exact ends_bad a n m c h w hK hn hm hv hv.length.symm (by omega) h0
end Go.Proofs.YtnddiaonceeicaaDoor
