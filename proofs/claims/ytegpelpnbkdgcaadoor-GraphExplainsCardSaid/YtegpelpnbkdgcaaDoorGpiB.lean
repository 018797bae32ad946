/- The walk of GraphExplains. -/
import Derived.Test.YtegpelpnbkdgcaaDoorMg28
import Derived.Test.YtegpelpnbkdgcaaDoorMg24
import Derived.Deep.Cut
import Derived.Deep.DeepCutAuto
namespace Go.Proofs.YtegpelpnbkdgcaaDoor.WPlain
end Go.Proofs.YtegpelpnbkdgcaaDoor.WPlain
namespace Go.Proofs.YtegpelpnbkdgcaaDoor.QPlain
end Go.Proofs.YtegpelpnbkdgcaaDoor.QPlain
namespace Go.Proofs.YtegpelpnbkdgcaaDoor.RPlain
end Go.Proofs.YtegpelpnbkdgcaaDoor.RPlain
namespace Go.Proofs.YtegpelpnbkdgcaaDoor
open Go.RowKit WPlain QPlain RPlain

theorem nats_intsG (L : List Nat) : nats L = ints (L.map fun x : Nat => (x : Int)) := by simp [nats, ints]
theorem whole6 {l : List Tx} {F : List Nat} (h6 : l.length ≤ 6) (hF : Whole l F) : F.length ≤ 6 := by
  have := wholeR_len hF
  omega
/-- what Build answers has so many numbers, which fit -/
theorem bldS_six {h : List Ev} {cm : Nat} {row : List Int} (h6 : (tableS h).length ≤ 6) : (bldS h cm row).length ≤ 6 ∧ ∀ x ∈ bldS h cm row, x < 4294967296 := by
  unfold bldS
  split
  · refine ⟨by rw [bld_len]; exact h6, fun x hx => ?_⟩
    have := gi_lt x hx
    rw [bld_len] at this
    exact Nat.lt_of_lt_of_le this (Nat.pow_le_pow_right (n := 2) (j := 32) (by decide) (by omega))
  · exact ⟨by simp, fun x hx => by cases hx⟩
set_option maxRecDepth 100000 in
set_option maxHeartbeats 8000000 in
theorem gexp_walk (a : Option Addr) (n m c : Nat) (h : List Ev) (cm : Nat) (ra : Option Addr) (rl q rc : Nat) (row : List Int) (w : World) (hK : HasK w) (hn : n ≤ c) (hrc : rl ≤ rc) (HAE : Hid (min (n : Int) 65 = (m : Int))) (HRE : Hid (min (rl : Int) 12 = (q : Int)))
    (hmn : m ≤ n) (hqn : q ≤ rl) (hv : Evs w (.slice a m c) h) (hr : Rd w (.slice ra q rc) (ints row)) (h1 : h.length = m) (hq1 : row.length = q) (hm1 : m ≤ 65) (hq2 : q ≤ 12) (hx : cm < 4294967296) :
    Calls Tryd.prog 4 #[.slice a n c, .int .u32 (cm : Int), .slice ra rl rc] w fun e w' => e = .returned (.bool true) ∧ Below w.heap.size w w' := by
  have HRD := Lib.hid (fun (W : World) (hW : Below w.heap.size w W) => readableG_any _ h cm hx W (hK.later hW (Nat.le_refl _)) (hv.below hW (Nat.le_refl _)) (by omega))
  have HAF := Lib.hid (fun (W : World) (hW : Below w.heap.size w W) => after_any _ h W (hK.later hW (Nat.le_refl _)) (hv.below hW (Nat.le_refl _)) (by omega))
  have HBD := Lib.hid (fun (W : World) (hW : Below w.heap.size w W) => buildG_any _ _ h cm row hx W (hK.later hW (Nat.le_refl _)) (hv.below hW (Nat.le_refl _)) (by omega) (hr.below hW (Nat.le_refl _)) (by omega))
  have HKP := Lib.hid (fun (W : World) (hW : Below w.heap.size w W) => keeps_any _ _ h row W (hK.later hW (Nat.le_refl _)) (hv.below hW (Nat.le_refl _)) (by omega) (hr.below hW (Nat.le_refl _)) (by omega))
  have HLG := Lib.hid (fun (W : World) (hW : Below w.heap.size w W) => legal_any _ _ h row cm W (hK.later hW (Nat.le_refl _)) (hv.below hW (Nat.le_refl _)) (by omega) (hr.below hW (Nat.le_refl _)) (by omega) hx)
  have HKF := Lib.hid (fun (F : List Nat) (hF : F.length ≤ 6) (rv : Value) (W : World) (hW : Below w.heap.size w W) (hR : Rd W rv (ints (F.map fun x : Nat => (x : Int)))) => keeps_any _ rv h (F.map fun x : Nat => (x : Int)) W (hK.later hW (Nat.le_refl _)) (hv.below hW (Nat.le_refl _)) (by omega) hR (by rw [List.length_map]; omega))
  have HLF := Lib.hid (fun (F : List Nat) (hF : F.length ≤ 6) (rv : Value) (W : World) (hW : Below w.heap.size w W) (hR : Rd W rv (ints (F.map fun x : Nat => (x : Int)))) => legal_any _ rv h (F.map fun x : Nat => (x : Int)) cm W (hK.later hW (Nat.le_refl _)) (hv.below hW (Nat.le_refl _)) (by omega) hR (by rw [List.length_map]; omega) hx)
  have HAL := Lib.hid (fun (W : World) (hW : Below w.heap.size w W) => aliveGr_any W (hK.later hW (Nat.le_refl _)))
  have HRO := Lib.hid (fun (W : World) (hW : Below w.heap.size w W) => hr.below hW (Nat.le_refl _))
  have e1 : (max (min (n : Int) 65) 0) = (m : Int) := by have := HAE.out; omega
  have e2 : (max (min (rl : Int) 12) 0) = (q : Int) := by have := HRE.out; omega
  have e3 := HAE.out
  have e4 := HRE.out
  have hqr : q ≤ rc := by omega
  clear hK hv hr
  by_cases h0 : errG h cm = 0
  · have hck := (errU_zero (errG_zero h0).1).1
    have hl6 := table_six hck
    have hrd : rdG h cm = readS (tableS h) cm := by unfold rdG; rw [if_pos h0]
    have hau : (u32s (afterS (tableS h))).length = (tableS h).length := by simp [u32s, afterS]
    rw [hrd, h0] at HRD
    rw [hck, if_pos rfl] at HAF
    obtain ⟨nt, hnt⟩ : ∃ nt, (tableS h).length = nt := ⟨_, rfl⟩
    rw [hnt] at hau
    by_cases hlen : q = nt
    · -- what is asked of a row that is legal, and keeps the order
      have HASK : Hid (errP h row = 0 → errL h row = 0 → kepS h row = true → legR h row cm = q → readS (tableS h) cm = true ∧ errB h cm row = 0 ∧ ∀ (ev : Value) (W : World), Below w.heap.size w W → Rd W ev (u32s (bldS h cm row)) →
          Calls Tryd.prog 18 #[ev, .slice ra q rc] W fun e w' => e = .returned (.bool true) ∧ Below W.heap.size W w') := fun g1 g2 g3 g4 => by
        have hks : keepsS (tableS h) row = true := by unfold kepS at g3; rw [if_pos g1] at g3; exact g3
        obtain ⟨rn, hrow, hW, hread, hpk⟩ := gi_asked h0 (by omega) g2 hks (by rw [g4, hq1])
        have hwh : wholeS (tableS h).length row = true := whole_iff.2 ⟨rn, hrow, hW⟩
        have heb := errB_ok h0 hwh hread
        refine ⟨hread, heb, fun ev W hWb hev => ?_⟩
        have hbk := bld_ok (h := h) (cm := cm) (rn := rn) (by rw [← hrow]; exact heb)
        rw [← hrow] at hbk
        rw [hbk] at hev
        have hrl := wholeR_len hW
        have hRW := HRO.out W hWb
        rw [hrow] at hRW
        exact keptG_any ev _ (buildS (tableS h) cm rn) rn W (by rw [bld_len]; exact hl6) hev hRW (by omega) (fun b hb => by rw [bld_len]; exact (hW.mem b).1 hb) (fun i hi => bld_small hl6 cm rn hi) (fun k hkl hi => gi_kept (self_table h) hW hpk hkl hi)
      -- what follows where Build answers
      have HFST : Hid (errB h cm row = 0 → mayE (bldS h cm row) = 0 ∨ mayE (bldS h cm row) = 8) := fun he => by
        obtain ⟨hg, hwh, hread⟩ := errB_zero he
        obtain ⟨rn, hrow, hW⟩ := whole_iff.1 hwh
        have hbk := bld_ok (h := h) (cm := cm) (rn := rn) (by rw [← hrow]; exact he)
        rw [← hrow] at hbk
        rw [hbk]
        exact gi_may hl6 cm rn
      have HFIN : Hid (errB h cm row = 0 → mayE (bldS h cm row) = 0 → ∃ F : List Nat, (allS (bldS h cm row)).headD [] = F ∧ F.length ≤ 6 ∧ errP h (F.map fun x : Nat => (x : Int)) = 0 ∧ errL h (F.map fun x : Nat => (x : Int)) = 0 ∧ kepS h (F.map fun x : Nat => (x : Int)) = true ∧ legR h (F.map fun x : Nat => (x : Int)) cm = F.length) := fun he hm => by
        obtain ⟨hg, hwh, hread⟩ := errB_zero he
        obtain ⟨rn, hrow, hW⟩ := whole_iff.1 hwh
        have hbk := bld_ok (h := h) (cm := cm) (rn := rn) (by rw [← hrow]; exact he)
        rw [← hrow] at hbk
        rw [hbk] at hm ⊢
        obtain ⟨F, hF, hFW, hFl, hFk⟩ := gi_first hW hread hm
        have hp := gi_errP hck hFW
        have hl := gi_errL hck hFW
        refine ⟨F, hF, whole6 hl6 hFW, hp, hl, ?_, ?_⟩
        · unfold kepS
          rw [if_pos hp]
          exact gi_keeps hFW hFk
        · unfold legR
          rw [if_pos hl, natsR_cast]
          exact hFl
      obtain ⟨hb6, hb32⟩ := bldS_six (h := h) (cm := cm) (row := row) hl6
      have HB6 : Hid ((bldS h cm row).length ≤ 6) := hb6
      have HFI := Lib.hid (fun (a : Option Addr) (c : Nat) (W : World) (hR : Rd W (.slice a (bldS h cm row).length c) (u32s (bldS h cm row))) => firstX_any a c (bldS h cm row) W hR hb32 (by omega))
      have hul : (u32s (bldS h cm row)).length = (bldS h cm row).length := by simp [u32s]
      have HUL := Lib.hid hul
      have tlen : ((q : Int) != (nt : Int)) = false := by simp [hlen]
      have hqn2 : (q : Int) = (nt : Int) := by omega
      have HQN := Lib.hid hqn2
      clear h0 hck hl6 hrd hnt hlen hb6 hb32 hul hqn2 HRO
      generalize readS (tableS h) cm = r at *
      generalize u32s (afterS (tableS h)) = AU at *
      generalize errP h row = ep at *
      generalize errL h row = el at *
      generalize kepS h row = kp at *
      generalize legR h row cm = lg at *
      generalize errB h cm row = eb at *
      generalize bldS h cm row = BL at *
      go_enter Tryd.func4, Tryd.ntmps4
      go_wp2_with fail
      go_region
      have HB0 := Lib.hid (Below.drew (Below.refl w.heap.size w))
      clear e1 e2 e3 e4
      go_wp2_with fail
      refine (HRD.out _ HB0.out).mono ?_
      rintro e w1 ⟨rfl, hb1⟩
      have HB1 := Lib.hid (HB0.out.trans (hb1.mono HB0.out.size))
      clear hb1 HB0 HRD
      go_wp2_with fail
      refine (HAF.out _ HB1.out).mono ?_
      rintro e w2 ⟨v2, rfl, hv2, hb2⟩
      have HB2 := Lib.hid (HB1.out.trans (hb2.mono HB1.out.size))
      obtain ⟨a2, c2, rfl⟩ := hv2.len
      rw [hau]
      clear hb2 HB1 HAF hv2
      go_wp2_with fail
      refine (HAL.out _ HB2.out).mono ?_
      rintro e w3 ⟨rfl, hb3⟩
      have HB3 := Lib.hid (HB2.out.trans (hb3.mono HB2.out.size))
      clear hb3 HB2 HAL
      go_wp2_with fail
      refine (HKP.out _ HB3.out).mono ?_
      rintro e w4 ⟨rfl, hb4⟩
      have HB4 := Lib.hid (HB3.out.trans (hb4.mono HB3.out.size))
      clear hb4 HB3 HKP
      go_wp2_with fail
      refine (HLG.out _ HB4.out).mono ?_
      rintro e w5 ⟨rfl, hb5⟩
      have HB5 := Lib.hid (HB4.out.trans (hb5.mono HB4.out.size))
      clear hb5 HB4 HLG
      go_wp2_with fail
      refine (HBD.out _ HB5.out).mono ?_
      rintro e w6 ⟨v6, rfl, hv6, hb6⟩
      have HB7 := Lib.hid (HB5.out.trans (hb6.mono HB5.out.size))
      have HV6 := Lib.hid hv6
      obtain ⟨a6, c6, rfl⟩ := hv6.len
      rw [HUL.out] at HV6 ⊢
      clear hb6 HB5 HBD hv6
      generalize hbl : BL.length = bl at *
      have HBL := Lib.hid hbl
      clear hbl
      go_upto_region 11 with fail
      go_cut [113] from 85 (fun cc wx => cc = .bool false ∧ Hid (Below w6.heap.size w6 wx))
      case first =>
        clear HFST HFIN HFI HKF HLF
        by_cases hp : ep = 0
        · have tp : ((ep : Int) == 0) = true := by simp [hp]
          by_cases hl : el = 0
          · have tl : ((el : Int) == 0) = true := by simp [hl]
            cases kp with
            | false =>
              clear hp hl HASK
              go_wp2
              go_meet
              exact ⟨rfl, Below.refl _ _⟩
            | true =>
              by_cases hlq : lg = q
              · have tq : ((lg : Int) == (q : Int)) = true := by simp [hlq]
                obtain ⟨hr, he, hkc⟩ := HASK.out hp hl rfl hlq
                subst hr
                subst he
                have HKC := Lib.hid (hkc _ _ HB7.out HV6.out)
                clear hp hl hlq hkc HASK
                go_wp2_with fail
                refine HKC.out.mono ?_
                rintro e w7 ⟨rfl, hb7⟩
                have HB8 := Lib.hid hb7
                clear hb7
                go_wp2_with fail
                go_meet
                exact ⟨rfl, HB8.out⟩
              · have tq : ((lg : Int) == (q : Int)) = false := by simp; omega
                clear hp hl hlq HASK
                go_wp2
                go_meet
                exact ⟨rfl, Below.refl _ _⟩
          · have tl : ((el : Int) == 0) = false := by simp; omega
            clear hp hl HASK
            go_wp2
            go_meet
            exact ⟨rfl, Below.refl _ _⟩
        · have tp : ((ep : Int) == 0) = false := by simp; omega
          clear hp HASK
          go_wp2
          go_meet
          exact ⟨rfl, Below.refl _ _⟩
      case rest =>
      obtain ⟨rfl, HBX⟩ := hcut
      have HBC := Lib.hid (HB7.out.trans (HBX.out.mono HB7.out.size))
      have HVC := Lib.hid (HV6.out.below HBX.out (Nat.le_refl _))
      clear HBX HB7 HV6 HASK
      by_cases heb : eb = 0
      · have HFS := Lib.hid (HFST.out heb)
        have HFN := Lib.hid (HFIN.out heb)
        subst heb
        clear HFST HFIN
        have HF2 := HFI.out a6 c6 wc
        try rw [HBL.out] at HF2
        have HF3 := Lib.hid (HF2 HVC.out)
        clear HF2 HFI
        rcases HFS.out with hm | hm
        · obtain ⟨F, hF, hF6, hFp, hFl, hFk, hFg⟩ := HFN.out hm
          rw [hm, if_pos rfl, hF] at HF3
          have HKA := Lib.hid (HKF.out F hF6)
          have HLA := Lib.hid (HLF.out F hF6)
          rw [hFk, hFp] at HKA
          rw [hFg, hFl] at HLA
          have tf : ((F.length : Int) == (F.length : Int)) = true := by simp
          clear hm hF hF6 hFp hFl hFk hFg HFS HFN HKF HLF
          go_wp2_with fail
          refine HF3.out.mono ?_
          rintro e w8 ⟨v8, rfl, hv8, hb8⟩
          have HB8 := Lib.hid (HBC.out.trans (hb8.mono HBC.out.size))
          rw [nats_intsG] at hv8
          have HV8 := Lib.hid hv8
          obtain ⟨a8, c8, rfl⟩ := hv8.len
          rw [ints_len, List.length_map] at HV8 ⊢
          clear hb8 hv8 HF3 HBC
          go_wp2_with fail
          refine (HKA.out _ _ HB8.out HV8.out).mono ?_
          rintro e w9 ⟨rfl, hb9⟩
          have HB9 := Lib.hid (HB8.out.trans (hb9.mono HB8.out.size))
          have HV9 := Lib.hid (HV8.out.below hb9 (Nat.le_refl _))
          clear hb9 HB8 HV8 HKA
          go_wp2_with fail
          refine (HLA.out _ _ HB9.out HV9.out).mono ?_
          rintro e w10 ⟨rfl, hb10⟩
          have HB10 := Lib.hid (HB9.out.trans (hb10.mono HB9.out.size))
          clear hb10 HB9 HV9 HLA
          go_wp2
          go_ret
          exact ⟨rfl, HB10.out⟩
        · rw [hm, if_neg (by omega)] at HF3
          clear hm HFS HFN
          go_wp2_with fail
          refine HF3.out.mono ?_
          rintro e w8 ⟨v8, rfl, hv8, hb8⟩
          have HB8 := Lib.hid (HBC.out.trans (hb8.mono HBC.out.size))
          obtain ⟨a8, c8, rfl⟩ := hv8.len
          clear hb8 hv8 HF3 HBC
          go_wp2
          go_ret
          exact ⟨rfl, HB8.out⟩
      · have tb : ((eb : Int) != 0) = true := by simp; omega
        clear heb HFST HFIN HFI
        go_wp2
        go_ret
        exact ⟨rfl, HBC.out⟩
    · have tlen : ((q : Int) != (nt : Int)) = true := by simp; omega
      clear h0 hck hl6 hrd hnt hlen HRO HBD HKP HLG HKF HLF
      generalize readS (tableS h) cm = r at *
      generalize u32s (afterS (tableS h)) = AU at *
      go_enter Tryd.func4, Tryd.ntmps4
      go_wp2_with fail
      go_region
      have HB0 := Lib.hid (Below.drew (Below.refl w.heap.size w))
      clear e1 e2 e3 e4
      go_wp2_with fail
      refine (HRD.out _ HB0.out).mono ?_
      rintro e w1 ⟨rfl, hb1⟩
      have HB1 := Lib.hid (HB0.out.trans (hb1.mono HB0.out.size))
      clear hb1 HB0 HRD
      go_wp2_with fail
      refine (HAF.out _ HB1.out).mono ?_
      rintro e w2 ⟨v2, rfl, hv2, hb2⟩
      have HB2 := Lib.hid (HB1.out.trans (hb2.mono HB1.out.size))
      obtain ⟨a2, c2, rfl⟩ := hv2.len
      rw [hau]
      clear hb2 HB1 HAF hv2
      go_wp2_with fail
      refine (HAL.out _ HB2.out).mono ?_
      rintro e w3 ⟨rfl, hb3⟩
      have HB3 := Lib.hid (HB2.out.trans (hb3.mono HB2.out.size))
      go_wp2
      go_ret
      exact ⟨rfl, HB3.out⟩
  · have hrd : rdG h cm = false := by unfold rdG; rw [if_neg h0]
    rw [hrd] at HRD
    have tn : ((errG h cm : Int) != 0) = true := by simp; omega
    clear h0 hrd HRO HBD HKP HLG HKF HLF HAF
    generalize errG h cm = er at *
    go_enter Tryd.func4, Tryd.ntmps4
    go_wp2_with fail
    go_region
    have HB0 := Lib.hid (Below.drew (Below.refl w.heap.size w))
    clear e1 e2 e3 e4
    go_wp2_with fail
    refine (HRD.out _ HB0.out).mono ?_
    rintro e w1 ⟨rfl, hb1⟩
    have HB1 := Lib.hid (HB0.out.trans (hb1.mono HB0.out.size))
    clear hb1 HB0 HRD
    go_wp2_with fail
    refine (HAL.out _ HB1.out).mono ?_
    rintro e w3 ⟨rfl, hb3⟩
    have HB3 := Lib.hid (HB1.out.trans (hb3.mono HB1.out.size))
    go_wp2
    go_ret
    exact ⟨rfl, HB3.out⟩
theorem gexp_any (a : Option Addr) (n c : Nat) (h : List Ev) (x : Int) (ra : Option Addr) (rn rc : Nat) (row : List Int) (w : World) (hK : HasK w) (hn : n ≤ c) (hrc : rn ≤ rc) (hv : Evs w (.slice a (min (n : Int) 65).toNat c) h) (hr : Rd w (.slice ra (min (rn : Int) 12).toNat rc) (ints row)) (hx : (Lit.int .u32 x).wf = true) :
    Calls Tryd.prog 4 #[.slice a n c, .int .u32 x, .slice ra rn rc] w fun e w' => e = .returned (.bool true) ∧ Below w.heap.size w w' := by
  obtain ⟨m, hm⟩ : ∃ m : Nat, min (n : Int) 65 = (m : Int) := ⟨(min (n : Int) 65).toNat, by omega⟩
  obtain ⟨q, hq⟩ : ∃ q : Nat, min (rn : Int) 12 = (q : Int) := ⟨(min (rn : Int) 12).toNat, by omega⟩
  rw [hm, Int.toNat_natCast] at hv
  rw [hq, Int.toNat_natCast] at hr
  obtain ⟨x', rfl, hx'⟩ := u32_nat hx
  have hrl : row.length = q := by
    obtain ⟨_, _, he⟩ := hr.len
    simp only [Value.slice.injEq, ints_len] at he
    exact he.2.1.symm
  exact gexp_walk a n m c h x' ra rn q rc row w hK hn hrc hm hq (by omega) (by omega) hv hr hv.length.symm hrl (by omega) (by omega) hx'
end Go.Proofs.YtegpelpnbkdgcaaDoor
