/- The walk of QuickWhy. -/
import Derived.Test.YtmnblljenobofaaGreatDoorMg30
import Derived.Test.YtmnblljenobofaaGreatDoorMg31
import Derived.Test.YtmnblljenobofaaGreatDoorMg35
import Derived.Test.YtmnblljenobofaaGreatDoorMg33
import Derived.Deep.DeepMust
namespace Go.Proofs.YtmnblljenobofaaGreatDoor.WPlain
end Go.Proofs.YtmnblljenobofaaGreatDoor.WPlain
namespace Go.Proofs.YtmnblljenobofaaGreatDoor.QPlain
end Go.Proofs.YtmnblljenobofaaGreatDoor.QPlain
namespace Go.Proofs.YtmnblljenobofaaGreatDoor.RPlain
end Go.Proofs.YtmnblljenobofaaGreatDoor.RPlain
namespace Go.Proofs.YtmnblljenobofaaGreatDoor
open Go.RowKit WPlain QPlain RPlain

theorem build_mayCy {l : List Tx} (h6 : l.length ≤ 6) (c : Nat) (row : List Nat) : mayCy (buildS l c row) = true := by
  unfold mayCy
  rw [Bool.and_eq_true, decide_eq_true_eq]
  refine ⟨by rw [build_len]; exact h6, ?_⟩
  cases hq : (buildS l c row).any fun a => decide (2 ^ (buildS l c row).length ≤ a) with
  | false => rfl
  | true =>
    obtain ⟨a, ha, h2⟩ := List.any_eq_true.1 hq
    have := build_lt a ha
    rw [decide_eq_true_eq] at h2
    omega
set_option maxRecDepth 100000 in
set_option maxHeartbeats 8000000 in
theorem qwhy_walk (a : Option Addr) (n m c : Nat) (h : List Ev) (cm : Nat) (ra : Option Addr) (rl q rc : Nat) (row : List Int) (w : World) (hK : HasK w) (hn : n ≤ c) (hrc : rl ≤ rc) (HAE : Hid (min (n : Int) 65 = (m : Int))) (HRE : Hid (min (rl : Int) 12 = (q : Int)))
    (hmn : m ≤ n) (hqn : q ≤ rl) (hv : Evs w (.slice a m c) h) (hr : Rd w (.slice ra q rc) (ints row)) (h1 : h.length = m) (hq1 : row.length = q) (hm1 : m ≤ 65) (hq2 : q ≤ 12) (hx : cm < 4294967296) :
    Calls Tryz.prog 4 #[.slice a n c, .int .u32 (cm : Int), .slice ra rl rc] w fun e w' => e = .returned (.bool true) ∧ Below w.heap.size w w' := by
  have HWY := Lib.hid (fun (W : World) (hW : Below w.heap.size w W) => whyQ_any _ _ h cm row hx W (hK.later hW (Nat.le_refl _)) (hv.below hW (Nat.le_refl _)) (by omega) (hr.below hW (Nat.le_refl _)) (by omega))
  have HGR := Lib.hid (fun (W : World) (hW : Below w.heap.size w W) => refGraphQ_any _ _ h cm row W (hv.below hW (Nat.le_refl _)) (by omega) (fun a' n' c' he => by simp at he; omega) hx (hr.below hW (Nat.le_refl _)) (by omega))
  have HTB := Lib.hid (fun (W : World) (hW : Below w.heap.size w W) => refTable_any _ h W (hv.below hW (Nat.le_refl _)) (by omega) (fun a' n' c' he => by simp at he; omega))
  have HAL := Lib.hid (fun (W : World) (hW : Below w.heap.size w W) => aliveQ_any W (hK.later hW (Nat.le_refl _)))
  have HRO := Lib.hid (fun (W : World) (hW : Below w.heap.size w W) => hr.below hW (Nat.le_refl _))
  have e1 : (max (min (n : Int) 65) 0) = (m : Int) := by have := HAE.out; omega
  have e2 : (max (min (rl : Int) 12) 0) = (q : Int) := by have := HRE.out; omega
  have e3 := HAE.out
  have e4 := HRE.out
  have hqr : q ≤ rc := by omega
  clear hK hv hr
  by_cases h0 : errB h cm row = 0
  · have hz := errB_zero h0
    have HF := Lib.hid (fine_table (errU_zero (errG_zero hz.1).1).1)
    obtain ⟨rn, hrow, hw⟩ := whole_iff.1 hz.2.1
    have hbk := bld_ok (h := h) (cm := cm) (rn := rn) (by rw [← hrow]; exact h0)
    rw [← hrow] at hbk
    have hrl : rn.length = q := by rw [← hq1, hrow, List.length_map]
    have HRB := Lib.hid (fun (v : Value) (W : World) (hT : Txs W v (tableS h)) (hW : Below w.heap.size w W) => refBuild17_any v (tableS h) cm ra rc rn W hT HF.out hx (by rw [← hrow, hrl]; exact HRO.out W hW) (by omega))
    have hlB : (buildS (tableS h) cm rn).length ≤ 6 := by rw [build_len]; exact HF.out.six
    have hmy := build_mayCy HF.out.six cm rn
    have HLS := Lib.hid (fun (v : Value) (W : World) (hR : Rd W v (u32s (buildS (tableS h) cm rn))) => refLeastC_any v (buildS (tableS h) cm rn) W hR (build_small HF.out.six cm rn) hlB)
    have hwe : whyQ h cm row = if leastS (buildS (tableS h) cm rn) = [] then 7 else 0 := by
      unfold whyQ leastE
      rw [if_pos h0, hbk, hmy, if_pos rfl]
    have hwr : leastR (bldS h cm row) = leastS (buildS (tableS h) cm rn) := by
      unfold leastR
      rw [hbk, hmy, if_pos rfl]
    rw [hwr] at HWY
    rw [h0] at HGR
    rw [hrl] at HRB
    have hl6 : (leastS (buildS (tableS h) cm rn)).length ≤ 6 := by
      rcases least_tells (buildS (tableS h) cm rn) with ⟨h, _⟩ | ⟨h, _⟩
      · rw [h]; simp
      · have := cyc_len h
        omega
    clear h0 hz hrow hw hbk hrl hwr hmy hlB HF HRO
    generalize tableS h = l at *
    generalize buildS l cm rn = A at *
    have her : (whyQ h cm row = 7 ∧ (leastS A).length = 0) ∨ (whyQ h cm row = 0 ∧ 0 < (leastS A).length) := by
      by_cases hq : leastS A = []
      · exact .inl ⟨by rw [hwe, if_pos hq], by rw [hq]; rfl⟩
      · exact .inr ⟨by rw [hwe, if_neg hq], List.length_pos_iff.2 hq⟩
    have HIN := Lib.hid (fun (v v' : Value) (W : World) (h1 : Rd W v (nats (leastS A))) (h2 : Rd W v' (nats (leastS A))) => intsN_any v v' (leastS A) W h1 h2 (by omega))
    clear hwe hl6
    generalize hL : leastS A = L at *
    generalize whyQ h cm row = er at *
    rcases her with ⟨rfl, hl0⟩ | ⟨rfl, hl0⟩
    · obtain rfl := List.length_eq_zero_iff.1 hl0
      clear hl0 hL
      go_enter Tryz.func4, Tryz.ntmps4
      go_wp2_with fail
      go_region
      have HB0 := Lib.hid (Below.drew (Below.refl w.heap.size w))
      clear e1 e2 e3 e4
      go_wp2_with fail
      refine (HWY.out _ HB0.out).mono ?_
      rintro e w1 ⟨v1, rfl, hv1, hbx⟩
      have HB1 := Lib.hid (HB0.out.trans (hbx.mono HB0.out.size))
      have HL1 := Lib.hid hv1
      obtain ⟨a1, c1, rfl⟩ := hv1.len
      clear hbx HB0 HWY hv1
      rw [nats_len, List.length_nil] at HL1 ⊢
      go_wp2_with fail
      refine (HGR.out _ HB1.out).mono ?_
      rintro e w2 ⟨rfl, hbx⟩
      have HB2 := Lib.hid (HB1.out.trans (hbx.mono HB1.out.size))
      have HL2 := Lib.hid (HL1.out.below hbx (Nat.le_refl _))
      clear hbx HB1 HGR HL1
      go_wp2_with fail
      refine (HTB.out _ HB2.out).mono ?_
      rintro e w3 ⟨v3, rfl, hv3, hbx⟩
      have HB3 := Lib.hid (HB2.out.trans (hbx.mono HB2.out.size))
      have HL3 := Lib.hid (HL2.out.below hbx (Nat.le_refl _))
      have HBX := Lib.hid (HRB.out _ _ hv3 HB3.out)
      obtain ⟨a3, c3, rfl⟩ := hv3.len
      clear hbx HB2 HTB hv3 HL2 HRB
      generalize l.length = tn at *
      go_wp2_with fail
      refine HBX.out.mono ?_
      rintro e w4 ⟨v4, rfl, hv4, hbx⟩
      have HB4 := Lib.hid (HB3.out.trans (hbx.mono HB3.out.size))
      have HL4 := Lib.hid (HL3.out.below hbx (Nat.le_refl _))
      have HLX := Lib.hid (HLS.out _ _ hv4)
      obtain ⟨a4, c4, rfl⟩ := hv4.len
      clear hbx HB3 HBX hv4 HL3 HLS
      generalize (u32s A).length = an at *
      go_wp2_with fail
      refine HLX.out.mono ?_
      rintro e w5 ⟨v5, rfl, hv5, hbx⟩
      have HB5 := Lib.hid (HB4.out.trans (hbx.mono HB4.out.size))
      have HL5 := Lib.hid (HL4.out.below hbx (Nat.le_refl _))
      have HR5 := Lib.hid (Rd.of_row hv5)
      obtain ⟨a5, c5, rfl⟩ := row_slice hv5
      clear hbx HB4 HLX hv5 HL4
      rw [List.length_nil] at HR5 ⊢
      go_wp2_with fail
      refine (HAL.out _ HB5.out).mono ?_
      rintro e w6 ⟨rfl, hbx⟩
      have HB6 := Lib.hid (HB5.out.trans (hbx.mono HB5.out.size))
      have HL6 := Lib.hid (HL5.out.below hbx (Nat.le_refl _))
      have HR6 := Lib.hid (HR5.out.below hbx (Nat.le_refl _))
      have HIX := Lib.hid (HIN.out _ _ _ HL6.out HR6.out)
      clear hbx HB5 HAL HL5 HR5 HIN
      go_wp2_with fail
      refine HIX.out.mono ?_
      rintro e w7 ⟨rfl, hbx⟩
      have HB7 := Lib.hid (HB6.out.trans (hbx.mono HB6.out.size))
      clear hbx HB6 HIX HL6 HR6
      go_wp2
      go_ret
      exact ⟨rfl, HB7.out⟩
    · have tl : ((L.length : Int) == 0) = false := by rw [beq_eq_false_iff_ne]; omega
      have tl2 : (0 : Int) < (L.length : Int) := by omega
      clear hL
      go_enter Tryz.func4, Tryz.ntmps4
      go_wp2_with fail
      go_region
      have HB0 := Lib.hid (Below.drew (Below.refl w.heap.size w))
      clear e1 e2 e3 e4
      go_wp2_with fail
      refine (HWY.out _ HB0.out).mono ?_
      rintro e w1 ⟨v1, rfl, hv1, hbx⟩
      have HB1 := Lib.hid (HB0.out.trans (hbx.mono HB0.out.size))
      have HL1 := Lib.hid hv1
      obtain ⟨a1, c1, rfl⟩ := hv1.len
      clear hbx HB0 HWY hv1
      rw [nats_len] at HL1 ⊢
      generalize hln : L.length = ln at *
      have HLN := Lib.hid hln
      clear hln
      go_wp2_with fail
      refine (HGR.out _ HB1.out).mono ?_
      rintro e w2 ⟨rfl, hbx⟩
      have HB2 := Lib.hid (HB1.out.trans (hbx.mono HB1.out.size))
      have HL2 := Lib.hid (HL1.out.below hbx (Nat.le_refl _))
      clear hbx HB1 HGR HL1
      go_wp2_with fail
      refine (HTB.out _ HB2.out).mono ?_
      rintro e w3 ⟨v3, rfl, hv3, hbx⟩
      have HB3 := Lib.hid (HB2.out.trans (hbx.mono HB2.out.size))
      have HL3 := Lib.hid (HL2.out.below hbx (Nat.le_refl _))
      have HBX := Lib.hid (HRB.out _ _ hv3 HB3.out)
      obtain ⟨a3, c3, rfl⟩ := hv3.len
      clear hbx HB2 HTB hv3 HL2 HRB
      generalize l.length = tn at *
      go_wp2_with fail
      refine HBX.out.mono ?_
      rintro e w4 ⟨v4, rfl, hv4, hbx⟩
      have HB4 := Lib.hid (HB3.out.trans (hbx.mono HB3.out.size))
      have HL4 := Lib.hid (HL3.out.below hbx (Nat.le_refl _))
      have HLX := Lib.hid (HLS.out _ _ hv4)
      obtain ⟨a4, c4, rfl⟩ := hv4.len
      clear hbx HB3 HBX hv4 HL3 HLS
      generalize (u32s A).length = an at *
      go_wp2_with fail
      refine HLX.out.mono ?_
      rintro e w5 ⟨v5, rfl, hv5, hbx⟩
      have HB5 := Lib.hid (HB4.out.trans (hbx.mono HB4.out.size))
      have HL5 := Lib.hid (HL4.out.below hbx (Nat.le_refl _))
      have HR5 := Lib.hid (Rd.of_row hv5)
      obtain ⟨a5, c5, rfl⟩ := row_slice hv5
      clear hbx HB4 HLX hv5 HL4
      try rw [HLN.out] at HR5
      go_wp2_with fail
      refine (HAL.out _ HB5.out).mono ?_
      rintro e w6 ⟨rfl, hbx⟩
      have HB6 := Lib.hid (HB5.out.trans (hbx.mono HB5.out.size))
      have HL6 := Lib.hid (HL5.out.below hbx (Nat.le_refl _))
      have HR6 := Lib.hid (HR5.out.below hbx (Nat.le_refl _))
      have HIX := Lib.hid (HIN.out _ _ _ HL6.out HR6.out)
      clear hbx HB5 HAL HL5 HR5 HIN
      go_wp2_with fail
      refine HIX.out.mono ?_
      rintro e w7 ⟨rfl, hbx⟩
      have HB7 := Lib.hid (HB6.out.trans (hbx.mono HB6.out.size))
      clear hbx HB6 HIX HL6 HR6
      go_wp2
      go_ret
      exact ⟨rfl, HB7.out⟩
  · have he : whyQ h cm row = errB h cm row := by unfold whyQ; rw [if_neg h0]
    rw [he, bld_off h0, leastR_nil] at HWY
    have tn : ((errB h cm row : Int) != 0) = true := by simp; omega
    have ts : ((errB h cm row : Int) == (errB h cm row : Int)) = true := by simp
    clear h0 he HTB HRO
    generalize errB h cm row = er at *
    go_enter Tryz.func4, Tryz.ntmps4
    go_wp2_with fail
    go_region
    have HB0 := Lib.hid (Below.drew (Below.refl w.heap.size w))
    clear e1 e2 e3 e4
    go_wp2_with fail
    refine (HWY.out _ HB0.out).mono ?_
    rintro e w1 ⟨v1, rfl, hv1, hbx⟩
    have HB1 := Lib.hid (HB0.out.trans (hbx.mono HB0.out.size))
    obtain ⟨a1, c1, rfl⟩ := hv1.len
    clear hbx HB0 HWY hv1
    rw [nats_len, List.length_nil]
    go_wp2_with fail
    refine (HGR.out _ HB1.out).mono ?_
    rintro e w2 ⟨rfl, hbx⟩
    have HB2 := Lib.hid (HB1.out.trans (hbx.mono HB1.out.size))
    clear hbx HB1 HGR
    go_wp2_with fail
    refine (HAL.out _ HB2.out).mono ?_
    rintro e w3 ⟨rfl, hbx⟩
    have HB3 := Lib.hid (HB2.out.trans (hbx.mono HB2.out.size))
    clear hbx HB2 HAL
    go_wp2
    go_ret
    exact ⟨rfl, HB3.out⟩
theorem qwhy_any (a : Option Addr) (n c : Nat) (h : List Ev) (x : Int) (ra : Option Addr) (rn rc : Nat) (row : List Int) (w : World) (hK : HasK w) (hn : n ≤ c) (hrc : rn ≤ rc) (hv : Evs w (.slice a (min (n : Int) 65).toNat c) h) (hr : Rd w (.slice ra (min (rn : Int) 12).toNat rc) (ints row)) (hx : (Lit.int .u32 x).wf = true) :
    Calls Tryz.prog 4 #[.slice a n c, .int .u32 x, .slice ra rn rc] w fun e w' => e = .returned (.bool true) ∧ Below w.heap.size w w' := by
  obtain ⟨m, hm⟩ : ∃ m : Nat, min (n : Int) 65 = (m : Int) := ⟨(min (n : Int) 65).toNat, by omega⟩
  obtain ⟨q, hq⟩ : ∃ q : Nat, min (rn : Int) 12 = (q : Int) := ⟨(min (rn : Int) 12).toNat, by omega⟩
  rw [hm, Int.toNat_natCast] at hv
  rw [hq, Int.toNat_natCast] at hr
  have hx2 : 0 ≤ x ∧ x < 4294967296 := by
    have h1 : (decide ((0 : Int) ≤ x) && decide (x ≤ 4294967295)) = true := hx
    rw [Bool.and_eq_true, decide_eq_true_eq, decide_eq_true_eq] at h1
    omega
  obtain ⟨y, rfl⟩ : ∃ y : Nat, x = (y : Int) := ⟨x.toNat, by omega⟩
  have hrl : row.length = q := by
    obtain ⟨_, _, he⟩ := hr.len
    simp only [Value.slice.injEq, ints_len] at he
    exact he.2.1.symm
  exact qwhy_walk a n m c h y ra rn q rc row w hK hn hrc hm hq (by omega) (by omega) hv hr hv.length.symm hrl (by omega) (by omega) (by omega)
end Go.Proofs.YtmnblljenobofaaGreatDoor
