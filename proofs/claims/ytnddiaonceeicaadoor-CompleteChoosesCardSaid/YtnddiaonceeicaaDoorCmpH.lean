/- The walks of recantlaw09's alive, and of CompleteChooses. -/
import Derived.Test.YtnddiaonceeicaaDoorCmpG
import Derived.Test.YtnddiaonceeicaaDoorMg15
import Derived.Test.YtnddiaonceeicaaDoorTxtI
import Derived.Test.YtnddiaonceeicaaDoorPrpJ
namespace Go.Proofs.YtnddiaonceeicaaDoor.WPlain
end Go.Proofs.YtnddiaonceeicaaDoor.WPlain
namespace Go.Proofs.YtnddiaonceeicaaDoor.QPlain
end Go.Proofs.YtnddiaonceeicaaDoor.QPlain
namespace Go.Proofs.YtnddiaonceeicaaDoor.RPlain
end Go.Proofs.YtnddiaonceeicaaDoor.RPlain
namespace Go.Proofs.YtnddiaonceeicaaDoor
open Go.RowKit WPlain QPlain RPlain

theorem srcC {a : Option Addr} {n c : Nat} (h : a = none → c = 0) (hn : n ≤ c) : Src (.slice a n c) := by
  cases a with
  | none => have := h rfl; exact .inl (by rw [this, show n = 0 from by omega])
  | some p => exact .inr ⟨_, _, _, rfl⟩
theorem chL_alive : chL (tableS [⟨0, 1, 0, 0⟩, ⟨1, 1, 0, 0⟩, ⟨6, 1, 0, 0⟩]) = [0, 1] := by decide +kernel
theorem compE_alive : compE [⟨0, 1, 0, 0⟩, ⟨1, 1, 0, 0⟩, ⟨6, 1, 0, 0⟩] 1 = 0 := by decide +kernel
theorem completeS_alive : completeS [⟨0, 1, 0, 0⟩, ⟨1, 1, 0, 0⟩, ⟨6, 1, 0, 0⟩] 1 = [⟨0, 1, 0, 0⟩, ⟨1, 1, 0, 0⟩, ⟨6, 1, 0, 0⟩, ⟨7, 1, 0, 0⟩] := by decide +kernel
set_option maxRecDepth 100000 in
set_option maxHeartbeats 1000000 in
theorem aliveC_any (w : World) (hK : HasK w) : Calls Tryd.prog 9 #[] w fun e w' => e = .returned (.bool true) ∧ Below w.heap.size w w' := by
  have hb0 := (Below.refl w.heap.size w).alloc (Nat.le_refl _) (.cells (evsCells [⟨0, 1, 0, 0⟩, ⟨1, 1, 0, 0⟩, ⟨6, 1, 0, 0⟩]).toArray 54)
  have hE := evs_at 3 [⟨0, 1, 0, 0⟩, ⟨1, 1, 0, 0⟩, ⟨6, 1, 0, 0⟩] (At.new w (evsCells [⟨0, 1, 0, 0⟩, ⟨1, 1, 0, 0⟩, ⟨6, 1, 0, 0⟩]).toArray 54)
  have hT := choices_any _ _ _ (hK.later hb0 (Nat.le_refl _)) hE (by simp)
  have hC := fun (W : World) (hW : Below (w.alloc (.cells (evsCells [⟨0, 1, 0, 0⟩, ⟨1, 1, 0, 0⟩, ⟨6, 1, 0, 0⟩]).toArray 54)).heap.size (w.alloc (.cells (evsCells [⟨0, 1, 0, 0⟩, ⟨1, 1, 0, 0⟩, ⟨6, 1, 0, 0⟩]).toArray 54)) W) => complete_any _ _ 1 W (hK.later (hb0.trans (hW.mono hb0.size)) (Nat.le_refl _)) (hE.below hW (Nat.le_refl _)) (.inr ⟨_, _, _, rfl⟩) (by simp) (by decide)
  unfold Cmpl at hC
  have hc : (checkS [⟨0, 1, 0, 0⟩, ⟨1, 1, 0, 0⟩, ⟨6, 1, 0, 0⟩]).2 = 0 := by decide +kernel
  rw [hc, if_pos rfl, chL_alive] at hT
  rw [compE_alive, if_pos rfl, completeS_alive] at hC
  simp only [evsCells, evCells, List.flatMap_cons, List.flatMap_nil, List.append_nil, List.cons_append, List.nil_append, List.length_cons, List.length_nil] at hT hC hb0
  have HT := Lib.hid hT
  have HC := Lib.hid hC
  have HB0 := Lib.hid hb0
  clear hT hC hc hb0 hE hK
  go_enter Tryd.func9, Tryd.ntmps9
  go_wp2_with fail
  refine HT.out.mono ?_
  rintro e w2 ⟨v, rfl, hv, hb⟩
  have HB := Lib.hid (HB0.out.trans (hb.mono HB0.out.size))
  have HC2 := Lib.hid (HC.out w2 hb)
  obtain ⟨b, o, c, rfl, hbl, hcs⟩ := hv.opened (by simp [u32s])
  have y1 := hcs 1 (.int .u32 1) rfl
  simp only [u32s, List.map_cons, List.map_nil, List.length_cons, List.length_nil, Nat.zero_add, Nat.reduceAdd] at y1 ⊢
  have HY1 := Lib.hid y1
  have HBL := Lib.hid hbl
  clear hv hb HT HB0 hcs HC y1 hbl
  go_wp2_with fail
  refine HC2.out.mono ?_
  rintro e w3 ⟨v3, rfl, hr3, hb3⟩
  have y1 := (hb3.cell (p := ⟨b, o + 1, none⟩) HBL.out).trans HY1.out
  have HB3 := Lib.hid (HB.out.trans (hb3.mono HB.out.size))
  obtain ⟨b3, o3, c3, rfl, hbl3, hcs3⟩ := (Evs.of_row (h := [⟨0, 1, 0, 0⟩, ⟨1, 1, 0, 0⟩, ⟨6, 1, 0, 0⟩, ⟨7, 1, 0, 0⟩]) hr3).resolve_left (fun h => by simp at h) |>.2
  obtain ⟨k0, -, -, -⟩ := hcs3 3 (by simp)
  simp only [List.length_cons, List.length_nil, Nat.zero_add, Nat.reduceAdd, Nat.reduceMul] at k0 ⊢
  have k1 : w3.cell? ⟨b3, o3 + 12, none⟩ = some (.int .i64 7) := k0
  clear hr3 hb3 hcs3 HC2 HB k0
  go_wp2
  go_ret
  exact ⟨rfl, HB3.out⟩
set_option maxRecDepth 100000 in
set_option maxHeartbeats 2000000 in
theorem chooses_bad (a : Option Addr) (n m c : Nat) (h : List Ev) (x : Nat) (w : World) (hK : HasK w) (hn : n ≤ c) (hz : a = none → c = 0) (HAE : Hid ((min (n : Int) 65).toNat = m)) (hmn : m ≤ n) (hv : Evs w (.slice a m c) h) (h1 : h.length = m) (hm1 : m ≤ 65) (hx : x < 4294967296) (h0 : (checkS h).2 ≠ 0) :
    Calls Tryd.prog 3 #[.slice a n c, .int .u32 (x : Int)] w fun e w' => e = .returned (.bool true) ∧ Below w.heap.size w w' := by
  have HK := Lib.hid hK
  have HT := Lib.hid (choices_any _ h w hK hv (by omega))
  have HC := Lib.hid (fun (W : World) (hW : Below w.heap.size w W) => complete_any _ h x W (hK.later hW (Nat.le_refl _)) (hv.below hW (Nat.le_refl _)) (srcC hz (by omega)) (by omega) hx)
  have HWH := Lib.hid (fun (W : World) (hW : Below w.heap.size w W) => why_any _ h W (hv.below hW (Nat.le_refl _)) (by omega) (fun a' n' c' he => by simp at he; omega))
  rw [whyS_check] at HWH
  unfold Cmpl at HC
  have hce := compE_bad (n := x) h0
  rw [hce] at HC
  simp only [if_neg h0] at HT HC
  obtain ⟨er, her⟩ : ∃ er, (checkS h).2 = er := ⟨_, rfl⟩
  rw [her] at HT HC HWH h0
  have te : ((er : Int) != 0) = true := by simp; omega
  clear hK hv her h0 hce hz
  go_enter Tryd.func3, Tryd.ntmps3
  go_wp2_with fail
  rw [HAE.out]
  refine HT.out.mono ?_
  rintro e w1 ⟨v1, rfl, hv1, hb1⟩
  have HB1 := Lib.hid hb1
  obtain ⟨a1, c1, rfl⟩ := hv1.len
  clear hb1 HT hv1
  go_wp2_with fail
  refine (HC.out _ HB1.out).mono ?_
  rintro e w2 ⟨v2, rfl, hv2, hb2⟩
  have HB2 := Lib.hid (HB1.out.trans (hb2.mono HB1.out.size))
  obtain ⟨a2, c2, rfl⟩ := row_slice hv2
  clear hb2 HB1 hv2
  go_wp2_with fail
  refine (HWH.out _ HB2.out).mono ?_
  rintro e w3 ⟨rfl, hb3⟩
  have HB3 := Lib.hid (HB2.out.trans (hb3.mono HB2.out.size))
  clear hb3 HB2
  go_wp2_with fail
  refine (aliveC_any _ (HK.out.later HB3.out (Nat.le_refl _))).mono ?_
  rintro e w4 ⟨rfl, hb4⟩
  have HB4 := Lib.hid (HB3.out.trans (hb4.mono HB3.out.size))
  clear hb4 HB3
  go_wp2
  go_ret
  exact ⟨by simp, HB4.out⟩
set_option maxRecDepth 100000 in
set_option maxHeartbeats 4000000 in
theorem chooses_good (a : Option Addr) (n m c : Nat) (h : List Ev) (x : Nat) (w : World) (hK : HasK w) (hn : n ≤ c) (hz : a = none → c = 0) (HAE : Hid ((min (n : Int) 65).toNat = m)) (hmn : m ≤ n) (hv : Evs w (.slice a m c) h) (h1 : h.length = m) (hm1 : m ≤ 65) (hx : x < 4294967296) (h0 : (checkS h).2 = 0) :
    Calls Tryd.prog 3 #[.slice a n c, .int .u32 (x : Int)] w fun e w' => e = .returned (.bool true) ∧ Below w.heap.size w w' := by
  have HK := Lib.hid hK
  have HT := Lib.hid (choices_any _ h w hK hv (by omega))
  have HC := Lib.hid (fun (W : World) (hW : Below w.heap.size w W) => complete_any _ h x W (hK.later hW (Nat.le_refl _)) (hv.below hW (Nat.le_refl _)) (srcC hz (by omega)) (by omega) hx)
  have HWH := Lib.hid (fun (W : World) (hW : Below w.heap.size w W) => why_any _ h W (hv.below hW (Nat.le_refl _)) (by omega) (fun a' n' c' he => by simp at he; omega))
  have HTB := Lib.hid (fun (W : World) (hW : Below w.heap.size w W) => refTable_any _ h W (hv.below hW (Nat.le_refl _)) (by omega) (fun a' n' c' he => by simp at he; omega))
  have HRC := Lib.hid (fun (W : World) (hW : Below w.heap.size w W) => refComplete_any _ h x W (hv.below hW (Nat.le_refl _)) (srcC hz (by omega)) (fun a' n' c' he => by simp at he; omega) hx h0)
  have h6 := table_six h0
  have HCH := Lib.hid (choices_chL h6)
  have hlen : (completeS h x).length ≤ 200 := by
    have := complete_len h x (by rw [← tableS_len]; exact h6)
    omega
  rw [whyS_check] at HWH
  unfold Cmpl at HC
  have hno := compE_no (n := x) h0
  have hyes := compE_yes (n := x) h0
  simp only [h0, if_true] at HT HWH
  obtain ⟨R, hR⟩ : ∃ R, (if compE h x = 0 then completeS h x else []) = R := ⟨_, rfl⟩
  rw [hR] at HC
  have hRL : R.length ≤ 200 := by
    rw [← hR]
    split
    · exact hlen
    · simp
  have HRR := Lib.hid hR
  have HNO := Lib.hid hno
  have HYES := Lib.hid hyes
  have hcl : (chL (tableS h)).length ≤ 64 := by
    rw [← choices_chL h6]
    have := List.length_filter_le (choiceS (tableS h)) (List.range 64)
    rw [List.length_range] at this
    exact this
  clear hK hv h0 hz hR hno hyes
  generalize compE h x = ce at *
  generalize completeS h x = G at *
  generalize tableS h = l at *
  go_enter Tryd.func3, Tryd.ntmps3
  go_wp2_with fail
  rw [HAE.out]
  refine HT.out.mono ?_
  rintro e w1 ⟨v1, rfl, hv1, hb1⟩
  have HB1 := Lib.hid hb1
  have HV1 := Lib.hid hv1
  obtain ⟨a1, c1, rfl⟩ := hv1.len
  clear hb1 HT hv1
  go_wp2_with fail
  refine (HC.out _ HB1.out).mono ?_
  rintro e w2 ⟨v2, rfl, hv2, hb2⟩
  have HB2 := Lib.hid (HB1.out.trans (hb2.mono HB1.out.size))
  have HV2 := Lib.hid (HV1.out.below hb2 (Nat.le_refl _))
  have HX2 := Lib.hid (Evs.of_row hv2)
  obtain ⟨a2, c2, rfl⟩ := row_slice hv2
  clear hb2 HB1 hv2 HV1 HC
  go_wp2_with fail
  refine (HWH.out _ HB2.out).mono ?_
  rintro e w3 ⟨rfl, hb3⟩
  have HB3 := Lib.hid (HB2.out.trans (hb3.mono HB2.out.size))
  have HV3 := Lib.hid (HV2.out.below hb3 (Nat.le_refl _))
  have HX3 := Lib.hid (HX2.out.below hb3 (Nat.le_refl _))
  clear hb3 HB2 HV2 HX2 HWH
  go_wp2_with fail
  refine (HTB.out _ HB3.out).mono ?_
  rintro e w4 ⟨v4, rfl, hv4, hb4⟩
  have HB4 := Lib.hid (HB3.out.trans (hb4.mono HB3.out.size))
  have HV4 := Lib.hid (HV3.out.below hb4 (Nat.le_refl _))
  have HX4 := Lib.hid (HX3.out.below hb4 (Nat.le_refl _))
  have HT4 := Lib.hid hv4
  obtain ⟨a4, c4, rfl⟩ := hv4.len
  clear hb4 HB3 HV3 HX3 HTB hv4
  go_wp2_with fail
  refine (refChoices_any _ l _ HT4.out (by omega)).mono ?_
  rintro e w5 ⟨v5, rfl, hv5, hb5⟩
  have HB5 := Lib.hid (HB4.out.trans (hb5.mono HB4.out.size))
  have HV5 := Lib.hid (HV4.out.below hb5 (Nat.le_refl _))
  have HX5 := Lib.hid (HX4.out.below hb5 (Nat.le_refl _))
  have HT5 := Lib.hid (HT4.out.below hb5 (Nat.le_refl _))
  have HU5 := Lib.hid hv5
  obtain ⟨a5, c5, rfl⟩ := hv5.len
  clear hb5 HB4 HV4 HX4 HT4 hv5
  go_wp2_with fail
  refine (refSameU_any _ _ _ _ _ HV5.out HU5.out HCH.out.symm (by omega)).mono ?_
  rintro e w6 ⟨rfl, z6, rfl⟩
  have HB6 := Lib.hid (below_drN HB5.out z6)
  have HT6 := Lib.hid (HT5.out.drewN z6)
  have HX6 : Hid (Evs (w5.drewN z6) (.slice a2 R.length c2) R) := HX5.out
  clear HB5 HV5 HX5 HT5 HU5
  generalize w5.drewN z6 = w6 at *
  go_wp2_with fail
  refine (aliveC_any _ (HK.out.later HB6.out (Nat.le_refl _))).mono ?_
  rintro e w7 ⟨rfl, hb7⟩
  have HB7 := Lib.hid (HB6.out.trans (hb7.mono HB6.out.size))
  have HT7 := Lib.hid (HT6.out.below hb7 (Nat.le_refl _))
  have HX7 := Lib.hid (HX6.out.below hb7 (Nat.le_refl _))
  clear hb7 HB6 HT6 HX6
  go_wp2_with fail
  refine (refChoice_any _ l x _ HT7.out (by omega) hx).mono ?_
  rintro e w8 ⟨rfl, hb8⟩
  have HB8 := Lib.hid (HB7.out.trans (hb8.mono HB7.out.size))
  have HX8 := Lib.hid (HX7.out.below hb8 (Nat.le_refl _))
  clear hb8 HB7 HT7 HX7
  cases hcc : choiceS l x with
  | false =>
    have hce : ce = 1 := HNO.out hcc
    subst hce
    have hR0 : R = [] := by have := HRR.out; rw [if_neg (by decide)] at this; exact this.symm
    subst hR0
    clear HX8 HNO HYES HRR HRC hcc
    go_wp2
    go_ret
    exact ⟨rfl, HB8.out⟩
  | true =>
    have HCE := Lib.hid (HYES.out hcc)
    clear HNO HYES hcc
    go_wp2_with fail
    refine (HRC.out _ HB8.out).mono ?_
    rintro e w9 ⟨v9, rfl, hv9, hb9⟩
    have HB9 := Lib.hid (HB8.out.trans (hb9.mono HB8.out.size))
    have HX9 := Lib.hid (HX8.out.below hb9 (Nat.le_refl _))
    have HG9 := Lib.hid hv9
    obtain ⟨a9, c9, rfl⟩ := hv9.len
    clear hb9 HB8 HX8 hv9 HRC
    by_cases hg : 60 < G.length
    · have hce5 : ce = 5 := by rw [HCE.out, if_pos hg]
      clear HCE
      subst hce5
      have hR0 : R = [] := by have := HRR.out; rw [if_neg (by decide)] at this; exact this.symm
      subst hR0
      clear HX9 HG9 HRR
      go_wp2
      go_ret
      exact ⟨rfl, HB9.out⟩
    · have hce0 : ce = 0 := by rw [HCE.out, if_neg hg]
      clear HCE
      subst hce0
      have hR0 : G = R := by have := HRR.out; rw [if_pos rfl] at this; exact this
      subst hR0
      clear HRR
      go_wp2_with fail
      refine (same_any _ _ _ _ _ HX9.out HG9.out (by omega) (by omega)).mono ?_
      rintro e w10 ⟨rfl, z10, rfl⟩
      have HB10 := Lib.hid (below_drN HB9.out z10)
      clear HB9 HX9 HG9
      go_wp2
      go_ret
      exact ⟨by simp, HB10.out⟩
theorem chooses_any (a : Option Addr) (n c : Nat) (h : List Ev) (x : Int) (w : World) (hK : HasK w) (hn : n ≤ c) (hz : a = none → c = 0) (hv : Evs w (.slice a (min (n : Int) 65).toNat c) h) (hx : (Lit.int .u32 x).wf = true) :
    Calls Tryd.prog 3 #[.slice a n c, .int .u32 x] w fun e w' => e = .returned (.bool true) ∧ Below w.heap.size w w' := by
  obtain ⟨m, hm⟩ : ∃ m, (min (n : Int) 65).toNat = m := ⟨_, rfl⟩
  rw [hm] at hv
  have hx2 : 0 ≤ x ∧ x < 4294967296 := by
    have h1 : (decide ((0 : Int) ≤ x) && decide (x ≤ 4294967295)) = true := hx
    rw [Bool.and_eq_true, decide_eq_true_eq, decide_eq_true_eq] at h1
    omega
  obtain ⟨y, rfl⟩ : ∃ y : Nat, x = (y : Int) := ⟨x.toNat, by omega⟩
  by_cases h0 : (checkS h).2 = 0
  · exact chooses_good a n m c h y w hK hn hz hm (by omega) hv hv.length.symm (by omega) (by omega) h0
  · exact chooses_bad a n m c h y w hK hn hz hm (by omega) hv hv.length.symm (by omega) (by omega) h0
end Go.Proofs.YtnddiaonceeicaaDoor
