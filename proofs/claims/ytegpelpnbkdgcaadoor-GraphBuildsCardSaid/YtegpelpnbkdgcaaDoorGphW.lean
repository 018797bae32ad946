/- The walks of package graph's viewOf where it refuses, Readable, and Build where it refuses: Build whole. -/
import Derived.Test.YtegpelpnbkdgcaaDoorMg23
namespace Go.Proofs.YtegpelpnbkdgcaaDoor.WPlain
end Go.Proofs.YtegpelpnbkdgcaaDoor.WPlain
namespace Go.Proofs.YtegpelpnbkdgcaaDoor.QPlain
end Go.Proofs.YtegpelpnbkdgcaaDoor.QPlain
namespace Go.Proofs.YtegpelpnbkdgcaaDoor.RPlain
end Go.Proofs.YtegpelpnbkdgcaaDoor.RPlain
namespace Go.Proofs.YtegpelpnbkdgcaaDoor
open Go.RowKit WPlain QPlain RPlain

set_option maxRecDepth 100000 in
set_option maxHeartbeats 2000000 in
theorem viewOf_bad (v : Value) (h : List Ev) (cm : Nat) (_hcm : cm < 4294967296) (w : World) (hK : HasK w) (hv : Evs w v h) (hl : h.length ≤ 65536) (h0 : errG h cm ≠ 0) :
    Calls Tryd.prog 20 #[v, .int .u32 (cm : Int)] w fun e w' => e = .returned (.tuple #[.agg #[.slice none 0 0, .slice none 0 0, .int .u32 0], .int .i64 ((errG h cm : Nat) : Int)]) ∧ Below w.heap.size w w' := by
  have hba : Below w.heap.size w (w.alloc (.cells #[.slice none 0 0, .slice none 0 0, .int .u32 0] 50)) := (Below.refl _ w).alloc (Nat.le_refl _) _
  have hSU := sources_above v h _ (hK.later hba (Nat.le_refl _)) (hv.below hba (Nat.le_refl _)) hl
  have HT := Lib.hid (fun (W : World) (hW : Below w.heap.size w W) => table_any v h W (hK.later hW (Nat.le_refl _)) (hv.below hW (Nat.le_refl _)) hl)
  have HB := Lib.hid hba
  have HA := Lib.hid (At.new w #[.slice none 0 0, .slice none 0 0, .int .u32 0] 50)
  have hN : w.heap.size < (w.alloc (.cells #[.slice none 0 0, .slice none 0 0, .int .u32 0] 50)).heap.size := HA.out.lt
  obtain ⟨a, c, rfl⟩ := hv.len
  clear hv hK hba
  by_cases hu : errU h = 0
  · have hck := (errU_zero hu).1
    have hsix := table_six hck
    have he : errG h cm = 1 := by
      unfold errG at h0 ⊢
      rw [if_pos hu] at h0 ⊢
      split at h0
      · exact absurd rfl h0
      · rename_i h2; rw [if_neg h2]
    have hc : ¬ cm < 2 ^ (tableS h).length := fun hc => h0 (by unfold errG; rw [if_pos hu, if_pos hc])
    rw [he]
    rw [hu, if_pos rfl] at hSU
    rw [hck, if_pos rfl] at HT
    have HS := Lib.hid hSU
    have hsl : (sourcesS (tableS h)).length = (tableS h).length := sources_len _
    clear hSU hu hck h0 he
    generalize tableS h = l at *
    generalize hS : sourcesS l = S at *
    obtain ⟨n, hn⟩ : ∃ n, l.length = n := ⟨_, rfl⟩
    rw [hn] at hsix hsl hc
    have hbt := bitG_all n (by omega)
    obtain ⟨pw, hpe⟩ : ∃ pw, 2 ^ n = pw := ⟨_, rfl⟩
    rw [hpe] at hc hbt
    have HN := Lib.hid hn
    have HSL := Lib.hid hsl
    have td : decide (pw ≤ cm) = true := decide_eq_true (by omega)
    clear hS hn hsl hpe
    go_enter Tryd.func20, Tryd.ntmps20
    go_wp2_with fail
    refine HS.out.mono ?_
    rintro e w1 ⟨v1, rfl, hr1, hb1⟩
    have HB1 := Lib.hid (HB.out.trans (hb1.mono HB.out.size))
    have HA1 := Lib.hid (HA.out.below hb1 hN)
    obtain ⟨sa, sc, rfl⟩ := (hr1 w1 (Above.refl _ _)).len
    rw [HSL.out]
    clear hr1 hb1 HS HB HA hN
    go_wp2_with fail
    refine (HT.out _ HB1.out).mono ?_
    rintro e w2 ⟨v2, rfl, hv2, hb2⟩
    have HB2 := Lib.hid (HB1.out.trans (hb2.mono HB1.out.size))
    have HA2 := Lib.hid (HA1.out.below hb2 HA1.out.lt)
    obtain ⟨ta, tc, rfl⟩ := hv2.len
    rw [HN.out]
    have e0 := HA2.out.cell (i := 0) rfl
    have e1 := HA2.out.cell (i := 1) rfl
    have e2 := HA2.out.cell (i := 2) rfl
    have f0 := HA2.out.free 0
    have f1 := HA2.out.free 1
    have f2 := HA2.out.free 2
    have hlt2 := HA2.out.lt
    clear hv2 hb2 HT HA1 HB1
    go_wp2_with (go_at_call 24; refine (hbt.out _).mono ?_; rintro e w3 ⟨rfl, rfl⟩)
    have hb9 := ((((HB2.out.setCell (p := ⟨w.heap.size, 0, none⟩) (Nat.le_refl _) (.slice none 0 0))).setCell (p := ⟨w.heap.size, 1, none⟩) (Nat.le_refl _) (.slice none 0 0))).setCell (p := ⟨w.heap.size, 2, none⟩) (Nat.le_refl _) (.int .u32 0)
    have hA9 := ((HA2.out.set 0 (.slice none 0 0)).set 1 (.slice none 0 0)).set 2 (.int .u32 0)
    have g0 := hA9.cell (i := 0) (v := .slice none 0 0) rfl
    have g1 := hA9.cell (i := 1) (v := .slice none 0 0) rfl
    have g2 := hA9.cell (i := 2) (v := .int .u32 0) rfl
    generalize ((w3.setCell ⟨w.heap.size, 0, none⟩ (.slice none 0 0)).setCell ⟨w.heap.size, 1, none⟩ (.slice none 0 0)).setCell ⟨w.heap.size, 2, none⟩ (.int .u32 0) = w9 at *
    exact bodyPost_ret (v := .tuple #[.agg #[.slice none 0 0, .slice none 0 0, .int .u32 0], .int .i64 1]) (by simp [results, Tryd.results20, go_sem, *]) rfl ⟨rfl, hb9⟩
  · have he : errG h cm = errU h := by unfold errG; rw [if_neg hu]
    rw [he]
    have te : ((errU h : Int) != 0) = true := by simp; omega
    rw [if_neg hu] at hSU
    have HS := Lib.hid hSU
    clear hSU he h0 hu HT
    generalize errU h = er at *
    go_enter Tryd.func20, Tryd.ntmps20
    go_wp2_with fail
    refine HS.out.mono ?_
    rintro e w1 ⟨v1, rfl, hr1, hb1⟩
    have HB1 := Lib.hid (HB.out.trans (hb1.mono HB.out.size))
    have HA1 := Lib.hid (HA.out.below hb1 hN)
    obtain ⟨sa, sc, rfl⟩ := (hr1 w1 (Above.refl _ _)).len
    have e0 := HA1.out.cell (i := 0) rfl
    have e1 := HA1.out.cell (i := 1) rfl
    have e2 := HA1.out.cell (i := 2) rfl
    have f0 := HA1.out.free 0
    have f1 := HA1.out.free 1
    have f2 := HA1.out.free 2
    have hlt2 := HA1.out.lt
    clear hr1 hb1 HS HB HA hN
    go_wp2
    have hb9 := ((((HB1.out.setCell (p := ⟨w.heap.size, 0, none⟩) (Nat.le_refl _) (.slice none 0 0))).setCell (p := ⟨w.heap.size, 1, none⟩) (Nat.le_refl _) (.slice none 0 0))).setCell (p := ⟨w.heap.size, 2, none⟩) (Nat.le_refl _) (.int .u32 0)
    have hA9 := ((HA1.out.set 0 (.slice none 0 0)).set 1 (.slice none 0 0)).set 2 (.int .u32 0)
    have g0 := hA9.cell (i := 0) (v := .slice none 0 0) rfl
    have g1 := hA9.cell (i := 1) (v := .slice none 0 0) rfl
    have g2 := hA9.cell (i := 2) (v := .int .u32 0) rfl
    generalize ((w1.setCell ⟨w.heap.size, 0, none⟩ (.slice none 0 0)).setCell ⟨w.heap.size, 1, none⟩ (.slice none 0 0)).setCell ⟨w.heap.size, 2, none⟩ (.int .u32 0) = w9 at *
    exact bodyPost_ret (v := .tuple #[.agg #[.slice none 0 0, .slice none 0 0, .int .u32 0], .int .i64 (er : Int)]) (by simp [results, Tryd.results20, go_sem, *]) rfl ⟨rfl, hb9⟩
/-- what Readable tells -/
def rdG (h : List Ev) (cm : Nat) : Bool := if errG h cm = 0 then readS (tableS h) cm else false
set_option maxRecDepth 100000 in
set_option maxHeartbeats 2000000 in
theorem readableG_any (v : Value) (h : List Ev) (cm : Nat) (hcm : cm < 4294967296) (w : World) (hK : HasK w) (hv : Evs w v h) (hl : h.length ≤ 65536) :
    Calls Tryd.prog 6 #[v, .int .u32 (cm : Int)] w fun e w' => e = .returned (.tuple #[.bool (rdG h cm), .int .i64 ((errG h cm : Nat) : Int)]) ∧ Below w.heap.size w w' := by
  unfold rdG
  by_cases h0 : errG h cm = 0
  · have HVO := Lib.hid (viewOf_ok v h cm hcm w hK hv hl h0)
    have hf := fine_table (errU_zero (errG_zero h0).1).1
    have HIR := Lib.hid (fun (ta sa : Option Addr) (tc sc : Nat) (W : World) hv hs => isReadable_any ta sa tc sc cm (tableS h) W hv hs hf hcm)
    rw [if_pos h0, h0]
    obtain ⟨ea, ec, rfl⟩ := hv.len
    clear hv hK hf h0
    generalize tableS h = l at *
    generalize readS l cm = r at *
    go_enter Tryd.func6, Tryd.ntmps6
    go_wp2_with fail
    refine HVO.out.mono ?_
    rintro e w1 ⟨ta, tc, sa, sc, rfl, hv1, hs1, hb1⟩
    have hba1 : Below w1.heap.size w1 (w1.alloc (.cells #[.slice ta l.length tc, .slice sa l.length sc, .int .u32 (cm : Int)] 50)) := (Below.refl _ w1).alloc (Nat.le_refl _) _
    have HI := Lib.hid (HIR.out ta sa tc sc _ (hv1.below hba1 (Nat.le_refl _)) (hs1.below hba1))
    have HB2 := Lib.hid (hb1.trans (hba1.mono hb1.size))
    clear hv1 hs1 hb1 hba1 HVO HIR
    generalize l.length = ln at *
    go_wp2_with fail
    refine HI.out.mono ?_
    rintro e w3 ⟨rfl, hb3⟩
    have HB3 := Lib.hid (HB2.out.trans (hb3.mono HB2.out.size))
    clear hb3 HI
    go_wp2
    exact bodyPost_ret (v := .tuple #[.bool r, .int .i64 0]) (by simp [results, Tryd.results6, go_sem]) rfl ⟨rfl, HB3.out⟩
  · have HVO := Lib.hid (viewOf_bad v h cm hcm w hK hv hl h0)
    rw [if_neg h0]
    obtain ⟨ea, ec, rfl⟩ := hv.len
    have te : ((errG h cm : Int) != 0) = true := by simp; omega
    clear hv hK h0
    generalize errG h cm = er at *
    go_enter Tryd.func6, Tryd.ntmps6
    go_wp2_with fail
    refine HVO.out.mono ?_
    rintro e w1 ⟨rfl, hb1⟩
    have HB1 := Lib.hid (hb1.alloc hb1.size (.cells #[.slice none 0 0, .slice none 0 0, .int .u32 0] 50))
    clear hb1 HVO
    go_wp2
    exact bodyPost_ret (v := .tuple #[.bool false, .int .i64 (er : Int)]) (by simp [results, Tryd.results6, go_sem]) rfl ⟨rfl, HB1.out⟩
set_option maxRecDepth 100000 in
set_option maxHeartbeats 4000000 in
theorem buildG_any (v rv : Value) (h : List Ev) (cm : Nat) (row : List Int) (hcm : cm < 4294967296) (w : World) (hK : HasK w) (hv : Evs w v h) (hl : h.length ≤ 65536) (hr : Rd w rv (ints row)) (hrl : row.length ≤ 65536) :
    Calls Tryd.prog 7 #[v, .int .u32 (cm : Int), rv] w fun e w' => ∃ v', e = .returned (.tuple #[v', .int .i64 ((errB h cm row : Nat) : Int)]) ∧ Rd w' v' (u32s (bldS h cm row)) ∧ Below w.heap.size w w' := by
  by_cases h0 : errG h cm = 0
  · cases hwh : wholeS (tableS h).length row with
    | true =>
      obtain ⟨rn, rfl, hw⟩ := whole_iff.1 hwh
      cases hread : readS (tableS h) cm with
      | true =>
        have he := errB_ok h0 hwh hread
        rw [bld_ok he, he]
        exact buildG_ok v rv h cm rn hcm w hK hv hl hr h0 hw hread
      | false =>
        have he := errB_read h0 hwh hread
        rw [bld_off (by rw [he]; omega), he]
        have hf := fine_table (errU_zero (errG_zero h0).1).1
        have hl6 := hf.six
        obtain ⟨ra, rc, rfl⟩ := hr.len
        rw [ints_len, List.length_map] at hr ⊢
        have hba : Below w.heap.size w (w.alloc (.cells #[.slice ra rn.length rc] 24)) := (Below.refl _ w).alloc (Nat.le_refl _) _
        have HVO := Lib.hid (viewOf_ok v h cm hcm _ (hK.later hba (Nat.le_refl _)) (hv.below hba (Nat.le_refl _)) hl h0)
        have HEO := Lib.hid (fun (W : World) (hW : Below w.heap.size w W) => eachOnce_any _ (rn.map fun x : Nat => (x : Int)) (tableS h).length hl6 W (hr.below hW (Nat.le_refl _)) hrl)
        rw [hwh] at HEO
        have HIR := Lib.hid (fun (ta sa : Option Addr) (tc sc : Nat) (W : World) hv hs => isReadable_any ta sa tc sc cm (tableS h) W hv hs hf hcm)
        rw [hread] at HIR
        have HB0 := Lib.hid hba
        have HA0 := Lib.hid (At.new w #[.slice ra rn.length rc] 24)
        have hN : w.heap.size < (w.alloc (.cells #[.slice ra rn.length rc] 24)).heap.size := HA0.out.lt
        obtain ⟨ea, ec, rfl⟩ := hv.len
        clear hv hK hr hread hf hba h0 hwh hw he
        generalize tableS h = l at *
        generalize rn.length = rl at *
        go_enter Tryd.func7, Tryd.ntmps7
        go_wp2_with fail
        refine HVO.out.mono ?_
        rintro e w1 ⟨ta, tc, sa, sc, rfl, hv1, hs1, hb1⟩
        have hba1 : Below w1.heap.size w1 (w1.alloc (.cells #[.slice ta l.length tc, .slice sa l.length sc, .int .u32 (cm : Int)] 50)) := (Below.refl _ w1).alloc (Nat.le_refl _) _
        have HB2 := Lib.hid ((HB0.out.trans (hb1.mono HB0.out.size)).trans (hba1.mono (Nat.le_trans HB0.out.size hb1.size)))
        have p0 := ((HA0.out.below hb1 hN).alloc (.cells #[.slice ta l.length tc, .slice sa l.length sc, .int .u32 (cm : Int)] 50)).cell (i := 0) rfl
        have HV2 := Lib.hid (At.new w1 #[.slice ta l.length tc, .slice sa l.length sc, .int .u32 (cm : Int)] 50)
        have HT2 := Lib.hid (hv1.below hba1 (Nat.le_refl _))
        have HS2 := Lib.hid (hs1.below hba1)
        have v0 := HV2.out.cell (i := 0) rfl
        clear hv1 hs1 hb1 hba1 HVO HB0 HA0 hN
        generalize l.length = ln at *
        go_wp2_with fail
        generalize w1.alloc (.cells #[.slice ta ln tc, .slice sa ln sc, .int .u32 (cm : Int)] 50) = w2 at *
        generalize w1.heap.size = V at *
        refine (HEO.out w2 HB2.out).mono ?_
        rintro e w3 ⟨rfl, hb3⟩
        have HB3 := Lib.hid (HB2.out.trans (hb3.mono HB2.out.size))
        have HV3 := Lib.hid (HV2.out.below hb3 HV2.out.lt)
        have HI := Lib.hid (HIR.out ta sa tc sc w3 (HT2.out.below hb3 (Nat.le_refl _)) (HS2.out.below hb3))
        have q0 := HV3.out.cell (i := 0) rfl
        have q1 := HV3.out.cell (i := 1) rfl
        have q2 := HV3.out.cell (i := 2) rfl
        clear hb3 HEO HB2 HV2 HT2 HS2 p0 v0 HIR
        go_wp2_with fail
        refine HI.out.mono ?_
        rintro e w4 ⟨rfl, hb4⟩
        have HB4 := Lib.hid (HB3.out.trans (hb4.mono HB3.out.size))
        clear hb4 HI q0 q1 q2
        go_wp2
        exact bodyPost_ret (v := .tuple #[.slice none 0 0, .int .i64 7]) (by simp [results, Tryd.results7, go_sem]) rfl ⟨_, rfl, .inl ⟨rfl, _, _, rfl⟩, HB4.out⟩
    | false =>
      have he := errB_row h0 hwh
      rw [bld_off (by rw [he]; omega), he]
      have hf := fine_table (errU_zero (errG_zero h0).1).1
      have hl6 := hf.six
      obtain ⟨ra, rc, rfl⟩ := hr.len
      rw [ints_len] at hr ⊢
      have hba : Below w.heap.size w (w.alloc (.cells #[.slice ra row.length rc] 24)) := (Below.refl _ w).alloc (Nat.le_refl _) _
      have HVO := Lib.hid (viewOf_ok v h cm hcm _ (hK.later hba (Nat.le_refl _)) (hv.below hba (Nat.le_refl _)) hl h0)
      have HEO := Lib.hid (fun (W : World) (hW : Below w.heap.size w W) => eachOnce_any _ row (tableS h).length hl6 W (hr.below hW (Nat.le_refl _)) hrl)
      rw [hwh] at HEO
      have HB0 := Lib.hid hba
      have HA0 := Lib.hid (At.new w #[.slice ra row.length rc] 24)
      have hN : w.heap.size < (w.alloc (.cells #[.slice ra row.length rc] 24)).heap.size := HA0.out.lt
      obtain ⟨ea, ec, rfl⟩ := hv.len
      clear hv hK hr hf hba h0 hwh he
      generalize tableS h = l at *
      generalize row.length = rl at *
      go_enter Tryd.func7, Tryd.ntmps7
      go_wp2_with fail
      refine HVO.out.mono ?_
      rintro e w1 ⟨ta, tc, sa, sc, rfl, hv1, hs1, hb1⟩
      have hba1 : Below w1.heap.size w1 (w1.alloc (.cells #[.slice ta l.length tc, .slice sa l.length sc, .int .u32 (cm : Int)] 50)) := (Below.refl _ w1).alloc (Nat.le_refl _) _
      have HB2 := Lib.hid ((HB0.out.trans (hb1.mono HB0.out.size)).trans (hba1.mono (Nat.le_trans HB0.out.size hb1.size)))
      have p0 := ((HA0.out.below hb1 hN).alloc (.cells #[.slice ta l.length tc, .slice sa l.length sc, .int .u32 (cm : Int)] 50)).cell (i := 0) rfl
      have v0 := (At.new w1 #[.slice ta l.length tc, .slice sa l.length sc, .int .u32 (cm : Int)] 50).cell (i := 0) rfl
      clear hv1 hs1 hb1 hba1 HVO HB0 HA0 hN
      generalize l.length = ln at *
      go_wp2_with fail
      generalize w1.alloc (.cells #[.slice ta ln tc, .slice sa ln sc, .int .u32 (cm : Int)] 50) = w2 at *
      refine (HEO.out w2 HB2.out).mono ?_
      rintro e w3 ⟨rfl, hb3⟩
      have HB3 := Lib.hid (HB2.out.trans (hb3.mono HB2.out.size))
      clear hb3 HEO HB2 p0 v0
      go_wp2
      exact bodyPost_ret (v := .tuple #[.slice none 0 0, .int .i64 1]) (by simp [results, Tryd.results7, go_sem]) rfl ⟨_, rfl, .inl ⟨rfl, _, _, rfl⟩, HB3.out⟩
  · have he := errB_off (row := row) h0
    rw [bld_off (by rw [he]; exact h0), he]
    obtain ⟨ra, rc, rfl⟩ := hr.len
    rw [ints_len] at hr ⊢
    have hba : Below w.heap.size w (w.alloc (.cells #[.slice ra row.length rc] 24)) := (Below.refl _ w).alloc (Nat.le_refl _) _
    have HVO := Lib.hid (viewOf_bad v h cm hcm _ (hK.later hba (Nat.le_refl _)) (hv.below hba (Nat.le_refl _)) hl h0)
    have HB0 := Lib.hid hba
    obtain ⟨ea, ec, rfl⟩ := hv.len
    have te : ((errG h cm : Int) != 0) = true := by simp; omega
    clear hv hK h0 hr hba he
    generalize errG h cm = er at *
    generalize row.length = rl at *
    go_enter Tryd.func7, Tryd.ntmps7
    go_wp2_with fail
    refine HVO.out.mono ?_
    rintro e w1 ⟨rfl, hb1⟩
    have HB1 := Lib.hid ((HB0.out.trans (hb1.mono HB0.out.size)).alloc (Nat.le_trans HB0.out.size hb1.size) (.cells #[.slice none 0 0, .slice none 0 0, .int .u32 0] 50))
    clear hb1 HVO
    go_wp2
    exact bodyPost_ret (v := .tuple #[.slice none 0 0, .int .i64 (er : Int)]) (by simp [results, Tryd.results7, go_sem]) rfl ⟨_, rfl, .inl ⟨rfl, _, _, rfl⟩, HB1.out⟩
end Go.Proofs.YtegpelpnbkdgcaaDoor
