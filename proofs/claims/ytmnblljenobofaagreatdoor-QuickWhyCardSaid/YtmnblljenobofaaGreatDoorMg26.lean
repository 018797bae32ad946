/- Merged: GphW, GpiC, ExtJ, GpiA, QckB. -/
import Derived.Test.YtmnblljenobofaaGreatDoorMg25
import Derived.Test.YtmnblljenobofaaGreatDoorMg23
import Derived.Test.YtmnblljenobofaaGreatDoorMg12
import Derived.Test.YtmnblljenobofaaGreatDoorMg6
import Derived.Test.YtmnblljenobofaaGreatDoorMg5
/- The walks of package graph's viewOf where it refuses, Readable, and Build where it refuses: Build whole. -/
namespace Go.Proofs.YtmnblljenobofaaGreatDoor.WPlain
end Go.Proofs.YtmnblljenobofaaGreatDoor.WPlain
namespace Go.Proofs.YtmnblljenobofaaGreatDoor.QPlain
end Go.Proofs.YtmnblljenobofaaGreatDoor.QPlain
namespace Go.Proofs.YtmnblljenobofaaGreatDoor.RPlain
end Go.Proofs.YtmnblljenobofaaGreatDoor.RPlain
namespace Go.Proofs.YtmnblljenobofaaGreatDoor
open Go.RowKit WPlain QPlain RPlain

set_option maxRecDepth 100000 in
set_option maxHeartbeats 2000000 in
theorem viewOf_bad (v : Value) (h : List Ev) (cm : Nat) (_hcm : cm < 4294967296) (w : World) (hK : HasK w) (hv : Evs w v h) (hl : h.length ≤ 65536) (h0 : errG h cm ≠ 0) :
    Calls Tryz.prog 57 #[v, .int .u32 (cm : Int)] w fun e w' => e = .returned (.tuple #[.agg #[.slice none 0 0, .slice none 0 0, .int .u32 0], .int .i64 ((errG h cm : Nat) : Int)]) ∧ Below w.heap.size w w' := by
  have hba : Below w.heap.size w (w.alloc (.cells #[.slice none 0 0, .slice none 0 0, .int .u32 0] 90)) := (Below.refl _ w).alloc (Nat.le_refl _) _
  have hSU := sources_above v h _ (hK.later hba (Nat.le_refl _)) (hv.below hba (Nat.le_refl _)) hl
  have HT := Lib.hid (fun (W : World) (hW : Below w.heap.size w W) => table_any v h W (hK.later hW (Nat.le_refl _)) (hv.below hW (Nat.le_refl _)) hl)
  have HB := Lib.hid hba
  have HA := Lib.hid (At.new w #[.slice none 0 0, .slice none 0 0, .int .u32 0] 90)
  have hN : w.heap.size < (w.alloc (.cells #[.slice none 0 0, .slice none 0 0, .int .u32 0] 90)).heap.size := HA.out.lt
  obtain ⟨a, c, rfl⟩ := hv.len
  clear hv hK hba
  by_cases hu : errU h = 0
  · have hck := (errU_zero hu).1
    have hsix := table_six hck
    have he : errG h cm = 1 := by
      unfold errG at h0 ⊢
      rw [if_pos hu] at h0 ⊢
      split at h0
      · exact absurd rfl h0
      · rename_i h2; rw [if_neg h2]
    have hc : ¬ cm < 2 ^ (tableS h).length := fun hc => h0 (by unfold errG; rw [if_pos hu, if_pos hc])
    rw [he]
    rw [hu, if_pos rfl] at hSU
    rw [hck, if_pos rfl] at HT
    have HS := Lib.hid hSU
    have hsl : (sourcesS (tableS h)).length = (tableS h).length := sources_len _
    clear hSU hu hck h0 he
    generalize tableS h = l at *
    generalize hS : sourcesS l = S at *
    obtain ⟨n, hn⟩ : ∃ n, l.length = n := ⟨_, rfl⟩
    rw [hn] at hsix hsl hc
    have hbt := bitG_all n (by omega)
    obtain ⟨pw, hpe⟩ : ∃ pw, 2 ^ n = pw := ⟨_, rfl⟩
    rw [hpe] at hc hbt
    have HN := Lib.hid hn
    have HSL := Lib.hid hsl
    have td : decide (pw ≤ cm) = true := decide_eq_true (by omega)
    clear hS hn hsl hpe
    go_enter Tryz.func57, Tryz.ntmps57
    go_wp2_with fail
    refine HS.out.mono ?_
    rintro e w1 ⟨v1, rfl, hr1, hb1⟩
    have HB1 := Lib.hid (HB.out.trans (hb1.mono HB.out.size))
    have HA1 := Lib.hid (HA.out.below hb1 hN)
    obtain ⟨sa, sc, rfl⟩ := (hr1 w1 (Above.refl _ _)).len
    rw [HSL.out]
    clear hr1 hb1 HS HB HA hN
    go_wp2_with fail
    refine (HT.out _ HB1.out).mono ?_
    rintro e w2 ⟨v2, rfl, hv2, hb2⟩
    have HB2 := Lib.hid (HB1.out.trans (hb2.mono HB1.out.size))
    have HA2 := Lib.hid (HA1.out.below hb2 HA1.out.lt)
    obtain ⟨ta, tc, rfl⟩ := hv2.len
    rw [HN.out]
    have e0 := HA2.out.cell (i := 0) rfl
    have e1 := HA2.out.cell (i := 1) rfl
    have e2 := HA2.out.cell (i := 2) rfl
    have f0 := HA2.out.free 0
    have f1 := HA2.out.free 1
    have f2 := HA2.out.free 2
    have hlt2 := HA2.out.lt
    clear hv2 hb2 HT HA1 HB1
    go_wp2_with (go_at_call 61; refine (hbt.out _).mono ?_; rintro e w3 ⟨rfl, rfl⟩)
    have hb9 := ((((HB2.out.setCell (p := ⟨w.heap.size, 0, none⟩) (Nat.le_refl _) (.slice none 0 0))).setCell (p := ⟨w.heap.size, 1, none⟩) (Nat.le_refl _) (.slice none 0 0))).setCell (p := ⟨w.heap.size, 2, none⟩) (Nat.le_refl _) (.int .u32 0)
    have hA9 := ((HA2.out.set 0 (.slice none 0 0)).set 1 (.slice none 0 0)).set 2 (.int .u32 0)
    have g0 := hA9.cell (i := 0) (v := .slice none 0 0) rfl
    have g1 := hA9.cell (i := 1) (v := .slice none 0 0) rfl
    have g2 := hA9.cell (i := 2) (v := .int .u32 0) rfl
    generalize ((w3.setCell ⟨w.heap.size, 0, none⟩ (.slice none 0 0)).setCell ⟨w.heap.size, 1, none⟩ (.slice none 0 0)).setCell ⟨w.heap.size, 2, none⟩ (.int .u32 0) = w9 at *
    exact bodyPost_ret (v := .tuple #[.agg #[.slice none 0 0, .slice none 0 0, .int .u32 0], .int .i64 1]) (by simp [results, Tryz.results57, go_sem, *]) rfl ⟨rfl, hb9⟩
  · have he : errG h cm = errU h := by unfold errG; rw [if_neg hu]
    rw [he]
    have te : ((errU h : Int) != 0) = true := by simp; omega
    rw [if_neg hu] at hSU
    have HS := Lib.hid hSU
    clear hSU he h0 hu HT
    generalize errU h = er at *
    go_enter Tryz.func57, Tryz.ntmps57
    go_wp2_with fail
    refine HS.out.mono ?_
    rintro e w1 ⟨v1, rfl, hr1, hb1⟩
    have HB1 := Lib.hid (HB.out.trans (hb1.mono HB.out.size))
    have HA1 := Lib.hid (HA.out.below hb1 hN)
    obtain ⟨sa, sc, rfl⟩ := (hr1 w1 (Above.refl _ _)).len
    have e0 := HA1.out.cell (i := 0) rfl
    have e1 := HA1.out.cell (i := 1) rfl
    have e2 := HA1.out.cell (i := 2) rfl
    have f0 := HA1.out.free 0
    have f1 := HA1.out.free 1
    have f2 := HA1.out.free 2
    have hlt2 := HA1.out.lt
    clear hr1 hb1 HS HB HA hN
    go_wp2
    have hb9 := ((((HB1.out.setCell (p := ⟨w.heap.size, 0, none⟩) (Nat.le_refl _) (.slice none 0 0))).setCell (p := ⟨w.heap.size, 1, none⟩) (Nat.le_refl _) (.slice none 0 0))).setCell (p := ⟨w.heap.size, 2, none⟩) (Nat.le_refl _) (.int .u32 0)
    have hA9 := ((HA1.out.set 0 (.slice none 0 0)).set 1 (.slice none 0 0)).set 2 (.int .u32 0)
    have g0 := hA9.cell (i := 0) (v := .slice none 0 0) rfl
    have g1 := hA9.cell (i := 1) (v := .slice none 0 0) rfl
    have g2 := hA9.cell (i := 2) (v := .int .u32 0) rfl
    generalize ((w1.setCell ⟨w.heap.size, 0, none⟩ (.slice none 0 0)).setCell ⟨w.heap.size, 1, none⟩ (.slice none 0 0)).setCell ⟨w.heap.size, 2, none⟩ (.int .u32 0) = w9 at *
    exact bodyPost_ret (v := .tuple #[.agg #[.slice none 0 0, .slice none 0 0, .int .u32 0], .int .i64 (er : Int)]) (by simp [results, Tryz.results57, go_sem, *]) rfl ⟨rfl, hb9⟩
/-- what Readable tells -/
def rdG (h : List Ev) (cm : Nat) : Bool := if errG h cm = 0 then readS (tableS h) cm else false
set_option maxRecDepth 100000 in
set_option maxHeartbeats 2000000 in
theorem readableG_any (v : Value) (h : List Ev) (cm : Nat) (hcm : cm < 4294967296) (w : World) (hK : HasK w) (hv : Evs w v h) (hl : h.length ≤ 65536) :
    Calls Tryz.prog 42 #[v, .int .u32 (cm : Int)] w fun e w' => e = .returned (.tuple #[.bool (rdG h cm), .int .i64 ((errG h cm : Nat) : Int)]) ∧ Below w.heap.size w w' := by
  unfold rdG
  by_cases h0 : errG h cm = 0
  · have HVO := Lib.hid (viewOf_ok v h cm hcm w hK hv hl h0)
    have hf := fine_table (errU_zero (errG_zero h0).1).1
    have HIR := Lib.hid (fun (ta sa : Option Addr) (tc sc : Nat) (W : World) hv hs => isReadable_any ta sa tc sc cm (tableS h) W hv hs hf hcm)
    rw [if_pos h0, h0]
    obtain ⟨ea, ec, rfl⟩ := hv.len
    clear hv hK hf h0
    generalize tableS h = l at *
    generalize readS l cm = r at *
    go_enter Tryz.func42, Tryz.ntmps42
    go_wp2_with fail
    refine HVO.out.mono ?_
    rintro e w1 ⟨ta, tc, sa, sc, rfl, hv1, hs1, hb1⟩
    have hba1 : Below w1.heap.size w1 (w1.alloc (.cells #[.slice ta l.length tc, .slice sa l.length sc, .int .u32 (cm : Int)] 90)) := (Below.refl _ w1).alloc (Nat.le_refl _) _
    have HI := Lib.hid (HIR.out ta sa tc sc _ (hv1.below hba1 (Nat.le_refl _)) (hs1.below hba1))
    have HB2 := Lib.hid (hb1.trans (hba1.mono hb1.size))
    clear hv1 hs1 hb1 hba1 HVO HIR
    generalize l.length = ln at *
    go_wp2_with fail
    refine HI.out.mono ?_
    rintro e w3 ⟨rfl, hb3⟩
    have HB3 := Lib.hid (HB2.out.trans (hb3.mono HB2.out.size))
    clear hb3 HI
    go_wp2
    exact bodyPost_ret (v := .tuple #[.bool r, .int .i64 0]) (by simp [results, Tryz.results42, go_sem]) rfl ⟨rfl, HB3.out⟩
  · have HVO := Lib.hid (viewOf_bad v h cm hcm w hK hv hl h0)
    rw [if_neg h0]
    obtain ⟨ea, ec, rfl⟩ := hv.len
    have te : ((errG h cm : Int) != 0) = true := by simp; omega
    clear hv hK h0
    generalize errG h cm = er at *
    go_enter Tryz.func42, Tryz.ntmps42
    go_wp2_with fail
    refine HVO.out.mono ?_
    rintro e w1 ⟨rfl, hb1⟩
    have HB1 := Lib.hid (hb1.alloc hb1.size (.cells #[.slice none 0 0, .slice none 0 0, .int .u32 0] 90))
    clear hb1 HVO
    go_wp2
    exact bodyPost_ret (v := .tuple #[.bool false, .int .i64 (er : Int)]) (by simp [results, Tryz.results42, go_sem]) rfl ⟨rfl, HB1.out⟩
set_option maxRecDepth 100000 in
set_option maxHeartbeats 4000000 in
theorem buildG_any (v rv : Value) (h : List Ev) (cm : Nat) (row : List Int) (hcm : cm < 4294967296) (w : World) (hK : HasK w) (hv : Evs w v h) (hl : h.length ≤ 65536) (hr : Rd w rv (ints row)) (hrl : row.length ≤ 65536) :
    Calls Tryz.prog 31 #[v, .int .u32 (cm : Int), rv] w fun e w' => ∃ v', e = .returned (.tuple #[v', .int .i64 ((errB h cm row : Nat) : Int)]) ∧ Rd w' v' (u32s (bldS h cm row)) ∧ Below w.heap.size w w' := by
  by_cases h0 : errG h cm = 0
  · cases hwh : wholeS (tableS h).length row with
    | true =>
      obtain ⟨rn, rfl, hw⟩ := whole_iff.1 hwh
      cases hread : readS (tableS h) cm with
      | true =>
        have he := errB_ok h0 hwh hread
        rw [bld_ok he, he]
        exact buildG_ok v rv h cm rn hcm w hK hv hl hr h0 hw hread
      | false =>
        have he := errB_read h0 hwh hread
        rw [bld_off (by rw [he]; omega), he]
        have hf := fine_table (errU_zero (errG_zero h0).1).1
        have hl6 := hf.six
        obtain ⟨ra, rc, rfl⟩ := hr.len
        rw [ints_len, List.length_map] at hr ⊢
        have hba : Below w.heap.size w (w.alloc (.cells #[.slice ra rn.length rc] 24)) := (Below.refl _ w).alloc (Nat.le_refl _) _
        have HVO := Lib.hid (viewOf_ok v h cm hcm _ (hK.later hba (Nat.le_refl _)) (hv.below hba (Nat.le_refl _)) hl h0)
        have HEO := Lib.hid (fun (W : World) (hW : Below w.heap.size w W) => eachOnce_any _ (rn.map fun x : Nat => (x : Int)) (tableS h).length hl6 W (hr.below hW (Nat.le_refl _)) hrl)
        rw [hwh] at HEO
        have HIR := Lib.hid (fun (ta sa : Option Addr) (tc sc : Nat) (W : World) hv hs => isReadable_any ta sa tc sc cm (tableS h) W hv hs hf hcm)
        rw [hread] at HIR
        have HB0 := Lib.hid hba
        have HA0 := Lib.hid (At.new w #[.slice ra rn.length rc] 24)
        have hN : w.heap.size < (w.alloc (.cells #[.slice ra rn.length rc] 24)).heap.size := HA0.out.lt
        obtain ⟨ea, ec, rfl⟩ := hv.len
        clear hv hK hr hread hf hba h0 hwh hw he
        generalize tableS h = l at *
        generalize rn.length = rl at *
        go_enter Tryz.func31, Tryz.ntmps31
        go_wp2_with fail
        refine HVO.out.mono ?_
        rintro e w1 ⟨ta, tc, sa, sc, rfl, hv1, hs1, hb1⟩
        have hba1 : Below w1.heap.size w1 (w1.alloc (.cells #[.slice ta l.length tc, .slice sa l.length sc, .int .u32 (cm : Int)] 90)) := (Below.refl _ w1).alloc (Nat.le_refl _) _
        have HB2 := Lib.hid ((HB0.out.trans (hb1.mono HB0.out.size)).trans (hba1.mono (Nat.le_trans HB0.out.size hb1.size)))
        have p0 := ((HA0.out.below hb1 hN).alloc (.cells #[.slice ta l.length tc, .slice sa l.length sc, .int .u32 (cm : Int)] 90)).cell (i := 0) rfl
        have HV2 := Lib.hid (At.new w1 #[.slice ta l.length tc, .slice sa l.length sc, .int .u32 (cm : Int)] 90)
        have HT2 := Lib.hid (hv1.below hba1 (Nat.le_refl _))
        have HS2 := Lib.hid (hs1.below hba1)
        have v0 := HV2.out.cell (i := 0) rfl
        clear hv1 hs1 hb1 hba1 HVO HB0 HA0 hN
        generalize l.length = ln at *
        go_wp2_with fail
        generalize w1.alloc (.cells #[.slice ta ln tc, .slice sa ln sc, .int .u32 (cm : Int)] 90) = w2 at *
        generalize w1.heap.size = V at *
        refine (HEO.out w2 HB2.out).mono ?_
        rintro e w3 ⟨rfl, hb3⟩
        have HB3 := Lib.hid (HB2.out.trans (hb3.mono HB2.out.size))
        have HV3 := Lib.hid (HV2.out.below hb3 HV2.out.lt)
        have HI := Lib.hid (HIR.out ta sa tc sc w3 (HT2.out.below hb3 (Nat.le_refl _)) (HS2.out.below hb3))
        have q0 := HV3.out.cell (i := 0) rfl
        have q1 := HV3.out.cell (i := 1) rfl
        have q2 := HV3.out.cell (i := 2) rfl
        clear hb3 HEO HB2 HV2 HT2 HS2 p0 v0 HIR
        go_wp2_with fail
        refine HI.out.mono ?_
        rintro e w4 ⟨rfl, hb4⟩
        have HB4 := Lib.hid (HB3.out.trans (hb4.mono HB3.out.size))
        clear hb4 HI q0 q1 q2
        go_wp2
        exact bodyPost_ret (v := .tuple #[.slice none 0 0, .int .i64 7]) (by simp [results, Tryz.results31, go_sem]) rfl ⟨_, rfl, .inl ⟨rfl, _, _, rfl⟩, HB4.out⟩
    | false =>
      have he := errB_row h0 hwh
      rw [bld_off (by rw [he]; omega), he]
      have hf := fine_table (errU_zero (errG_zero h0).1).1
      have hl6 := hf.six
      obtain ⟨ra, rc, rfl⟩ := hr.len
      rw [ints_len] at hr ⊢
      have hba : Below w.heap.size w (w.alloc (.cells #[.slice ra row.length rc] 24)) := (Below.refl _ w).alloc (Nat.le_refl _) _
      have HVO := Lib.hid (viewOf_ok v h cm hcm _ (hK.later hba (Nat.le_refl _)) (hv.below hba (Nat.le_refl _)) hl h0)
      have HEO := Lib.hid (fun (W : World) (hW : Below w.heap.size w W) => eachOnce_any _ row (tableS h).length hl6 W (hr.below hW (Nat.le_refl _)) hrl)
      rw [hwh] at HEO
      have HB0 := Lib.hid hba
      have HA0 := Lib.hid (At.new w #[.slice ra row.length rc] 24)
      have hN : w.heap.size < (w.alloc (.cells #[.slice ra row.length rc] 24)).heap.size := HA0.out.lt
      obtain ⟨ea, ec, rfl⟩ := hv.len
      clear hv hK hr hf hba h0 hwh he
      generalize tableS h = l at *
      generalize row.length = rl at *
      go_enter Tryz.func31, Tryz.ntmps31
      go_wp2_with fail
      refine HVO.out.mono ?_
      rintro e w1 ⟨ta, tc, sa, sc, rfl, hv1, hs1, hb1⟩
      have hba1 : Below w1.heap.size w1 (w1.alloc (.cells #[.slice ta l.length tc, .slice sa l.length sc, .int .u32 (cm : Int)] 90)) := (Below.refl _ w1).alloc (Nat.le_refl _) _
      have HB2 := Lib.hid ((HB0.out.trans (hb1.mono HB0.out.size)).trans (hba1.mono (Nat.le_trans HB0.out.size hb1.size)))
      have p0 := ((HA0.out.below hb1 hN).alloc (.cells #[.slice ta l.length tc, .slice sa l.length sc, .int .u32 (cm : Int)] 90)).cell (i := 0) rfl
      have v0 := (At.new w1 #[.slice ta l.length tc, .slice sa l.length sc, .int .u32 (cm : Int)] 90).cell (i := 0) rfl
      clear hv1 hs1 hb1 hba1 HVO HB0 HA0 hN
      generalize l.length = ln at *
      go_wp2_with fail
      generalize w1.alloc (.cells #[.slice ta ln tc, .slice sa ln sc, .int .u32 (cm : Int)] 90) = w2 at *
      refine (HEO.out w2 HB2.out).mono ?_
      rintro e w3 ⟨rfl, hb3⟩
      have HB3 := Lib.hid (HB2.out.trans (hb3.mono HB2.out.size))
      clear hb3 HEO HB2 p0 v0
      go_wp2
      exact bodyPost_ret (v := .tuple #[.slice none 0 0, .int .i64 1]) (by simp [results, Tryz.results31, go_sem]) rfl ⟨_, rfl, .inl ⟨rfl, _, _, rfl⟩, HB3.out⟩
  · have he := errB_off (row := row) h0
    rw [bld_off (by rw [he]; exact h0), he]
    obtain ⟨ra, rc, rfl⟩ := hr.len
    rw [ints_len] at hr ⊢
    have hba : Below w.heap.size w (w.alloc (.cells #[.slice ra row.length rc] 24)) := (Below.refl _ w).alloc (Nat.le_refl _) _
    have HVO := Lib.hid (viewOf_bad v h cm hcm _ (hK.later hba (Nat.le_refl _)) (hv.below hba (Nat.le_refl _)) hl h0)
    have HB0 := Lib.hid hba
    obtain ⟨ea, ec, rfl⟩ := hv.len
    have te : ((errG h cm : Int) != 0) = true := by simp; omega
    clear hv hK h0 hr hba he
    generalize errG h cm = er at *
    generalize row.length = rl at *
    go_enter Tryz.func31, Tryz.ntmps31
    go_wp2_with fail
    refine HVO.out.mono ?_
    rintro e w1 ⟨rfl, hb1⟩
    have HB1 := Lib.hid ((HB0.out.trans (hb1.mono HB0.out.size)).alloc (Nat.le_trans HB0.out.size hb1.size) (.cells #[.slice none 0 0, .slice none 0 0, .int .u32 0] 90))
    clear hb1 HVO
    go_wp2
    exact bodyPost_ret (v := .tuple #[.slice none 0 0, .int .i64 (er : Int)]) (by simp [results, Tryz.results31, go_sem]) rfl ⟨_, rfl, .inl ⟨rfl, _, _, rfl⟩, HB1.out⟩
end Go.Proofs.YtmnblljenobofaaGreatDoor
/- Plain words: graphs as they are built; an int that fits. -/
namespace Go.Proofs.YtmnblljenobofaaGreatDoor.WPlain
end Go.Proofs.YtmnblljenobofaaGreatDoor.WPlain
namespace Go.Proofs.YtmnblljenobofaaGreatDoor.QPlain
end Go.Proofs.YtmnblljenobofaaGreatDoor.QPlain
namespace Go.Proofs.YtmnblljenobofaaGreatDoor.RPlain
end Go.Proofs.YtmnblljenobofaaGreatDoor.RPlain
namespace Go.Proofs.YtmnblljenobofaaGreatDoor.RPlain
open WPlain QPlain

theorem bld_len (l : List Tx) (c : Nat) (rn : List Nat) : (buildS l c rn).length = l.length := by unfold buildS; rw [List.length_map, List.length_range]
theorem errB_zero {h : List Ev} {cm : Nat} {row : List Int} (h0 : errB h cm row = 0) : errG h cm = 0 ∧ wholeS (tableS h).length row = true ∧ readS (tableS h) cm = true := by
  by_cases hg : errG h cm = 0
  · cases hw : wholeS (tableS h).length row with
    | false => rw [errB_row hg hw] at h0; cases h0
    | true =>
      cases hr : readS (tableS h) cm with
      | false => rw [errB_read hg hw hr] at h0; cases h0
      | true => exact ⟨hg, rfl, rfl⟩
  · rw [errB_off hg] at h0
    exact absurd h0 hg
end Go.Proofs.YtmnblljenobofaaGreatDoor.RPlain
namespace Go.Proofs.YtmnblljenobofaaGreatDoor
open Go.RowKit WPlain QPlain RPlain

end Go.Proofs.YtmnblljenobofaaGreatDoor
/- The walks of package extend's All, Count and First. -/
namespace Go.Proofs.YtmnblljenobofaaGreatDoor.RPlain
end Go.Proofs.YtmnblljenobofaaGreatDoor.RPlain
namespace Go.Proofs.YtmnblljenobofaaGreatDoor
open Go.RowKit Go.Shelf RPlain

attribute [local go_sem] Oper.semAt_some

theorem collect_any (A : List Nat) (hn : A.length ≤ 6) (hA : ∀ a ∈ A, a < 4294967296) (L R T : Nat) (w : World) (hC : ∀ X, (∀ k, k < w.heap.size → ¬ X k) → Cap A [] L R T X w) :
    Calls Tryz.prog 85 #[seqV L R T] w fun e w' => ∃ v vs, e = .returned v ∧ Rd w' v vs ∧ (∃ X, Rowl X w' vs (rowsS A)) ∧ SrcN v ∧ Below w.heap.size w w' := by
  have HS := Lib.hid (appendSeq_any A hn hA L R T w hC)
  clear hC
  generalize rowsS A = rows at *
  unfold seqV at *
  go_enter Tryz.func85, Tryz.ntmps85
  go_wp2_with fail
  refine HS.out.mono ?_
  rintro e w1 ⟨v, vs, rfl, h1, h2, h3, h4⟩
  obtain ⟨va, vc, rfl⟩ := h1.len
  go_wp2
  go_ret
  exact ⟨_, vs, rfl, h1, h2, h3, h4⟩
set_option maxRecDepth 100000 in
set_option maxHeartbeats 4000000 in
theorem all_any (a : Option Addr) (c : Nat) (A : List Nat) (w : World) (hv : Rd w (.slice a A.length c) (u32s A)) (hA : ∀ x ∈ A, x < 4294967296) (hl : A.length ≤ 65536) :
    Calls Tryz.prog 44 #[.slice a A.length c] w fun e w' => ∃ v vs, e = .returned (.tuple #[v, .int .i64 ((mayE A : Nat) : Int)]) ∧ Rd w' v vs ∧ (∃ X, Rowl X w' vs (if mayE A = 0 then allS A else [])) ∧ Below w.heap.size w w' := by
  have HCK := Lib.hid (checkX_any _ A w hv hA hl)
  have HV := Lib.hid hv
  by_cases h0 : mayE A = 0
  · obtain ⟨hn, _, hf⟩ := mayE_zero.1 h0
    have hro : rowsS A = allS A := rowsS_eq (self_free hf)
    rw [if_pos h0, ← hro]
    rw [h0] at HCK ⊢
    have HRW := Lib.hid (fun w1 => rows_any a c A hn w1)
    have HCP := Lib.hid (fun (w1 w2 : World) h => rows_cap (a := a) (c := c) (A := A) (w := w1) (w' := w2) h)
    have HCO := Lib.hid (fun (L R T : Nat) (w1 : World) h => collect_any A hn hA L R T w1 h)
    clear h0 hf hro hv
    generalize rowsS A = rows at *
    go_enter Tryz.func44, Tryz.ntmps44
    go_wp2_with fail
    refine HCK.out.mono ?_
    rintro e w1 ⟨rfl, hb1⟩
    have HB1 := Lib.hid hb1
    clear hb1
    go_wp2_with fail
    refine (HRW.out w1).mono ?_
    rintro e w2 ⟨rfl, hw2⟩
    obtain ⟨hb2, hs2, hcap⟩ := HCP.out w1 w2 hw2
    have HB2 := Lib.hid (HB1.out.trans (hb2.mono HB1.out.size))
    have HC2 := Lib.hid (HCO.out (w1.heap.size + 2) (w1.heap.size + 1) w1.heap.size w2 (fun X hX => hcap X (rdx_low (HV.out.below HB1.out (Nat.le_refl _)) (fun k hk => hX k (by omega))) (fun k _ hk => hX k (by omega))))
    clear hw2 hb2 hs2 hcap
    unfold seqV at *
    go_wp2_with fail
    refine HC2.out.mono ?_
    rintro e w3 ⟨v, vs, rfl, g1, g2, g3, g4⟩
    have HG1 := Lib.hid g1
    have HG4 := Lib.hid (HB2.out.trans (g4.mono HB2.out.size))
    have HG2 := Lib.hid g2
    obtain ⟨va, vc, rfl⟩ := g1.len
    clear g1 g2 g3 g4
    go_wp2
    refine bodyPost_ret (v := .tuple #[.slice va vs.length vc, .int .i64 0]) (by simp [results, Tryz.results44, go_sem]) rfl ⟨_, vs, rfl, HG1.out, HG2.out, HG4.out⟩
  · rw [if_neg h0]
    obtain ⟨er, her⟩ : ∃ er, mayE A = er := ⟨_, rfl⟩
    rw [her] at HCK h0 ⊢
    have te : ((er : Int) != 0) = true := by simp; omega
    clear her h0
    go_enter Tryz.func44, Tryz.ntmps44
    go_wp2_with fail
    refine HCK.out.mono ?_
    rintro e w1 ⟨rfl, hb1⟩
    go_wp2
    refine bodyPost_ret (v := .tuple #[.slice none 0 0, .int .i64 er]) (by simp [results, Tryz.results44, go_sem]) rfl ⟨_, [], rfl, .inl ⟨rfl, _, _, rfl⟩, ⟨fun _ => False, rfl, fun i hi => by cases hi⟩, hb1⟩
/-- what the loop that counts holds -/
def Cnt (w0 : World) (B : Nat) (pre : List (List Nat)) (X : Nat → Prop) (W : World) : Prop := At W B #[.int .i64 (pre.length : Int)] 3 ∧ (∀ k, X k ↔ k = B) ∧ Below B w0 W
theorem Cnt.own {w0 : World} {B C : Nat} (hC : B ≤ C) : OwnX C (Cnt w0 B) := by
  rintro pre X W W' r ⟨h1, h4, h5⟩ hg hr
  exact ⟨at_own h1 hg (fun k e => (hr k e).2), h4, h5.grown hg (by have := h1.lt; omega) (fun k e => Nat.le_trans hC (hr k e).1)⟩
/-- what the loop that stops at the first row holds -/
def Fst (w0 : World) (B : Nat) (pre : List (List Nat)) (X : Nat → Prop) (W : World) : Prop := pre = [] ∧ At W B #[.slice none 0 0] 24 ∧ (∀ k, X k ↔ k = B) ∧ Below B w0 W
def FstX (w0 : World) (B : Nat) (c : Code) (pre : List (List Nat)) (X : Nat → Prop) (W : World) : Prop :=
  c = .exit 0 ∧ ∃ r v, pre = [r] ∧ At W B #[v] 24 ∧ RdX X W v (nats r) ∧ (∀ k, X k ↔ k = B) ∧ Below B w0 W
theorem Fst.own {w0 : World} {B C : Nat} (hC : B ≤ C) : OwnX C (Fst w0 B) := by
  rintro pre X W W' r ⟨h0, h1, h4, h5⟩ hg hr
  exact ⟨h0, at_own h1 hg (fun k e => (hr k e).2), h4, h5.grown hg (by have := h1.lt; omega) (fun k e => Nat.le_trans hC (hr k e).1)⟩
theorem FstX.own {w0 : World} {B C : Nat} (hC : B ≤ C) (c : Code) : OwnX C (FstX w0 B c) := by
  rintro pre X W W' r ⟨h0, q, v, h1, h2, h3, h4, h5⟩ hg hr
  exact ⟨h0, q, v, h1, at_own h2 hg (fun k e => (hr k e).2), rd_own h3 hg (fun k e => (hr k e).2), h4, h5.grown hg (by have := h2.lt; omega) (fun k e => Nat.le_trans hC (hr k e).1)⟩
end Go.Proofs.YtmnblljenobofaaGreatDoor
/- Plain words: rows that keep what graphs tell; the walk of the law's kept. -/
namespace Go.Proofs.YtmnblljenobofaaGreatDoor.WPlain
end Go.Proofs.YtmnblljenobofaaGreatDoor.WPlain
namespace Go.Proofs.YtmnblljenobofaaGreatDoor.QPlain
end Go.Proofs.YtmnblljenobofaaGreatDoor.QPlain
namespace Go.Proofs.YtmnblljenobofaaGreatDoor.RPlain
end Go.Proofs.YtmnblljenobofaaGreatDoor.RPlain
namespace Go.Proofs.YtmnblljenobofaaGreatDoor.RPlain
open WPlain QPlain

theorem gi_lt {l : List Tx} {c : Nat} {row : List Nat} : ∀ a ∈ buildS l c row, a < 2 ^ (buildS l c row).length := fun a ha => by
  unfold buildS at ha
  obtain ⟨i, _, rfl⟩ := List.mem_map.1 ha
  rw [bld_len]
  exact bitsN_lt _ _
theorem gi_may {l : List Tx} (h6 : l.length ≤ 6) (c : Nat) (row : List Nat) : mayE (buildS l c row) = 0 ∨ mayE (buildS l c row) = 8 := by
  unfold mayE
  have h1 : ¬ (6 < (buildS l c row).length ∨ ((buildS l c row).any fun a => decide (2 ^ (buildS l c row).length ≤ a)) = true) := by
    rintro (h | h)
    · rw [bld_len] at h; omega
    · obtain ⟨a, ha, h2⟩ := List.any_eq_true.1 h
      have := gi_lt a ha
      rw [decide_eq_true_eq] at h2
      omega
  rw [if_neg h1]
  split
  · exact .inr rfl
  · exact .inl rfl
theorem gi_whole {l : List Tx} {L row : List Nat} (hL : L.length = l.length) (h : row ∈ allS L) : Whole l row := by
  obtain ⟨h1, h2, h3⟩ := allS_mem.1 h
  have hn := goes_nodup h3
  exact ⟨hn, fun k => ⟨fun hk => hL ▸ h2 k hk, fun hk => nodup_full row L.length hn h2 h1 k (by omega)⟩⟩
end Go.Proofs.YtmnblljenobofaaGreatDoor.RPlain
namespace Go.Proofs.YtmnblljenobofaaGreatDoor
open Go.RowKit WPlain QPlain RPlain

end Go.Proofs.YtmnblljenobofaaGreatDoor
/- Plain words of quick, step by step; rows of places that are read. -/
namespace Go.Proofs.YtmnblljenobofaaGreatDoor.WPlain
end Go.Proofs.YtmnblljenobofaaGreatDoor.WPlain
namespace Go.Proofs.YtmnblljenobofaaGreatDoor.QPlain
end Go.Proofs.YtmnblljenobofaaGreatDoor.QPlain
namespace Go.Proofs.YtmnblljenobofaaGreatDoor.RPlain
end Go.Proofs.YtmnblljenobofaaGreatDoor.RPlain
namespace Go.Proofs.YtmnblljenobofaaGreatDoor
open Go.RowKit WPlain QPlain RPlain

theorem quick_filter {B : Nat} {l : List Tx} : ∀ (cs : List Nat) (s : Nat), quickG B l (cs.filter (readS l)) s = quickG B l cs s := by
  intro cs
  induction cs with
  | nil => intro s; rfl
  | cons c r ih =>
    intro s
    cases hr : readS l c with
    | false => rw [List.filter_cons_of_neg (by rw [hr]; decide), quickG, if_pos hr]; exact ih s
    | true => rw [List.filter_cons_of_pos hr]; simp only [quickG, hr, ih]
/-- what follows what a choice's rows tell -/
def nxtQ (B : Nat) (l : List Tx) (r : List Nat) (x : Nat × Nat × List Nat × Nat) : Nat × Nat × List Nat × Nat := if x.1 = 1 then quickG B l r x.2.2.2 else x
theorem quick_step {B : Nat} {l : List Tx} {c : Nat} {r : List Nat} {s : Nat} (hr : readS l c = true) : quickG B l (c :: r) s = nxtQ B l r (rowsQ B l c (allS (afterS l)) s) := by
  rw [quickG, if_neg (by rw [hr]; decide)]
  rfl
theorem quick_skip {B : Nat} {l : List Tx} {c : Nat} {r : List Nat} {s : Nat} (hr : readS l c = false) : quickG B l (c :: r) s = quickG B l r s := by
  rw [quickG, if_pos hr]
theorem rowsQ_end {B : Nat} {l : List Tx} {r : List Nat} {c s : Nat} : nxtQ B l r (rowsQ B l c [] s) = quickG B l r s := by
  rw [rowsQ, nxtQ, if_pos rfl]
theorem rowsQ_full {B : Nat} {l : List Tx} {r : List Nat} {c : Nat} {row : List Nat} {t : List (List Nat)} : nxtQ B l r (rowsQ B l c (row :: t) B) = (2, 0, [], B) := by
  rw [rowsQ, if_pos rfl, nxtQ, if_neg (by intro h; cases h)]
theorem rowsQ_hit {B : Nat} {l : List Tx} {r : List Nat} {c : Nat} {row : List Nat} {t : List (List Nat)} {s : Nat} (hs : s ≠ B) (hh : hitQ l c row = true) : nxtQ B l r (rowsQ B l c (row :: t) s) = (0, c, (allS (buildS l c row)).headD [], s + 1) := by
  rw [rowsQ, if_neg hs, if_pos hh, nxtQ, if_neg (by intro h; cases h)]
theorem rowsQ_miss {B : Nat} {l : List Tx} {r : List Nat} {c : Nat} {row : List Nat} {t : List (List Nat)} {s : Nat} (hs : s ≠ B) (hh : hitQ l c row = false) : nxtQ B l r (rowsQ B l c (row :: t) s) = nxtQ B l r (rowsQ B l c t (s + 1)) := by
  rw [rowsQ, if_neg hs, if_neg (by rw [hh]; decide)]
theorem quick_errG {h : List Ev} {c : Nat} (hu : errU h = 0) (hc : c < 2 ^ (tableS h).length) : errG h c = 0 := by
  unfold errG
  rw [if_pos hu, if_pos hc]
theorem quick_errB {h : List Ev} {c : Nat} {row : List Nat} (hu : errU h = 0) (hc : c < 2 ^ (tableS h).length) (hr : readS (tableS h) c = true) (hrow : row ∈ allS (afterS (tableS h))) : errB h c (row.map fun x : Nat => (x : Int)) = 0 :=
  errB_ok (quick_errG hu hc) (whole_iff.2 ⟨row, rfl, gi_whole (afterS_len _) hrow⟩) hr
theorem hit_may {l : List Tx} (h6 : l.length ≤ 6) (c : Nat) (row : List Nat) : (hitQ l c row = true ∧ mayE (buildS l c row) = 0) ∨ (hitQ l c row = false ∧ mayE (buildS l c row) = 8) := by
  unfold hitQ
  rcases gi_may h6 c row with h | h
  · exact .inl ⟨by rw [h]; rfl, h⟩
  · exact .inr ⟨by rw [h]; rfl, h⟩
theorem all_len {L row : List Nat} (h : row ∈ allS L) : row.length = L.length := (allS_mem.1 h).1
/-- a slice reads as rows of places -/
def RowsN (w : World) (v : Value) (rows : List (List Nat)) : Prop := ∃ vs, Rd w v vs ∧ vs.length = rows.length ∧ ∀ i (hi : i < rows.length) (h : i < vs.length), Rd w vs[i] (nats rows[i])
theorem RowsN.of {X : Nat → Prop} {w : World} {v : Value} {vs : List Value} {rows : List (List Nat)} (h : Rd w v vs) (hr : Rowl X w vs rows) : RowsN w v rows := ⟨vs, h, hr.1, fun i hi hi' => (hr.2 i hi hi').rd⟩
theorem RowsN.below {w w' : World} {v : Value} {rows : List (List Nat)} (h : RowsN w v rows) (hb : Below w.heap.size w w') : RowsN w' v rows := by
  obtain ⟨vs, h1, h2, h3⟩ := h
  exact ⟨vs, h1.below hb (Nat.le_refl _), h2, fun i hi hi' => (h3 i hi hi').below hb (Nat.le_refl _)⟩
theorem RowsN.len {w : World} {v : Value} {rows : List (List Nat)} (h : RowsN w v rows) : ∃ a c, v = .slice a rows.length c := by
  obtain ⟨vs, h1, h2, _⟩ := h
  rw [← h2]
  exact h1.len
theorem RowsN.get {w : World} {a : Option Addr} {n c : Nat} {rows : List (List Nat)} (h : RowsN w (.slice a n c) rows) (i : Nat) (hi : i < rows.length) :
    ∃ b o ra rc, a = some ⟨b, o, none⟩ ∧ b < w.heap.size ∧ w.cell? ⟨b, o + i, none⟩ = some (.slice ra rows[i].length rc) ∧ Rd w (.slice ra rows[i].length rc) (nats rows[i]) := by
  obtain ⟨vs, h1, h2, h3⟩ := h
  obtain ⟨b, o, c', he, hb, hc⟩ := h1.opened (by rw [h2]; omega)
  have hi' : i < vs.length := by rw [h2]; exact hi
  have hr := h3 i hi hi'
  obtain ⟨ra, rc, hg⟩ := hr.len
  rw [nats_len] at hg
  simp only [Value.slice.injEq] at he
  obtain ⟨rfl, -, -⟩ := he
  refine ⟨b, o, ra, rc, rfl, hb, hc i _ (by rw [List.getElem?_eq_getElem hi', hg]), ?_⟩
  rw [← hg]
  exact hr
end Go.Proofs.YtmnblljenobofaaGreatDoor
