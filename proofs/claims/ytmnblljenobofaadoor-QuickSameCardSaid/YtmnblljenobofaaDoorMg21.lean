/- Merged: GphV, GphW. -/
import Derived.Test.YtmnblljenobofaaDoorMg20
import Derived.Test.YtmnblljenobofaaDoorMg13
/- The walk of package graph's Build. -/
namespace Go.Proofs.YtmnblljenobofaaDoor.WPlain
end Go.Proofs.YtmnblljenobofaaDoor.WPlain
namespace Go.Proofs.YtmnblljenobofaaDoor.QPlain
end Go.Proofs.YtmnblljenobofaaDoor.QPlain
namespace Go.Proofs.YtmnblljenobofaaDoor.RPlain
end Go.Proofs.YtmnblljenobofaaDoor.RPlain
namespace Go.Proofs.YtmnblljenobofaaDoor
open Go.RowKit WPlain QPlain RPlain

/-- the error that Build tells; what it answers -/
def errB (h : List Ev) (cm : Nat) (row : List Int) : Nat := if errG h cm = 0 then (if wholeS (tableS h).length row = true then (if readS (tableS h) cm = true then 0 else 7) else 1) else errG h cm
theorem errB_off {h : List Ev} {cm : Nat} {row : List Int} (h0 : errG h cm ≠ 0) : errB h cm row = errG h cm := by unfold errB; rw [if_neg h0]
theorem errB_row {h : List Ev} {cm : Nat} {row : List Int} (h0 : errG h cm = 0) (hw : wholeS (tableS h).length row = false) : errB h cm row = 1 := by unfold errB; rw [if_pos h0, hw]; rfl
theorem errB_read {h : List Ev} {cm : Nat} {row : List Int} (h0 : errG h cm = 0) (hw : wholeS (tableS h).length row = true) (hr : readS (tableS h) cm = false) : errB h cm row = 7 := by unfold errB; rw [if_pos h0, hw, hr]; rfl
theorem errB_ok {h : List Ev} {cm : Nat} {row : List Int} (h0 : errG h cm = 0) (hw : wholeS (tableS h).length row = true) (hr : readS (tableS h) cm = true) : errB h cm row = 0 := by unfold errB; rw [if_pos h0, hw, hr]; rfl
theorem run_store_fn (P : Program) (w : World) (a : Addr) (m : Mode) (f : Fn) (ts : Array Value) (bs : Array Value) : (store a (.func f ts bs) m).run P w = stored P w a (.func f ts bs) m := run_store P w a _ m rfl
attribute [local go_sem] run_store_fn
set_option maxRecDepth 100000 in
set_option maxHeartbeats 4000000 in
theorem buildX_ok (v rv : Value) (h : List Ev) (cm : Nat) (rn : List Nat) (hcm : cm < 4294967296) (w : World) (hK : HasK w) (hv : Evs w v h) (hl : h.length ≤ 65536) (hr : Rd w rv (ints (rn.map (fun x : Nat => (x : Int))))) (h0 : errG h cm = 0) (hw : Whole (tableS h) rn) (hread : readS (tableS h) cm = true) :
    Calls Tryd.prog 52 #[v, .int .u32 (cm : Int), rv] w fun e w' => ∃ v', e = .returned (.tuple #[v', .int .i64 0]) ∧ RdX (fun k => k < w.heap.size) w' v' (u32s (buildS (tableS h) cm rn)) ∧ Below w.heap.size w w' := by
  have hrl := wholeR_len hw
  have hck := (errU_zero (errG_zero h0).1).1
  have hf := fine_table hck
  have hl6 := hf.six
  have hwh : wholeS (tableS h).length (rn.map fun x : Nat => (x : Int)) = true := whole_iff.2 ⟨rn, rfl, hw⟩
  obtain ⟨ra, rc, rfl⟩ := hr.len
  rw [ints_len, List.length_map] at hr ⊢
  have hba : Below w.heap.size w (w.alloc (.cells #[.slice ra rn.length rc] 24)) := (Below.refl _ w).alloc (Nat.le_refl _) _
  have HVO := Lib.hid (viewOf_ok v h cm hcm _ (hK.later hba (Nat.le_refl _)) (hv.below hba (Nat.le_refl _)) hl h0)
  have HEO := Lib.hid (fun (W : World) (hW : Below w.heap.size w W) => eachOnce_any _ (rn.map fun x : Nat => (x : Int)) (tableS h).length hl6 W (hr.below hW (Nat.le_refl _)) (by rw [List.length_map]; omega))
  rw [hwh] at HEO
  have HIR := Lib.hid (fun (ta sa : Option Addr) (tc sc : Nat) (W : World) hv hs => isReadable_any ta sa tc sc cm (tableS h) W hv hs hf hcm)
  rw [hread] at HIR
  have HAF := Lib.hid (fun (W : World) (hW : Below w.heap.size w W) => after_own v h W (hK.later hW (Nat.le_refl _)) (hv.below hW (Nat.le_refl _)) hl hck)
  have HR := Lib.hid hr
  have HW := Lib.hid hw
  have HREAD := Lib.hid hread
  have HF := Lib.hid hf
  have HCM := Lib.hid hcm
  have HB0 := Lib.hid hba
  have HA0 := Lib.hid (At.new w #[.slice ra rn.length rc] 24)
  have hN : w.heap.size < (w.alloc (.cells #[.slice ra rn.length rc] 24)).heap.size := HA0.out.lt
  have HGA := Lib.hid (grA_all hw hread)
  have hl65 : (tableS h).length ≤ 65536 := by omega
  obtain ⟨ea, ec, rfl⟩ := hv.len
  clear hv hK hr hw hread hf hba h0 hck hwh
  generalize tableS h = l at *
  rw [hrl] at HEO HR HA0 HB0 hN HVO ⊢
  go_enter Tryd.func52, Tryd.ntmps52
  go_wp2_with fail
  refine HVO.out.mono ?_
  rintro e w1 ⟨ta, tc, sa, sc, rfl, hv1, hs1, hb1⟩
  have hba1 : Below w1.heap.size w1 (w1.alloc (.cells #[.slice ta l.length tc, .slice sa l.length sc, .int .u32 (cm : Int)] 93)) := (Below.refl _ w1).alloc (Nat.le_refl _) _
  have HB2 := Lib.hid ((HB0.out.trans (hb1.mono HB0.out.size)).trans (hba1.mono (Nat.le_trans HB0.out.size hb1.size)))
  have HP2 := Lib.hid ((HA0.out.below hb1 hN).alloc (.cells #[.slice ta l.length tc, .slice sa l.length sc, .int .u32 (cm : Int)] 93))
  have HV2 := Lib.hid (At.new w1 #[.slice ta l.length tc, .slice sa l.length sc, .int .u32 (cm : Int)] 93)
  have HT2 := Lib.hid (hv1.below hba1 (Nat.le_refl _))
  have HS2 := Lib.hid (hs1.below hba1)
  clear hv1 hs1 hb1 hba1 HVO HB0 HA0 hN
  generalize hln : l.length = ln at *
  have HLN := Lib.hid hln
  clear hln
  have p0 := HP2.out.cell (i := 0) rfl
  have v0 := HV2.out.cell (i := 0) rfl
  go_wp2_with fail
  generalize w1.alloc (.cells #[.slice ta ln tc, .slice sa ln sc, .int .u32 (cm : Int)] 93) = w2 at *
  generalize w1.heap.size = V at *
  refine (HEO.out w2 HB2.out).mono ?_
  rintro e w3 ⟨rfl, hb3⟩
  have HB3 := Lib.hid (HB2.out.trans (hb3.mono HB2.out.size))
  have HP3 := Lib.hid (HP2.out.below hb3 HP2.out.lt)
  have HV3 := Lib.hid (HV2.out.below hb3 HV2.out.lt)
  have HT3 := Lib.hid (HT2.out.below hb3 (Nat.le_refl _))
  have HS3 := Lib.hid (HS2.out.below hb3)
  have q0 := HV3.out.cell (i := 0) rfl
  have q1 := HV3.out.cell (i := 1) rfl
  have q2 := HV3.out.cell (i := 2) rfl
  clear hb3 HEO HB2 HP2 HV2 HT2 HS2 p0 v0
  have HIR2 := HIR.out ta sa tc sc w3
  try rw [HLN.out] at HIR2
  have HIR3 := Lib.hid (HIR2 HT3.out HS3.out)
  clear HIR2
  go_wp2_with fail
  refine HIR3.out.mono ?_
  rintro e w4 ⟨rfl, hb4⟩
  have HB4 := Lib.hid (HB3.out.trans (hb4.mono HB3.out.size))
  have HP4 := Lib.hid (HP3.out.below hb4 HP3.out.lt)
  have HV4 := Lib.hid (HV3.out.below hb4 HV3.out.lt)
  have HT4 := Lib.hid (HT3.out.below hb4 (Nat.le_refl _))
  have HS4 := Lib.hid (HS3.out.below hb4)
  clear hb4 HIR HIR3 HB3 HP3 HV3 HT3 HS3 q0 q1 q2
  have hAF := HAF.out w4 HB4.out
  try rw [HLN.out] at hAF
  have HAF2 := Lib.hid hAF
  clear hAF HAF
  go_wp2_with fail
  refine HAF2.out.mono ?_
  rintro e w5 ⟨M, rfl, hM5, hMw, hb5⟩
  have hV4 := HV4.out.lt
  have hP4 := HP4.out.lt
  have hsz5 := hb5.size
  have hMl := hM5.lt
  have hS1 : Below w5.heap.size w5 (w5.alloc (.cells #[.slice (some ⟨M, 0, none⟩) ln ln] 31)) := (Below.refl _ w5).alloc (Nat.le_refl _) _
  have hA1 := At.new w5 #[.slice (some ⟨M, 0, none⟩) ln ln] 31
  have hM51 := hM5.below hS1 hMl
  have hPA : w5.heap.size ≠ M := by omega
  obtain ⟨PA, hPAe⟩ : ∃ PA, w5.heap.size = PA := ⟨_, rfl⟩
  go_upto_region 11 with fail
  generalize w5.alloc (.cells #[.slice (some ⟨M, 0, none⟩) ln ln] 31) = wa at *
  have hsa := hS1.size
  have hS2 : Below wa.heap.size wa (wa.alloc (.cells #[.func (.func 74) #[] #[.pointer (some ⟨PA, 0, none⟩)]] 128)) := (Below.refl _ wa).alloc (Nat.le_refl _) _
  have hA2 := At.new wa #[.func (.func 74) #[] #[.pointer (some ⟨PA, 0, none⟩)]] 128
  rw [hPAe] at hA1 hPA
  go_upto_region 12 with fail
  generalize wa.alloc (.cells #[.func (.func 74) #[] #[.pointer (some ⟨PA, 0, none⟩)]] 128) = wb at *
  have hsb := hS2.size
  have hS3 : Below wb.heap.size wb (wb.alloc (.cells #[.func (.func 75) #[] #[.pointer (some ⟨w.heap.size, 0, none⟩)]] 121)) := (Below.refl _ wb).alloc (Nat.le_refl _) _
  have hA3 := At.new wb #[.func (.func 75) #[] #[.pointer (some ⟨w.heap.size, 0, none⟩)]] 121
  go_upto_region 13 with fail
  generalize wb.alloc (.cells #[.func (.func 75) #[] #[.pointer (some ⟨w.heap.size, 0, none⟩)]] 121) = w6 at *
  have hA1b := (hA1.below hS2 hA1.lt)
  have hA1c := hA1b.below hS3 hA1b.lt
  have hA2c := hA2.below hS3 hA2.lt
  have hM5b := hM51.below hS2 hM51.lt
  have hM6 := hM5b.below hS3 hM5b.lt
  have hS : Below w5.heap.size w5 w6 := hS1.trans ((hS2.trans (hS3.mono hsb)).mono hsa)
  obtain ⟨PP, hPP⟩ : ∃ PP, wa.heap.size = PP := ⟨_, rfl⟩
  obtain ⟨PH, hPH⟩ : ∃ PH, wb.heap.size = PH := ⟨_, rfl⟩
  rw [hPP] at hA2c ⊢
  rw [hPH] at hA3 ⊢
  have hPPM : PP ≠ M := by omega
  have hPHM : PH ≠ M := by omega
  have hb46 : Below w4.heap.size w4 w6 := hb5.trans (hS.mono hsz5)
  have hV6 := HV4.out.below hb46 hV4
  have hP6 := HP4.out.below hb46 hP4
  have HB6 := Lib.hid (HB4.out.trans (hb46.mono HB4.out.size))
  have HR4 := HR.out.below HB4.out (Nat.le_refl _)
  have HJ0 : BldJ l cm rn M PA w.heap.size V PP PH ln ra rc #[.slice ta ln tc, .slice sa ln sc, .int .u32 (cm : Int)] 0 0 w6 := ⟨⟨hM6, hA1c, hP6⟩, hV6, hA2c, hA3⟩
  have hwsz := HB4.out.size
  have hE := eachB_any ta sa tc sc cm l V PP PH M (BldJ l cm rn M PA w.heap.size V PP PH ln ra rc #[.slice ta ln tc, .slice sa ln sc, .int .u32 (cm : Int)]) HF.out
    (bldJ l cm rn M PA w.heap.size V PP PH ln ra rc #[.slice ta ln tc, .slice sa ln sc, .int .u32 (cm : Int)]) w4 (by rw [HLN.out]; exact HT4.out) (by rw [HLN.out]; exact HS4.out)
    (fun t n o W hW hMW hj ho hr => readD_walk ta sa ln tc ln sc cm l HLN.out rn HW.out HREAD.out ra rc M PA w.heap.size V PP PH hPA (by omega) (by omega) hPPM hPHM HF.out HCM.out w4 HT4.out HR4 hMw t n o W hW hMW hj ho hr)
    w6 hb46 hMw hM6.lt HJ0
  rw [HLN.out] at hE
  have HE := Lib.hid hE
  have r0 := hV6.cell (i := 0) rfl
  have r1 := hV6.cell (i := 1) rfl
  have r2 := hV6.cell (i := 2) rfl
  have HMW := Lib.hid (Nat.le_trans hwsz hMw)
  clear hE HJ0 hA1 hA2 hA3 hA1b hA1c hA2c hM51 hM5b hS1 hS2 hS3 hsa hsb hPA hPPM hPHM hPP hPH hPAe hV6 hP6 hM6 hM5 hb5 hb46 hS HAF2 HR4 HT4 HS4 HV4 HP4 HB4 hV4 hP4 hMl hMw
  go_wp2_with fail
  refine HE.out.mono ?_
  rintro e w7 ⟨⟨rv, rfl⟩, hj7, ho7⟩
  have HB7 := Lib.hid (HB6.out.trans ((ho7.below (B := w.heap.size) HB6.out.size (fun k _ hk => by rw [hk]; exact HMW.out)).mono (Nat.le_refl _)))
  have hrow := hj7.gr.row
  have hbox := hj7.gr.box.cell (i := 0) rfl
  have hga := HGA.out
  try rw [HLN.out] at hga
  rw [hga] at hrow
  have hrd := Rd.of_at ln hrow
  have hbl : (u32s (buildS l cm rn)).length = ln := by rw [← HLN.out]; simp [u32s, buildS]
  rw [hbl] at hrd
  have HRD : Hid (RdX (fun k => k < w.heap.size) w7 (.slice (some ⟨M, 0, none⟩) ln ln) (u32s (buildS l cm rn))) := by
    have hmw := HMW.out
    rcases hrd with hrd | ⟨x0, b, o, c', he, hc⟩
    · exact .inl hrd
    · refine .inr ⟨x0, b, o, c', he, ?_, hc⟩
      simp only [Value.slice.injEq, Option.some.injEq, Addr.mk.injEq] at he
      intro hlt
      omega
  clear hj7 ho7 HE r0 r1 r2 hrow hrd hga hbl
  go_wp2
  exact bodyPost_ret (v := .tuple #[.slice (some ⟨M, 0, none⟩) ln ln, .int .i64 0]) (by simp [results, Tryd.results52, go_sem]) rfl ⟨_, rfl, HRD.out, HB7.out⟩
end Go.Proofs.YtmnblljenobofaaDoor
/- The walks of package graph's viewOf where it refuses, Readable, and Build where it refuses: Build whole. -/
namespace Go.Proofs.YtmnblljenobofaaDoor.WPlain
end Go.Proofs.YtmnblljenobofaaDoor.WPlain
namespace Go.Proofs.YtmnblljenobofaaDoor.QPlain
end Go.Proofs.YtmnblljenobofaaDoor.QPlain
namespace Go.Proofs.YtmnblljenobofaaDoor.RPlain
end Go.Proofs.YtmnblljenobofaaDoor.RPlain
namespace Go.Proofs.YtmnblljenobofaaDoor
open Go.RowKit WPlain QPlain RPlain

set_option maxRecDepth 100000 in
set_option maxHeartbeats 2000000 in
theorem viewOf_bad (v : Value) (h : List Ev) (cm : Nat) (_hcm : cm < 4294967296) (w : World) (hK : HasK w) (hv : Evs w v h) (hl : h.length ≤ 65536) (h0 : errG h cm ≠ 0) :
    Calls Tryd.prog 45 #[v, .int .u32 (cm : Int)] w fun e w' => e = .returned (.tuple #[.agg #[.slice none 0 0, .slice none 0 0, .int .u32 0], .int .i64 ((errG h cm : Nat) : Int)]) ∧ Below w.heap.size w w' := by
  have hba : Below w.heap.size w (w.alloc (.cells #[.slice none 0 0, .slice none 0 0, .int .u32 0] 93)) := (Below.refl _ w).alloc (Nat.le_refl _) _
  have hSU := sources_above v h _ (hK.later hba (Nat.le_refl _)) (hv.below hba (Nat.le_refl _)) hl
  have HT := Lib.hid (fun (W : World) (hW : Below w.heap.size w W) => table_any v h W (hK.later hW (Nat.le_refl _)) (hv.below hW (Nat.le_refl _)) hl)
  have HB := Lib.hid hba
  have HA := Lib.hid (At.new w #[.slice none 0 0, .slice none 0 0, .int .u32 0] 93)
  have hN : w.heap.size < (w.alloc (.cells #[.slice none 0 0, .slice none 0 0, .int .u32 0] 93)).heap.size := HA.out.lt
  obtain ⟨a, c, rfl⟩ := hv.len
  clear hv hK hba
  by_cases hu : errU h = 0
  · have hck := (errU_zero hu).1
    have hsix := table_six hck
    have he : errG h cm = 1 := by
      unfold errG at h0 ⊢
      rw [if_pos hu] at h0 ⊢
      split at h0
      · exact absurd rfl h0
      · rename_i h2; rw [if_neg h2]
    have hc : ¬ cm < 2 ^ (tableS h).length := fun hc => h0 (by unfold errG; rw [if_pos hu, if_pos hc])
    rw [he]
    rw [hu, if_pos rfl] at hSU
    rw [hck, if_pos rfl] at HT
    have HS := Lib.hid hSU
    have hsl : (sourcesS (tableS h)).length = (tableS h).length := sources_len _
    clear hSU hu hck h0 he
    generalize tableS h = l at *
    generalize hS : sourcesS l = S at *
    obtain ⟨n, hn⟩ : ∃ n, l.length = n := ⟨_, rfl⟩
    rw [hn] at hsix hsl hc
    have hbt := bitG_all n (by omega)
    obtain ⟨pw, hpe⟩ : ∃ pw, 2 ^ n = pw := ⟨_, rfl⟩
    rw [hpe] at hc hbt
    have HN := Lib.hid hn
    have HSL := Lib.hid hsl
    have td : decide (pw ≤ cm) = true := decide_eq_true (by omega)
    clear hS hn hsl hpe
    go_enter Tryd.func45, Tryd.ntmps45
    go_wp2_with fail
    refine HS.out.mono ?_
    rintro e w1 ⟨v1, rfl, hr1, hb1⟩
    have HB1 := Lib.hid (HB.out.trans (hb1.mono HB.out.size))
    have HA1 := Lib.hid (HA.out.below hb1 hN)
    obtain ⟨sa, sc, rfl⟩ := (hr1 w1 (Above.refl _ _)).len
    rw [HSL.out]
    clear hr1 hb1 HS HB HA hN
    go_wp2_with fail
    refine (HT.out _ HB1.out).mono ?_
    rintro e w2 ⟨v2, rfl, hv2, hb2⟩
    have HB2 := Lib.hid (HB1.out.trans (hb2.mono HB1.out.size))
    have HA2 := Lib.hid (HA1.out.below hb2 HA1.out.lt)
    obtain ⟨ta, tc, rfl⟩ := hv2.len
    rw [HN.out]
    have e0 := HA2.out.cell (i := 0) rfl
    have e1 := HA2.out.cell (i := 1) rfl
    have e2 := HA2.out.cell (i := 2) rfl
    have f0 := HA2.out.free 0
    have f1 := HA2.out.free 1
    have f2 := HA2.out.free 2
    have hlt2 := HA2.out.lt
    clear hv2 hb2 HT HA1 HB1
    go_wp2_with (go_at_call 62; refine (hbt.out _).mono ?_; rintro e w3 ⟨rfl, rfl⟩)
    have hb9 := ((((HB2.out.setCell (p := ⟨w.heap.size, 0, none⟩) (Nat.le_refl _) (.slice none 0 0))).setCell (p := ⟨w.heap.size, 1, none⟩) (Nat.le_refl _) (.slice none 0 0))).setCell (p := ⟨w.heap.size, 2, none⟩) (Nat.le_refl _) (.int .u32 0)
    have hA9 := ((HA2.out.set 0 (.slice none 0 0)).set 1 (.slice none 0 0)).set 2 (.int .u32 0)
    have g0 := hA9.cell (i := 0) (v := .slice none 0 0) rfl
    have g1 := hA9.cell (i := 1) (v := .slice none 0 0) rfl
    have g2 := hA9.cell (i := 2) (v := .int .u32 0) rfl
    generalize ((w3.setCell ⟨w.heap.size, 0, none⟩ (.slice none 0 0)).setCell ⟨w.heap.size, 1, none⟩ (.slice none 0 0)).setCell ⟨w.heap.size, 2, none⟩ (.int .u32 0) = w9 at *
    exact bodyPost_ret (v := .tuple #[.agg #[.slice none 0 0, .slice none 0 0, .int .u32 0], .int .i64 1]) (by simp [results, Tryd.results45, go_sem, *]) rfl ⟨rfl, hb9⟩
  · have he : errG h cm = errU h := by unfold errG; rw [if_neg hu]
    rw [he]
    have te : ((errU h : Int) != 0) = true := by simp; omega
    rw [if_neg hu] at hSU
    have HS := Lib.hid hSU
    clear hSU he h0 hu HT
    generalize errU h = er at *
    go_enter Tryd.func45, Tryd.ntmps45
    go_wp2_with fail
    refine HS.out.mono ?_
    rintro e w1 ⟨v1, rfl, hr1, hb1⟩
    have HB1 := Lib.hid (HB.out.trans (hb1.mono HB.out.size))
    have HA1 := Lib.hid (HA.out.below hb1 hN)
    obtain ⟨sa, sc, rfl⟩ := (hr1 w1 (Above.refl _ _)).len
    have e0 := HA1.out.cell (i := 0) rfl
    have e1 := HA1.out.cell (i := 1) rfl
    have e2 := HA1.out.cell (i := 2) rfl
    have f0 := HA1.out.free 0
    have f1 := HA1.out.free 1
    have f2 := HA1.out.free 2
    have hlt2 := HA1.out.lt
    clear hr1 hb1 HS HB HA hN
    go_wp2
    have hb9 := ((((HB1.out.setCell (p := ⟨w.heap.size, 0, none⟩) (Nat.le_refl _) (.slice none 0 0))).setCell (p := ⟨w.heap.size, 1, none⟩) (Nat.le_refl _) (.slice none 0 0))).setCell (p := ⟨w.heap.size, 2, none⟩) (Nat.le_refl _) (.int .u32 0)
    have hA9 := ((HA1.out.set 0 (.slice none 0 0)).set 1 (.slice none 0 0)).set 2 (.int .u32 0)
    have g0 := hA9.cell (i := 0) (v := .slice none 0 0) rfl
    have g1 := hA9.cell (i := 1) (v := .slice none 0 0) rfl
    have g2 := hA9.cell (i := 2) (v := .int .u32 0) rfl
    generalize ((w1.setCell ⟨w.heap.size, 0, none⟩ (.slice none 0 0)).setCell ⟨w.heap.size, 1, none⟩ (.slice none 0 0)).setCell ⟨w.heap.size, 2, none⟩ (.int .u32 0) = w9 at *
    exact bodyPost_ret (v := .tuple #[.agg #[.slice none 0 0, .slice none 0 0, .int .u32 0], .int .i64 (er : Int)]) (by simp [results, Tryd.results45, go_sem, *]) rfl ⟨rfl, hb9⟩
/-- what Readable tells -/
def rdG (h : List Ev) (cm : Nat) : Bool := if errG h cm = 0 then readS (tableS h) cm else false
set_option maxRecDepth 100000 in
set_option maxHeartbeats 2000000 in
theorem readableG_any (v : Value) (h : List Ev) (cm : Nat) (hcm : cm < 4294967296) (w : World) (hK : HasK w) (hv : Evs w v h) (hl : h.length ≤ 65536) :
    Calls Tryd.prog 29 #[v, .int .u32 (cm : Int)] w fun e w' => e = .returned (.tuple #[.bool (rdG h cm), .int .i64 ((errG h cm : Nat) : Int)]) ∧ Below w.heap.size w w' := by
  unfold rdG
  by_cases h0 : errG h cm = 0
  · have HVO := Lib.hid (viewOf_ok v h cm hcm w hK hv hl h0)
    have hf := fine_table (errU_zero (errG_zero h0).1).1
    have HIR := Lib.hid (fun (ta sa : Option Addr) (tc sc : Nat) (W : World) hv hs => isReadable_any ta sa tc sc cm (tableS h) W hv hs hf hcm)
    rw [if_pos h0, h0]
    obtain ⟨ea, ec, rfl⟩ := hv.len
    clear hv hK hf h0
    generalize tableS h = l at *
    generalize readS l cm = r at *
    go_enter Tryd.func29, Tryd.ntmps29
    go_wp2_with fail
    refine HVO.out.mono ?_
    rintro e w1 ⟨ta, tc, sa, sc, rfl, hv1, hs1, hb1⟩
    have hba1 : Below w1.heap.size w1 (w1.alloc (.cells #[.slice ta l.length tc, .slice sa l.length sc, .int .u32 (cm : Int)] 93)) := (Below.refl _ w1).alloc (Nat.le_refl _) _
    have HI := Lib.hid (HIR.out ta sa tc sc _ (hv1.below hba1 (Nat.le_refl _)) (hs1.below hba1))
    have HB2 := Lib.hid (hb1.trans (hba1.mono hb1.size))
    clear hv1 hs1 hb1 hba1 HVO HIR
    generalize l.length = ln at *
    go_wp2_with fail
    refine HI.out.mono ?_
    rintro e w3 ⟨rfl, hb3⟩
    have HB3 := Lib.hid (HB2.out.trans (hb3.mono HB2.out.size))
    clear hb3 HI
    go_wp2
    exact bodyPost_ret (v := .tuple #[.bool r, .int .i64 0]) (by simp [results, Tryd.results29, go_sem]) rfl ⟨rfl, HB3.out⟩
  · have HVO := Lib.hid (viewOf_bad v h cm hcm w hK hv hl h0)
    rw [if_neg h0]
    obtain ⟨ea, ec, rfl⟩ := hv.len
    have te : ((errG h cm : Int) != 0) = true := by simp; omega
    clear hv hK h0
    generalize errG h cm = er at *
    go_enter Tryd.func29, Tryd.ntmps29
    go_wp2_with fail
    refine HVO.out.mono ?_
    rintro e w1 ⟨rfl, hb1⟩
    have HB1 := Lib.hid (hb1.alloc hb1.size (.cells #[.slice none 0 0, .slice none 0 0, .int .u32 0] 93))
    clear hb1 HVO
    go_wp2
    exact bodyPost_ret (v := .tuple #[.bool false, .int .i64 (er : Int)]) (by simp [results, Tryd.results29, go_sem]) rfl ⟨rfl, HB1.out⟩
end Go.Proofs.YtmnblljenobofaaDoor
