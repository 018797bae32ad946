/- Merged: UnqG, GphO, GphV. -/
import Derived.Test.YtmnblljenobofaaGreatDoorMg24
import Derived.Test.YtmnblljenobofaaGreatDoorMg19
import Derived.Test.YtmnblljenobofaaGreatDoorMg12
/- The walk of package unique's Sources. -/
namespace Go.Proofs.YtmnblljenobofaaGreatDoor.WPlain
end Go.Proofs.YtmnblljenobofaaGreatDoor.WPlain
namespace Go.Proofs.YtmnblljenobofaaGreatDoor.QPlain
end Go.Proofs.YtmnblljenobofaaGreatDoor.QPlain
namespace Go.Proofs.YtmnblljenobofaaGreatDoor.RPlain
end Go.Proofs.YtmnblljenobofaaGreatDoor.RPlain
namespace Go.Proofs.YtmnblljenobofaaGreatDoor
open Go.RowKit WPlain QPlain RPlain

theorem errU_zero {h : List Ev} (h0 : errU h = 0) : (checkS h).2 = 0 ∧ uniqueS (tableS h) = true := by
  unfold errU at h0
  split at h0
  · rename_i h1
    refine ⟨h1, ?_⟩
    split at h0
    · assumption
    · cases h0
  · rename_i h1
    exact absurd h0 h1
theorem own_lessU {w : World} {B B' : Nat} {e : TypeId} {s : Nat} {v : Value} {n : Nat} {xs : List Value} (h : w.ownsRow B e s v n xs) (hB : B' ≤ B) : w.ownsRow B' e s v n xs := by
  refine ⟨h.1, ?_⟩
  rcases h.2 with h0 | ⟨g, cap, cur, h1, h2, h3⟩
  · exact .inl h0
  · exact .inr ⟨g, cap, cur, h1, Nat.le_trans hB h2, h3⟩
theorem RowsI.less {B B' : Nat} {w : World} {vs : List Value} {rows : List (List Int)} (h : RowsI B w vs rows) (hB : B' ≤ B) : RowsI B' w vs rows := ⟨h.1, fun i hi hi' => own_lessU (h.2 i hi hi') hB⟩
theorem Rows2.of_row {w : World} {B B2 : Nat} {e : TypeId} {v : Value} {n : Nat} {vs : List Value} {rows : List (List Int)} (h : w.ownsRow B e 1 v n vs) (hr : RowsI B2 w vs rows) : Rows2 w v rows := ⟨vs, Rd.of_row h, hr.less (Nat.zero_le _)⟩
theorem RowsI.joined {B B2 : Nat} {w w' : World} {vs : List Value} {rows : List (List Int)} {z v : Value} {n : Nat} {r : List Int} (h : RowsI B w vs rows) (hv : w.ownsRow B 3 1 v r.length (ints r)) (hz : w.ownsRow B2 24 1 z n vs) (hg : w.grownBy w' z.ownBlock) : RowsI B w' (vs ++ [v]) (rows ++ [r]) :=
  (h.grown hz hg).snoc (hv.kept hg (row_apart hv hz (by decide)))
theorem RowsI.above {B : Nat} {w w' : World} {vs : List Value} {rows : List (List Int)} (h : RowsI B w vs rows) (ha : Above B w w') : RowsI B w' vs rows := ⟨h.1, fun i hi hi' => own_above (h.2 i hi hi') ha⟩
set_option maxRecDepth 100000 in
set_option maxHeartbeats 4000000 in
theorem sources_above (v : Value) (h : List Ev) (w : World) (hK : HasK w) (hv : Evs w v h) (hl : h.length ≤ 65536) :
    Calls Tryz.prog 91 #[v] w fun e w' => ∃ v', e = .returned (.tuple #[v', .int .i64 (errU h : Nat)]) ∧ (∀ W, Above w.heap.size w' W → Rows2 W v' (if errU h = 0 then sourcesS (tableS h) else [])) ∧ Below w.heap.size w w' := by
  have HT := Lib.hid (writersOf_any v h w hK hv hl)
  obtain ⟨a, c, rfl⟩ := hv.len
  clear hv hK
  unfold ToldW at HT
  by_cases h0 : errU h = 0
  · have HF := Lib.hid (fine_table (errU_zero h0).1)
    rw [h0] at HT ⊢
    rw [if_pos rfl]
    clear h0
    generalize tableS h = l at *
    have hl6 := HF.out.six
    have HALL : Hid (allR l l.length = sourcesS l) := allR_all l
    obtain ⟨i0, hi0, hz0, hz1, hz2⟩ := info_parts infoSl
    go_enter Tryz.func91, Tryz.ntmps91
    go_wp2_with fail
    refine HT.out.mono ?_
    rintro e w1 ⟨v1, m1, rfl, htl, hb1⟩
    obtain ⟨hv1, M, k0, S, rfl, hm1, hts⟩ := htl (by trivial)
    have HV1 := Lib.hid hv1
    have HM1 := Lib.hid hm1
    have HB1 := Lib.hid hb1
    have HAS := Lib.hid (fun (k : Nat) (hk : k < l.length) => allR_snoc hts hk)
    have HW0 : Hid (∃ vs, w1.ownsRow w1.heap.size 24 1 (.slice none 0 0) 0 vs ∧ RowsI w1.heap.size w1 vs (allR l 0)) := ⟨[], World.ownsRow_nil _ _ _ _, RowsI.nil _ _⟩
    have HB0 := Lib.hid (Below.refl w1.heap.size w1)
    obtain ⟨a1, c1, rfl⟩ := hv1.len
    clear hv1 hm1 hb1 hts htl HT
    go_wp2_with fail
    go_loopw [7, 21] (fun z x wr => ∃ k : Nat, k ≤ l.length ∧ x = .int .i64 k ∧ Hid (∃ vs, wr.ownsRow w1.heap.size 24 1 z k vs ∧ RowsI w1.heap.size wr vs (allR l k)) ∧ Hid (Below w1.heap.size w1 wr)) (fun _ x _ => l.length - (intOf x).toNat)
    case atStart => exact ⟨0, by omega, rfl, HW0, HB0⟩
    case round =>
      clear HW0 HB0
      obtain ⟨k, hkl, rfl, HW, HB⟩ := hrel
      by_cases hlt : k < l.length
      · have hv2 := HV1.out.below HB.out (Nat.le_refl _)
        obtain ⟨b, o, c', he⟩ := hv2.opened (by omega)
        simp only [Value.slice.injEq] at he
        obtain ⟨rfl, -, rfl⟩ := he
        obtain ⟨u, x0, x1, x2, x3, x4, q⟩ := hv2.get k hlt
        have hbl := cell_lt x0
        have hfx := HF.out.ops _ (List.getElem_mem hlt)
        have hsn := HAS.out k hlt
        have hm2 := HM1.out.below HB.out
        clear hv2
        generalize l[k] = X at *
        obtain ⟨Xn, Xf, Xl, Xs, Xo⟩ := X
        dsimp only at *
        have hba : Below wr.heap.size wr (wr.alloc (.cells #[.int .i64 Xn, .int .i64 Xf, .int .i64 Xl, .int .i64 Xs, u] 64)) := (Below.refl _ wr).alloc (Nat.le_refl _) _
        have HSO := Lib.hid (sourcesOf_any k M k0 u Xo S _ (hm2.below hba) (q.below hba (Nat.le_refl _)) hfx.2 hfx.1)
        have HSN := Lib.hid hsn
        obtain ⟨vs, hvs, hrs⟩ := HW.out
        have HVS := Lib.hid (row_belowT hvs hba)
        have HRS := Lib.hid (hrs.below hba)
        have HB2 := Lib.hid (HB.out.trans (hba.mono HB.out.size))
        have hrl : (srcRow S k Xo Xo.length).length = Xo.length := srcRow_len _ _ _ _
        generalize srcRow S k Xo Xo.length = r at *
        obtain ⟨ua, uc, rfl, huc⟩ := q.len
        obtain ⟨qn, hqn⟩ : ∃ qn, Xo.length = qn := ⟨_, rfl⟩
        rw [hqn] at HSO huc x4 hrl HVS HRS HB2
        obtain ⟨za, zc, hz⟩ := row_slice hvs
        subst hz
        have HRL := Lib.hid hrl
        clear hqn q hfx hba hsn hm2 hvs hrs HB HW hrl
        go_wp2_with fail
        refine HSO.out.mono ?_
        rintro e w3 ⟨v3, rfl, ho3, hb3⟩
        have HB3 := Lib.hid (HB2.out.trans (hb3.mono HB2.out.size))
        have HVS3 := Lib.hid (row_belowT HVS.out hb3)
        have HRS3 := Lib.hid (HRS.out.below hb3)
        have ho4 := own_lessU ho3 HB2.out.size
        obtain ⟨va, vc, hz⟩ := row_slice ho3
        subst hz
        have HO4 := Lib.hid (ho4.alloc (.cells #[.slice va qn vc] 24))
        have HVS4 := Lib.hid (HVS3.out.alloc (.cells #[.slice va qn vc] 24))
        have hba4 : Below w3.heap.size w3 (w3.alloc (.cells #[.slice va qn vc] 24)) := (Below.refl _ w3).alloc (Nat.le_refl _) _
        have HRS4 := Lib.hid (HRS3.out.below hba4)
        have HB4 := Lib.hid (HB3.out.trans (hba4.mono HB3.out.size))
        clear ho3 hb3 ho4 hba4 HB3 HVS3 HRS3 HVS HRS HB2 HSO x0 x1 x2 x3 x4
        go_wp2_with (at_builtin; refine wpList_append_own _ rfl _ _ 47 rfl w1.heap.size 24 i0 (.slice none 0 0) 1 24 Tryz.underlying47 hi0 hz0 hz1 hz2 rfl (by decide) (.slice za k zc) k vs rfl HVS4.out ⟨w3.heap.size, 0, none⟩ 1 1 [.slice va qn vc] rfl rfl (cell_slice_at w3 _ _) (one_sl _ _ _) (by unfold maxLen; omega) (by omega) HB4.out.size ?_; intro v5 w5 ho5 hg5 _)
        have HB5 := Lib.hid (HB4.out.grown hg5 HB4.out.size (fun x hx => (HVS4.out.lt x hx).1))
        have HW5 : Hid (∃ vs, w5.ownsRow w1.heap.size 24 1 v5 (k + 1) vs ∧ RowsI w1.heap.size w5 vs (allR l (k + 1))) := by
          have h1 := HO4.out
          have h2 := HRL.out
          refine ⟨_, ho5, ?_⟩
          rw [HSN.out]
          exact HRS4.out.joined (by rw [h2]; exact h1) HVS4.out hg5
        obtain ⟨v5a, v5c, hz⟩ := row_slice ho5
        subst hz
        clear ho5 hg5
        go_wp2
        go_roundw
        case rel => exact ⟨k + 1, by omega, by go_num, HW5, HB5⟩
        case measure => simp [intOf]; omega
      · obtain rfl : k = l.length := by omega
        obtain ⟨vs, hvs, hrs⟩ := HW.out
        rw [HALL.out] at hrs
        have HFIN := Lib.hid (fun (W : World) (hW : Above w.heap.size wr W) => Rows2.of_row (own_above hvs (hW.mono HB1.out.size)) (hrs.above (hW.mono HB1.out.size)))
        have HBF := Lib.hid (HB1.out.trans (HB.out.mono HB1.out.size))
        obtain ⟨za, zc, hz⟩ := row_slice hvs
        subst hz
        clear hvs hrs HW HB
        go_wp2
        exact bodyPost_ret (v := .tuple #[.slice za l.length zc, .int .i64 0]) (by simp [results, Tryz.results91, go_sem]) rfl ⟨_, rfl, HFIN.out, HBF.out⟩
  · rw [if_neg h0]
    have te : ((errU h : Int) != 0) = true := by simp; omega
    clear h0
    generalize errU h = er at *
    go_enter Tryz.func91, Tryz.ntmps91
    go_wp2_with fail
    refine HT.out.mono ?_
    rintro e w1 ⟨v1, m1, rfl, -, hb1⟩
    have HB1 := Lib.hid hb1
    clear hb1 HT
    go_wp2
    exact bodyPost_ret (v := .tuple #[.slice none 0 0, .int .i64 (er : Int)]) (by simp [results, Tryz.results91, go_sem]) rfl ⟨_, rfl, fun _ _ => Rows2.nil _, HB1.out⟩
end Go.Proofs.YtmnblljenobofaaGreatDoor
/- The walks of package graph's viewOf and Readable. -/
namespace Go.Proofs.YtmnblljenobofaaGreatDoor.WPlain
end Go.Proofs.YtmnblljenobofaaGreatDoor.WPlain
namespace Go.Proofs.YtmnblljenobofaaGreatDoor.QPlain
end Go.Proofs.YtmnblljenobofaaGreatDoor.QPlain
namespace Go.Proofs.YtmnblljenobofaaGreatDoor.RPlain
end Go.Proofs.YtmnblljenobofaaGreatDoor.RPlain
namespace Go.Proofs.YtmnblljenobofaaGreatDoor
open Go.RowKit WPlain QPlain RPlain

/-- the error that both tell -/
def errG (h : List Ev) (cm : Nat) : Nat := if errU h = 0 then (if cm < 2 ^ (tableS h).length then 0 else 1) else errU h
theorem errG_zero {h : List Ev} {cm : Nat} (h0 : errG h cm = 0) : errU h = 0 ∧ cm < 2 ^ (tableS h).length := by
  unfold errG at h0
  by_cases h1 : errU h = 0
  · rw [if_pos h1] at h0
    by_cases h2 : cm < 2 ^ (tableS h).length
    · exact ⟨h1, h2⟩
    · rw [if_neg h2] at h0; cases h0
  · rw [if_neg h1] at h0
    exact absurd h0 h1
set_option maxRecDepth 100000 in
set_option maxHeartbeats 2000000 in
theorem viewOf_ok (v : Value) (h : List Ev) (cm : Nat) (_hcm : cm < 4294967296) (w : World) (hK : HasK w) (hv : Evs w v h) (hl : h.length ≤ 65536) (h0 : errG h cm = 0) :
    Calls Tryz.prog 57 #[v, .int .u32 (cm : Int)] w fun e w' => ∃ ta tc sa sc, e = .returned (.tuple #[.agg #[.slice ta (tableS h).length tc, .slice sa (tableS h).length sc, .int .u32 (cm : Int)], .int .i64 0]) ∧
      Txs w' (.slice ta (tableS h).length tc) (tableS h) ∧ Rows2 w' (.slice sa (tableS h).length sc) (sourcesS (tableS h)) ∧ Below w.heap.size w w' := by
  obtain ⟨hu, hc⟩ := errG_zero h0
  have hck := (errU_zero hu).1
  have hba : Below w.heap.size w (w.alloc (.cells #[.slice none 0 0, .slice none 0 0, .int .u32 0] 90)) := (Below.refl _ w).alloc (Nat.le_refl _) _
  have hSU := sources_above v h _ (hK.later hba (Nat.le_refl _)) (hv.below hba (Nat.le_refl _)) hl
  rw [hu, if_pos rfl] at hSU
  have HS := Lib.hid hSU
  have HT := Lib.hid (fun (W : World) (hW : Below w.heap.size w W) => table_above v h W (hK.later hW (Nat.le_refl _)) (hv.below hW (Nat.le_refl _)) hl)
  rw [hck, if_pos rfl] at HT
  have HB := Lib.hid hba
  have hsix := table_six hck
  have hsl : (sourcesS (tableS h)).length = (tableS h).length := sources_len _
  have HA := Lib.hid (At.new w #[.slice none 0 0, .slice none 0 0, .int .u32 0] 90)
  have hN : w.heap.size < (w.alloc (.cells #[.slice none 0 0, .slice none 0 0, .int .u32 0] 90)).heap.size := HA.out.lt
  obtain ⟨a, c, rfl⟩ := hv.len
  clear hv hK hba hSU hu hck h0
  generalize tableS h = l at *
  generalize hS : sourcesS l = S at *
  obtain ⟨n, hn⟩ : ∃ n, l.length = n := ⟨_, rfl⟩
  rw [hn] at hsix hsl hc ⊢
  have hbt := bitG_all n (by omega)
  have hpw : 2 ^ n < 4294967296 := Nat.pow_lt_pow_right (a := 2) (m := n) (n := 32) (by decide) (by omega)
  obtain ⟨pw, hpe⟩ : ∃ pw, 2 ^ n = pw := ⟨_, rfl⟩
  rw [hpe] at hc hbt hpw
  have HN := Lib.hid hn
  have HSL := Lib.hid hsl
  have td : decide ((pw : Int) ≤ (cm : Int)) = false := by simp; omega
  clear hS hn hsl hpe
  go_enter Tryz.func57, Tryz.ntmps57
  go_wp2_with fail
  refine HS.out.mono ?_
  rintro e w1 ⟨v1, rfl, hr1, hb1⟩
  have HB1 := Lib.hid (HB.out.trans (hb1.mono HB.out.size))
  have HA1 := Lib.hid (HA.out.below hb1 hN)
  have HR1 := Lib.hid hr1
  have HS1 := Lib.hid hb1.size
  obtain ⟨sa, sc, rfl⟩ := (hr1 w1 (Above.refl _ _)).len
  rw [HSL.out] at HR1 ⊢
  clear hr1 hb1 HS HB HA hN
  go_wp2_with fail
  refine (HT.out _ HB1.out).mono ?_
  rintro e w2 ⟨v2, rfl, hv2, hb2⟩
  have HB2 := Lib.hid (HB1.out.trans (hb2.mono HB1.out.size))
  have HA2 := Lib.hid (HA1.out.below hb2 HA1.out.lt)
  have HB12 := Lib.hid hb2
  have HV2 := Lib.hid hv2
  obtain ⟨ta, tc, rfl⟩ := (hv2 w2 (Above.refl _ _)).len
  rw [HN.out] at HV2 ⊢
  have e0 := HA2.out.cell (i := 0) rfl
  have e1 := HA2.out.cell (i := 1) rfl
  have e2 := HA2.out.cell (i := 2) rfl
  have f0 := HA2.out.free 0
  have f1 := HA2.out.free 1
  have f2 := HA2.out.free 2
  have hlt2 := HA2.out.lt
  clear hv2 hb2 HT HA1
  go_wp2_with (go_at_call 61; refine (hbt.out _).mono ?_; rintro e w3 ⟨rfl, rfl⟩)
  have hO : ∀ k, k ≠ w.heap.size → (((w3.setCell ⟨w.heap.size, 0, none⟩ (.slice ta n tc)).setCell ⟨w.heap.size, 1, none⟩ (.slice sa n sc)).setCell ⟨w.heap.size, 2, none⟩ (.int .u32 (cm : Int))).heap[k]? = w3.heap[k]? := fun k hk =>
    (Below.heap_setCell _ _ _ k hk).trans ((Below.heap_setCell _ _ _ k hk).trans (Below.heap_setCell _ _ _ k hk))
  have hb9 := ((((HB2.out.setCell (p := ⟨w.heap.size, 0, none⟩) (Nat.le_refl _) (.slice ta n tc))).setCell (p := ⟨w.heap.size, 1, none⟩) (Nat.le_refl _) (.slice sa n sc))).setCell (p := ⟨w.heap.size, 2, none⟩) (Nat.le_refl _) (.int .u32 (cm : Int))
  have hA9 := ((HA2.out.set 0 (.slice ta n tc)).set 1 (.slice sa n sc)).set 2 (.int .u32 (cm : Int))
  have g0 := hA9.cell (i := 0) (v := .slice ta n tc) rfl
  have g1 := hA9.cell (i := 1) (v := .slice sa n sc) rfl
  have g2 := hA9.cell (i := 2) (v := .int .u32 (cm : Int)) rfl
  have hT9 := HV2.out _ (fun k h1 h2 => hO k (by have := HS1.out; simp at this; have := HB1.out.size; omega))
  have hR9 := HR1.out _ (fun k h1 h2 => (hO k (by simp at h1; omega)).trans (HB12.out.block k h2))
  generalize ((w3.setCell ⟨w.heap.size, 0, none⟩ (.slice ta n tc)).setCell ⟨w.heap.size, 1, none⟩ (.slice sa n sc)).setCell ⟨w.heap.size, 2, none⟩ (.int .u32 (cm : Int)) = w9 at *
  exact bodyPost_ret (v := .tuple #[.agg #[.slice ta n tc, .slice sa n sc, .int .u32 (cm : Int)], .int .i64 0]) (by simp [results, Tryz.results57, go_sem, *]) rfl ⟨ta, tc, sa, sc, rfl, hT9, hR9, hb9⟩
end Go.Proofs.YtmnblljenobofaaGreatDoor
/- The walk of package graph's Build. -/
namespace Go.Proofs.YtmnblljenobofaaGreatDoor.WPlain
end Go.Proofs.YtmnblljenobofaaGreatDoor.WPlain
namespace Go.Proofs.YtmnblljenobofaaGreatDoor.QPlain
end Go.Proofs.YtmnblljenobofaaGreatDoor.QPlain
namespace Go.Proofs.YtmnblljenobofaaGreatDoor.RPlain
end Go.Proofs.YtmnblljenobofaaGreatDoor.RPlain
namespace Go.Proofs.YtmnblljenobofaaGreatDoor
open Go.RowKit WPlain QPlain RPlain

/-- the error that Build tells; what it answers -/
def errB (h : List Ev) (cm : Nat) (row : List Int) : Nat := if errG h cm = 0 then (if wholeS (tableS h).length row = true then (if readS (tableS h) cm = true then 0 else 7) else 1) else errG h cm
def bldS (h : List Ev) (cm : Nat) (row : List Int) : List Nat := if errB h cm row = 0 then buildS (tableS h) cm (natsR row) else []
theorem errB_off {h : List Ev} {cm : Nat} {row : List Int} (h0 : errG h cm ≠ 0) : errB h cm row = errG h cm := by unfold errB; rw [if_neg h0]
theorem errB_row {h : List Ev} {cm : Nat} {row : List Int} (h0 : errG h cm = 0) (hw : wholeS (tableS h).length row = false) : errB h cm row = 1 := by unfold errB; rw [if_pos h0, hw]; rfl
theorem errB_read {h : List Ev} {cm : Nat} {row : List Int} (h0 : errG h cm = 0) (hw : wholeS (tableS h).length row = true) (hr : readS (tableS h) cm = false) : errB h cm row = 7 := by unfold errB; rw [if_pos h0, hw, hr]; rfl
theorem errB_ok {h : List Ev} {cm : Nat} {row : List Int} (h0 : errG h cm = 0) (hw : wholeS (tableS h).length row = true) (hr : readS (tableS h) cm = true) : errB h cm row = 0 := by unfold errB; rw [if_pos h0, hw, hr]; rfl
theorem bld_off {h : List Ev} {cm : Nat} {row : List Int} (h0 : errB h cm row ≠ 0) : bldS h cm row = [] := by unfold bldS; rw [if_neg h0]
theorem bld_ok {h : List Ev} {cm : Nat} {rn : List Nat} (h0 : errB h cm (rn.map fun x : Nat => (x : Int)) = 0) : bldS h cm (rn.map fun x : Nat => (x : Int)) = buildS (tableS h) cm rn := by unfold bldS; rw [if_pos h0, natsR_cast]
theorem run_store_fn (P : Program) (w : World) (a : Addr) (m : Mode) (f : Fn) (ts : Array Value) (bs : Array Value) : (store a (.func f ts bs) m).run P w = stored P w a (.func f ts bs) m := run_store P w a _ m rfl
attribute [local go_sem] run_store_fn
set_option maxRecDepth 100000 in
set_option maxHeartbeats 4000000 in
theorem buildX_ok (v rv : Value) (h : List Ev) (cm : Nat) (rn : List Nat) (hcm : cm < 4294967296) (w : World) (hK : HasK w) (hv : Evs w v h) (hl : h.length ≤ 65536) (hr : Rd w rv (ints (rn.map (fun x : Nat => (x : Int))))) (h0 : errG h cm = 0) (hw : Whole (tableS h) rn) (hread : readS (tableS h) cm = true) :
    Calls Tryz.prog 31 #[v, .int .u32 (cm : Int), rv] w fun e w' => ∃ v', e = .returned (.tuple #[v', .int .i64 0]) ∧ RdX (fun k => k < w.heap.size) w' v' (u32s (buildS (tableS h) cm rn)) ∧ Below w.heap.size w w' := by
  have hrl := wholeR_len hw
  have hck := (errU_zero (errG_zero h0).1).1
  have hf := fine_table hck
  have hl6 := hf.six
  have hwh : wholeS (tableS h).length (rn.map fun x : Nat => (x : Int)) = true := whole_iff.2 ⟨rn, rfl, hw⟩
  obtain ⟨ra, rc, rfl⟩ := hr.len
  rw [ints_len, List.length_map] at hr ⊢
  have hba : Below w.heap.size w (w.alloc (.cells #[.slice ra rn.length rc] 24)) := (Below.refl _ w).alloc (Nat.le_refl _) _
  have HVO := Lib.hid (viewOf_ok v h cm hcm _ (hK.later hba (Nat.le_refl _)) (hv.below hba (Nat.le_refl _)) hl h0)
  have HEO := Lib.hid (fun (W : World) (hW : Below w.heap.size w W) => eachOnce_any _ (rn.map fun x : Nat => (x : Int)) (tableS h).length hl6 W (hr.below hW (Nat.le_refl _)) (by rw [List.length_map]; omega))
  rw [hwh] at HEO
  have HIR := Lib.hid (fun (ta sa : Option Addr) (tc sc : Nat) (W : World) hv hs => isReadable_any ta sa tc sc cm (tableS h) W hv hs hf hcm)
  rw [hread] at HIR
  have HAF := Lib.hid (fun (W : World) (hW : Below w.heap.size w W) => after_own v h W (hK.later hW (Nat.le_refl _)) (hv.below hW (Nat.le_refl _)) hl hck)
  have HR := Lib.hid hr
  have HW := Lib.hid hw
  have HREAD := Lib.hid hread
  have HF := Lib.hid hf
  have HCM := Lib.hid hcm
  have HB0 := Lib.hid hba
  have HA0 := Lib.hid (At.new w #[.slice ra rn.length rc] 24)
  have hN : w.heap.size < (w.alloc (.cells #[.slice ra rn.length rc] 24)).heap.size := HA0.out.lt
  have HGA := Lib.hid (grA_all hw hread)
  have hl65 : (tableS h).length ≤ 65536 := by omega
  obtain ⟨ea, ec, rfl⟩ := hv.len
  clear hv hK hr hw hread hf hba h0 hck hwh
  generalize tableS h = l at *
  rw [hrl] at HEO HR HA0 HB0 hN HVO ⊢
  go_enter Tryz.func31, Tryz.ntmps31
  go_wp2_with fail
  refine HVO.out.mono ?_
  rintro e w1 ⟨ta, tc, sa, sc, rfl, hv1, hs1, hb1⟩
  have hba1 : Below w1.heap.size w1 (w1.alloc (.cells #[.slice ta l.length tc, .slice sa l.length sc, .int .u32 (cm : Int)] 90)) := (Below.refl _ w1).alloc (Nat.le_refl _) _
  have HB2 := Lib.hid ((HB0.out.trans (hb1.mono HB0.out.size)).trans (hba1.mono (Nat.le_trans HB0.out.size hb1.size)))
  have HP2 := Lib.hid ((HA0.out.below hb1 hN).alloc (.cells #[.slice ta l.length tc, .slice sa l.length sc, .int .u32 (cm : Int)] 90))
  have HV2 := Lib.hid (At.new w1 #[.slice ta l.length tc, .slice sa l.length sc, .int .u32 (cm : Int)] 90)
  have HT2 := Lib.hid (hv1.below hba1 (Nat.le_refl _))
  have HS2 := Lib.hid (hs1.below hba1)
  clear hv1 hs1 hb1 hba1 HVO HB0 HA0 hN
  generalize hln : l.length = ln at *
  have HLN := Lib.hid hln
  clear hln
  have p0 := HP2.out.cell (i := 0) rfl
  have v0 := HV2.out.cell (i := 0) rfl
  go_wp2_with fail
  generalize w1.alloc (.cells #[.slice ta ln tc, .slice sa ln sc, .int .u32 (cm : Int)] 90) = w2 at *
  generalize w1.heap.size = V at *
  refine (HEO.out w2 HB2.out).mono ?_
  rintro e w3 ⟨rfl, hb3⟩
  have HB3 := Lib.hid (HB2.out.trans (hb3.mono HB2.out.size))
  have HP3 := Lib.hid (HP2.out.below hb3 HP2.out.lt)
  have HV3 := Lib.hid (HV2.out.below hb3 HV2.out.lt)
  have HT3 := Lib.hid (HT2.out.below hb3 (Nat.le_refl _))
  have HS3 := Lib.hid (HS2.out.below hb3)
  have q0 := HV3.out.cell (i := 0) rfl
  have q1 := HV3.out.cell (i := 1) rfl
  have q2 := HV3.out.cell (i := 2) rfl
  clear hb3 HEO HB2 HP2 HV2 HT2 HS2 p0 v0
  have HIR2 := HIR.out ta sa tc sc w3
  try rw [HLN.out] at HIR2
  have HIR3 := Lib.hid (HIR2 HT3.out HS3.out)
  clear HIR2
  go_wp2_with fail
  refine HIR3.out.mono ?_
  rintro e w4 ⟨rfl, hb4⟩
  have HB4 := Lib.hid (HB3.out.trans (hb4.mono HB3.out.size))
  have HP4 := Lib.hid (HP3.out.below hb4 HP3.out.lt)
  have HV4 := Lib.hid (HV3.out.below hb4 HV3.out.lt)
  have HT4 := Lib.hid (HT3.out.below hb4 (Nat.le_refl _))
  have HS4 := Lib.hid (HS3.out.below hb4)
  clear hb4 HIR HIR3 HB3 HP3 HV3 HT3 HS3 q0 q1 q2
  have hAF := HAF.out w4 HB4.out
  try rw [HLN.out] at hAF
  have HAF2 := Lib.hid hAF
  clear hAF HAF
  go_wp2_with fail
  refine HAF2.out.mono ?_
  rintro e w5 ⟨M, rfl, hM5, hMw, hb5⟩
  have hV4 := HV4.out.lt
  have hP4 := HP4.out.lt
  have hsz5 := hb5.size
  have hMl := hM5.lt
  have hS1 : Below w5.heap.size w5 (w5.alloc (.cells #[.slice (some ⟨M, 0, none⟩) ln ln] 41)) := (Below.refl _ w5).alloc (Nat.le_refl _) _
  have hA1 := At.new w5 #[.slice (some ⟨M, 0, none⟩) ln ln] 41
  have hM51 := hM5.below hS1 hMl
  have hPA : w5.heap.size ≠ M := by omega
  obtain ⟨PA, hPAe⟩ : ∃ PA, w5.heap.size = PA := ⟨_, rfl⟩
  go_upto_region 11 with fail
  generalize w5.alloc (.cells #[.slice (some ⟨M, 0, none⟩) ln ln] 41) = wa at *
  have hsa := hS1.size
  have hS2 : Below wa.heap.size wa (wa.alloc (.cells #[.func (.func 60) #[] #[.pointer (some ⟨PA, 0, none⟩)]] 93)) := (Below.refl _ wa).alloc (Nat.le_refl _) _
  have hA2 := At.new wa #[.func (.func 60) #[] #[.pointer (some ⟨PA, 0, none⟩)]] 93
  rw [hPAe] at hA1 hPA
  go_upto_region 12 with fail
  generalize wa.alloc (.cells #[.func (.func 60) #[] #[.pointer (some ⟨PA, 0, none⟩)]] 93) = wb at *
  have hsb := hS2.size
  have hS3 : Below wb.heap.size wb (wb.alloc (.cells #[.func (.func 62) #[] #[.pointer (some ⟨w.heap.size, 0, none⟩)]] 95)) := (Below.refl _ wb).alloc (Nat.le_refl _) _
  have hA3 := At.new wb #[.func (.func 62) #[] #[.pointer (some ⟨w.heap.size, 0, none⟩)]] 95
  go_upto_region 13 with fail
  generalize wb.alloc (.cells #[.func (.func 62) #[] #[.pointer (some ⟨w.heap.size, 0, none⟩)]] 95) = w6 at *
  have hA1b := (hA1.below hS2 hA1.lt)
  have hA1c := hA1b.below hS3 hA1b.lt
  have hA2c := hA2.below hS3 hA2.lt
  have hM5b := hM51.below hS2 hM51.lt
  have hM6 := hM5b.below hS3 hM5b.lt
  have hS : Below w5.heap.size w5 w6 := hS1.trans ((hS2.trans (hS3.mono hsb)).mono hsa)
  obtain ⟨PP, hPP⟩ : ∃ PP, wa.heap.size = PP := ⟨_, rfl⟩
  obtain ⟨PH, hPH⟩ : ∃ PH, wb.heap.size = PH := ⟨_, rfl⟩
  rw [hPP] at hA2c ⊢
  rw [hPH] at hA3 ⊢
  have hPPM : PP ≠ M := by omega
  have hPHM : PH ≠ M := by omega
  have hb46 : Below w4.heap.size w4 w6 := hb5.trans (hS.mono hsz5)
  have hV6 := HV4.out.below hb46 hV4
  have hP6 := HP4.out.below hb46 hP4
  have HB6 := Lib.hid (HB4.out.trans (hb46.mono HB4.out.size))
  have HR4 := HR.out.below HB4.out (Nat.le_refl _)
  have HJ0 : BldJ l cm rn M PA w.heap.size V PP PH ln ra rc #[.slice ta ln tc, .slice sa ln sc, .int .u32 (cm : Int)] 0 0 w6 := ⟨⟨hM6, hA1c, hP6⟩, hV6, hA2c, hA3⟩
  have hwsz := HB4.out.size
  have hE := eachB_any ta sa tc sc cm l V PP PH M (BldJ l cm rn M PA w.heap.size V PP PH ln ra rc #[.slice ta ln tc, .slice sa ln sc, .int .u32 (cm : Int)]) HF.out
    (bldJ l cm rn M PA w.heap.size V PP PH ln ra rc #[.slice ta ln tc, .slice sa ln sc, .int .u32 (cm : Int)]) w4 (by rw [HLN.out]; exact HT4.out) (by rw [HLN.out]; exact HS4.out)
    (fun t n o W hW hMW hj ho hr => readD_walk ta sa ln tc ln sc cm l HLN.out rn HW.out HREAD.out ra rc M PA w.heap.size V PP PH hPA (by omega) (by omega) hPPM hPHM HF.out HCM.out w4 HT4.out HR4 hMw t n o W hW hMW hj ho hr)
    w6 hb46 hMw hM6.lt HJ0
  rw [HLN.out] at hE
  have HE := Lib.hid hE
  have r0 := hV6.cell (i := 0) rfl
  have r1 := hV6.cell (i := 1) rfl
  have r2 := hV6.cell (i := 2) rfl
  have HMW := Lib.hid (Nat.le_trans hwsz hMw)
  clear hE HJ0 hA1 hA2 hA3 hA1b hA1c hA2c hM51 hM5b hS1 hS2 hS3 hsa hsb hPA hPPM hPHM hPP hPH hPAe hV6 hP6 hM6 hM5 hb5 hb46 hS HAF2 HR4 HT4 HS4 HV4 HP4 HB4 hV4 hP4 hMl hMw
  go_wp2_with fail
  refine HE.out.mono ?_
  rintro e w7 ⟨⟨rv, rfl⟩, hj7, ho7⟩
  have HB7 := Lib.hid (HB6.out.trans ((ho7.below (B := w.heap.size) HB6.out.size (fun k _ hk => by rw [hk]; exact HMW.out)).mono (Nat.le_refl _)))
  have hrow := hj7.gr.row
  have hbox := hj7.gr.box.cell (i := 0) rfl
  have hga := HGA.out
  try rw [HLN.out] at hga
  rw [hga] at hrow
  have hrd := Rd.of_at ln hrow
  have hbl : (u32s (buildS l cm rn)).length = ln := by rw [← HLN.out]; simp [u32s, buildS]
  rw [hbl] at hrd
  have HRD : Hid (RdX (fun k => k < w.heap.size) w7 (.slice (some ⟨M, 0, none⟩) ln ln) (u32s (buildS l cm rn))) := by
    have hmw := HMW.out
    rcases hrd with hrd | ⟨x0, b, o, c', he, hc⟩
    · exact .inl hrd
    · refine .inr ⟨x0, b, o, c', he, ?_, hc⟩
      simp only [Value.slice.injEq, Option.some.injEq, Addr.mk.injEq] at he
      intro hlt
      omega
  clear hj7 ho7 HE r0 r1 r2 hrow hrd hga hbl
  go_wp2
  exact bodyPost_ret (v := .tuple #[.slice (some ⟨M, 0, none⟩) ln ln, .int .i64 0]) (by simp [results, Tryz.results31, go_sem]) rfl ⟨_, rfl, HRD.out, HB7.out⟩
theorem buildG_ok (v rv : Value) (h : List Ev) (cm : Nat) (rn : List Nat) (hcm : cm < 4294967296) (w : World) (hK : HasK w) (hv : Evs w v h) (hl : h.length ≤ 65536) (hr : Rd w rv (ints (rn.map (fun x : Nat => (x : Int))))) (h0 : errG h cm = 0) (hw : Whole (tableS h) rn) (hread : readS (tableS h) cm = true) :
    Calls Tryz.prog 31 #[v, .int .u32 (cm : Int), rv] w fun e w' => ∃ v', e = .returned (.tuple #[v', .int .i64 0]) ∧ Rd w' v' (u32s (buildS (tableS h) cm rn)) ∧ Below w.heap.size w w' :=
  (buildX_ok v rv h cm rn hcm w hK hv hl hr h0 hw hread).mono fun _ _ ⟨v', he, hr, hb⟩ => ⟨v', he, hr.rd, hb⟩
end Go.Proofs.YtmnblljenobofaaGreatDoor
