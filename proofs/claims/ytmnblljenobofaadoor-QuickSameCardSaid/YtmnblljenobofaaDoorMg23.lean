/- Merged: QckC, QckR. -/
import Derived.Test.YtmnblljenobofaaDoorMg22
import Derived.Test.YtmnblljenobofaaDoorMg21
import Derived.Test.YtmnblljenobofaaDoorCmpD
import Derived.Test.YtmnblljenobofaaDoorOrdE
import Derived.Test.YtmnblljenobofaaDoorSrlC
import Derived.Test.YtmnblljenobofaaDoorSrlA
/- The walks of package quick's firstOf and rowsOf. -/
namespace Go.Proofs.YtmnblljenobofaaDoor.WPlain
end Go.Proofs.YtmnblljenobofaaDoor.WPlain
namespace Go.Proofs.YtmnblljenobofaaDoor.QPlain
end Go.Proofs.YtmnblljenobofaaDoor.QPlain
namespace Go.Proofs.YtmnblljenobofaaDoor.RPlain
end Go.Proofs.YtmnblljenobofaaDoor.RPlain
namespace Go.Proofs.YtmnblljenobofaaDoor
open Go.RowKit WPlain QPlain RPlain

theorem below6 {A : List Nat} {n : Nat} (hn : n ≤ 6) (h : ∀ a ∈ A, a < 2 ^ n) : ∀ a ∈ A, a < 4294967296 := fun a ha => by
  have h1 := h a ha
  have h2 : 2 ^ n ≤ 2 ^ 6 := Nat.pow_le_pow_right (by decide) hn
  omega
theorem build_small {l : List Tx} (h6 : l.length ≤ 6) (c : Nat) (row : List Nat) : ∀ a ∈ buildS l c row, a < 4294967296 :=
  below6 (n := (buildS l c row).length) (by rw [build_len]; exact h6) build_lt
theorem whole_row {l : List Tx} {row : List Nat} (h : wholeS l.length (row.map fun x : Nat => (x : Int)) = true) : Whole l row := by
  obtain ⟨rn, he, hw⟩ := whole_iff.1 h
  have : row = rn := (List.map_inj_right (fun a b h => Int.ofNat.inj h)).1 he
  rw [this]
  exact hw
set_option maxRecDepth 100000 in
set_option maxHeartbeats 2000000 in
theorem firstQ_any (v rv : Value) (h : List Ev) (cm : Nat) (row : List Nat) (w : World) (hcm : cm < 4294967296) (hK : HasK w) (hv : Evs w v h) (hl : h.length ≤ 65536) (hr : Rd w rv (nats row)) (_hrl : row.length ≤ 65536)
    (h0 : errB h cm (row.map fun x : Nat => (x : Int)) = 0) (h6 : (tableS h).length ≤ 6) :
    Calls Tryd.prog 32 #[v, .int .u32 (cm : Int), rv] w fun e w' => ∃ v', e = .returned (.tuple #[v', .int .i64 (((if hitQ (tableS h) cm row = true then 0 else 8 : Nat) : Nat) : Int)]) ∧
      RdX (fun k => k < w.heap.size) w' v' (nats (if hitQ (tableS h) cm row = true then (allS (buildS (tableS h) cm row)).headD [] else [])) ∧ Below w.heap.size w w' := by
  have HBD := Lib.hid (buildX_ok v rv h cm row hcm w hK hv hl (by rw [← nats_intsS]; exact hr) (errB_zero h0).1 (whole_row (errB_zero h0).2.1) (errB_zero h0).2.2)
  have hbl := build_len (tableS h) cm row
  have HFI := Lib.hid (fun (a : Option Addr) (c : Nat) (W : World) (hW : w.heap.size ≤ W.heap.size) (hR : RdX (fun k => k < w.heap.size) W (.slice a (buildS (tableS h) cm row).length c) (u32s (buildS (tableS h) cm row))) => firstS_any (fun k => k < w.heap.size) a c (buildS (tableS h) cm row) W (fun k hk => Nat.lt_of_lt_of_le hk hW) hR (build_small h6 cm row) (by omega))
  obtain ⟨ea, ec, rfl⟩ := hv.len
  obtain ⟨ra, rc, rfl⟩ := hr.len
  rcases hit_may h6 cm row with ⟨hq, hm⟩ | ⟨hq, hm⟩
  · rw [hq, if_pos rfl, if_pos rfl]
    rw [hm, if_pos rfl] at HFI
    clear hK hv hr h0 hm hq hbl h6 _hrl hl hcm
    generalize buildS (tableS h) cm row = A at *
    generalize (allS A).headD [] = F at *
    generalize (nats row).length = rn at *
    go_enter Tryd.func32, Tryd.ntmps32
    go_wp2_with fail
    refine HBD.out.mono ?_
    rintro e w1 ⟨v1, rfl, hv1, hb1⟩
    obtain ⟨a1, c1, rfl⟩ := hv1.rd.len
    rw [u32s_len] at hv1 ⊢
    have HF := Lib.hid (HFI.out _ _ _ hb1.size hv1)
    have HB1 := Lib.hid hb1
    clear hv1 hb1 HBD HFI
    go_wp2_with fail
    refine HF.out.mono ?_
    rintro e w2 ⟨v2, rfl, hv2, hb2⟩
    have HV2 := Lib.hid hv2
    have HB2 := Lib.hid (HB1.out.trans (hb2.mono HB1.out.size))
    obtain ⟨a2, c2, rfl⟩ := hv2.rd.len
    clear hv2 hb2 HF HB1
    generalize (nats F).length = n2 at *
    go_wp2
    exact bodyPost_ret (v := .tuple #[.slice a2 n2 c2, .int .i64 0]) (by simp [results, Tryd.results32, go_sem]) rfl ⟨_, rfl, HV2.out, HB2.out⟩
  · rw [hq, if_neg (by decide), if_neg (by decide)]
    rw [hm, if_neg (by decide)] at HFI
    clear hK hv hr h0 hm hq hbl h6 _hrl hl hcm
    generalize buildS (tableS h) cm row = A at *
    generalize (nats row).length = rn at *
    go_enter Tryd.func32, Tryd.ntmps32
    go_wp2_with fail
    refine HBD.out.mono ?_
    rintro e w1 ⟨v1, rfl, hv1, hb1⟩
    obtain ⟨a1, c1, rfl⟩ := hv1.rd.len
    rw [u32s_len] at hv1 ⊢
    have HF := Lib.hid (HFI.out _ _ _ hb1.size hv1)
    have HB1 := Lib.hid hb1
    clear hv1 hb1 HBD HFI
    go_wp2_with fail
    refine HF.out.mono ?_
    rintro e w2 ⟨v2, rfl, hv2, hb2⟩
    have HV2 := Lib.hid hv2
    have HB2 := Lib.hid (HB1.out.trans (hb2.mono HB1.out.size))
    obtain ⟨a2, c2, rfl⟩ := hv2.rd.len
    clear hv2 hb2 HF HB1
    generalize (nats []).length = n2 at *
    go_wp2
    exact bodyPost_ret (v := .tuple #[.slice a2 n2 c2, .int .i64 8]) (by simp [results, Tryd.results32, go_sem]) rfl ⟨_, rfl, HV2.out, HB2.out⟩
set_option maxRecDepth 100000 in
set_option maxHeartbeats 2000000 in
theorem rowsOfQ_any (v : Value) (h : List Ev) (w : World) (hK : HasK w) (hv : Evs w v h) (hl : h.length ≤ 65536) (h0 : (checkS h).2 = 0) :
    Calls Tryd.prog 13 #[v] w fun e w' => ∃ v', e = .returned (.tuple #[v', .int .i64 0]) ∧ RowsN w' v' (allS (afterS (tableS h))) ∧ Below w.heap.size w w' := by
  have HAF := Lib.hid (after_any v h w hK hv hl)
  rw [h0, if_pos rfl] at HAF
  have h6 := table_six h0
  have hm := may_after h0
  have HAL := Lib.hid (fun (a : Option Addr) (c : Nat) (W : World) (hR : Rd W (.slice a (afterS (tableS h)).length c) (u32s (afterS (tableS h)))) => all_any a c (afterS (tableS h)) W hR (fun x hx => by have := after_lt (tableS h) h6 x hx; omega) (by rw [afterS_len]; omega))
  rw [hm, if_pos rfl] at HAL
  obtain ⟨ea, ec, rfl⟩ := hv.len
  clear hK hv h0 hm h6 hl
  generalize afterS (tableS h) = A at *
  go_enter Tryd.func13, Tryd.ntmps13
  go_wp2_with fail
  refine HAF.out.mono ?_
  rintro e w1 ⟨v1, rfl, hv1, hb1⟩
  obtain ⟨a1, c1, rfl⟩ := hv1.len
  rw [u32s_len] at hv1 ⊢
  have HF := Lib.hid (HAL.out _ _ _ hv1)
  have HB1 := Lib.hid hb1
  clear hv1 hb1 HAF HAL
  go_wp2_with fail
  refine HF.out.mono ?_
  rintro e w2 ⟨v2, vs, rfl, hv2, ⟨X, hrw⟩, hb2⟩
  have HV2 := Lib.hid (RowsN.of hv2 hrw)
  have HB2 := Lib.hid (HB1.out.trans (hb2.mono HB1.out.size))
  obtain ⟨a2, c2, rfl⟩ := hv2.len
  clear hv2 hb2 HF HB1 hrw
  go_wp2
  exact bodyPost_ret (v := .tuple #[.slice a2 vs.length c2, .int .i64 0]) (by simp [results, Tryd.results13, go_sem]) rfl ⟨_, rfl, HV2.out, HB2.out⟩
end Go.Proofs.YtmnblljenobofaaDoor
/- The walk of package quick's readableOf. -/
namespace Go.Proofs.YtmnblljenobofaaDoor.WPlain
end Go.Proofs.YtmnblljenobofaaDoor.WPlain
namespace Go.Proofs.YtmnblljenobofaaDoor.QPlain
end Go.Proofs.YtmnblljenobofaaDoor.QPlain
namespace Go.Proofs.YtmnblljenobofaaDoor.RPlain
end Go.Proofs.YtmnblljenobofaaDoor.RPlain
namespace Go.Proofs.YtmnblljenobofaaDoor
open Go.RowKit WPlain QPlain RPlain

theorem filter_take {p : Nat → Bool} {L : List Nat} {k : Nat} (h : k < L.length) : (L.take (k + 1)).filter p = if p L[k] = true then (L.take k).filter p ++ [L[k]] else (L.take k).filter p := by
  rw [List.take_add_one, List.getElem?_eq_getElem h, List.filter_append]
  cases hp : p L[k] <;> simp [hp]
theorem u32s_snocQ (L : List Nat) (x : Nat) : u32s L ++ [.int .u32 (x : Int)] = u32s (L ++ [x]) := by simp [u32s]
set_option maxRecDepth 100000 in
set_option maxHeartbeats 4000000 in
theorem readableOfQ_any (v : Value) (h : List Ev) (w : World) (hK : HasK w) (hv : Evs w v h) (hl : h.length ≤ 65536) (hu : errU h = 0) :
    Calls Tryd.prog 12 #[v] w fun e w' => ∃ v', e = .returned (.tuple #[v', .int .i64 0]) ∧ Rd w' v' (u32s ((choicesS (tableS h)).filter (readS (tableS h)))) ∧ Below w.heap.size w w' := by
  obtain ⟨i0, hi0, hz0, hz1, hz2⟩ := info_parts infoU
  have h0 := (errU_zero hu).1
  have h6 := table_six h0
  have h64 := pow_le_64 h6
  have HCH := Lib.hid (choices_any v h w hK hv hl)
  rw [h0, if_pos rfl] at HCH
  have hcl := choices_count (tableS h)
  rw [choices_chL h6] at hcl ⊢
  have HLT : Hid (∀ c ∈ chL (tableS h), c < 4294967296) := fun c hc => by have := (mem_chL.1 hc).1; omega
  have HRB := Lib.hid (fun (c : Nat) (hc : c ∈ chL (tableS h)) (W : World) (hW : Below w.heap.size w W) => readableG_any v h c (HLT.out c hc) W (hK.later hW (Nat.le_refl _)) (hv.below hW (Nat.le_refl _)) hl)
  have HRD : Hid (∀ c ∈ chL (tableS h), rdG h c = readS (tableS h) c ∧ errG h c = 0) := fun c hc => by
    have := quick_errG hu (mem_chL.1 hc).1
    exact ⟨by unfold rdG; rw [if_pos this], this⟩
  obtain ⟨ea, ec, rfl⟩ := hv.len
  clear hK hv h0 h6 h64 hl hu
  generalize chL (tableS h) = cs at *
  generalize readS (tableS h) = p at *
  go_enter Tryd.func12, Tryd.ntmps12
  go_wp2_with fail
  refine HCH.out.mono ?_
  rintro e w2 ⟨v2, rfl, hr2, hb2⟩
  have HR2 := Lib.hid hr2
  obtain ⟨ca, cc, rfl⟩ := hr2.len
  rw [u32s_len] at HR2 ⊢
  have HB2 := Lib.hid hb2
  clear hr2 hb2 HCH
  have HN0 : Hid (w2.ownsRow w2.heap.size 23 1 (.slice none 0 0) ((cs.take 0).filter p).length (u32s ((cs.take 0).filter p))) := by rw [List.take_zero]; exact World.ownsRow_nil _ _ _ _
  have HBB := Lib.hid (Below.refl w2.heap.size w2)
  go_wp2_with fail
  go_loopw [6, 21] (fun y x wr => ∃ k : Nat, k ≤ cs.length ∧ x = .int .i64 k ∧ Hid (wr.ownsRow w2.heap.size 23 1 y ((cs.take k).filter p).length (u32s ((cs.take k).filter p))) ∧ Hid (Below w2.heap.size w2 wr)) (fun _ x _ => cs.length - (intOf x).toNat)
  case atStart => exact ⟨0, by omega, rfl, HN0, HBB⟩
  case round =>
    clear HN0 HBB
    obtain ⟨k, hk, rfl, HR, HB⟩ := hrel
    have hgl : ((cs.take k).filter p).length ≤ 64 := by
      have := List.length_filter_le p (cs.take k)
      rw [List.length_take] at this
      omega
    by_cases hlt : k < cs.length
    · obtain ⟨b, o, pc, he, hbl, hcells⟩ := (HR2.out.below HB.out (Nat.le_refl _)).opened (by rw [u32s_len]; omega)
      rw [u32s_len] at he
      simp only [Value.slice.injEq] at he
      obtain ⟨rfl, -, rfl⟩ := he
      have hcj := hcells k _ (u32s_get hlt)
      have hmem := List.getElem_mem hlt
      have HC := Lib.hid (HRB.out _ hmem wr (HB2.out.trans (HB.out.mono HB2.out.size)))
      obtain ⟨hrd, hre⟩ := HRD.out _ hmem
      rw [hrd, hre] at HC
      have HSK := Lib.hid (filter_take (p := p) hlt)
      clear hcells hrd hre hmem
      generalize cs[k] = ci at *
      generalize (cs.take k).filter p = M at *
      obtain ⟨ma, mc, rfl⟩ := row_slice HR.out
      cases hb : p ci with
      | true =>
        have HS2 : Hid ((cs.take (k + 1)).filter p = M ++ [ci]) := by unfold Hid; rw [HSK.out, if_pos hb]
        rw [hb] at HC
        clear hb HSK
        go_wp2_with fail
        refine HC.out.mono ?_
        rintro e w3 ⟨rfl, hb3⟩
        have hr3 := row_belowT HR.out hb3
        have hbb := HB.out.trans (hb3.mono HB.out.size)
        clear hb3 hcj
        go_wp2_with (at_builtin; go_must (refine wpList_append_own _ rfl _ _ 31 rfl w2.heap.size 23 i0 (.int .u32 0) 1 4 Tryd.underlying31 hi0 hz0 hz1 hz2 rfl (by decide) _ _ _ rfl (hr3.alloc _) ⟨w3.heap.size, 0, none⟩ 1 1 [.int .u32 (ci : Int)] rfl rfl ?c1 ?c2 ?c3 ?c4 ?c5 ?_))
        case c1 => exact cell_one_at w3 _ _
        case c2 => exact one_int _ _
        case c3 => unfold maxLen; omega
        case c4 => omega
        case c5 => have := hbb.size; simp; omega
        intro v5 w5 hv5 hg5 _
        have HB5 : Hid (Below w2.heap.size w2 w5) := (hbb.alloc hbb.size (.cells #[.int .u32 (ci : Int)] 23)).grown hg5 (by have := hbb.size; simp; omega) (fun k' hk' => (hr3.lt k' hk').1)
        have HR5 : Hid (w5.ownsRow w2.heap.size 23 1 v5 (M ++ [ci]).length (u32s (M ++ [ci]))) := by rw [← u32s_snocQ, List.length_append]; exact hv5
        clear hv5 hg5 hr3 hbb HR HB HC
        go_wp2
        go_roundw
        case rel => exact ⟨k + 1, by omega, by go_num, by rw [HS2.out]; exact HR5, HB5⟩
        case measure => simp [intOf]; omega
      | false =>
        have HS2 : Hid ((cs.take (k + 1)).filter p = M) := by unfold Hid; rw [HSK.out, if_neg (by rw [hb]; decide)]
        rw [hb] at HC
        clear hb HSK
        go_wp2_with fail
        refine HC.out.mono ?_
        rintro e w3 ⟨rfl, hb3⟩
        have HR3 := Lib.hid (row_belowT HR.out hb3)
        have HB3 := Lib.hid (HB.out.trans (hb3.mono HB.out.size))
        clear hb3 hcj
        go_wp2_with fail
        go_roundw
        case rel => exact ⟨k + 1, by omega, by go_num, by rw [HS2.out]; exact HR3, HB3⟩
        case measure => simp [intOf]; omega
    · obtain rfl : k = cs.length := by omega
      rw [List.take_length] at HR
      have HB3 := Lib.hid (HB2.out.trans (HB.out.mono HB2.out.size))
      have HRF := Lib.hid (Rd.of_row HR.out)
      obtain ⟨ma, mc, rfl⟩ := row_slice HR.out
      clear HR HB
      go_wp2
      exact bodyPost_ret (v := .tuple #[.slice ma (cs.filter p).length mc, .int .i64 0]) (by simp [results, Tryd.results12, go_sem]) rfl ⟨_, rfl, HRF.out, HB3.out⟩
end Go.Proofs.YtmnblljenobofaaDoor
