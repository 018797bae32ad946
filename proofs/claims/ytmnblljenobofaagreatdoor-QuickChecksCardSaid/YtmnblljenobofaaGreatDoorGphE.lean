/- The walk of package graph's eachRead, with each closure that it is called with. (Written by gen_gphE.py.) -/
import Derived.Test.YtmnblljenobofaaGreatDoorMg16
import Derived.Test.YtmnblljenobofaaGreatDoorMg15
namespace Go.Proofs.YtmnblljenobofaaGreatDoor.WPlain
end Go.Proofs.YtmnblljenobofaaGreatDoor.WPlain
namespace Go.Proofs.YtmnblljenobofaaGreatDoor.QPlain
end Go.Proofs.YtmnblljenobofaaGreatDoor.QPlain
namespace Go.Proofs.YtmnblljenobofaaGreatDoor.RPlain
end Go.Proofs.YtmnblljenobofaaGreatDoor.RPlain
namespace Go.Proofs.YtmnblljenobofaaGreatDoor
open Go.RowKit WPlain QPlain RPlain

/-- what stands from read to read -/
structure Reads (l : List Tx) (J : Nat → Nat → World → Prop) : Prop where
  below : ∀ t n w w', J t n w → Below w.heap.size w w' → J t n w'
  write : ∀ t n w o, J t n w → (opsAt l t)[n]? = some o → o.w = true → J t (n + 1) w
  row : ∀ t w, J t (opsAt l t).length w → J (t + 1) 0 w
theorem srcs_get {l : List Tx} {t : Nat} (ht : t < l.length) : ∃ ht' : t < (sourcesS l).length, (sourcesS l)[t] = (List.range (opsAt l t).length).map (srcS l t) := by
  have hl : (sourcesS l).length = l.length := by unfold sourcesS; rw [List.length_map, List.length_range]
  refine ⟨by omega, ?_⟩
  unfold sourcesS
  rw [List.getElem_map, List.getElem_range]
/-- the sources of reads, where they lie -/
def SrcAt (l : List Tx) (w : World) (sa : Option Addr) : Prop := ∀ t n o, (opsAt l t)[n]? = some o → ∃ b1 o1 ra rn rc b2 o2, sa = some ⟨b1, o1, none⟩ ∧ b1 < w.heap.size ∧ w.cell? ⟨b1, o1 + t, none⟩ = some (.slice ra rn rc) ∧ rn = (opsAt l t).length ∧
  ra = some ⟨b2, o2, none⟩ ∧ b2 < w.heap.size ∧ w.cell? ⟨b2, o2 + n, none⟩ = some (.int .i64 (srcS l t n))
theorem SrcAt.of {l : List Tx} {w : World} {sa : Option Addr} {sn sc : Nat} (h : Rows2 w (.slice sa sn sc) (sourcesS l)) : SrcAt l w sa := by
  intro t n o ho
  have ht := opsAt_lt ho
  have hn := (List.getElem?_eq_some_iff.1 ho).1
  obtain ⟨ht', he⟩ := srcs_get ht
  obtain ⟨b1, o1, ra, rc, h1, h2, h3, h4⟩ := h.get t ht'
  rw [he] at h3 h4
  have hrl : (List.map (srcS l t) (List.range (opsAt l t).length)).length = (opsAt l t).length := by rw [List.length_map, List.length_range]
  rw [hrl] at h3 h4
  obtain ⟨b2, o2, c2, g1, g2, g3⟩ := h4.opened (by rw [ints_len, hrl]; omega)
  simp only [Value.slice.injEq] at g1
  obtain ⟨rfl, -, -⟩ := g1
  exact ⟨b1, o1, _, _, rc, b2, o2, h1, h2, h3, rfl, rfl, g2, g3 n _ (by unfold ints; rw [List.getElem?_map, List.getElem?_map, List.getElem?_range hn]; rfl)⟩
set_option maxRecDepth 100000 in
set_option maxHeartbeats 8000000 in
theorem eachA_any (ta sa : Option Addr) (tc sc cm : Nat) (l : List Tx) (P1 P2 M : Nat) (J : Nat → Nat → World → Prop) (hf : Fine l) (hJ : Reads l J) (wt : World) (hv : Txs wt (.slice ta l.length tc) l) (hs : Rows2 wt (.slice sa l.length sc) (sourcesS l))
    (hr : ∀ t n o w, Below wt.heap.size wt w → M < w.heap.size → J t n w → (opsAt l t)[n]? = some o → o.w = false → Calls Tryz.prog 94 #[.int .i64 (t : Int), .int .i64 (n : Int), .int .i64 (srcS l t n), .pointer (some ⟨P1, 0, none⟩), .pointer (some ⟨P2, 0, none⟩)] w fun e w' => (∃ v, e = .returned v) ∧ J t (n + 1) w' ∧ Only (fun b => b = M) w w')
    (w : World) (hB : Below wt.heap.size wt w) (hMt : wt.heap.size ≤ M) (hM : M < w.heap.size) (h0 : J 0 0 w) :
    Calls Tryz.prog 64 #[.agg #[.slice ta l.length tc, .slice sa l.length sc, .int .u32 (cm : Int)], .func (.func 94) #[] #[.pointer (some ⟨P1, 0, none⟩), .pointer (some ⟨P2, 0, none⟩)]] w fun e w' => (∃ v, e = .returned v) ∧ J l.length 0 w' ∧ Only (fun b => b = M) w w' := by
  have HJ := Lib.hid hJ
  have HR := Lib.hid hr
  have HF := Lib.hid hf
  have HV := Lib.hid hv
  have HS := Lib.hid (SrcAt.of hs)
  have HMT := Lib.hid hMt
  have hl6 := hf.six
  have hba : Below w.heap.size w (w.alloc (.cells #[.slice ta l.length tc, .slice sa l.length sc, .int .u32 (cm : Int)] 90)) := (Below.refl _ w).alloc (Nat.le_refl _) _
  have HJ0 := Lib.hid (hJ.below 0 0 _ _ h0 hba)
  have HA0 := Lib.hid (At.new w #[.slice ta l.length tc, .slice sa l.length sc, .int .u32 (cm : Int)] 90)
  have HB0 := Lib.hid (hB.trans (hba.mono hB.size))
  have HO0 : Hid (Only (fun b => b = M) w (w.alloc (.cells #[.slice ta l.length tc, .slice sa l.length sc, .int .u32 (cm : Int)] 90))) := (Only.refl _ w).alloc _
  have HMW := Lib.hid hM
  have HNM : Hid (w.heap.size ≠ M) := by unfold Hid; omega
  clear hf hJ hr h0 hba hv hs hB hMt hM
  go_enter Tryz.func64, Tryz.ntmps64
  go_wp2_with fail
  generalize w.alloc (.cells #[.slice ta l.length tc, .slice sa l.length sc, .int .u32 (cm : Int)] 90) = w2 at *
  obtain ⟨N, hN⟩ : ∃ N, w.heap.size = N := ⟨_, rfl⟩
  rw [hN] at HA0 HNM ⊢
  have HWN := Lib.hid hN
  clear hN
  go_loopw [11] (fun x wr => ∃ t : Nat, t ≤ l.length ∧ x = .int .i64 t ∧ Hid (J t 0 wr) ∧ Hid (At wr N #[.slice ta l.length tc, .slice sa l.length sc, .int .u32 (cm : Int)] 90) ∧ Hid (Below wt.heap.size wt wr) ∧ Hid (Only (fun b => b = M) w wr)) (fun x _ => l.length - (intOf x).toNat)
  case atStart => exact ⟨0, by omega, rfl, HJ0, HA0, HB0, HO0⟩
  case round =>
    clear HJ0 HA0 HB0 HO0
    obtain ⟨t, htl, rfl, HJT, HA, HB, HO⟩ := hrel
    by_cases hlt : t < l.length
    · obtain ⟨tb, tq, tcc, he⟩ := HV.out.opened (by omega)
      simp only [Value.slice.injEq] at he
      obtain ⟨rfl, -, -⟩ := he
      obtain ⟨u, x0, x1, x2, x3, x4, q⟩ := HV.out.get t hlt
      have y0 := (HB.out.cell (p := ⟨tb, tq + t * 5, none⟩) (cell_lt x0)).trans x0
      have y1 := (HB.out.cell (p := ⟨tb, tq + t * 5 + 1, none⟩) (cell_lt x1)).trans x1
      have y2 := (HB.out.cell (p := ⟨tb, tq + t * 5 + 2, none⟩) (cell_lt x2)).trans x2
      have y3 := (HB.out.cell (p := ⟨tb, tq + t * 5 + 3, none⟩) (cell_lt x3)).trans x3
      have y4 := (HB.out.cell (p := ⟨tb, tq + t * 5 + 4, none⟩) (cell_lt x4)).trans x4
      have hbl := cell_lt y0
      have hoe := opsAt_eq hlt
      have hol := (HF.out.ops _ (List.getElem_mem hlt)).1
      have HRW := Lib.hid (fun (W : World) => HJ.out.row t W)
      have HWR := Lib.hid (fun (n : Nat) (W : World) (o : Rwo) => HJ.out.write t n W o)
      have HRD := Lib.hid (fun (n : Nat) (o : Rwo) (W : World) => HR.out t n o W)
      have HST := Lib.hid (fun (n : Nat) (o : Rwo) => HS.out t n o)
      rw [hoe] at HRW HWR HRD HST
      clear x0 x1 x2 x3 x4 hoe
      generalize l[t] = X at *
      obtain ⟨Xn, Xf, Xl, Xs, Xo⟩ := X
      dsimp only at *
      obtain ⟨ua, uc, rfl, huc⟩ := q.len
      have HQ := Lib.hid q
      have hba : Below wr.heap.size wr (wr.alloc (.cells #[.int .i64 Xn, .int .i64 Xf, .int .i64 Xl, .int .i64 Xs, .slice ua Xo.length uc] 64)) := (Below.refl _ wr).alloc (Nat.le_refl _) _
      have HJ1 := Lib.hid (HJ.out.below t 0 _ _ HJT.out hba)
      have HA1 := Lib.hid (HA.out.alloc (.cells #[.int .i64 Xn, .int .i64 Xf, .int .i64 Xl, .int .i64 Xs, .slice ua Xo.length uc] 64))
      have HB1 := Lib.hid (HB.out.trans (hba.mono HB.out.size))
      have HO1 := Lib.hid (HO.out.alloc (.cells #[.int .i64 Xn, .int .i64 Xf, .int .i64 Xl, .int .i64 Xs, .slice ua Xo.length uc] 64))
      clear q hba HJT HA HB HO
      go_wp2_with fail
      generalize wr.alloc (.cells #[.int .i64 Xn, .int .i64 Xf, .int .i64 Xl, .int .i64 Xs, .slice ua Xo.length uc] 64) = w3 at *
      clear y0 y1 y2 y3 y4 hbl
      go_loopw [19] (fun x wr => ∃ n : Nat, n ≤ Xo.length ∧ x = .int .i64 n ∧ Hid (J t n wr) ∧ Hid (At wr N #[.slice (some ⟨tb, tq, none⟩) l.length tc, .slice sa l.length sc, .int .u32 (cm : Int)] 90) ∧ Hid (Below wt.heap.size wt wr) ∧ Hid (Only (fun b => b = M) w wr)) (fun x _ => Xo.length - (intOf x).toNat)
      case atStart => exact ⟨0, by omega, rfl, HJ1, HA1, HB1, HO1⟩
      case round =>
        clear HJ1 HA1 HB1 HO1
        obtain ⟨n, hnl, rfl, HJN, HA, HB, HO⟩ := hrel
        by_cases hltn : n < Xo.length
        · obtain ⟨b, o, rfl, hobl, c0, c1, c2⟩ := Opv.at (HQ.out.below HB.out (Nat.le_refl _)) n hltn
          have hget := List.getElem?_eq_getElem hltn
          have hwr := HWR.out n wr _ HJN.out hget
          have HRN := Lib.hid (fun (W : World) h1 h2 h3 => HRD.out n _ W h1 h2 h3 hget)
          obtain ⟨b1, o1, ra, rn, rc, b2, o2, rfl, hb1, hc1, hrn, rfl, hb2, hc2⟩ := HST.out n _ hget
          have z1 := (HB.out.cell (p := ⟨b1, o1 + t, none⟩) hb1).trans hc1
          have z2 := (HB.out.cell (p := ⟨b2, o2 + n, none⟩) hb2).trans hc2
          have hb1' := cell_lt z1
          have hb2' := cell_lt z2
          have hnrn : n < rn := by omega
          clear hc1 hc2 hb1 hb2 hget hrn
          generalize Xo[n] = O at *
          obtain ⟨ow, ov, ox⟩ := O
          dsimp only at *
          have hba : Below wr.heap.size wr (wr.alloc (.cells #[.bool ow, .int .i64 ov, .int .i64 ox] 82)) := (Below.refl _ wr).alloc (Nat.le_refl _) _
          have HA1 := Lib.hid (HA.out.alloc (.cells #[.bool ow, .int .i64 ov, .int .i64 ox] 82))
          have HB1 := Lib.hid (HB.out.trans (hba.mono HB.out.size))
          have HO1 := Lib.hid (HO.out.alloc (.cells #[.bool ow, .int .i64 ov, .int .i64 ox] 82))
          cases ow with
          | true =>
            have HJ1 := Lib.hid (HJ.out.below t (n + 1) _ _ (hwr rfl) hba)
            clear hwr HRN hba HA HB HO HJN z1 z2
            go_wp2
            go_roundw
            case rel => exact ⟨n + 1, by omega, by go_num, HJ1, HA1, HB1, HO1⟩
            case measure => simp [intOf]; omega
          | false =>
            have HJ1 := Lib.hid (HJ.out.below t n _ _ HJN.out hba)
            have HMO : Hid (M < (wr.alloc (.cells #[.bool false, .int .i64 ov, .int .i64 ox] 82)).heap.size) := Nat.lt_of_lt_of_le HMW.out HO1.out.size
            have HC := Lib.hid (HRN.out _ HB1.out HMO.out HJ1.out rfl)
            have a1 := HA1.out.cell (i := 1) rfl
            have v1 := (hba.cell (p := ⟨b1, o1 + t, none⟩) hb1').trans z1
            have v2 := (hba.cell (p := ⟨b2, o2 + n, none⟩) hb2').trans z2
            clear hwr HRN hba HA HB HO HJN z1 z2 HJ1 HMO hb1' hb2'
            generalize srcS l t n = sv at *
            go_wp2_with fail
            refine HC.out.mono ?_
            rintro e w5 ⟨⟨rv, rfl⟩, hj5, ho5⟩
            have HJ5 := Lib.hid hj5
            have HA5 := Lib.hid (HA1.out.only ho5 HNM.out)
            have HB5 := Lib.hid (HB1.out.trans (ho5.below HB1.out.size (fun k _ hk => by rw [hk]; exact HMT.out)))
            have HO5 := Lib.hid (HO1.out.trans ho5 (fun _ _ h => h))
            clear hj5 ho5 HA1 HB1 HO1 HC a1 v1 v2
            go_wp2
            go_roundw
            case rel => exact ⟨n + 1, by omega, by go_num, HJ5, HA5, HB5, HO5⟩
            case measure => simp [intOf]; omega
        · obtain rfl : n = Xo.length := by omega
          have HJ2 := Lib.hid (HRW.out _ HJN.out)
          clear HJN
          go_wp2
          go_roundw
          case rel => exact ⟨t + 1, by omega, by go_num, HJ2, HA, HB, HO⟩
          case measure => simp [intOf]; omega
    · obtain rfl : t = l.length := by omega
      go_wp2
      go_end0
      exact ⟨⟨_, rfl⟩, HJT.out, HO.out⟩
set_option maxRecDepth 100000 in
set_option maxHeartbeats 8000000 in
theorem eachB_any (ta sa : Option Addr) (tc sc cm : Nat) (l : List Tx) (P1 P2 P3 M : Nat) (J : Nat → Nat → World → Prop) (hf : Fine l) (hJ : Reads l J) (wt : World) (hv : Txs wt (.slice ta l.length tc) l) (hs : Rows2 wt (.slice sa l.length sc) (sourcesS l))
    (hr : ∀ t n o w, Below wt.heap.size wt w → M < w.heap.size → J t n w → (opsAt l t)[n]? = some o → o.w = false → Calls Tryz.prog 65 #[.int .i64 (t : Int), .int .i64 (n : Int), .int .i64 (srcS l t n), .pointer (some ⟨P1, 0, none⟩), .pointer (some ⟨P2, 0, none⟩), .pointer (some ⟨P3, 0, none⟩)] w fun e w' => (∃ v, e = .returned v) ∧ J t (n + 1) w' ∧ Only (fun b => b = M) w w')
    (w : World) (hB : Below wt.heap.size wt w) (hMt : wt.heap.size ≤ M) (hM : M < w.heap.size) (h0 : J 0 0 w) :
    Calls Tryz.prog 64 #[.agg #[.slice ta l.length tc, .slice sa l.length sc, .int .u32 (cm : Int)], .func (.func 65) #[] #[.pointer (some ⟨P1, 0, none⟩), .pointer (some ⟨P2, 0, none⟩), .pointer (some ⟨P3, 0, none⟩)]] w fun e w' => (∃ v, e = .returned v) ∧ J l.length 0 w' ∧ Only (fun b => b = M) w w' := by
  have HJ := Lib.hid hJ
  have HR := Lib.hid hr
  have HF := Lib.hid hf
  have HV := Lib.hid hv
  have HS := Lib.hid (SrcAt.of hs)
  have HMT := Lib.hid hMt
  have hl6 := hf.six
  have hba : Below w.heap.size w (w.alloc (.cells #[.slice ta l.length tc, .slice sa l.length sc, .int .u32 (cm : Int)] 90)) := (Below.refl _ w).alloc (Nat.le_refl _) _
  have HJ0 := Lib.hid (hJ.below 0 0 _ _ h0 hba)
  have HA0 := Lib.hid (At.new w #[.slice ta l.length tc, .slice sa l.length sc, .int .u32 (cm : Int)] 90)
  have HB0 := Lib.hid (hB.trans (hba.mono hB.size))
  have HO0 : Hid (Only (fun b => b = M) w (w.alloc (.cells #[.slice ta l.length tc, .slice sa l.length sc, .int .u32 (cm : Int)] 90))) := (Only.refl _ w).alloc _
  have HMW := Lib.hid hM
  have HNM : Hid (w.heap.size ≠ M) := by unfold Hid; omega
  clear hf hJ hr h0 hba hv hs hB hMt hM
  go_enter Tryz.func64, Tryz.ntmps64
  go_wp2_with fail
  generalize w.alloc (.cells #[.slice ta l.length tc, .slice sa l.length sc, .int .u32 (cm : Int)] 90) = w2 at *
  obtain ⟨N, hN⟩ : ∃ N, w.heap.size = N := ⟨_, rfl⟩
  rw [hN] at HA0 HNM ⊢
  have HWN := Lib.hid hN
  clear hN
  go_loopw [11] (fun x wr => ∃ t : Nat, t ≤ l.length ∧ x = .int .i64 t ∧ Hid (J t 0 wr) ∧ Hid (At wr N #[.slice ta l.length tc, .slice sa l.length sc, .int .u32 (cm : Int)] 90) ∧ Hid (Below wt.heap.size wt wr) ∧ Hid (Only (fun b => b = M) w wr)) (fun x _ => l.length - (intOf x).toNat)
  case atStart => exact ⟨0, by omega, rfl, HJ0, HA0, HB0, HO0⟩
  case round =>
    clear HJ0 HA0 HB0 HO0
    obtain ⟨t, htl, rfl, HJT, HA, HB, HO⟩ := hrel
    by_cases hlt : t < l.length
    · obtain ⟨tb, tq, tcc, he⟩ := HV.out.opened (by omega)
      simp only [Value.slice.injEq] at he
      obtain ⟨rfl, -, -⟩ := he
      obtain ⟨u, x0, x1, x2, x3, x4, q⟩ := HV.out.get t hlt
      have y0 := (HB.out.cell (p := ⟨tb, tq + t * 5, none⟩) (cell_lt x0)).trans x0
      have y1 := (HB.out.cell (p := ⟨tb, tq + t * 5 + 1, none⟩) (cell_lt x1)).trans x1
      have y2 := (HB.out.cell (p := ⟨tb, tq + t * 5 + 2, none⟩) (cell_lt x2)).trans x2
      have y3 := (HB.out.cell (p := ⟨tb, tq + t * 5 + 3, none⟩) (cell_lt x3)).trans x3
      have y4 := (HB.out.cell (p := ⟨tb, tq + t * 5 + 4, none⟩) (cell_lt x4)).trans x4
      have hbl := cell_lt y0
      have hoe := opsAt_eq hlt
      have hol := (HF.out.ops _ (List.getElem_mem hlt)).1
      have HRW := Lib.hid (fun (W : World) => HJ.out.row t W)
      have HWR := Lib.hid (fun (n : Nat) (W : World) (o : Rwo) => HJ.out.write t n W o)
      have HRD := Lib.hid (fun (n : Nat) (o : Rwo) (W : World) => HR.out t n o W)
      have HST := Lib.hid (fun (n : Nat) (o : Rwo) => HS.out t n o)
      rw [hoe] at HRW HWR HRD HST
      clear x0 x1 x2 x3 x4 hoe
      generalize l[t] = X at *
      obtain ⟨Xn, Xf, Xl, Xs, Xo⟩ := X
      dsimp only at *
      obtain ⟨ua, uc, rfl, huc⟩ := q.len
      have HQ := Lib.hid q
      have hba : Below wr.heap.size wr (wr.alloc (.cells #[.int .i64 Xn, .int .i64 Xf, .int .i64 Xl, .int .i64 Xs, .slice ua Xo.length uc] 64)) := (Below.refl _ wr).alloc (Nat.le_refl _) _
      have HJ1 := Lib.hid (HJ.out.below t 0 _ _ HJT.out hba)
      have HA1 := Lib.hid (HA.out.alloc (.cells #[.int .i64 Xn, .int .i64 Xf, .int .i64 Xl, .int .i64 Xs, .slice ua Xo.length uc] 64))
      have HB1 := Lib.hid (HB.out.trans (hba.mono HB.out.size))
      have HO1 := Lib.hid (HO.out.alloc (.cells #[.int .i64 Xn, .int .i64 Xf, .int .i64 Xl, .int .i64 Xs, .slice ua Xo.length uc] 64))
      clear q hba HJT HA HB HO
      go_wp2_with fail
      generalize wr.alloc (.cells #[.int .i64 Xn, .int .i64 Xf, .int .i64 Xl, .int .i64 Xs, .slice ua Xo.length uc] 64) = w3 at *
      clear y0 y1 y2 y3 y4 hbl
      go_loopw [19] (fun x wr => ∃ n : Nat, n ≤ Xo.length ∧ x = .int .i64 n ∧ Hid (J t n wr) ∧ Hid (At wr N #[.slice (some ⟨tb, tq, none⟩) l.length tc, .slice sa l.length sc, .int .u32 (cm : Int)] 90) ∧ Hid (Below wt.heap.size wt wr) ∧ Hid (Only (fun b => b = M) w wr)) (fun x _ => Xo.length - (intOf x).toNat)
      case atStart => exact ⟨0, by omega, rfl, HJ1, HA1, HB1, HO1⟩
      case round =>
        clear HJ1 HA1 HB1 HO1
        obtain ⟨n, hnl, rfl, HJN, HA, HB, HO⟩ := hrel
        by_cases hltn : n < Xo.length
        · obtain ⟨b, o, rfl, hobl, c0, c1, c2⟩ := Opv.at (HQ.out.below HB.out (Nat.le_refl _)) n hltn
          have hget := List.getElem?_eq_getElem hltn
          have hwr := HWR.out n wr _ HJN.out hget
          have HRN := Lib.hid (fun (W : World) h1 h2 h3 => HRD.out n _ W h1 h2 h3 hget)
          obtain ⟨b1, o1, ra, rn, rc, b2, o2, rfl, hb1, hc1, hrn, rfl, hb2, hc2⟩ := HST.out n _ hget
          have z1 := (HB.out.cell (p := ⟨b1, o1 + t, none⟩) hb1).trans hc1
          have z2 := (HB.out.cell (p := ⟨b2, o2 + n, none⟩) hb2).trans hc2
          have hb1' := cell_lt z1
          have hb2' := cell_lt z2
          have hnrn : n < rn := by omega
          clear hc1 hc2 hb1 hb2 hget hrn
          generalize Xo[n] = O at *
          obtain ⟨ow, ov, ox⟩ := O
          dsimp only at *
          have hba : Below wr.heap.size wr (wr.alloc (.cells #[.bool ow, .int .i64 ov, .int .i64 ox] 82)) := (Below.refl _ wr).alloc (Nat.le_refl _) _
          have HA1 := Lib.hid (HA.out.alloc (.cells #[.bool ow, .int .i64 ov, .int .i64 ox] 82))
          have HB1 := Lib.hid (HB.out.trans (hba.mono HB.out.size))
          have HO1 := Lib.hid (HO.out.alloc (.cells #[.bool ow, .int .i64 ov, .int .i64 ox] 82))
          cases ow with
          | true =>
            have HJ1 := Lib.hid (HJ.out.below t (n + 1) _ _ (hwr rfl) hba)
            clear hwr HRN hba HA HB HO HJN z1 z2
            go_wp2
            go_roundw
            case rel => exact ⟨n + 1, by omega, by go_num, HJ1, HA1, HB1, HO1⟩
            case measure => simp [intOf]; omega
          | false =>
            have HJ1 := Lib.hid (HJ.out.below t n _ _ HJN.out hba)
            have HMO : Hid (M < (wr.alloc (.cells #[.bool false, .int .i64 ov, .int .i64 ox] 82)).heap.size) := Nat.lt_of_lt_of_le HMW.out HO1.out.size
            have HC := Lib.hid (HRN.out _ HB1.out HMO.out HJ1.out rfl)
            have a1 := HA1.out.cell (i := 1) rfl
            have v1 := (hba.cell (p := ⟨b1, o1 + t, none⟩) hb1').trans z1
            have v2 := (hba.cell (p := ⟨b2, o2 + n, none⟩) hb2').trans z2
            clear hwr HRN hba HA HB HO HJN z1 z2 HJ1 HMO hb1' hb2'
            generalize srcS l t n = sv at *
            go_wp2_with fail
            refine HC.out.mono ?_
            rintro e w5 ⟨⟨rv, rfl⟩, hj5, ho5⟩
            have HJ5 := Lib.hid hj5
            have HA5 := Lib.hid (HA1.out.only ho5 HNM.out)
            have HB5 := Lib.hid (HB1.out.trans (ho5.below HB1.out.size (fun k _ hk => by rw [hk]; exact HMT.out)))
            have HO5 := Lib.hid (HO1.out.trans ho5 (fun _ _ h => h))
            clear hj5 ho5 HA1 HB1 HO1 HC a1 v1 v2
            go_wp2
            go_roundw
            case rel => exact ⟨n + 1, by omega, by go_num, HJ5, HA5, HB5, HO5⟩
            case measure => simp [intOf]; omega
        · obtain rfl : n = Xo.length := by omega
          have HJ2 := Lib.hid (HRW.out _ HJN.out)
          clear HJN
          go_wp2
          go_roundw
          case rel => exact ⟨t + 1, by omega, by go_num, HJ2, HA, HB, HO⟩
          case measure => simp [intOf]; omega
    · obtain rfl : t = l.length := by omega
      go_wp2
      go_end0
      exact ⟨⟨_, rfl⟩, HJT.out, HO.out⟩
end Go.Proofs.YtmnblljenobofaaGreatDoor
