/- The walks of package legal's Legal, Memory and Own. -/
import Derived.Test.YtceipdmplnlogaaDoorLegD
namespace Go.Proofs.YtceipdmplnlogaaDoor.WPlain
end Go.Proofs.YtceipdmplnlogaaDoor.WPlain
namespace Go.Proofs.YtceipdmplnlogaaDoor.QPlain
end Go.Proofs.YtceipdmplnlogaaDoor.QPlain
namespace Go.Proofs.YtceipdmplnlogaaDoor.RPlain
end Go.Proofs.YtceipdmplnlogaaDoor.RPlain
namespace Go.Proofs.YtceipdmplnlogaaDoor.RPlain
open WPlain QPlain

def natsR (row : List Int) : List Nat := row.map Int.toNat
theorem natsR_cast (rn : List Nat) : natsR (rn.map (fun x : Nat => (x : Int))) = rn := by
  unfold natsR
  rw [List.map_map]
  exact (List.map_congr_left (fun x _ => by simp)).trans (List.map_id _)
/-- what Legal answers; the memory that Memory does -/
def legR (h : List Ev) (row : List Int) (n : Nat) : Nat := if errL h row = 0 then legalS (tableS h) n (natsR row) else 0
def memR (h : List Ev) (row : List Int) (n : Nat) : Int → Int := behindS (tableS h) n zeroM (natsR row)
def mem8 (M : Int → Int) : List Int := [M 0, M 1, M 2, M 3, M 4, M 5, M 6, M 7]
theorem legR_le (h : List Ev) (row : List Int) (n : Nat) : legR h row n ≤ row.length := by
  unfold legR
  split
  · have := legal_le (tableS h) n (natsR row) zeroM
    unfold legalS
    simpa [natsR] using this
  · omega
end Go.Proofs.YtceipdmplnlogaaDoor.RPlain
namespace Go.Proofs.YtceipdmplnlogaaDoor
open Go.RowKit WPlain QPlain RPlain

theorem ops_table {h : List Ev} (h0 : (checkS h).2 = 0) : ∀ i (hi : i < (tableS h).length), okOps (tableS h)[i].o ∧ (tableS h)[i].o.length ≤ 60 := fun _ hi => table_ops h0 _ (List.getElem_mem hi)
set_option maxRecDepth 100000 in
set_option maxHeartbeats 2000000 in
theorem legal_any (v rv : Value) (h : List Ev) (row : List Int) (n : Nat) (w : World) (hK : HasK w) (hv : Evs w v h) (hl : h.length ≤ 65536) (hr : Rd w rv (ints row)) (hrl : row.length ≤ 65536) (hn : n < 4294967296) :
    Calls Tryd.prog 7 #[v, rv, .int .u32 (n : Int)] w fun e w' => e = .returned (.tuple #[.int .i64 ((legR h row n : Nat) : Int), .int .i64 ((errL h row : Nat) : Int)]) ∧ Below w.heap.size w w' := by
  have HT := Lib.hid (tableOf_any v rv h row w hK hv hl hr hrl)
  have HR := Lib.hid hr
  unfold legR
  by_cases h0 : errL h row = 0
  · obtain ⟨rn, rfl, hrn, hnd, h66⟩ := errL_nil h0
    obtain ⟨hc0, -, -⟩ := errL_zero h0
    have HOK := Lib.hid (ops_table hc0)
    have h6 := table_six hc0
    rw [h0] at HT ⊢
    simp only [if_true] at HT ⊢
    rw [natsR_cast]
    clear h0 hc0 hnd hK hv hr hrl
    generalize tableS h = l at *
    have HLT : Hid (∀ b ∈ rn, b < l.length) := hrn
    have HNX := Lib.hid (fun (k : Nat) (hk : k < rn.length) h1 h2 => legal_next (l := l) (c := n) (M := zeroM) hk h1 h2)
    have HNO := Lib.hid (fun (k : Nat) (hk : k < rn.length) h1 h2 => legal_stop (l := l) (c := n) (M := zeroM) hk h1 h2)
    obtain ⟨res, hres⟩ : ∃ res, legalS l n rn = res := ⟨_, rfl⟩
    rw [hres]
    have HRES : Hid (legalG l n zeroM rn = res) := hres
    clear hres hrn
    obtain ⟨ra, rc, rfl⟩ := HR.out.len
    have hil : (ints (rn.map (fun x : Nat => (x : Int)))).length = rn.length := by simp [ints]
    rw [hil] at HR HT ⊢
    clear hil
    go_enter Tryd.func7, Tryd.ntmps7
    go_wp2_with fail
    refine HT.out.mono ?_
    rintro e w1 ⟨v1, rfl, hv1, hb1⟩
    have HV1 := Lib.hid hv1
    have HB1 := Lib.hid hb1
    obtain ⟨a1, c1, rfl⟩ := hv1.len
    clear hv1 hb1 HT
    have HA0 := Lib.hid (At.new w1 (memC zeroM) 63)
    have HB0 := Lib.hid ((Below.refl w1.heap.size w1).alloc (Nat.le_refl _) (.cells (memC zeroM) 63))
    have hz0 : memC zeroM = #[.int .i64 0, .int .i64 0, .int .i64 0, .int .i64 0, .int .i64 0, .int .i64 0, .int .i64 0, .int .i64 0] := rfl
    rw [hz0] at HA0 HB0
    clear hz0
    go_wp2_with fail
    go_loopw [25] (fun x wr => ∃ k : Nat, k ≤ rn.length ∧ x = .int .i64 k ∧ Hid (legalG l n zeroM (rn.take k) = k) ∧ Hid (At wr w1.heap.size (memC (behindS l n zeroM (rn.take k))) 63) ∧ Hid (Below w1.heap.size w1 wr)) (fun x _ => rn.length - (intOf x).toNat)
    case atStart => exact ⟨0, by omega, rfl, rfl, HA0, HB0⟩
    case round =>
      clear HA0 HB0
      obtain ⟨k, hk, rfl, HG, HA, HB⟩ := hrel
      by_cases hlt : k < rn.length
      · obtain ⟨b, o, c', he, hbl, hcs⟩ := (HR.out.below (HB1.out.trans (HB.out.mono HB1.out.size)) (Nat.le_refl _)).opened (by simp [ints]; omega)
        simp only [Value.slice.injEq] at he
        obtain ⟨rfl, -, rfl⟩ := he
        have hck := hcs k _ (ints_castL rn k hlt)
        have hpl := HLT.out _ (List.getElem_mem hlt)
        have HT2 := Lib.hid (HV1.out.below HB.out (Nat.le_refl _))
        obtain ⟨b2, o2, c2, he2⟩ := HT2.out.opened (by omega)
        simp only [Value.slice.injEq] at he2
        obtain ⟨rfl, -, rfl⟩ := he2
        obtain ⟨ov, x0, x1, x2, x3, x4, q⟩ := HT2.out.get rn[k] hpl
        obtain ⟨ua, uc, rfl, -⟩ := q.len
        obtain ⟨hok, hol⟩ := HOK.out _ hpl
        have HBT := Lib.hid (behind_take (l := l) (c := n) (M := zeroM) hlt)
        have hao : opsAt l rn[k] = l[rn[k]].o := opsAtL_get hpl
        have HNX2 := Lib.hid (HNX.out k hlt HG.out)
        have HNO2 := Lib.hid (HNO.out k hlt HG.out)
        have hle := own_le l[rn[k]].o (behindS l n zeroM (rn.take k))
        rw [hao] at HNX2 HNO2
        have HFW := Lib.hid (fun (W : World) (hW : Below wr.heap.size wr W) => firstWrong_any _ l[rn[k]].o (behindS l n zeroM (rn.take k)) W (q.below hW (Nat.le_refl _)) hok (by omega))
        have HLF := Lib.hid (fun (W : World) (hT : Txs W (.slice (some ⟨b2, o2, none⟩) l.length c1) l) => left_any _ l (behindS l n zeroM (rn.take k)) rn[k] n W hT hpl h6 hn hok (by omega))
        clear hao q hok
        generalize l[rn[k]].o = ops at *
        generalize rn[k] = p at *
        generalize behindS l n zeroM (rn.take k) = MM at *
        obtain ⟨M3, hM3⟩ : ∃ M3, stepM l n MM p = M3 := ⟨_, rfl⟩
        rw [hM3] at HBT HLF
        clear hM3 x0 x1 x2 x3 hcs
        unfold memC at HFW HLF
        generalize ownS MM ops = ow at *
        by_cases how : ow = ops.length
        · have HG2 := Lib.hid (HNX2.out how)
          subst how
          clear HNX2 HNO2 hle
          have m0 := HA.out.cell (i := 0) (v := .int .i64 (MM 0)) rfl
          have m1 := HA.out.cell (i := 1) (v := .int .i64 (MM 1)) rfl
          have m2 := HA.out.cell (i := 2) (v := .int .i64 (MM 2)) rfl
          have m3 := HA.out.cell (i := 3) (v := .int .i64 (MM 3)) rfl
          have m4 := HA.out.cell (i := 4) (v := .int .i64 (MM 4)) rfl
          have m5 := HA.out.cell (i := 5) (v := .int .i64 (MM 5)) rfl
          have m6 := HA.out.cell (i := 6) (v := .int .i64 (MM 6)) rfl
          have m7 := HA.out.cell (i := 7) (v := .int .i64 (MM 7)) rfl
          go_wp2_with (first | (go_at_call 26; refine (HFW.out _ (Below.refl _ _)).mono ?_; rintro e w3 ⟨rfl, hb3⟩; have HA3 := Lib.hid (HA.out.below hb3 HA.out.lt); have HB3 := Lib.hid (HB.out.trans (hb3.mono HB.out.size)); have HT3 := Lib.hid (HT2.out.below hb3 (Nat.le_refl _)); have y4 := (hb3.cell (p := ⟨b2, o2 + p * 5 + 4, none⟩) (cell_lt x4)).trans x4; have n0 := HA3.out.cell (i := 0) (v := .int .i64 (MM 0)) rfl; have n1 := HA3.out.cell (i := 1) (v := .int .i64 (MM 1)) rfl; have n2 := HA3.out.cell (i := 2) (v := .int .i64 (MM 2)) rfl; have n3 := HA3.out.cell (i := 3) (v := .int .i64 (MM 3)) rfl; have n4 := HA3.out.cell (i := 4) (v := .int .i64 (MM 4)) rfl; have n5 := HA3.out.cell (i := 5) (v := .int .i64 (MM 5)) rfl; have n6 := HA3.out.cell (i := 6) (v := .int .i64 (MM 6)) rfl; have n7 := HA3.out.cell (i := 7) (v := .int .i64 (MM 7)) rfl; clear hb3) | (go_at_call 27; refine (HLF.out _ HT3.out).mono ?_; rintro e w4 ⟨rfl, hb4⟩; have HA4 := Lib.hid (HA3.out.below hb4 HA3.out.lt); have HB4 := Lib.hid (HB3.out.trans (hb4.mono HB3.out.size)); have k0 := HA4.out.cell (i := 0) (v := .int .i64 (MM 0)) rfl; have k1 := HA4.out.cell (i := 1) (v := .int .i64 (MM 1)) rfl; have k2 := HA4.out.cell (i := 2) (v := .int .i64 (MM 2)) rfl; have k3 := HA4.out.cell (i := 3) (v := .int .i64 (MM 3)) rfl; have k4 := HA4.out.cell (i := 4) (v := .int .i64 (MM 4)) rfl; have k5 := HA4.out.cell (i := 5) (v := .int .i64 (MM 5)) rfl; have k6 := HA4.out.cell (i := 6) (v := .int .i64 (MM 6)) rfl; have k7 := HA4.out.cell (i := 7) (v := .int .i64 (MM 7)) rfl; have f0 := HA4.out.free 0; have f1 := HA4.out.free 1; have f2 := HA4.out.free 2; have f3 := HA4.out.free 3; have f4 := HA4.out.free 4; have f5 := HA4.out.free 5; have f6 := HA4.out.free 6; have f7 := HA4.out.free 7; clear hb4))
          have HA5 : Hid (At ((((((((w4.setCell ⟨w1.heap.size, 0, none⟩ (.int .i64 (M3 0))).setCell ⟨w1.heap.size, 1, none⟩ (.int .i64 (M3 1))).setCell ⟨w1.heap.size, 2, none⟩ (.int .i64 (M3 2))).setCell ⟨w1.heap.size, 3, none⟩ (.int .i64 (M3 3))).setCell ⟨w1.heap.size, 4, none⟩ (.int .i64 (M3 4))).setCell ⟨w1.heap.size, 5, none⟩ (.int .i64 (M3 5))).setCell ⟨w1.heap.size, 6, none⟩ (.int .i64 (M3 6))).setCell ⟨w1.heap.size, 7, none⟩ (.int .i64 (M3 7))) w1.heap.size (memC (behindS l n zeroM (rn.take (k + 1)))) 63) := by rw [HBT.out, ← memC_set MM M3]; exact ((((((((HA4.out.set 0 (.int .i64 (M3 0))).set 1 (.int .i64 (M3 1))).set 2 (.int .i64 (M3 2))).set 3 (.int .i64 (M3 3))).set 4 (.int .i64 (M3 4))).set 5 (.int .i64 (M3 5))).set 6 (.int .i64 (M3 6))).set 7 (.int .i64 (M3 7)))
          have HB5 : Hid (Below w1.heap.size w1 ((((((((w4.setCell ⟨w1.heap.size, 0, none⟩ (.int .i64 (M3 0))).setCell ⟨w1.heap.size, 1, none⟩ (.int .i64 (M3 1))).setCell ⟨w1.heap.size, 2, none⟩ (.int .i64 (M3 2))).setCell ⟨w1.heap.size, 3, none⟩ (.int .i64 (M3 3))).setCell ⟨w1.heap.size, 4, none⟩ (.int .i64 (M3 4))).setCell ⟨w1.heap.size, 5, none⟩ (.int .i64 (M3 5))).setCell ⟨w1.heap.size, 6, none⟩ (.int .i64 (M3 6))).setCell ⟨w1.heap.size, 7, none⟩ (.int .i64 (M3 7)))) := ((((((((HB4.out.setCell (p := ⟨w1.heap.size, 0, none⟩) (Nat.le_refl _) (.int .i64 (M3 0))).setCell (p := ⟨w1.heap.size, 1, none⟩) (Nat.le_refl _) (.int .i64 (M3 1))).setCell (p := ⟨w1.heap.size, 2, none⟩) (Nat.le_refl _) (.int .i64 (M3 2))).setCell (p := ⟨w1.heap.size, 3, none⟩) (Nat.le_refl _) (.int .i64 (M3 3))).setCell (p := ⟨w1.heap.size, 4, none⟩) (Nat.le_refl _) (.int .i64 (M3 4))).setCell (p := ⟨w1.heap.size, 5, none⟩) (Nat.le_refl _) (.int .i64 (M3 5))).setCell (p := ⟨w1.heap.size, 6, none⟩) (Nat.le_refl _) (.int .i64 (M3 6))).setCell (p := ⟨w1.heap.size, 7, none⟩) (Nat.le_refl _) (.int .i64 (M3 7)))
          go_roundw
          case rel => exact ⟨k + 1, by omega, by go_num, HG2.out, HA5.out, HB5.out⟩
          case measure => simp [intOf]; omega
        · have hres := HNO2.out how
          rw [HRES.out] at hres
          subst hres
          have how2 : ow < ops.length := by omega
          clear HNX2 HNO2 hle how HBT HLF
          have m0 := HA.out.cell (i := 0) (v := .int .i64 (MM 0)) rfl
          have m1 := HA.out.cell (i := 1) (v := .int .i64 (MM 1)) rfl
          have m2 := HA.out.cell (i := 2) (v := .int .i64 (MM 2)) rfl
          have m3 := HA.out.cell (i := 3) (v := .int .i64 (MM 3)) rfl
          have m4 := HA.out.cell (i := 4) (v := .int .i64 (MM 4)) rfl
          have m5 := HA.out.cell (i := 5) (v := .int .i64 (MM 5)) rfl
          have m6 := HA.out.cell (i := 6) (v := .int .i64 (MM 6)) rfl
          have m7 := HA.out.cell (i := 7) (v := .int .i64 (MM 7)) rfl
          go_wp2_with (go_at_call 26; refine (HFW.out _ (Below.refl _ _)).mono ?_; rintro e w3 ⟨rfl, hb3⟩; have HA3 := Lib.hid (HA.out.below hb3 HA.out.lt); have HB3 := Lib.hid (HB.out.trans (hb3.mono HB.out.size)); have HT3 := Lib.hid (HT2.out.below hb3 (Nat.le_refl _)); have y4 := (hb3.cell (p := ⟨b2, o2 + p * 5 + 4, none⟩) (cell_lt x4)).trans x4; have n0 := HA3.out.cell (i := 0) (v := .int .i64 (MM 0)) rfl; have n1 := HA3.out.cell (i := 1) (v := .int .i64 (MM 1)) rfl; have n2 := HA3.out.cell (i := 2) (v := .int .i64 (MM 2)) rfl; have n3 := HA3.out.cell (i := 3) (v := .int .i64 (MM 3)) rfl; have n4 := HA3.out.cell (i := 4) (v := .int .i64 (MM 4)) rfl; have n5 := HA3.out.cell (i := 5) (v := .int .i64 (MM 5)) rfl; have n6 := HA3.out.cell (i := 6) (v := .int .i64 (MM 6)) rfl; have n7 := HA3.out.cell (i := 7) (v := .int .i64 (MM 7)) rfl; clear hb3)
          refine bodyPost_ret (v := .tuple #[.int .i64 (res : Int), .int .i64 0]) (by simp [results, Tryd.results7, go_sem]) rfl ⟨rfl, HB1.out.trans (HB3.out.mono HB1.out.size)⟩
      · obtain rfl : k = rn.length := by omega
        have hres : rn.length = res := by have := HG.out; rw [List.take_length, HRES.out] at this; exact this.symm
        subst hres
        go_wp2
        refine bodyPost_ret (v := .tuple #[.int .i64 (rn.length : Int), .int .i64 0]) (by simp [results, Tryd.results7, go_sem]) rfl ⟨rfl, HB1.out.trans (HB.out.mono HB1.out.size)⟩
  · simp only [if_neg h0] at HT ⊢
    obtain ⟨er, her⟩ : ∃ er, errL h row = er := ⟨_, rfl⟩
    rw [her] at HT h0 ⊢
    have te : ((er : Int) != 0) = true := by simp; omega
    clear her hK hv hl hr
    go_enter Tryd.func7, Tryd.ntmps7
    go_wp2_with fail
    refine HT.out.mono ?_
    rintro e w1 ⟨v1, rfl, hv1, hb1⟩
    obtain ⟨a1, c1, rfl⟩ := hv1.len
    go_wp2
    refine bodyPost_ret (v := .tuple #[.int .i64 0, .int .i64 er]) (by simp [results, Tryd.results7, go_sem]) rfl ⟨rfl, hb1⟩
set_option maxRecDepth 100000 in
set_option maxHeartbeats 2000000 in
theorem memory_any (v rv : Value) (h : List Ev) (row : List Int) (n : Nat) (w : World) (hK : HasK w) (hv : Evs w v h) (hl : h.length ≤ 65536) (hr : Rd w rv (ints row)) (hrl : row.length ≤ 65536) (hn : n < 4294967296) :
    Calls Tryd.prog 8 #[v, rv, .int .u32 (n : Int)] w fun e w' => ∃ v', e = .returned (.tuple #[v', .int .i64 ((errL h row : Nat) : Int)]) ∧ Rd w' v' (if errL h row = 0 then ints (mem8 (memR h row n)) else []) ∧ Below w.heap.size w w' := by
  have HT := Lib.hid (tableOf_any v rv h row w hK hv hl hr hrl)
  have HR := Lib.hid hr
  unfold memR
  by_cases h0 : errL h row = 0
  · obtain ⟨rn, rfl, hrn, hnd, h66⟩ := errL_nil h0
    obtain ⟨hc0, -, -⟩ := errL_zero h0
    have HOK := Lib.hid (ops_table hc0)
    have h6 := table_six hc0
    rw [h0] at HT ⊢
    simp only [if_true] at HT ⊢
    rw [natsR_cast]
    clear h0 hc0 hnd hK hv hr hrl
    generalize tableS h = l at *
    have HLT : Hid (∀ b ∈ rn, b < l.length) := hrn
    clear hrn
    obtain ⟨ra, rc, rfl⟩ := HR.out.len
    have hil : (ints (rn.map (fun x : Nat => (x : Int)))).length = rn.length := by simp [ints]
    rw [hil] at HR HT ⊢
    clear hil
    go_enter Tryd.func8, Tryd.ntmps8
    go_wp2_with fail
    refine HT.out.mono ?_
    rintro e w1 ⟨v1, rfl, hv1, hb1⟩
    have HV1 := Lib.hid hv1
    have HB1 := Lib.hid hb1
    obtain ⟨a1, c1, rfl⟩ := hv1.len
    clear hv1 hb1 HT
    have HA0 := Lib.hid (At.new w1 (memC zeroM) 63)
    have HB0 := Lib.hid ((Below.refl w1.heap.size w1).alloc (Nat.le_refl _) (.cells (memC zeroM) 63))
    have hz0 : memC zeroM = #[.int .i64 0, .int .i64 0, .int .i64 0, .int .i64 0, .int .i64 0, .int .i64 0, .int .i64 0, .int .i64 0] := rfl
    rw [hz0] at HA0 HB0
    clear hz0
    go_wp2_with fail
    go_loopw [24] (fun x wr => ∃ k : Nat, k ≤ rn.length ∧ x = .int .i64 k ∧ Hid (At wr w1.heap.size (memC (behindS l n zeroM (rn.take k))) 63) ∧ Hid (Below w1.heap.size w1 wr)) (fun x _ => rn.length - (intOf x).toNat)
    case atStart => exact ⟨0, by omega, rfl, HA0, HB0⟩
    case round =>
      clear HA0 HB0
      obtain ⟨k, hk, rfl, HA, HB⟩ := hrel
      by_cases hlt : k < rn.length
      · obtain ⟨b, o, c', he, hbl, hcs⟩ := (HR.out.below (HB1.out.trans (HB.out.mono HB1.out.size)) (Nat.le_refl _)).opened (by simp [ints]; omega)
        simp only [Value.slice.injEq] at he
        obtain ⟨rfl, -, rfl⟩ := he
        have hck := hcs k _ (ints_castL rn k hlt)
        have hpl := HLT.out _ (List.getElem_mem hlt)
        have HT2 := Lib.hid (HV1.out.below HB.out (Nat.le_refl _))
        obtain ⟨b2, o2, c2, he2⟩ := HT2.out.opened (by omega)
        simp only [Value.slice.injEq] at he2
        obtain ⟨rfl, -, rfl⟩ := he2
        obtain ⟨ov, x0, x1, x2, x3, x4, q⟩ := HT2.out.get rn[k] hpl
        obtain ⟨ua, uc, rfl, -⟩ := q.len
        obtain ⟨hok, hol⟩ := HOK.out _ hpl
        have HBT := Lib.hid (behind_take (l := l) (c := n) (M := zeroM) hlt)
        have HLF := Lib.hid (fun (W : World) (hT : Txs W (.slice (some ⟨b2, o2, none⟩) l.length c1) l) => left_any _ l (behindS l n zeroM (rn.take k)) rn[k] n W hT hpl h6 hn hok (by omega))
        clear q hok
        generalize l[rn[k]].o = ops at *
        generalize rn[k] = p at *
        generalize behindS l n zeroM (rn.take k) = MM at *
        obtain ⟨M3, hM3⟩ : ∃ M3, stepM l n MM p = M3 := ⟨_, rfl⟩
        rw [hM3] at HBT HLF
        clear hM3 x0 x1 x2 x3 hcs
        unfold memC at HLF
        have m0 := HA.out.cell (i := 0) (v := .int .i64 (MM 0)) rfl
        have m1 := HA.out.cell (i := 1) (v := .int .i64 (MM 1)) rfl
        have m2 := HA.out.cell (i := 2) (v := .int .i64 (MM 2)) rfl
        have m3 := HA.out.cell (i := 3) (v := .int .i64 (MM 3)) rfl
        have m4 := HA.out.cell (i := 4) (v := .int .i64 (MM 4)) rfl
        have m5 := HA.out.cell (i := 5) (v := .int .i64 (MM 5)) rfl
        have m6 := HA.out.cell (i := 6) (v := .int .i64 (MM 6)) rfl
        have m7 := HA.out.cell (i := 7) (v := .int .i64 (MM 7)) rfl
        go_wp2_with (go_at_call 27; refine (HLF.out _ HT2.out).mono ?_; rintro e w4 ⟨rfl, hb4⟩; have HA4 := Lib.hid (HA.out.below hb4 HA.out.lt); have HB4 := Lib.hid (HB.out.trans (hb4.mono HB.out.size)); have k0 := HA4.out.cell (i := 0) (v := .int .i64 (MM 0)) rfl; have k1 := HA4.out.cell (i := 1) (v := .int .i64 (MM 1)) rfl; have k2 := HA4.out.cell (i := 2) (v := .int .i64 (MM 2)) rfl; have k3 := HA4.out.cell (i := 3) (v := .int .i64 (MM 3)) rfl; have k4 := HA4.out.cell (i := 4) (v := .int .i64 (MM 4)) rfl; have k5 := HA4.out.cell (i := 5) (v := .int .i64 (MM 5)) rfl; have k6 := HA4.out.cell (i := 6) (v := .int .i64 (MM 6)) rfl; have k7 := HA4.out.cell (i := 7) (v := .int .i64 (MM 7)) rfl; have f0 := HA4.out.free 0; have f1 := HA4.out.free 1; have f2 := HA4.out.free 2; have f3 := HA4.out.free 3; have f4 := HA4.out.free 4; have f5 := HA4.out.free 5; have f6 := HA4.out.free 6; have f7 := HA4.out.free 7; clear hb4)
        have HA5 : Hid (At ((((((((w4.setCell ⟨w1.heap.size, 0, none⟩ (.int .i64 (M3 0))).setCell ⟨w1.heap.size, 1, none⟩ (.int .i64 (M3 1))).setCell ⟨w1.heap.size, 2, none⟩ (.int .i64 (M3 2))).setCell ⟨w1.heap.size, 3, none⟩ (.int .i64 (M3 3))).setCell ⟨w1.heap.size, 4, none⟩ (.int .i64 (M3 4))).setCell ⟨w1.heap.size, 5, none⟩ (.int .i64 (M3 5))).setCell ⟨w1.heap.size, 6, none⟩ (.int .i64 (M3 6))).setCell ⟨w1.heap.size, 7, none⟩ (.int .i64 (M3 7))) w1.heap.size (memC (behindS l n zeroM (rn.take (k + 1)))) 63) := by rw [HBT.out, ← memC_set MM M3]; exact ((((((((HA4.out.set 0 (.int .i64 (M3 0))).set 1 (.int .i64 (M3 1))).set 2 (.int .i64 (M3 2))).set 3 (.int .i64 (M3 3))).set 4 (.int .i64 (M3 4))).set 5 (.int .i64 (M3 5))).set 6 (.int .i64 (M3 6))).set 7 (.int .i64 (M3 7)))
        have HB5 : Hid (Below w1.heap.size w1 ((((((((w4.setCell ⟨w1.heap.size, 0, none⟩ (.int .i64 (M3 0))).setCell ⟨w1.heap.size, 1, none⟩ (.int .i64 (M3 1))).setCell ⟨w1.heap.size, 2, none⟩ (.int .i64 (M3 2))).setCell ⟨w1.heap.size, 3, none⟩ (.int .i64 (M3 3))).setCell ⟨w1.heap.size, 4, none⟩ (.int .i64 (M3 4))).setCell ⟨w1.heap.size, 5, none⟩ (.int .i64 (M3 5))).setCell ⟨w1.heap.size, 6, none⟩ (.int .i64 (M3 6))).setCell ⟨w1.heap.size, 7, none⟩ (.int .i64 (M3 7)))) := ((((((((HB4.out.setCell (p := ⟨w1.heap.size, 0, none⟩) (Nat.le_refl _) (.int .i64 (M3 0))).setCell (p := ⟨w1.heap.size, 1, none⟩) (Nat.le_refl _) (.int .i64 (M3 1))).setCell (p := ⟨w1.heap.size, 2, none⟩) (Nat.le_refl _) (.int .i64 (M3 2))).setCell (p := ⟨w1.heap.size, 3, none⟩) (Nat.le_refl _) (.int .i64 (M3 3))).setCell (p := ⟨w1.heap.size, 4, none⟩) (Nat.le_refl _) (.int .i64 (M3 4))).setCell (p := ⟨w1.heap.size, 5, none⟩) (Nat.le_refl _) (.int .i64 (M3 5))).setCell (p := ⟨w1.heap.size, 6, none⟩) (Nat.le_refl _) (.int .i64 (M3 6))).setCell (p := ⟨w1.heap.size, 7, none⟩) (Nat.le_refl _) (.int .i64 (M3 7)))
        go_roundw
        case rel => exact ⟨k + 1, by omega, by go_num, HA5.out, HB5.out⟩
        case measure => simp [intOf]; omega
      · obtain rfl : k = rn.length := by omega
        have HA9 : Hid (At wr w1.heap.size (ints (mem8 (behindS l n zeroM rn))).toArray 63) := by have := HA.out; rw [List.take_length] at this; exact this
        clear HA
        go_wp2
        refine bodyPost_ret (v := .tuple #[.slice (some ⟨w1.heap.size, 0, none⟩) 8 8, .int .i64 0]) (by simp [results, Tryd.results8, go_sem]) rfl ⟨_, rfl, Rd.of_at 8 HA9.out, HB1.out.trans (HB.out.mono HB1.out.size)⟩
  · simp only [if_neg h0] at HT ⊢
    obtain ⟨er, her⟩ : ∃ er, errL h row = er := ⟨_, rfl⟩
    rw [her] at HT h0 ⊢
    have te : ((er : Int) != 0) = true := by simp; omega
    clear her hK hv hl hr
    go_enter Tryd.func8, Tryd.ntmps8
    go_wp2_with fail
    refine HT.out.mono ?_
    rintro e w1 ⟨v1, rfl, hv1, hb1⟩
    obtain ⟨a1, c1, rfl⟩ := hv1.len
    go_wp2
    refine bodyPost_ret (v := .tuple #[.slice none 0 0, .int .i64 er]) (by simp [results, Tryd.results8, go_sem]) rfl ⟨_, rfl, .inl ⟨rfl, _, _, rfl⟩, hb1⟩
end Go.Proofs.YtceipdmplnlogaaDoor
