/- The walks of the reference's Final, explained and Readable. -/
import Derived.Test.YtmnblljenobofaaGreatDoorMg16
import Derived.Test.YtmnblljenobofaaGreatDoorMg27
import Derived.Test.YtmnblljenobofaaGreatDoorMg13
import Derived.Test.YtmnblljenobofaaGreatDoorMg17
import Derived.Test.YtmnblljenobofaaGreatDoorOrdE
namespace Go.Proofs.YtmnblljenobofaaGreatDoor.WPlain
end Go.Proofs.YtmnblljenobofaaGreatDoor.WPlain
namespace Go.Proofs.YtmnblljenobofaaGreatDoor.QPlain
end Go.Proofs.YtmnblljenobofaaGreatDoor.QPlain
namespace Go.Proofs.YtmnblljenobofaaGreatDoor.RPlain
end Go.Proofs.YtmnblljenobofaaGreatDoor.RPlain
namespace Go.Proofs.YtmnblljenobofaaGreatDoor.RPlain
open WPlain QPlain

theorem fin_take {ops : List Rwo} {k : Nat} (hk : k < ops.length) (v x : Int) : finB (ops.take (k + 1)) v x = if (ops[k].w && decide (ops[k].v = v)) = true then decide (ops[k].x = x) else finB (ops.take k) v x := by
  rw [List.take_succ_eq_append_getElem hk, fin_snoc]
theorem ex_own {l : List Tx} {c t i : Nat} {o : Rwo} (ho : (opsAt l t)[i]? = some o) (hw : o.w = false) (hs : srcS l t i = (t : Int)) : expl1 l c t i = finB ((opsAt l t).take i) o.v o.x := by
  unfold expl1
  rw [ho]
  dsimp only
  rw [if_neg (by rw [hw]; simp), if_pos hs]
theorem ex_neg {l : List Tx} {c t i : Nat} {o : Rwo} (ho : (opsAt l t)[i]? = some o) (hw : o.w = false) (hs : srcS l t i < 0) : expl1 l c t i = decide (srcS l t i = -1) := by
  unfold expl1
  rw [ho]
  dsimp only
  rw [if_neg (by rw [hw]; simp), if_neg (by omega), if_pos hs]
theorem ex_other {l : List Tx} {c t i k : Nat} {o : Rwo} (ho : (opsAt l t)[i]? = some o) (hw : o.w = false) (hs : srcS l t i = (k : Int)) (hk : k ≠ t) : expl1 l c t i = (finB (opsAt l k) o.v o.x && c.testBit k) := by
  unfold expl1
  rw [ho]
  dsimp only
  rw [if_neg (by rw [hw]; simp), if_neg (by omega), if_neg (by omega), hs, Int.toNat_natCast]
theorem src_kind (l : List Tx) {t i : Nat} (ht : t < l.length) : srcS l t i = (t : Int) ∨ srcS l t i < 0 ∨ ∃ k : Nat, k < l.length ∧ k ≠ t ∧ srcS l t i = (k : Int) := by
  have h1 := src_lt (n := i) ht
  rcases (by omega : srcS l t i < 0 ∨ 0 ≤ srcS l t i) with h | h
  · exact .inr (.inl h)
  · by_cases hs : srcS l t i = (t : Int)
    · exact .inl hs
    · exact .inr (.inr ⟨(srcS l t i).toNat, h1, by omega, by omega⟩)
theorem read_false {l : List Tx} {c t i : Nat} (ht : t < l.length) (hi : i < (opsAt l t).length) (h : expl1 l c t i = false) : readS l c = false := by
  cases hr : readS l c with
  | false => rfl
  | true =>
    unfold readS at hr
    rw [List.all_eq_true] at hr
    have h1 := hr t (List.mem_range.2 ht)
    rw [List.all_eq_true] at h1
    have h2 := h1 i (List.mem_range.2 hi)
    rw [h] at h2; cases h2
end Go.Proofs.YtmnblljenobofaaGreatDoor.RPlain
namespace Go.Proofs.YtmnblljenobofaaGreatDoor
open Go.RowKit WPlain QPlain RPlain

set_option maxRecDepth 100000 in
set_option maxHeartbeats 2000000 in
theorem refFinal_any (u : Value) (ops : List Rwo) (v x : Int) (w : World) (ho : Opv w u ops) (hl : ops.length ≤ 60) :
    Calls Tryz.prog 90 #[u, .int .i64 v, .int .i64 x] w fun e w' => e = .returned (.bool (finB ops v x)) ∧ Below w.heap.size w w' := by
  obtain ⟨oa, oc, rfl, hoc⟩ := ho.len
  have HO := Lib.hid ho
  have HB0 := Lib.hid (Below.refl w.heap.size w)
  have HLT := Lib.hid (fun (k : Nat) (hk : k < ops.length) => fin_take hk v x)
  have HALL : Hid (finB (ops.take ops.length) v x = finB ops v x) := by unfold Hid; rw [List.take_length]
  have HR0 : Hid (false = finB (ops.take 0) v x) := rfl
  obtain ⟨R, hR⟩ : ∃ R, finB ops v x = R := ⟨_, rfl⟩
  rw [hR] at HALL ⊢
  clear ho hR
  go_enter Tryz.func90, Tryz.ntmps90
  go_wp2_with fail
  go_loopw [7, 12] (fun q y wr => ∃ k : Nat, k ≤ ops.length ∧ y = .int .i64 k ∧ (∃ z : Bool, q = .bool z ∧ Hid (z = finB (ops.take k) v x)) ∧ Hid (Below w.heap.size w wr)) (fun _ y _ => ops.length - (intOf y).toNat)
  case atStart => exact ⟨0, by omega, rfl, ⟨false, rfl, HR0⟩, HB0⟩
  case round =>
    clear HR0 HB0
    obtain ⟨k, hkl, rfl, ⟨z, rfl, HR⟩, HB⟩ := hrel
    by_cases hlt : k < ops.length
    · obtain ⟨b, o, rfl, hbl, c0, c1, c2⟩ := Opv.at (HO.out.below HB.out (Nat.le_refl _)) k hlt
      have hwt := HLT.out k hlt
      rw [← HR.out] at hwt
      generalize ops[k] = O at *
      obtain ⟨ow, ov, ox⟩ := O
      dsimp only at *
      have HB2 := Lib.hid (HB.out.alloc HB.out.size (.cells #[.bool ow, .int .i64 ov, .int .i64 ox] 82))
      have HWT1 := Lib.hid hwt
      clear hwt HR HB
      cases ow with
      | false =>
        have HR2 : Hid (z = finB (ops.take (k + 1)) v x) := by unfold Hid; rw [HWT1.out]; simp
        clear HWT1
        go_wp2
        go_roundw
        case rel => exact ⟨k + 1, by omega, by go_num, ⟨_, rfl, HR2⟩, HB2⟩
        case measure => simp [intOf]; omega
      | true =>
        by_cases hv : ov = v
        · have tv : ((ov : Int) == v) = true := by simp [hv]
          have HR2 : Hid ((ox == x) = finB (ops.take (k + 1)) v x) := by unfold Hid; rw [HWT1.out]; simp [hv]; rfl
          clear hv HWT1
          generalize hq : ((ox : Int) == x) = bq at *
          go_wp2
          go_roundw
          case rel => exact ⟨k + 1, by omega, by go_num, ⟨_, rfl, HR2⟩, HB2⟩
          case measure => simp [intOf]; omega
        · have tv : ((ov : Int) == v) = false := by simp [hv]
          have HR2 : Hid (z = finB (ops.take (k + 1)) v x) := by unfold Hid; rw [HWT1.out]; simp [hv]
          clear hv HWT1
          go_wp2
          go_roundw
          case rel => exact ⟨k + 1, by omega, by go_num, ⟨_, rfl, HR2⟩, HB2⟩
          case measure => simp [intOf]; omega
    · obtain rfl : k = ops.length := by omega
      have hr := HALL.out
      rw [← HR.out] at hr
      subst hr
      go_wp2
      go_ret
      exact ⟨rfl, HB.out⟩
set_option maxRecDepth 100000 in
set_option maxHeartbeats 4000000 in
theorem refExplained_walk (v : Value) (ln : Nat) (l : List Tx) (hln : l.length = ln) (cm t i : Nat) (o : Rwo) (w : World) (hv : Txs w v l) (hf : Fine l) (hcm : cm < 4294967296) (ho : (opsAt l t)[i]? = some o) :
    Calls Tryz.prog 54 #[v, .int .u32 (cm : Int), .int .i64 (t : Int), .int .i64 (i : Int)] w fun e w' => e = .returned (.bool (expl1 l cm t i)) ∧ Below w.heap.size w w' := by
  have ht := opsAt_lt ho
  have hi := (List.getElem?_eq_some_iff.1 ho).1
  have hkd := src_kind l (i := i) ht
  have hew := expl_write (c := cm) ho
  have heo := ex_own (c := cm) ho
  have hen := ex_neg (c := cm) ho
  have hek := fun (k : Nat) => ex_other (c := cm) (k := k) ho
  have HS := Lib.hid (fun (W : World) (hW : Below w.heap.size w W) => refSource_any v l t i W (hv.below hW (Nat.le_refl _)) hf ht hi)
  have hl6 := hf.six
  rw [hln] at hl6
  have hoe := opsAt_eq ht
  rw [hoe] at ho heo
  obtain ⟨hn, hoe2⟩ := List.getElem?_eq_some_iff.1 ho
  obtain ⟨tb, tq, tcc, he⟩ := hv.opened (by omega)
  subst he
  obtain ⟨u, x0, x1, x2, x3, x4, q⟩ := hv.get t ht
  have hfx := (hf.ops _ (List.getElem_mem ht)).1
  have hbl := cell_lt x4
  obtain ⟨ua, uc, rfl, huc⟩ := q.len
  obtain ⟨ob, oo, rfl, hobl, c0, c1, c2⟩ := Opv.at q i hn
  rw [hoe2] at c0 c1 c2
  obtain ⟨ow, ov, ox⟩ := o
  dsimp only at *
  have HFL := Lib.hid (fun (W : World) (hW : Below w.heap.size w W) => refFinal_any _ (l[t].o.take i) ov ox W ((q.below hW (Nat.le_refl _)).cut i (Nat.le_of_lt hn)) (by rw [List.length_take]; omega))
  have HFO := Lib.hid (fun (k : Nat) (hk : k < l.length) (W : World) (u : Value) (hu : Opv W u l[k].o) => refFinal_any u l[k].o ov ox W hu (hf.ops _ (List.getElem_mem hk)).1)
  have HV := Lib.hid hv
  have HCM := Lib.hid hcm
  have HLN := Lib.hid hln
  have hba : Below w.heap.size w (w.alloc (.cells #[.bool ow, .int .i64 ov, .int .i64 ox] 82)) := (Below.refl _ w).alloc (Nat.le_refl _) _
  have HB2 := Lib.hid hba
  have HA2 := Lib.hid (At.new w #[.bool ow, .int .i64 ov, .int .i64 ox] 82)
  obtain ⟨m, hm⟩ : ∃ m, l[t].o.length = m := ⟨_, rfl⟩
  have htn : (t : Int) < (ln : Int) := by omega
  have hnm : (i : Int) < (m : Int) := by omega
  have hnu : (i : Int) ≤ (uc : Int) := by omega
  have htm : t < ln := by omega
  rw [hm] at x4 hn
  rw [hln] at HV
  have HKD := Lib.hid hkd
  have HEW := Lib.hid hew
  have HEO := Lib.hid heo
  have HEN := Lib.hid hen
  have HEK := Lib.hid hek
  obtain ⟨R, hR⟩ : ∃ R, expl1 l cm t i = R := ⟨_, rfl⟩
  rw [hR] at HEW HEO HEN HEK ⊢
  clear hR hkd hew heo hen hek hv hf hcm ho hln x0 x1 x2 x3 hoe hm q hba
  rw [HLN.out]
  go_enter Tryz.func54, Tryz.ntmps54
  go_upto_region 2 with fail
  generalize hw2 : w.alloc (.cells #[.bool ow, .int .i64 ov, .int .i64 ox] 82) = w2 at *
  clear hw2 c0 c1 c2
  have e0 := HA2.out.cell (i := 0) rfl
  cases ow with
  | true =>
    have hr := HEW.out rfl
    subst hr
    clear HEO HEN HEK HEW
    go_wp2
    go_ret
    exact ⟨rfl, HB2.out⟩
  | false =>
    have HS2 := Lib.hid (HS.out w2 HB2.out)
    clear HEW HS
    generalize srcS l t i = s at *
    go_wp2_with fail
    rw [HLN.out] at HS2
    refine HS2.out.mono ?_
    rintro e w3 ⟨rfl, hb3⟩
    have HB3 := Lib.hid (HB2.out.trans (hb3.mono HB2.out.size))
    have HA3 := Lib.hid (HA2.out.below hb3 HA2.out.lt)
    have x5 := (HB3.out.cell (p := ⟨tb, tq + t * 5 + 4, none⟩) hbl).trans x4
    have k1 : ∀ p : Ext w3, p.wld.cell? ⟨w.heap.size, 1, none⟩ = some (.int .i64 ov) := fun p => cell_on p.below (HA3.out.cell rfl)
    have k2 : ∀ p : Ext w3, p.wld.cell? ⟨w.heap.size, 2, none⟩ = some (.int .i64 ox) := fun p => cell_on p.below (HA3.out.cell rfl)
    have HWB : Hid (∀ W, Below w3.heap.size w3 W → Below w.heap.size w W) := fun W hW => HB3.out.trans (hW.mono HB3.out.size)
    have mixed : Tryz.prog.follows .mixedOrders = true := by kernel_rfl
    clear hb3 HS2 HB2 HA2 e0
    rcases HKD.out with rfl | hneg | ⟨k, hk, hkt, rfl⟩
    · have t3 : ((t : Int) == (t : Int)) = true := by simp
      have HRS := Lib.hid (HEO.out (by trivial) (by trivial))
      have HF2 := Lib.hid (fun (W : World) (hW : Below w3.heap.size w3 W) => HFL.out W (HB3.out.trans (hW.mono HB3.out.size)))
      have k3 : ∀ p : Ext w3, p.wld.cell? ⟨tb, tq + t * 5 + 4, none⟩ = some (.slice (some ⟨ob, oo, none⟩) m uc) := fun p => cell_on p.below x5
      rw [← HRS.out] at HF2
      clear HEO HEN HEK HKD HFO HFL x4 x5 HRS
      go_upto_region 6 with fail
      refine wp_region_ext mixed (by kernel_rfl) ?_
      repeat (go_big_quiet_step (first
        | (go_at_call 90; refine calls_ext HF2.out)))
      refine wpQuiet_nil ?_
      intro w8 hw8
      obtain ⟨⟨wq, hbq⟩, hq⟩ := hw8
      obtain rfl : w8 = wq := hq
      have HB5 := Lib.hid (HWB.out _ hbq)
      clear hbq HWB HF2 k1 k2 k3
      go_wp2
      go_ret
      exact ⟨rfl, HB5.out⟩
    · have t3 : ((s : Int) == (t : Int)) = false := by simp; omega
      have t4 : decide (s < 0) = true := decide_eq_true hneg
      have HRS := Lib.hid (HEN.out (by trivial) hneg)
      clear HEO HEN HEK HKD HFO HFL x4 x5 k1 k2
      go_wp2
      go_ret
      exact ⟨ret_bool (by rw [HRS.out]; rfl), HB3.out⟩
    · have t3 : ((k : Int) == (t : Int)) = false := by simp; omega
      have t4 : decide ((k : Int) < 0) = false := by simp
      have HRS := Lib.hid (HEK.out k (by trivial) (by trivial) hkt)
      have hkl : (k : Int) < (ln : Int) := by have := HLN.out; omega
      have hk32 : k ≤ 65536 := by have := HLN.out; omega
      rw [← HLN.out] at HV
      obtain ⟨u3, y0, y1, y2, y3, y4, q3⟩ := HV.out.get k hk
      obtain ⟨ya, yc, rfl, hyc⟩ := q3.len
      have y5 := (HB3.out.cell (p := ⟨tb, tq + k * 5 + 4, none⟩) (cell_lt y4)).trans y4
      have HF2 := Lib.hid (fun (W : World) (hW : Below w3.heap.size w3 W) => HFO.out k hk W _ (q3.below (HB3.out.trans (hW.mono HB3.out.size)) (Nat.le_refl _)))
      have HBT : Hid (∀ W, Below w3.heap.size w3 W → Calls Tryz.prog 72 #[.int .u32 (cm : Int), .int .i64 (k : Int)] W fun e w' => e = .returned (.bool (cm.testBit k)) ∧ Below W.heap.size W w') := fun W _ => (refBit9_any cm k HCM.out hk32 W).mono (fun e w' ⟨h1, h2⟩ => ⟨h1, by rw [h2]; exact Below.refl _ _⟩)
      rw [show opsAt l k = l[k].o from opsAt_eq hk] at HRS
      generalize finB l[k].o ov ox = fb at *
      obtain ⟨mk, hmk⟩ : ∃ mk, l[k].o.length = mk := ⟨_, rfl⟩
      rw [hmk] at y4 y5 hyc HF2
      have k3 : ∀ p : Ext w3, p.wld.cell? ⟨tb, tq + k * 5 + 4, none⟩ = some (.slice ya mk yc) := fun p => cell_on p.below y5
      clear HEO HEN HEK HKD HFO HFL x4 x5 y0 y1 y2 y3 y4 y5 q3 hmk
      go_upto_region 9 with fail
      cases fb with
      | false =>
        have hr := HRS.out
        rw [Bool.false_and] at hr
        subst hr
        refine wp_region_ext mixed (by kernel_rfl) ?_
        repeat (go_big_quiet_step (first
          | (go_at_call 90; refine calls_ext HF2.out)))
        refine wpQuiet_nil ?_
        intro w8 hw8
        obtain ⟨⟨wq, hbq⟩, hq⟩ := hw8
        obtain rfl : w8 = wq := hq
        have HB5 := Lib.hid (HWB.out _ hbq)
        clear hbq HWB HF2 k1 k2 k3
        go_wp2
        go_ret
        exact ⟨rfl, HB5.out⟩
      | true =>
        have hr := HRS.out
        rw [Bool.true_and] at hr
        have HR2 := Lib.hid hr
        clear hr
        refine wp_region_ext mixed (by kernel_rfl) ?_
        repeat (go_big_quiet_step (first
          | (go_at_call 90; refine calls_ext HF2.out)
          | (go_at_call 72; refine calls_ext HBT.out)))
        refine wpQuiet_nil ?_
        intro w8 hw8
        obtain ⟨⟨wq, hbq⟩, hq⟩ := hw8
        obtain rfl : w8 = wq := hq
        have HB5 := Lib.hid (HWB.out _ hbq)
        clear hbq HWB HF2 k1 k2 k3
        go_wp2
        go_ret
        exact ⟨ret_bool HR2.out.symm, HB5.out⟩
set_option maxRecDepth 100000 in
set_option maxHeartbeats 4000000 in
theorem refReadable_any (v : Value) (l : List Tx) (cm : Nat) (w : World) (hv : Txs w v l) (hf : Fine l) (hcm : cm < 4294967296) :
    Calls Tryz.prog 25 #[v, .int .u32 (cm : Int)] w fun e w' => e = .returned (.bool (readS l cm)) ∧ Below w.heap.size w w' := by
  have HV := Lib.hid hv
  have HF := Lib.hid hf
  have hl6 := hf.six
  have HEX := Lib.hid (fun (t i : Nat) (o : Rwo) (W : World) (hW : Below w.heap.size w W) ho => refExplained_walk v l.length l rfl cm t i o W (hv.below hW (Nat.le_refl _)) hf hcm ho)
  have HRF := Lib.hid (fun (t i : Nat) (ht : t < l.length) hi h => read_false (c := cm) (l := l) (t := t) (i := i) ht hi h)
  have HNX := Lib.hid (fun (t i : Nat) => explTo_next l cm t i)
  have HRW := Lib.hid (fun (t : Nat) => explTo_row l cm t)
  have HAL := Lib.hid (explTo_all l cm)
  have HZ : Hid (explTo l cm 0 0 = true) := explTo_zero l cm
  obtain ⟨a, c, rfl⟩ := hv.len
  obtain ⟨R, hR⟩ : ∃ R, readS l cm = R := ⟨_, rfl⟩
  rw [hR] at HRF HAL ⊢
  have HB0 := Lib.hid (Below.refl w.heap.size w)
  clear hv hf hcm hR
  go_enter Tryz.func25, Tryz.ntmps25
  go_wp2_with fail
  go_loopw [10] (fun x wr => ∃ t : Nat, t ≤ l.length ∧ x = .int .i64 t ∧ Hid (explTo l cm t 0 = true) ∧ Hid (Below w.heap.size w wr)) (fun x _ => l.length - (intOf x).toNat)
  case atStart => exact ⟨0, by omega, rfl, HZ, HB0⟩
  case round =>
    clear HZ HB0
    obtain ⟨t, htl, rfl, HT, HB⟩ := hrel
    by_cases hlt : t < l.length
    · have hv2 := HV.out.below HB.out (Nat.le_refl _)
      obtain ⟨b, o, c', he⟩ := hv2.opened (by omega)
      simp only [Value.slice.injEq] at he
      obtain ⟨rfl, -, -⟩ := he
      obtain ⟨u, x0, x1, x2, x3, x4, q⟩ := hv2.get t hlt
      have hbl := cell_lt x0
      have hol := (HF.out.ops _ (List.getElem_mem hlt)).1
      have hoe := opsAt_eq hlt
      have HEX1 := Lib.hid (fun (i : Nat) (o : Rwo) => HEX.out t i o)
      have HRF1 := Lib.hid (fun (i : Nat) => HRF.out t i hlt)
      have HRW1 := Lib.hid (HRW.out t)
      have HNX1 := Lib.hid (fun (i : Nat) => HNX.out t i)
      rw [hoe] at HEX1 HRF1 HRW1
      clear hv2 hoe
      generalize l[t] = X at *
      obtain ⟨Xn, Xf, Xl, Xs, Xo⟩ := X
      dsimp only at *
      obtain ⟨ua, uc, rfl, huc⟩ := q.len
      have HB2 := Lib.hid (HB.out.alloc HB.out.size (.cells #[.int .i64 Xn, .int .i64 Xf, .int .i64 Xl, .int .i64 Xs, .slice ua Xo.length uc] 64))
      clear q HB
      go_wp2_with fail
      generalize wr.alloc (.cells #[.int .i64 Xn, .int .i64 Xf, .int .i64 Xl, .int .i64 Xs, .slice ua Xo.length uc] 64) = w3 at *
      clear x0 x1 x2 x3 x4 hbl
      go_loopw [18] (fun x wr => ∃ i : Nat, i ≤ Xo.length ∧ x = .int .i64 i ∧ Hid (explTo l cm t i = true) ∧ Hid (Below w.heap.size w wr)) (fun x _ => Xo.length - (intOf x).toNat)
      case atStart => exact ⟨0, by omega, rfl, HT, HB2⟩
      case round =>
        clear HT HB2
        obtain ⟨i, hil, rfl, HI, HB⟩ := hrel
        by_cases hlti : i < Xo.length
        · have HC := Lib.hid (HEX1.out i _ wr HB.out (List.getElem?_eq_getElem hlti))
          have HRF2 := Lib.hid (HRF1.out i hlti)
          have HNX2 := Lib.hid (HNX1.out i)
          rw [HI.out, Bool.true_and] at HNX2
          cases hb : expl1 l cm t i with
          | false =>
            rw [hb] at HC
            have hr := HRF2.out hb
            subst hr
            clear hb HRF2 HNX2
            go_wp2_with fail
            refine HC.out.mono ?_
            rintro e w5 ⟨rfl, hb5⟩
            have HB5 := Lib.hid (HB.out.trans (hb5.mono HB.out.size))
            go_wp2
            go_ret
            exact ⟨rfl, HB5.out⟩
          | true =>
            rw [hb] at HC HNX2
            clear hb HRF2
            go_wp2_with fail
            refine HC.out.mono ?_
            rintro e w5 ⟨rfl, hb5⟩
            have HB5 := Lib.hid (HB.out.trans (hb5.mono HB.out.size))
            clear hb5 HC HB HI
            go_wp2
            go_roundw
            case rel => exact ⟨i + 1, by omega, by go_num, HNX2, HB5⟩
            case measure => simp [intOf]; omega
        · obtain rfl : i = Xo.length := by omega
          have HT2 : Hid (explTo l cm (t + 1) 0 = true) := by unfold Hid; rw [HRW1.out]; exact HI.out
          clear HI
          go_wp2
          go_roundw
          case rel => exact ⟨t + 1, by omega, by go_num, HT2, HB⟩
          case measure => simp [intOf]; omega
    · obtain rfl : t = l.length := by omega
      have hr := HAL.out
      rw [HT.out] at hr
      subst hr
      go_wp2
      go_ret
      exact ⟨rfl, HB.out⟩
end Go.Proofs.YtmnblljenobofaaGreatDoor
