/- The walks of the reference's Values, Of and May. -/
import Derived.Test.YtceipdmplnlogaaDoorLegG
import Derived.Test.YtceipdmplnlogaaDoorLegJ
namespace Go.Proofs.YtceipdmplnlogaaDoor.WPlain
end Go.Proofs.YtceipdmplnlogaaDoor.WPlain
namespace Go.Proofs.YtceipdmplnlogaaDoor.QPlain
end Go.Proofs.YtceipdmplnlogaaDoor.QPlain
namespace Go.Proofs.YtceipdmplnlogaaDoor.RPlain
end Go.Proofs.YtceipdmplnlogaaDoor.RPlain
namespace Go.Proofs.YtceipdmplnlogaaDoor.RPlain
open WPlain QPlain

theorem mem8_get (M : Int → Int) : ∀ k : Nat, k < 8 → (mem8 M)[k]? = some (M (k : Int))
  | 0, _ | 1, _ | 2, _ | 3, _ | 4, _ | 5, _ | 6, _ | 7, _ => by simp [mem8]
  | n + 8, h => by omega
theorem mem8_take (M : Int → Int) {k : Nat} (hk : k < 8) : (mem8 M).take (k + 1) = (mem8 M).take k ++ [M (k : Int)] := by
  have h1 : k < (mem8 M).length := hk
  rw [List.take_succ_eq_append_getElem h1]
  have h2 := mem8_get M k hk
  rw [List.getElem?_eq_getElem h1] at h2
  rw [Option.some.inj h2]
theorem arr_nil : arrM [] = zeroM := by
  funext u
  unfold arrM zeroM
  split <;> simp
theorem arr_step {vs : List Int} {k : Nat} (hk : k < vs.length) : putM (arrM (vs.take k)) (k : Int) vs[k] = arrM (vs.take (k + 1)) := by
  funext u
  unfold putM arrM
  by_cases h0 : 0 ≤ u
  · obtain ⟨j, rfl⟩ : ∃ j : Nat, u = (j : Int) := ⟨u.toNat, by omega⟩
    rw [if_pos h0, if_pos h0, Int.toNat_natCast, List.getD_eq_getElem?_getD, List.getD_eq_getElem?_getD]
    by_cases hj : j = k
    · subst hj
      rw [if_pos rfl, List.getElem?_take_of_lt (by omega), List.getElem?_eq_getElem hk]
      rfl
    · rw [if_neg (by omega)]
      by_cases hlt : j < k
      · rw [List.getElem?_take_of_lt hlt, List.getElem?_take_of_lt (by omega)]
      · rw [List.getElem?_take_eq_none (by omega), List.getElem?_take_eq_none (by omega)]
  · rw [if_neg h0, if_neg h0, if_neg (by omega)]
/-- why a row can't be looked at -/
def mayR (l : List Tx) (row : List Int) : Nat := if thereS l row = true then (if row.Nodup then 0 else 1) else 7
theorem errL_may {h : List Ev} (h0 : (checkS h).2 = 0) (row : List Int) : errL h row = mayR (tableS h) row := by unfold errL mayR; rw [if_pos h0]
theorem errL_not {h : List Ev} (h0 : ¬ (checkS h).2 = 0) (row : List Int) : errL h row = (checkS h).2 := by unfold errL; rw [if_neg h0]
end Go.Proofs.YtceipdmplnlogaaDoor.RPlain
namespace Go.Proofs.YtceipdmplnlogaaDoor
open Go.RowKit WPlain QPlain RPlain

theorem ints_snocL (xs : List Int) (x : Int) : ints xs ++ [.int .i64 x] = ints (xs ++ [x]) := by simp [ints]
theorem infoI : (Tryd.prog.info? 3).map (fun i => (i.zero, i.size, i.bytes)) = some (some (.int .i64 0), 1, 8) := by kernel_rfl
set_option maxRecDepth 100000 in
set_option maxHeartbeats 1000000 in
theorem refValues_any (u : Value) (L : List Rwo) (w : World) (hm : Opv w u L) (hl : L.length ≤ 65536) :
    Calls Tryd.prog 15 #[.agg #[u]] w fun e w' => ∃ v', e = .returned v' ∧ Rd w' v' (ints (mem8 (memL L))) ∧ Below w.heap.size w w' := by
  obtain ⟨i0, hi0, hz0, hz1, hz2⟩ := info_parts infoI
  obtain ⟨a, c, rfl, -⟩ := hm.len
  have ha0 := At.new w #[.slice a L.length c] 40
  have hb0 := (Below.refl w.heap.size w).alloc (Nat.le_refl _) (.cells #[.slice a L.length c] 40)
  have HA0 := Lib.hid (ha0.alloc (.cells #[] 3))
  have HB0 := Lib.hid (hb0.alloc hb0.size (.cells #[] 3))
  have hr0 := World.ownsRow_made (size := 1) (e := 3) (base := w.heap.size) (w.alloc (.cells #[.slice a L.length c] 40)) #[] 0 hb0.size (by unfold maxLen; omega) rfl
  rw [show (w.alloc (.cells #[.slice a L.length c] 40)).heap.size = w.heap.size + 1 from by simp] at hr0
  have HR0 : Hid (((w.alloc (.cells #[.slice a L.length c] 40)).alloc (.cells #[] 3)).ownsRow w.heap.size 3 1 (.slice (some ⟨w.heap.size + 1, 0, none⟩) 0 0) 0 (ints ((mem8 (memL L)).take 0))) := hr0
  have HGE := Lib.hid (fun (k : Nat) (W : World) (hW : Below w.heap.size w W) => refGet_any (.slice a L.length c) L (k : Int) W (hm.below hW (Nat.le_refl _)) hl)
  have HTK := Lib.hid (fun (k : Nat) (hk : k < 8) => mem8_take (memL L) hk)
  have HTL : Hid (∀ k, k ≤ 8 → ((mem8 (memL L)).take k).length = k) := fun k hk => by rw [List.length_take]; exact Nat.min_eq_left hk
  have HFE : Hid ((mem8 (memL L)).take 8 = mem8 (memL L)) := rfl
  generalize mem8 (memL L) = V at *
  generalize memL L = M at *
  clear hm hr0 ha0 hb0
  go_enter Tryd.func15, Tryd.ntmps15
  go_wp2_with fail
  go_loopw [3, 4] (fun y x wr => ∃ k : Nat, k ≤ 8 ∧ x = .int .i64 k ∧ Hid (wr.ownsRow w.heap.size 3 1 y k (ints (V.take k))) ∧ Hid (At wr w.heap.size #[.slice a L.length c] 40) ∧ Hid (Below w.heap.size w wr)) (fun _ x _ => 8 - (intOf x).toNat)
  case atStart => exact ⟨0, by omega, rfl, HR0, HA0, HB0⟩
  case round =>
    clear HR0 HA0 HB0
    obtain ⟨k, hk, rfl, HR, HA, HB⟩ := hrel
    obtain ⟨va, vc, rfl⟩ := row_slice HR.out
    by_cases hlt : k < 8
    · have HTE := Lib.hid (HTK.out k hlt)
      have HG := Lib.hid (HGE.out k wr HB.out)
      generalize V.take k = vs at *
      generalize M (k : Int) = x at *
      have k0 := HA.out.cell (i := 0) (v := .slice a L.length c) rfl
      go_wp2_with (first | (go_at_call 34; refine HG.out.mono ?_; rintro e w3 ⟨rfl, hb3⟩; have hr3 := row_belowT HR.out hb3; have hbb := HB.out.trans (hb3.mono HB.out.size); have ha3 := HA.out.below hb3 HA.out.lt) | (at_builtin; go_must (refine wpList_append_own _ rfl _ _ 23 rfl w.heap.size 3 i0 (.int .i64 0) 1 8 Tryd.underlying23 hi0 hz0 hz1 hz2 rfl (by decide) _ _ _ rfl (hr3.alloc _) ⟨w3.heap.size, 0, none⟩ 1 1 [.int .i64 x] rfl rfl ?c1 ?c2 ?c3 ?c4 ?c5 ?_)))
      case c1 => exact cell_one_at w3 _ _
      case c2 => exact one_int _ _
      case c3 => unfold maxLen; omega
      case c4 => omega
      case c5 => have := hbb.size; simp; omega
      intro v5 w5 hv5 hg5 _
      have HB5 : Hid (Below w.heap.size w w5) := (hbb.alloc hbb.size (.cells #[.int .i64 x] 3)).grown hg5 (by have := hbb.size; simp; omega) (fun k' hk' => (hr3.lt k' hk').1)
      have HA5 : Hid (At w5 w.heap.size #[.slice a L.length c] 40) := (ha3.alloc (.cells #[.int .i64 x] 3)).grown hg5 (Ne.symm (row_not hr3 ha3 (by decide)))
      have HR5 : Hid (w5.ownsRow w.heap.size 3 1 v5 (k + 1) (ints (V.take (k + 1)))) := by unfold Hid; rw [HTE.out, ← ints_snocL]; exact hv5
      clear hv5 hg5 hr3 hb3 hbb ha3 HR HB HA HG k0
      go_wp2
      go_roundw
      case rel => exact ⟨k + 1, by omega, by go_num, HR5, HA5, HB5⟩
      case measure => simp [intOf]; omega
    · obtain rfl : k = 8 := by omega
      rw [HFE.out] at HR
      go_wp2
      go_ret
      exact ⟨_, rfl, Rd.of_row HR.out, HB.out⟩
set_option maxRecDepth 100000 in
set_option maxHeartbeats 1000000 in
theorem refOf_mem (v : Value) (vs : List Int) (w : World) (hr : Rd w v (ints vs)) (hl : vs.length ≤ 60) :
    Calls Tryd.prog 19 #[v] w fun e w' => ∃ u L, e = .returned (.agg #[u]) ∧ Mm w' u L ∧ memL L = arrM vs ∧ L.length = vs.length ∧ Below w.heap.size w w' := by
  obtain ⟨ra, rc, rfl⟩ := hr.len
  have hil : (ints vs).length = vs.length := by simp [ints]
  rw [hil] at hr ⊢
  clear hil
  have HR := Lib.hid hr
  have HST := Lib.hid (fun (k : Nat) (hk : k < vs.length) => arr_step hk)
  have HGT : Hid (∀ k (hk : k < vs.length), (ints vs)[k]? = some (.int .i64 vs[k])) := fun k hk => by unfold ints; rw [List.getElem?_map, List.getElem?_eq_getElem hk]; rfl
  have HFE : Hid (arrM (vs.take vs.length) = arrM vs) := by unfold Hid; rw [List.take_length]
  have HNL : Hid (arrM (vs.take 0) = memL []) := by unfold Hid; rw [List.take_zero, arr_nil, memL_nil]
  obtain ⟨ha0, hr0, hb0⟩ := mem_pair w (.slice none 0 0)
  have HA0 := Lib.hid ha0
  have HM0 : Hid (∃ a' n' c' L, At ((w.alloc (.cells #[.slice none 0 0] 40)).alloc (.cells #[.slice none 0 0] 40)) (w.heap.size + 1) #[.slice a' n' c'] 40 ∧ Mm ((w.alloc (.cells #[.slice none 0 0] 40)).alloc (.cells #[.slice none 0 0] 40)) (.slice a' n' c') L ∧ memL L = arrM (vs.take 0) ∧ L.length = 0) := ⟨_, _, _, [], hr0, Mm.nil _, HNL.out.symm, rfl⟩
  have HB0 := Lib.hid hb0
  clear hr ha0 hr0 hb0 HNL
  go_enter Tryd.func19, Tryd.ntmps19
  go_wp2_with fail
  go_loopw [9] (fun x wr => ∃ k : Nat, k ≤ vs.length ∧ x = .int .i64 k ∧ Hid (∃ a' n' c' L, At wr (w.heap.size + 1) #[.slice a' n' c'] 40 ∧ Mm wr (.slice a' n' c') L ∧ memL L = arrM (vs.take k) ∧ L.length = k) ∧ Hid (At wr w.heap.size #[.slice none 0 0] 40) ∧ Hid (Below w.heap.size w wr)) (fun x _ => vs.length - (intOf x).toNat)
  case atStart => exact ⟨0, by omega, rfl, HM0, HA0, HB0⟩
  case round =>
    clear HM0 HA0 HB0
    obtain ⟨k, hk, rfl, HM, HA, HB⟩ := hrel
    obtain ⟨a1, n1, c1, K, hA, hM, hME, hKl⟩ := HM.out
    have HC := Lib.hid hA
    have HMM := Lib.hid hM
    have HME := Lib.hid hME
    clear HM hA hM hME
    by_cases hlt : k < vs.length
    · obtain ⟨b, o, c', he, hbl, hcs⟩ := (HR.out.below HB.out (Nat.le_refl _)).opened (by simp [ints]; omega)
      simp only [Value.slice.injEq] at he
      obtain ⟨rfl, -, rfl⟩ := he
      have hck := hcs k _ (HGT.out k hlt)
      have hst := HST.out k hlt
      clear hcs
      generalize vs[k] = x at *
      have HTE : Hid (memL (⟨true, (k : Int), x⟩ :: K) = arrM (vs.take (k + 1))) := by unfold Hid; rw [memL_put, HME.out]; exact hst
      have HLE : Hid ((⟨true, (k : Int), x⟩ :: K : List Rwo).length = k + 1) := by unfold Hid; rw [List.length_cons, hKl]
      have HP := Lib.hid (refPut_any a1 n1 c1 K ⟨true, (k : Int), x⟩ wr HMM.out (by omega))
      have k0 := HC.out.cell (i := 0) (v := .slice a1 n1 c1) rfl
      clear hst HMM HME
      go_wp2_with (go_at_call 38; refine HP.out.mono ?_; rintro e w4 ⟨u4, rfl, hm4, hb4⟩; obtain ⟨a4, c4, he4, -⟩ := hm4.1.len; rw [HLE.out] at he4; subst he4; have HA4 := Lib.hid (HA.out.below hb4 HA.out.lt); have HC4 := Lib.hid (HC.out.below hb4 HC.out.lt); have HB4 := Lib.hid (HB.out.trans (hb4.mono HB.out.size)); have HM4 := Lib.hid hm4; have k4 := HC4.out.cell (i := 0) (v := .slice a1 n1 c1) rfl; have f4 := HC4.out.free 0; clear hm4 hb4 k0)
      have HC5 := Lib.hid (HC4.out.set 0 (.slice a4 (k + 1) c4))
      have HM5 : Hid (Mm (w4.setCell ⟨w.heap.size + 1, 0, none⟩ (.slice a4 (k + 1) c4)) (.slice a4 (k + 1) c4) (⟨true, (k : Int), x⟩ :: K)) := ⟨HM4.out.1.set HC4.out _, HM4.out.2⟩
      have HA5 := Lib.hid (HA4.out.other (a := ⟨w.heap.size + 1, 0, none⟩) (by simp) (.slice a4 (k + 1) c4))
      have HB5 := Lib.hid (HB4.out.setCell (p := ⟨w.heap.size + 1, 0, none⟩) (by simp) (.slice a4 (k + 1) c4))
      clear k4 f4 HC4 HM4 HA4 HB4
      go_roundw
      case rel => exact ⟨k + 1, by omega, by go_num, ⟨_, _, _, _, HC5.out, HM5.out, HTE.out, HLE.out⟩, HA5, HB5⟩
      case measure => simp [intOf]; omega
    · obtain rfl : k = vs.length := by omega
      rw [HFE.out] at HME
      have HM9 : Hid (Mm (wr.setCell ⟨w.heap.size, 0, none⟩ (.slice a1 n1 c1)) (.slice a1 n1 c1) K) := ⟨HMM.out.1.set HA.out _, HMM.out.2⟩
      have HA9 := Lib.hid (HA.out.set 0 (.slice a1 n1 c1))
      have HB9 := Lib.hid (HB.out.setCell (p := ⟨w.heap.size, 0, none⟩) (Nat.le_refl _) (.slice a1 n1 c1))
      have k0 := HC.out.cell (i := 0) (v := .slice a1 n1 c1) rfl
      have z0 := HA.out.cell (i := 0) (v := .slice none 0 0) rfl
      have f0 := HA.out.free 0
      have HKL := Lib.hid hKl
      clear HFE HST HGT hKl
      go_wp2
      generalize wr.setCell ⟨w.heap.size, 0, none⟩ (.slice a1 n1 c1) = w9 at *
      have e0 := HA9.out.cell (i := 0) (v := .slice a1 n1 c1) rfl
      refine bodyPost_ret (v := .agg #[.slice a1 n1 c1]) ?_ rfl ⟨_, _, rfl, HM9.out, HME.out, HKL.out, HB9.out⟩
      simp [results, Tryd.results19, go_sem, e0]
set_option maxRecDepth 100000 in
set_option maxHeartbeats 1000000 in
theorem refMay_any (v rv : Value) (l : List Tx) (row : List Int) (w : World) (hv : ∃ a c, v = .slice a l.length c) (hr : Rd w rv (ints row)) (hrc : ∀ a m c, rv = .slice a m c → m ≤ c) (hrl : row.length ≤ 65536) :
    Calls Tryd.prog 10 #[v, rv] w fun e w' => e = .returned (.int .i64 ((mayR l row : Nat) : Int)) ∧ w' = w := by
  obtain ⟨a, c, rfl⟩ := hv
  have HNT := Lib.hid (none_there l row)
  have HV := Lib.hid hr
  obtain ⟨va, vc, rfl⟩ := hr.len
  have hrc2 := hrc _ _ _ rfl
  rw [ints_len] at HV hrc2 ⊢
  have HNX := Lib.hid (fun (k : Nat) (hk : k < row.length) h1 h2 => nodup_next (l := row) (k := k) hk h1 h2)
  have HNO := Lib.hid (fun (k : Nat) (hk : k < row.length) h1 => nodup_not (l := row) (k := k) hk h1)
  obtain ⟨res, hres⟩ : ∃ res, mayR l row = res := ⟨_, rfl⟩
  have HY : Hid (thereS l row = true → row.Nodup → res = 0) := fun h1 h2 => by rw [← hres]; unfold mayR; rw [if_pos h1, if_pos h2]
  have HD : Hid (thereS l row = true → ¬ row.Nodup → res = 1) := fun h1 h2 => by rw [← hres]; unfold mayR; rw [if_pos h1, if_neg h2]
  have HN : Hid (thereS l row = false → res = 7) := fun h1 => by rw [← hres]; unfold mayR; rw [h1, if_neg (by decide)]
  rw [hres]
  have HCE : Hid (∀ k (hk : k < row.length), ∃ b o, va = some ⟨b, o, none⟩ ∧ w.cell? ⟨b, o + k, none⟩ = some (.int .i64 row[k])) := fun k hk => by
    obtain ⟨b, o, c', he, hbl, hcs⟩ := HV.out.opened (by rw [ints_len]; omega)
    simp only [Value.slice.injEq] at he
    exact ⟨b, o, he.1, hcs k _ (by unfold ints; rw [List.getElem?_map, List.getElem?_eq_getElem hk]; rfl)⟩
  clear hr hres hrc
  generalize l.length = n at *
  go_enter Tryd.func10, Tryd.ntmps10
  go_wp2_with fail
  go_loopw [13] (fun x wr => ∃ k : Nat, k ≤ row.length ∧ x = .int .i64 k ∧ Hid ((row.take k).any (noneB n) = false) ∧ wr = w) (fun x _ => row.length - (intOf x).toNat)
  case atStart => exact ⟨0, by omega, rfl, rfl, rfl⟩
  case round =>
    obtain ⟨k, hk, rfl, HA, rfl⟩ := hrel
    by_cases hlt : k < row.length
    · have HT : Hid (row.take (k + 1) = row.take k ++ [row[k]]) := List.take_succ_eq_append_getElem hlt
      have HM : Hid (row[k] ∈ row) := List.getElem_mem hlt
      obtain ⟨b, o, rfl, hck⟩ := HCE.out k hlt
      generalize row[k] = y at *
      by_cases h1 : y < 0
      · have HA2 : Hid (row.any (noneB n) = true) := List.any_eq_true.2 ⟨y, HM.out, by unfold noneB; simp [h1]⟩
        have hno : thereS l row = false := by have := HNT.out; rw [HA2.out] at this; simpa using this.symm
        have hr7 := HN.out hno
        subst hr7
        have t1 : decide (y < 0) = true := by simp [h1]
        clear HT HM HA hno
        go_wp2
        go_ret
        exact ⟨rfl, rfl⟩
      · have t1 : decide (y < 0) = false := by simp; omega
        by_cases h2 : (n : Int) ≤ y
        · have HA2 : Hid (row.any (noneB n) = true) := List.any_eq_true.2 ⟨y, HM.out, by unfold noneB; simp [h2]⟩
          have hno : thereS l row = false := by have := HNT.out; rw [HA2.out] at this; simpa using this.symm
          have hr7 := HN.out hno
          subst hr7
          have t2 : decide ((n : Int) ≤ y) = true := by simp [h2]
          clear HT HM HA hno
          go_wp2
          go_ret
          exact ⟨rfl, rfl⟩
        · have t2 : decide ((n : Int) ≤ y) = false := by simp; omega
          have HA2 : Hid ((row.take (k + 1)).any (noneB n) = false) := by
            unfold Hid
            rw [HT.out, List.any_append, HA.out]
            simp [noneB, t1, t2]
          clear HT HM HA
          go_wp2
          go_roundw
          case rel => exact ⟨k + 1, by omega, by go_num, HA2, trivial⟩
          case measure => simp [intOf]; omega
    · obtain rfl : k = row.length := by omega
      have HTH : Hid (thereS l row = true) := by unfold Hid; have h1 := HA.out; rw [List.take_length] at h1; have h2 := HNT.out; rw [h1] at h2; simpa using h2.symm
      clear HA
      go_wp2_with fail
      go_loopw [28] (fun x wr' => ∃ i : Nat, i ≤ row.length ∧ x = .int .i64 i ∧ Hid ((row.take i).Nodup) ∧ wr' = wr) (fun x _ => row.length - (intOf x).toNat)
      case atStart => exact ⟨0, by omega, rfl, by unfold Hid; simp, rfl⟩
      case round =>
        obtain ⟨i, hi, rfl, HN1, rfl⟩ := hrel
        by_cases hlt : i < row.length
        · have HNX2 := Lib.hid (HNX.out i hlt HN1.out)
          have HNO2 := Lib.hid (HNO.out i hlt)
          obtain ⟨b, o, rfl, hck⟩ := HCE.out i hlt
          have hir : (i : Int) ≤ (vc : Int) := by omega
          obtain ⟨y, hy⟩ : ∃ y, row[i] = y := ⟨_, rfl⟩
          rw [hy] at hck HNX2 HNO2
          clear hy
          obtain ⟨w9, hw9⟩ : ∃ w9 : World, w9 = wr := ⟨wr, rfl⟩
          subst hw9
          go_wp2_with fail
          go_loopw [37] (fun x wr => ∃ j : Nat, j ≤ i ∧ x = .int .i64 j ∧ Hid (∀ t ∈ row.take j, t ≠ y) ∧ wr = w9) (fun x _ => i - (intOf x).toNat)
          case atStart => exact ⟨0, by omega, rfl, fun t ht => by simp at ht, rfl⟩
          case round =>
            obtain ⟨j, hj, rfl, HJ, rfl⟩ := hrel
            by_cases hjl : j < i
            · obtain ⟨b', o', he, hcj⟩ := HCE.out j (by omega)
              simp only [Option.some.injEq, Addr.mk.injEq, and_true] at he
              obtain ⟨rfl, rfl⟩ := he
              have HT : Hid (row.take (j + 1) = row.take j ++ [row[j]]) := List.take_succ_eq_append_getElem (by omega)
              have HMJ : Hid (row[j] ∈ row.take i) := List.mem_take_iff_getElem.2 ⟨j, by omega, rfl⟩
              generalize row[j] = z at *
              by_cases hzy : z = y
              · subst hzy
                have hr1 := HD.out HTH.out (HNO2.out HMJ.out)
                subst hr1
                have t1 : ((z : Int) == z) = true := by simp
                clear HT HMJ HJ HNO2 HNX2
                go_wp2
                go_ret
                exact ⟨rfl, rfl⟩
              · have HJ2 : Hid (∀ t ∈ row.take (j + 1), t ≠ y) := by
                  intro t ht
                  rw [HT.out] at ht
                  rcases List.mem_append.1 ht with ht | ht
                  · exact HJ.out t ht
                  · rw [List.mem_singleton.1 ht]; exact hzy
                have t1 : ((z : Int) == y) = false := by simp [hzy]
                clear HT HMJ HJ hzy
                go_wp2
                go_roundw
                case rel => exact ⟨j + 1, by omega, by go_num, HJ2, trivial⟩
                case measure => simp [intOf]; omega
            · obtain rfl : j = i := by omega
              have HN2 := Lib.hid (HNX2.out (fun hm => HJ.out y hm rfl))
              clear HJ HNX2 HNO2
              go_wp2
              go_roundw
              case rel => exact ⟨j + 1, by omega, by go_num, HN2, trivial⟩
              case measure => simp [intOf]; omega
        · obtain rfl : i = row.length := by omega
          have hr0 := HY.out HTH.out (by have := HN1.out; rwa [List.take_length] at this)
          subst hr0
          go_wp2
          go_ret
          exact ⟨rfl, rfl⟩
end Go.Proofs.YtceipdmplnlogaaDoor
