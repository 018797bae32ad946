/- Merged: QckW, CycF, CycG. -/
import Derived.Test.YtmnblljenobofaaGreatDoorMg30
import Derived.Test.YtmnblljenobofaaGreatDoorCycD
import Derived.Test.YtmnblljenobofaaGreatDoorMg34
import Derived.Test.YtmnblljenobofaaGreatDoorMg22
import Derived.Test.YtmnblljenobofaaGreatDoorMg13
import Derived.Test.YtmnblljenobofaaGreatDoorMg24
/- The walk of package quick's Why. -/
namespace Go.Proofs.YtmnblljenobofaaGreatDoor.WPlain
end Go.Proofs.YtmnblljenobofaaGreatDoor.WPlain
namespace Go.Proofs.YtmnblljenobofaaGreatDoor.QPlain
end Go.Proofs.YtmnblljenobofaaGreatDoor.QPlain
namespace Go.Proofs.YtmnblljenobofaaGreatDoor.RPlain
end Go.Proofs.YtmnblljenobofaaGreatDoor.RPlain
namespace Go.Proofs.YtmnblljenobofaaGreatDoor
open Go.RowKit WPlain QPlain RPlain

/-- what Why tells -/
def whyQ (h : List Ev) (cm : Nat) (row : List Int) : Nat := if errB h cm row = 0 then leastE (bldS h cm row) else errB h cm row
theorem leastR_nil : leastR [] = [] := by decide
theorem bld_small32 {h : List Ev} {cm : Nat} {row : List Int} (h0 : errB h cm row = 0) : (bldS h cm row).length ≤ 6 ∧ ∀ x ∈ bldS h cm row, x < 4294967296 := by
  have h6 := table_six (errU_zero (errG_zero (errB_zero h0).1).1).1
  obtain ⟨rn, hrow, _⟩ := whole_iff.1 (errB_zero h0).2.1
  subst hrow
  rw [bld_ok h0]
  exact ⟨by rw [build_len]; exact h6, build_small h6 cm rn⟩
set_option maxRecDepth 100000 in
set_option maxHeartbeats 2000000 in
theorem whyQ_any (v rv : Value) (h : List Ev) (cm : Nat) (row : List Int) (hcm : cm < 4294967296) (w : World) (hK : HasK w) (hv : Evs w v h) (hl : h.length ≤ 65536) (hr : Rd w rv (ints row)) (hrl : row.length ≤ 65536) :
    Calls Tryz.prog 11 #[v, .int .u32 (cm : Int), rv] w fun e w' => ∃ v', e = .returned (.tuple #[v', .int .i64 ((whyQ h cm row : Nat) : Int)]) ∧ Rd w' v' (nats (leastR (bldS h cm row))) ∧ Below w.heap.size w w' := by
  have HBD := Lib.hid (buildG_any v rv h cm row hcm w hK hv hl hr hrl)
  obtain ⟨ea, ec, rfl⟩ := hv.len
  obtain ⟨ra, rc, rfl⟩ := hr.len
  by_cases h0 : errB h cm row = 0
  · have HLS := Lib.hid (fun (v : Value) (W : World) (hR : Rd W v (u32s (bldS h cm row))) => leastC_any v (bldS h cm row) W hR (bld_small32 h0).2 (by have := (bld_small32 h0).1; omega))
    unfold whyQ
    rw [if_pos h0]
    rw [h0] at HBD
    clear hK hv hr h0 hl hrl hcm
    generalize bldS h cm row = A at *
    generalize leastE A = er at *
    generalize (ints row).length = rn at *
    go_enter Tryz.func11, Tryz.ntmps11
    go_wp2_with fail
    refine HBD.out.mono ?_
    rintro e w1 ⟨v1, rfl, hv1, hb1⟩
    have HF := Lib.hid (HLS.out _ _ hv1)
    obtain ⟨a1, c1, rfl⟩ := hv1.len
    have HB1 := Lib.hid hb1
    clear hv1 hb1 HBD HLS
    go_wp2_with fail
    refine HF.out.mono ?_
    rintro e w2 ⟨v2, rfl, hv2, hb2⟩
    have HV2 := Lib.hid (Rd.of_row hv2)
    have HB2 := Lib.hid (HB1.out.trans (hb2.mono HB1.out.size))
    obtain ⟨a2, c2, rfl⟩ := row_slice hv2
    clear hv2 hb2 HF HB1
    generalize hn2 : (leastR A).length = n2 at *
    go_wp2
    exact bodyPost_ret (v := .tuple #[.slice a2 n2 c2, .int .i64 (er : Int)]) (by simp [results, Tryz.results11, go_sem]) rfl ⟨_, rfl, HV2.out, HB2.out⟩
  · have he : whyQ h cm row = errB h cm row := by unfold whyQ; rw [if_neg h0]
    rw [he, bld_off h0, leastR_nil]
    rw [bld_off h0] at HBD
    have te : ((errB h cm row : Int) != 0) = true := by simp; omega
    clear hK hv hr h0 hl hrl hcm he
    generalize errB h cm row = er at *
    generalize (ints row).length = rn at *
    go_enter Tryz.func11, Tryz.ntmps11
    go_wp2_with fail
    refine HBD.out.mono ?_
    rintro e w1 ⟨v1, rfl, hv1, hb1⟩
    obtain ⟨a1, c1, rfl⟩ := hv1.len
    have HB1 := Lib.hid hb1
    clear hv1 hb1 HBD
    go_wp2
    exact bodyPost_ret (v := .tuple #[.slice none 0 0, .int .i64 (er : Int)]) (by simp [results, Tryz.results11, go_sem]) rfl ⟨_, rfl, .inl ⟨rfl, _, _, rfl⟩, HB1.out⟩
end Go.Proofs.YtmnblljenobofaaGreatDoor
/- The walks of the reference's May, Walk and with. -/
namespace Go.Proofs.YtmnblljenobofaaGreatDoor.RPlain
end Go.Proofs.YtmnblljenobofaaGreatDoor.RPlain
namespace Go.Proofs.YtmnblljenobofaaGreatDoor.RPlain

def stepY (A row : List Nat) (i : Nat) : Bool := !(row.take i).contains (row.getD i 0) && aft A (row.getD i 0) (row.getD ((i + 1) % row.length) 0)
theorem walk_steps (A row : List Nat) : walkB A row = (!row.isEmpty && (List.range row.length).all (stepY A row)) := rfl
theorem stepY_next {A row : List Nat} {k : Nat} : (List.range (k + 1)).all (stepY A row) = ((List.range k).all (stepY A row) && stepY A row k) := by
  rw [List.range_succ, List.all_append]
  simp
theorem stepY_not {A row : List Nat} {k : Nat} (hk : k < row.length) (h : stepY A row k = false) : walkB A row = false := by
  rw [walk_steps]
  have : (List.range row.length).all (stepY A row) = false := List.all_eq_false.2 ⟨k, List.mem_range.2 hk, by rw [h]; decide⟩
  rw [this, Bool.and_false]
end Go.Proofs.YtmnblljenobofaaGreatDoor.RPlain
namespace Go.Proofs.YtmnblljenobofaaGreatDoor
open Go.RowKit RPlain

theorem rdN_cut {w : World} {a : Option Addr} {n c : Nat} {L : List Nat} (h : Rd w (.slice a n c) (nats L)) (k : Nat) (hk : k ≤ L.length) : Rd w (.slice a k c) (nats (L.take k)) := by
  by_cases h0 : k = 0
  · subst h0
    exact .inl ⟨by simp [nats], _, _, rfl⟩
  · obtain ⟨b, o, c', he, hb, hc⟩ := h.opened (by rw [nats_len]; omega)
    simp only [Value.slice.injEq] at he
    obtain ⟨rfl, -, rfl⟩ := he
    have hl : (nats (L.take k)).length = k := by rw [nats_len, List.length_take]; omega
    refine .inr ⟨by omega, b, o, c, by rw [hl], fun i u hu => ?_⟩
    have hi : i < k := by have := (List.getElem?_eq_some_iff.1 hu).1; omega
    refine hc i u ?_
    have h1 : nats (L.take k) = (nats L).take k := by simp [nats]
    rw [h1, List.getElem?_take_of_lt hi] at hu
    exact hu
theorem refWithC_any (v : Value) (row : List Nat) (k : Nat) (w : World) (hv : Rd w v (nats row)) (hs : SrcN v) (hl : row.length ≤ 1000) :
    Calls Tryz.prog 36 #[v, .int .i64 (k : Int)] w fun e w' => ∃ v', e = .returned v' ∧ w'.ownsRow w.heap.size 3 1 v' (row.length + 1) (nats (row ++ [k])) ∧ SrcN v' ∧ Below w.heap.size w w' := by
  obtain ⟨j0, hj0, hy0, hy1', hy2'⟩ := info_parts infoN11
  have HV := Lib.hid hv
  have HS := Lib.hid hs
  obtain ⟨a, c, rfl⟩ := hv.len
  rw [nats_len] at HV HS ⊢
  have hba : Below w.heap.size w (w.alloc (.cells #[] 3)) := (Below.refl _ w).alloc (Nat.le_refl _) _
  have HBA := Lib.hid hba
  have HOA := Lib.hid (World.ownsRow_made (e := 3) (base := w.heap.size) (size := 1) w #[] 0 (Nat.le_refl _) (by unfold maxLen; omega) (by simp))
  have HNA : Hid (nats row ++ [.int .i64 (k : Int)] = nats (row ++ [k])) := by unfold Hid; simp [nats]
  clear hv hs hba
  go_enter Tryz.func36, Tryz.ntmps36
  go_wp2_with (at_builtin; refine wpList_append_srcI rfl _ _ rfl w.heap.size _ 0 [] rfl HOA.out _ row rfl (HV.out.below HBA.out (Nat.le_refl _)) HS.out (by omega) HBA.out.size ?_)
  intro v1 w1 ho1 hg1
  have hb1 := HBA.out.grown hg1 HBA.out.size (fun x hx => (HOA.out.lt x hx).1)
  have HO1 := Lib.hid ho1
  have HB1 := Lib.hid hb1
  obtain ⟨a1, c1, rfl⟩ := row_slice ho1
  clear ho1 hg1 hb1
  go_wp2_with (at_builtin; refine wpList_append_own _ rfl _ _ 24 rfl w.heap.size 3 j0 (.int .i64 0) 1 8 Tryz.underlying24 hj0 hy0 hy1' hy2' rfl (by decide) (.slice a1 row.length c1) row.length (nats row) rfl (HO1.out.alloc _) ⟨w1.heap.size, 0, none⟩ 1 1 [.int .i64 (k : Int)] rfl rfl (cell_one_at w1 _ _) (one_int _ _) (by unfold maxLen; omega) (by omega) (by have := HB1.out.size; simp; omega) ?_)
  intro v2 w2 ho2 hg2 _
  rw [HNA.out] at ho2
  have HO2 := Lib.hid ho2
  have HB2 := Lib.hid ((HB1.out.alloc HB1.out.size _).grown hg2 (by have := HB1.out.size; simp; omega) (fun x hx => (HO1.out.lt x hx).1))
  obtain ⟨a2, c2, rfl⟩ := row_slice ho2
  clear ho2 hg2
  go_wp2
  go_ret
  exact ⟨_, rfl, HO2.out, SrcN.of_row HO2.out, HB2.out⟩
set_option maxRecDepth 100000 in
set_option maxHeartbeats 4000000 in
theorem refWalkC_any (v rv : Value) (A row : List Nat) (w : World) (hv : Rd w v (u32s A)) (hA : ∀ x ∈ A, x < 4294967296) (hr : Rd w rv (nats row)) (hrl : row.length ≤ 65536) (hlt : ∀ k ∈ row, k < A.length) (hal : A.length ≤ 65536) (hcap : ∀ a m c, rv = .slice a m c → m ≤ c) :
    Calls Tryz.prog 37 #[v, rv] w fun e w' => e = .returned (.bool (walkB A row)) ∧ w' = w := by
  obtain ⟨va, vc, rfl⟩ := hv.len
  obtain ⟨ra, rc, rfl⟩ := hr.len
  rw [u32s_len] at hv ⊢
  rw [nats_len] at hr hcap ⊢
  have hcp := hcap _ _ _ rfl
  have HW := Lib.hid (walk_steps A row)
  have HWN := Lib.hid (fun (k : Nat) (hk : k < row.length) (h : stepY A row k = false) => stepY_not hk h)
  have HLT := Lib.hid hlt
  have HR := Lib.hid hr
  have HV := Lib.hid hv
  have HA := Lib.hid hA
  have HHS := Lib.hid (fun (k : Nat) (hk : k ≤ row.length) (x : Nat) => hasN_any _ (row.take k) x w (rdN_cut hr k hk) (by rw [List.length_take]; omega))
  clear hv hr hlt hA hcap
  generalize walkB A row = R at *
  go_enter Tryz.func37, Tryz.ntmps37
  go_wp2_with fail
  go_loopw [10] (fun x wr => ∃ k : Nat, k ≤ row.length ∧ x = .int .i64 k ∧ Hid ((List.range k).all (stepY A row) = true) ∧ wr = w) (fun x _ => row.length - (intOf x).toNat)
  case atStart => exact ⟨0, by omega, rfl, rfl, rfl⟩
  case round =>
    obtain ⟨k, hk, rfl, HS, hwr⟩ := hrel
    obtain rfl : w = wr := hwr.symm
    by_cases hlt : k < row.length
    · obtain ⟨b, o, c', he, hb, hc⟩ := HR.out.opened (by rw [nats_len]; omega)
      simp only [Value.slice.injEq] at he
      obtain ⟨rfl, -, rfl⟩ := he
      have hck := hc k _ (nats_get hlt)
      have h00 : 0 < row.length := Nat.lt_of_le_of_lt (Nat.zero_le k) hlt
      have hc0 := hc 0 _ (nats_get h00)
      rw [Nat.add_zero] at hc0
      have hxA := HLT.out _ (List.getElem_mem hlt)
      obtain ⟨zb, zo, zc, hze, hzl, hzcs⟩ := HV.out.opened (by rw [u32s_len]; omega)
      simp only [Value.slice.injEq] at hze
      obtain ⟨rfl, -, rfl⟩ := hze
      have hcx := hzcs row[k] _ (u32s_get hxA)
      have hax := HA.out _ (List.getElem_mem hxA)
      have hst : stepY A row k = (!(row.take k).contains row[k] && A[row[k]].testBit (row.getD ((k + 1) % row.length) 0)) := by unfold stepY; rw [getD_get hlt, aft_at hxA]
      have HST := Lib.hid (HWN.out k hlt)
      have HSN : Hid (stepY A row k = true → (List.range (k + 1)).all (stepY A row) = true) := fun h => by rw [stepY_next, HS.out, h]; rfl
      have HHK := Lib.hid (HHS.out k hk row[k])
      have HNX : Hid (row.getD ((k + 1) % row.length) 0 < A.length) := by
        have hm : (k + 1) % row.length < row.length := Nat.mod_lt _ (by omega)
        unfold Hid
        rw [getD_get hm]
        exact HLT.out _ (List.getElem_mem _)
      have HBI := Lib.hid (fun (y : Nat) (hy : y < A.length) => refBit9_any A[row[k]] y hax (by omega) w)
      have hkc : (k : Int) ≤ (rc : Int) := by omega
      by_cases hl : k + 1 < row.length
      · have hcn := hc (k + 1) _ (nats_get hl)
        have hmod : (k + 1) % row.length = k + 1 := Nat.mod_eq_of_lt hl
        rw [hmod, getD_get hl] at hst HNX
        have HBY := Lib.hid (HBI.out _ HNX.out)
        clear hc hzcs HBI hmod HNX hzl hb HS
        generalize A[row[k]] = ax at *
        generalize row[k] = x at *
        generalize row[k + 1] = y at *
        generalize row[0] = y0 at *
        cases hct : (row.take k).contains x with
        | true =>
          rw [hct] at HHK hst
          rw [Bool.not_true, Bool.false_and] at hst
          obtain rfl : R = false := HST.out hst
          clear hst HST HSN hct HBY HHS
          go_wp2_with (go_at_call 35; refine HHK.out.mono ?_; rintro e w5 ⟨rfl, hw5⟩; rw [← hw5]; clear hw5)
          go_ret
          exact ⟨rfl, rfl⟩
        | false =>
          rw [hct] at HHK hst
          rw [Bool.not_false, Bool.true_and] at hst
          clear hct HHS
          cases hbt : ax.testBit y with
          | false =>
            rw [hbt] at HBY hst
            obtain rfl : R = false := HST.out hst
            clear hst HST HSN hbt
            go_wp2_with (first
              | (go_at_call 35; refine HHK.out.mono ?_; rintro e w5 ⟨rfl, hw5⟩; rw [← hw5]; clear hw5)
              | (go_at_call 72; refine HBY.out.mono ?_; rintro e w6 ⟨rfl, hw6⟩; rw [hw6]; clear hw6))
            go_ret
            exact ⟨rfl, rfl⟩
          | true =>
            rw [hbt] at HBY hst
            have HS2 := Lib.hid (HSN.out hst)
            clear hst HST HSN hbt
            go_wp2_with (first
              | (go_at_call 35; refine HHK.out.mono ?_; rintro e w5 ⟨rfl, hw5⟩; rw [← hw5]; clear hw5)
              | (go_at_call 72; refine HBY.out.mono ?_; rintro e w6 ⟨rfl, hw6⟩; rw [hw6]; clear hw6))
            go_roundw
            case rel => exact ⟨k + 1, by omega, by go_num, HS2.out, trivial⟩
            case measure => simp [intOf]; omega
      · have hmod : (k + 1) % row.length = 0 := by rw [show k + 1 = row.length from by omega, Nat.mod_self]
        rw [hmod, getD_get h00] at hst HNX
        have HBY := Lib.hid (HBI.out _ HNX.out)
        clear hc hzcs HBI hmod HNX hzl hb HS
        generalize A[row[k]] = ax at *
        generalize row[k] = x at *
        generalize row[0] = y at *
        cases hct : (row.take k).contains x with
        | true =>
          rw [hct] at HHK hst
          rw [Bool.not_true, Bool.false_and] at hst
          obtain rfl : R = false := HST.out hst
          clear hst HST HSN hct HBY HHS
          go_wp2_with (go_at_call 35; refine HHK.out.mono ?_; rintro e w5 ⟨rfl, hw5⟩; rw [← hw5]; clear hw5)
          go_ret
          exact ⟨rfl, rfl⟩
        | false =>
          rw [hct] at HHK hst
          rw [Bool.not_false, Bool.true_and] at hst
          clear hct HHS
          cases hbt : ax.testBit y with
          | false =>
            rw [hbt] at HBY hst
            obtain rfl : R = false := HST.out hst
            clear hst HST HSN hbt
            go_wp2_with (first
              | (go_at_call 35; refine HHK.out.mono ?_; rintro e w5 ⟨rfl, hw5⟩; rw [← hw5]; clear hw5)
              | (go_at_call 72; refine HBY.out.mono ?_; rintro e w6 ⟨rfl, hw6⟩; rw [hw6]; clear hw6))
            go_ret
            exact ⟨rfl, rfl⟩
          | true =>
            rw [hbt] at HBY hst
            have HS2 := Lib.hid (HSN.out hst)
            clear hst HST HSN hbt
            go_wp2_with (first
              | (go_at_call 35; refine HHK.out.mono ?_; rintro e w5 ⟨rfl, hw5⟩; rw [← hw5]; clear hw5)
              | (go_at_call 72; refine HBY.out.mono ?_; rintro e w6 ⟨rfl, hw6⟩; rw [hw6]; clear hw6))
            go_roundw
            case rel => exact ⟨k + 1, by omega, by go_num, HS2.out, trivial⟩
            case measure => simp [intOf]; omega
    · obtain rfl : k = row.length := by omega
      have HR2 : Hid (R = !row.isEmpty) := by rw [Hid, HW.out, HS.out, Bool.and_true]
      have HNE : Hid ((!row.isEmpty) = decide (0 < row.length)) := by
        cases row with
        | nil => rfl
        | cons x r => rfl
      clear HWN HW HS HHS
      go_wp2
      go_ret
      exact ⟨ret_bool (by rw [HR2.out, HNE.out]; try simp), rfl⟩
end Go.Proofs.YtmnblljenobofaaGreatDoor
/- The walk of the reference's Least. -/
namespace Go.Proofs.YtmnblljenobofaaGreatDoor.RPlain
end Go.Proofs.YtmnblljenobofaaGreatDoor.RPlain
namespace Go.Proofs.YtmnblljenobofaaGreatDoor.RPlain

/-- what comes of a row, up to a place: all that it does not have -/
def onN (r : List Nat) (k : Nat) : List (List Nat) := ((List.range k).filter fun x => !r.contains x).map fun x => r ++ [x]
theorem onN_snoc (r : List Nat) (k : Nat) : onN r (k + 1) = if r.contains k = true then onN r k else onN r k ++ [r ++ [k]] := by
  unfold onN
  rw [List.range_succ, List.filter_append, List.map_append]
  cases h : r.contains k <;> simp_all
/-- what comes of the first q rows -/
def allN (n : Nat) (L : List (List Nat)) (q : Nat) : List (List Nat) := (L.take q).flatMap fun r => onN r n
theorem allN_snoc {n : Nat} {L : List (List Nat)} {q : Nat} (h : q < L.length) : allN n L (q + 1) = allN n L q ++ onN L[q] n := by
  unfold allN
  rw [List.take_succ_eq_append_getElem h, List.flatMap_append]
  simp
theorem allN_ext (n s : Nat) : allN n (nodL n s) (nodL n s).length = nodL n (s + 1) := by
  unfold allN onN nodL
  rw [List.take_length, ext_snoc]
theorem onN_le (r : List Nat) {k m : Nat} (h : k ≤ m) : (onN r k).length ≤ (onN r m).length := by
  obtain ⟨d, rfl⟩ := Nat.le.dest h
  unfold onN
  rw [List.length_map, List.length_map, List.range_add, List.filter_append, List.length_append]
  omega
theorem allN_le (n : Nat) (L : List (List Nat)) (q : Nat) : (allN n L q).length ≤ (allN n L L.length).length := by
  unfold allN
  rw [List.take_length]
  conv => rhs; rw [← List.take_append_drop q L, List.flatMap_append, List.length_append]
  omega
theorem nodL_len {n : Nat} (hn : n ≤ 6) {s : Nat} (hs : s ≤ n) : (nodL n s).length ≤ 46656 := by
  have h1 := ext_len n (fun row k => !row.contains k) s []
  have h2 : n ^ s ≤ 6 ^ s := Nat.pow_le_pow_left hn _
  have h3 : 6 ^ s ≤ 6 ^ 6 := Nat.pow_le_pow_right (by decide) (by omega)
  unfold nodL
  omega
theorem nodL_bound {n : Nat} (hn : n ≤ 6) {s : Nat} (hs : s < n) {q : Nat} (hq : q < (nodL n s).length) {k : Nat} (hk : k ≤ n) : (allN n (nodL n s) q ++ onN (nodL n s)[q] k).length ≤ 46656 := by
  have h1 := nodL_len hn (s := s + 1) (by omega)
  have h2 := allN_le n (nodL n s) (q + 1)
  have h3 : (allN n (nodL n s) (nodL n s).length).length = (nodL n (s + 1)).length := congrArg List.length (allN_ext n s)
  rw [allN_snoc hq, List.length_append] at h2
  have h4 := onN_le (nodL n s)[q] hk
  rw [List.length_append]
  omega
theorem leastG_some {A : List Nat} {f s : Nat} {L : List (List Nat)} (hL : L = nodL A.length s) {q : Nat} (hq : q < L.length) (hno : ∀ j (hj : j < q), walkB A (L[j]'(Nat.lt_trans hj hq)) = false) (h : walkB A L[q] = true) : leastG A (f + 1) s = L[q] := by
  have h1 : L.find? (walkB A) = some L[q] := by
    rw [List.find?_eq_some_iff_getElem]
    exact ⟨h, q, hq, rfl, fun j hj => by rw [hno j hj]; rfl⟩
  rw [leastG, ← hL, h1]
theorem leastG_none {A : List Nat} {f s : Nat} {L : List (List Nat)} (hL : L = nodL A.length s) (hno : ∀ j (hj : j < L.length), walkB A L[j] = false) : leastG A (f + 1) s = leastG A f (s + 1) := by
  have h1 : L.find? (walkB A) = none := List.find?_eq_none.2 fun x hx => by
    obtain ⟨j, hj, rfl⟩ := List.mem_iff_getElem.1 hx
    rw [hno j hj]; decide
  rw [leastG, ← hL, h1]
end Go.Proofs.YtmnblljenobofaaGreatDoor.RPlain
namespace Go.Proofs.YtmnblljenobofaaGreatDoor
open Go.RowKit RPlain

set_option maxRecDepth 100000 in
set_option maxHeartbeats 8000000 in
theorem refLeastC_any (av : Value) (A : List Nat) (w : World) (hav : Rd w av (u32s A)) (hA : ∀ x ∈ A, x < 4294967296) (hal : A.length ≤ 6) :
    Calls Tryz.prog 13 #[av] w fun e w' => ∃ v, e = .returned v ∧ w'.ownsRow w.heap.size 3 1 v (leastS A).length (nats (leastS A)) ∧ Below w.heap.size w w' := by
  obtain ⟨i0, hi0, hz0, hz1, hz2⟩ := info_parts infoSl
  have HAV := Lib.hid hav
  have HA := Lib.hid hA
  obtain ⟨aa, ac, rfl⟩ := hav.len
  rw [u32s_len] at HAV ⊢
  have hsA : (w.alloc (.cells #[] 3)).heap.size = w.heap.size + 1 := by simp
  have hb0 : Below w.heap.size w ((w.alloc (.cells #[] 3)).alloc (.cells #[.slice (some ⟨w.heap.size, 0, none⟩) 0 0] 24)) := ((Below.refl _ w).alloc (Nat.le_refl _) _).alloc (by simp) _
  have hat : At ((w.alloc (.cells #[] 3)).alloc (.cells #[.slice (some ⟨w.heap.size, 0, none⟩) 0 0] 24)) (w.heap.size + 1) #[.slice (some ⟨w.heap.size, 0, none⟩) 0 0] 24 := by
    have := At.new (w.alloc (.cells #[] 3)) #[.slice (some ⟨w.heap.size, 0, none⟩) 0 0] 24
    rwa [hsA] at this
  have HO0 : Hid (∃ vs, ((w.alloc (.cells #[] 3)).alloc (.cells #[.slice (some ⟨w.heap.size, 0, none⟩) 0 0] 24)).ownsRow w.heap.size 24 1 (.slice (some ⟨w.heap.size + 1, 0, none⟩) 1 1) (nodL A.length 0).length vs ∧ RowsO w.heap.size ((w.alloc (.cells #[] 3)).alloc (.cells #[.slice (some ⟨w.heap.size, 0, none⟩) 0 0] 24)) vs (nodL A.length 0)) := by
    refine ⟨[.slice (some ⟨w.heap.size, 0, none⟩) 0 0], ⟨rfl, .inr ⟨w.heap.size + 1, 1, _, rfl, by omega, hat, Nat.le_refl _, by unfold maxLen; omega, rfl, rfl⟩⟩, rfl, fun i hi hi' => ?_⟩
    obtain rfl : i = 0 := by simp at hi'; exact hi'
    exact (own_nil_int (Nat.le_refl w.heap.size)).alloc _
  have HB0 := Lib.hid hb0
  have HLF := Lib.hid (fun (s : Nat) (hs : s ≤ A.length) => nodL_len hal hs)
  have HLM : Hid (∀ s r, r ∈ nodL A.length s → r.length = s ∧ (∀ k ∈ r, k < A.length) ∧ r.Nodup) := fun s r hr => nodL_mem.1 hr
  have HGB := Lib.hid (fun (s : Nat) (hs : s < A.length) (q : Nat) (hq : q < (nodL A.length s).length) (k : Nat) (hk : k ≤ A.length) => nodL_bound hal hs hq hk)
  have HGE : Hid (∀ s, allN A.length (nodL A.length s) (nodL A.length s).length = nodL A.length (s + 1)) := fun s => allN_ext A.length s
  have HLG : Hid (leastS A = leastG A (A.length - 0) (0 + 1)) := rfl
  clear hav hA hsA hb0 hat
  go_enter Tryz.func13, Tryz.ntmps13
  go_wp2_with fail
  go_loopw [3, 14] (fun y x wr => ∃ s : Nat, s ≤ A.length ∧ x = .int .i64 s ∧ Hid (∃ vs, wr.ownsRow w.heap.size 24 1 y (nodL A.length s).length vs ∧ RowsO w.heap.size wr vs (nodL A.length s)) ∧ Hid (leastS A = leastG A (A.length - s) (s + 1)) ∧ Hid (Below w.heap.size w wr)) (fun _ x _ => A.length - (intOf x).toNat)
  case atStart => exact ⟨0, by omega, rfl, HO0, HLG, HB0⟩
  case round =>
    clear HO0 HB0 HLG
    obtain ⟨s, hs, rfl, HO, HLG, HB⟩ := hrel
    by_cases hlt : s < A.length
    · have HGE1 := Lib.hid (HGE.out s)
      have HGB1 := Lib.hid (HGB.out s hlt)
      have hLl := HLF.out s hs
      have HLM1 := Lib.hid (HLM.out s)
      obtain ⟨vs, ho, hr⟩ := HO.out
      have hba : Below wr.heap.size wr (wr.alloc (.cells #[] 24)) := (Below.refl _ wr).alloc (Nat.le_refl _) _
      have HLV0 : Hid (LvlR w.heap.size wr.heap.size w u3 vs (nodL A.length s) (.slice (some ⟨wr.heap.size, 0, none⟩) 0 0) (allN A.length (nodL A.length s) 0) (wr.alloc (.cells #[] 24))) :=
        ⟨ho.kept (grownB11 hba) (by cases u3.ownBlock <;> simp), hr.below hba, ⟨[], own_nil_rows (Nat.le_refl _), ⟨rfl, fun i hi => by simp [allN] at hi⟩⟩, HB.out.trans (hba.mono HB.out.size), fun g hg => (ho.lt g hg).2, hba.size, HB.out.size⟩
      obtain ⟨ya, yc, hy3⟩ := row_slice ho
      subst hy3
      obtain ⟨B2, hB2⟩ : ∃ z, wr.heap.size = z := ⟨_, rfl⟩
      rw [hB2] at HLV0
      have HB2 := Lib.hid hB2
      clear HO HB ho hr hba hB2
      generalize nodL A.length s = Ls at *
      go_wp2_with fail
      go_loopw [4, 19] (fun z x wr2 => ∃ q : Nat, q ≤ Ls.length ∧ x = .int .i64 q ∧ Hid (LvlR w.heap.size B2 w (.slice ya Ls.length yc) vs Ls z (allN A.length Ls q) wr2)) (fun _ x _ => Ls.length - (intOf x).toNat)
      case atStart => exact ⟨0, by omega, rfl, by rw [HB2.out]; exact HLV0⟩
      case round =>
        clear HLV0
        obtain ⟨q, hq, rfl, HLV⟩ := hrel
        by_cases hlt2 : q < Ls.length
        · have hrd := Rd.of_row HLV.out.out
          obtain ⟨b, o, c', he, hb, hc⟩ := hrd.opened (by rw [HLV.out.rows.1]; omega)
          obtain ⟨ra, rc, hget, hown⟩ := HLV.out.rows.get hlt2
          have hcq := hc q _ hget
          simp only [Value.slice.injEq] at he
          obtain ⟨rfl, -, rfl⟩ := he
          obtain ⟨h6, hk6, hkp⟩ := HLM1.out _ (List.getElem_mem hlt2)
          have HGB2 := Lib.hid (fun k hk => HGB1.out q hlt2 k hk)
          have HGS := Lib.hid (allN_snoc (n := A.length) hlt2)
          have HAT := Lib.hid (fun (W : World) (z : Value) (acc : List (List Nat)) (h : LvlR w.heap.size B2 w (.slice (some ⟨b, o, none⟩) Ls.length yc) vs Ls z acc W) => h.rows.at_ hlt2 hget)
          have HLV3 : Hid (LvlR w.heap.size B2 w (.slice (some ⟨b, o, none⟩) Ls.length yc) vs Ls u4 (allN A.length Ls q ++ onN Ls[q] 0) wr) := by
            have h0 : allN A.length Ls q ++ onN Ls[q] 0 = allN A.length Ls q := by simp [onN]
            rw [h0]
            exact HLV.out
          have hrn6 : Ls[q].length ≤ 6 := by omega
          have hz4 : ∃ a n c, u4 = .slice a n c := by
            obtain ⟨us, hus, _⟩ := HLV.out.acc
            obtain ⟨a, c, h⟩ := row_slice hus
            exact ⟨_, _, _, h⟩
          clear hrd hb hc hget hown h6 hk6 hkp HLV HLM1 HGB1
          generalize Ls[q] = r at *
          obtain ⟨z4a, z4n, z4c, hz4⟩ := hz4
          subst hz4
          go_wp2_with fail
          go_loopw [4, 25] (fun z x wr3 => ∃ k : Nat, k ≤ A.length ∧ x = .int .i64 k ∧ Hid (LvlR w.heap.size B2 w (.slice (some ⟨b, o, none⟩) Ls.length yc) vs Ls z (allN A.length Ls q ++ onN r k) wr3)) (fun _ x _ => A.length - (intOf x).toNat)
          case atStart => exact ⟨0, by omega, rfl, HLV3⟩
          case round =>
            clear HLV3
            obtain ⟨k, hk, rfl, HLV⟩ := hrel
            by_cases hlt3 : k < A.length
            · have HGO := Lib.hid (onN_snoc r k)
              have hbd := HGB2.out k (by omega)
              have HRO := Lib.hid (HAT.out wr _ _ HLV.out)
              have hhn := hasN_any (.slice ra r.length rc) r k wr (Rd.of_row HRO.out) (by omega)
              have hz4 : ∃ a n c, u4 = .slice a n c := by
                obtain ⟨us, hus, _⟩ := HLV.out.acc
                obtain ⟨a, c, h⟩ := row_slice hus
                exact ⟨_, _, _, h⟩
              obtain ⟨z5a, z5n, z5c, hz4⟩ := hz4
              subst hz4
              cases hnx : r.contains k with
              | true =>
                rw [hnx] at hhn
                have HHN := Lib.hid hhn
                have HLF2 : Hid (LvlR w.heap.size B2 w (.slice (some ⟨b, o, none⟩) Ls.length yc) vs Ls (.slice z5a z5n z5c) (allN A.length Ls q ++ onN r (k + 1)) wr) := by
                  unfold Hid
                  rw [HGO.out, hnx, if_pos rfl]
                  exact HLV.out
                clear hnx hhn HLV HGO HRO
                go_wp2_with (go_at_call 35; refine HHN.out.mono ?_; rintro e w5 ⟨rfl, rfl⟩)
                go_roundw
                case rel => exact ⟨k + 1, by omega, by go_num, HLF2⟩
                case measure => simp [intOf]; omega
              | false =>
                rw [hnx] at hhn
                have HHN := Lib.hid hhn
                have HWI := Lib.hid (refWithC_any (.slice ra r.length rc) r k wr (Rd.of_row HRO.out) (SrcN.of_row HRO.out) (by omega))
                have HGO2 : Hid (allN A.length Ls q ++ onN r (k + 1) = allN A.length Ls q ++ onN r k ++ [r ++ [k]]) := by
                  unfold Hid
                  rw [HGO.out, hnx, if_neg (by decide), List.append_assoc]
                clear hnx hhn HRO HGO
                go_wp2_with (go_at_call 35; refine HHN.out.mono ?_; rintro e w5 ⟨rfl, rfl⟩)
                refine HWI.out.mono ?_
                rintro e w2 ⟨v2, rfl, g1, g2, g3⟩
                have hlw := HLV.out.below g3
                have hal2 := ((Below.refl w2.heap.size w2).alloc (Nat.le_refl _))
                obtain ⟨v2a, v2c, rfl⟩ := row_slice g1
                have HLA := Lib.hid (hlw.below (hal2 (.cells #[.slice v2a (r.length + 1) v2c] 24)))
                have hrk : (r ++ [k]).length = r.length + 1 := by simp
                have HOA := Lib.hid (own_less (g1.alloc (.cells #[.slice v2a (r.length + 1) v2c] 24)) HLV.out.bel.size)
                obtain ⟨us, hus, hrs⟩ := HLA.out.acc
                have HUS := Lib.hid hus
                have HRS := Lib.hid hrs
                have HTOP := Lib.hid HLA.out.top
                have HRK := Lib.hid hrk
                clear hus hrs hlw hal2 g1 g2 g3 HLV HWI hrk
                obtain ⟨acc, hac⟩ : ∃ z, allN A.length Ls q ++ onN r k = z := ⟨_, rfl⟩
                rw [hac] at HUS HRS HLA HGO2 hbd
                clear hac
                go_wp2_with (at_builtin; refine wpList_append_own _ rfl _ _ 47 rfl B2 24 i0 (.slice none 0 0) 1 24 Tryz.underlying47 hi0 hz0 hz1 hz2 rfl (by decide) (.slice z5a z5n z5c) acc.length us rfl HUS.out ⟨w2.heap.size, 0, none⟩ 1 1 [.slice v2a (r.length + 1) v2c] rfl rfl (cell_slice_at w2 _ _) (one_sl _ _ _) (by unfold maxLen; omega) (by omega) HTOP.out ?_; intro v4 w4 ho4 hg4 _)
                have hp := LvlR.push (r := r ++ [k]) HLA.out (by rw [HRK.out]; exact HOA.out) HUS.out HRS.out ho4 hg4
                rw [← HGO2.out] at hp
                have HP := Lib.hid hp
                clear hp ho4 hg4
                refine ⟨⟨k + 1, by omega, by go_num, HP⟩, ?_⟩
                simp [intOf]; omega
            · obtain rfl : k = A.length := by omega
              have HLV4 : Hid (LvlR w.heap.size B2 w (.slice (some ⟨b, o, none⟩) Ls.length yc) vs Ls u4 (allN A.length Ls (q + 1)) wr) := by
                unfold Hid
                rw [HGS.out]
                exact HLV.out
              have hz4 : ∃ a n c, u4 = .slice a n c := by
                obtain ⟨us, hus, _⟩ := HLV.out.acc
                obtain ⟨a, c, h⟩ := row_slice hus
                exact ⟨_, _, _, h⟩
              obtain ⟨z5a, z5n, z5c, hz4⟩ := hz4
              subst hz4
              clear HLV
              go_wp2_with fail
              go_roundw
              case rel => exact ⟨q + 1, by omega, by go_num, HLV4⟩
              case measure => simp [intOf]; omega
        · obtain rfl : q = Ls.length := by omega
          obtain ⟨us, hus, hrs⟩ := HLV.out.acc
          have h1 := own_less hus HLV.out.base
          rw [HGE1.out] at h1 hrs
          have HBF := Lib.hid HLV.out.bel
          have HL2 := Lib.hid (HLM.out (s + 1))
          have HLG2 : Hid (leastS A = leastG A (A.length - (s + 1) + 1) (s + 1)) := by
            rw [Hid, HLG.out]
            congr 1
            omega
          obtain ⟨L2, hL2⟩ : ∃ L, nodL A.length (s + 1) = L := ⟨_, rfl⟩
          have hll2 := HLF.out (s + 1) (by omega)
          rw [hL2] at h1 hrs HL2 hll2
          have HLE := Lib.hid hL2.symm
          have HO1 := Lib.hid h1
          have HR1 := Lib.hid hrs
          obtain ⟨za, zc, hz4⟩ := row_slice h1
          subst hz4
          clear hus h1 hrs HLV HLG hL2 HGE1 HGB1 HGE HGB HLF
          go_wp2_with fail
          obtain ⟨w9, hw9⟩ : ∃ w9 : World, w9 = wr := ⟨wr, rfl⟩
          subst hw9
          go_loopw [42] (fun x wr2 => ∃ j : Nat, j ≤ L2.length ∧ x = .int .i64 j ∧ Hid (∀ i (hi : i < L2.length), i < j → walkB A L2[i] = false) ∧ wr2 = w9) (fun x _ => L2.length - (intOf x).toNat)
          case atStart => exact ⟨0, by omega, rfl, fun i _ h => absurd h (Nat.not_lt_zero _), rfl⟩
          case round =>
            obtain ⟨j, hj, rfl, HNO, hwr⟩ := hrel
            obtain rfl : w9 = wr := hwr.symm
            by_cases hlt4 : j < L2.length
            · have hrd := Rd.of_row HO1.out
              obtain ⟨b, o, c', he, hb, hc⟩ := hrd.opened (by rw [HR1.out.1]; omega)
              obtain ⟨ra, rc, hget, hown⟩ := HR1.out.get hlt4
              have hcj := hc j _ hget
              simp only [Value.slice.injEq] at he
              obtain ⟨rfl, -, rfl⟩ := he
              obtain ⟨h6, hk6, _⟩ := HL2.out _ (List.getElem_mem hlt4)
              have HWK := Lib.hid (refWalkC_any (.slice aa A.length ac) (.slice ra L2[j].length rc) A L2[j] w9 (HAV.out.below HBF.out (Nat.le_refl _)) HA.out (Rd.of_row hown) (by omega) hk6 (by omega) (ownCap11 hown))
              have HOW := Lib.hid hown
              have HSM : Hid (walkB A L2[j] = true → leastS A = L2[j]) := fun h => by
                rw [HLG2.out]
                exact leastG_some HLE.out hlt4 (fun i hi => HNO.out i (by omega) hi) h
              have HNX : Hid (walkB A L2[j] = false → ∀ i (hi : i < L2.length), i < j + 1 → walkB A L2[i] = false) := fun h i hi hij => by
                by_cases he : i = j
                · subst he; exact h
                · exact HNO.out i hi (by omega)
              clear hrd hb hc hget hown h6 hk6
              obtain ⟨r, hr⟩ : ∃ r, L2[j] = r := ⟨_, rfl⟩
              rw [hr] at HWK HOW HSM HNX hcj
              clear hr
              cases hwb : walkB A r with
              | true =>
                rw [hwb] at HWK
                have HF := Lib.hid (HSM.out hwb)
                clear hwb HSM HNX HNO
                go_wp2_with (go_at_call 37; refine HWK.out.mono ?_; rintro e w5 ⟨rfl, hw5⟩; rw [hw5]; clear hw5)
                go_ret
                exact ⟨_, rfl, by rw [HF.out]; exact HOW.out, HBF.out⟩
              | false =>
                rw [hwb] at HWK
                have HN2 := Lib.hid (HNX.out hwb)
                clear hwb HSM HNX HNO
                go_wp2_with (go_at_call 37; refine HWK.out.mono ?_; rintro e w5 ⟨rfl, hw5⟩; rw [hw5]; clear hw5)
                go_roundw
                case rel => exact ⟨j + 1, by omega, by go_num, HN2, trivial⟩
                case measure => simp [intOf]; omega
            · obtain rfl : j = L2.length := by omega
              have HLG3 : Hid (leastS A = leastG A (A.length - (s + 1)) (s + 1 + 1)) := by
                rw [Hid, HLG2.out]
                exact leastG_none HLE.out fun i hi => HNO.out i hi hi
              have HO3 : Hid (∃ vs, w9.ownsRow w.heap.size 24 1 (.slice za L2.length zc) (nodL A.length (s + 1)).length vs ∧ RowsO w.heap.size w9 vs (nodL A.length (s + 1))) := by
                rw [← HLE.out]
                exact ⟨us, HO1.out, HR1.out⟩
              clear HNO HLG2 HO1 HR1 HL2
              go_wp2_with fail
              go_roundw
              case rel => exact ⟨s + 1, by omega, by go_num, HO3, HLG3, HBF⟩
              case measure => simp [intOf]; omega
    · obtain rfl : s = A.length := by omega
      have HF : Hid (leastS A = []) := by
        rw [Hid, HLG.out, Nat.sub_self]
        rfl
      have HBF := Lib.hid (HB.out.alloc HB.out.size (.cells #[] 3))
      have HON := Lib.hid (own_nil_int (w := wr) HB.out.size)
      obtain ⟨vs, ho, hr⟩ := HO.out
      obtain ⟨ya, yc, hy3⟩ := row_slice ho
      subst hy3
      clear HO HLG HGE HGB HLF HLM ho hr
      go_wp2
      go_ret
      exact ⟨_, rfl, by rw [HF.out]; exact HON.out, HBF.out⟩
end Go.Proofs.YtmnblljenobofaaGreatDoor
