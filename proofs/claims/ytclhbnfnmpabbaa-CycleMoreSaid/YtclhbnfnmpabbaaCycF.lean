/- The walks of the reference's May, Walk and with. -/
import Derived.Test.YtclhbnfnmpabbaaCycE
import Derived.Test.YtclhbnfnmpabbaaExtM
import Derived.Test.YtclhbnfnmpabbaaCmpF
namespace Go.Proofs.Ytclhbnfnmpabbaa.RPlain
end Go.Proofs.Ytclhbnfnmpabbaa.RPlain
namespace Go.Proofs.Ytclhbnfnmpabbaa.RPlain

def stepY (A row : List Nat) (i : Nat) : Bool := !(row.take i).contains (row.getD i 0) && aft A (row.getD i 0) (row.getD ((i + 1) % row.length) 0)
theorem walk_steps (A row : List Nat) : walkB A row = (!row.isEmpty && (List.range row.length).all (stepY A row)) := rfl
theorem stepY_next {A row : List Nat} {k : Nat} : (List.range (k + 1)).all (stepY A row) = ((List.range k).all (stepY A row) && stepY A row k) := by
  rw [List.range_succ, List.all_append]
  simp
theorem stepY_not {A row : List Nat} {k : Nat} (hk : k < row.length) (h : stepY A row k = false) : walkB A row = false := by
  rw [walk_steps]
  have : (List.range row.length).all (stepY A row) = false := List.all_eq_false.2 ⟨k, List.mem_range.2 hk, by rw [h]; decide⟩
  rw [this, Bool.and_false]
end Go.Proofs.Ytclhbnfnmpabbaa.RPlain
namespace Go.Proofs.Ytclhbnfnmpabbaa
open Go.RowKit RPlain

theorem rdN_cut {w : World} {a : Option Addr} {n c : Nat} {L : List Nat} (h : Rd w (.slice a n c) (nats L)) (k : Nat) (hk : k ≤ L.length) : Rd w (.slice a k c) (nats (L.take k)) := by
  by_cases h0 : k = 0
  · subst h0
    exact .inl ⟨by simp [nats], _, _, rfl⟩
  · obtain ⟨b, o, c', he, hb, hc⟩ := h.opened (by rw [nats_len]; omega)
    simp only [Value.slice.injEq] at he
    obtain ⟨rfl, -, rfl⟩ := he
    have hl : (nats (L.take k)).length = k := by rw [nats_len, List.length_take]; omega
    refine .inr ⟨by omega, b, o, c, by rw [hl], fun i u hu => ?_⟩
    have hi : i < k := by have := (List.getElem?_eq_some_iff.1 hu).1; omega
    refine hc i u ?_
    have h1 : nats (L.take k) = (nats L).take k := by simp [nats]
    rw [h1, List.getElem?_take_of_lt hi] at hu
    exact hu
set_option maxRecDepth 100000 in
set_option maxHeartbeats 2000000 in
theorem refMayC_any (av : Value) (A : List Nat) (w : World) (hav : Rd w av (u32s A)) (hA : ∀ x ∈ A, x < 4294967296) (hl : A.length ≤ 65536) :
    Calls Try.prog 8 #[av] w fun e w' => e = .returned (.bool (mayCy A)) ∧ w' = w := by
  have HAV := Lib.hid hav
  have HA := Lib.hid hA
  obtain ⟨aa, ac, rfl⟩ := hav.len
  rw [u32s_len] at HAV ⊢
  clear hav hA
  have HM1 : Hid ((A.any fun x => decide (2 ^ A.length ≤ x)) = true → mayCy A = false) := fun h => by unfold mayCy; rw [h, Bool.not_true, Bool.and_false]
  have HM0 : Hid ((A.any fun x => decide (2 ^ A.length ≤ x)) = false → mayCy A = decide (A.length ≤ 6)) := fun h => by unfold mayCy; rw [h, Bool.not_false, Bool.and_true]
  generalize mayCy A = m at *
  go_enter Try.func8, Try.ntmps8
  go_wp2_with fail
  go_loopw [7] (fun x wr => ∃ k : Nat, k ≤ A.length ∧ x = .int .i64 k ∧ Hid ((A.take k).any (fun x => decide (2 ^ A.length ≤ x)) = false) ∧ wr = w) (fun x _ => A.length - (intOf x).toNat)
  case atStart => exact ⟨0, by omega, rfl, rfl, rfl⟩
  case round =>
    obtain ⟨k, hk, rfl, HT, hwr⟩ := hrel
    obtain rfl : w = wr := hwr.symm
    by_cases hlt : k < A.length
    · obtain ⟨b, o, c', he, hb, hc⟩ := HAV.out.opened (by rw [u32s_len]; omega)
      simp only [Value.slice.injEq] at he
      obtain ⟨rfl, -, rfl⟩ := he
      have hck := hc k _ (u32s_get hlt)
      have hak := HA.out _ (List.getElem_mem hlt)
      have HAT := Lib.hid (any_take (p := fun x => decide (2 ^ A.length ≤ x)) hlt)
      have HIN : Hid (decide (2 ^ A.length ≤ A[k]) = true → (A.any fun x => decide (2 ^ A.length ≤ x)) = true) := fun h => List.any_eq_true.2 ⟨_, List.getElem_mem hlt, h⟩
      clear hc hb
      generalize A[k] = y at *
      go_wp2_with fail
      go_loopw [4, 13] (fun z x wr2 => ∃ j : Nat, j ≤ A.length ∧ x = .int .i64 j ∧ (∃ p : Nat, z = .int .u32 p ∧ p < 4294967296 ∧ Hid (p = y / 2 ^ j)) ∧ wr2 = w) (fun _ x _ => A.length - (intOf x).toNat)
      case atStart => exact ⟨0, by omega, rfl, ⟨y, rfl, hak, by unfold Hid; rw [Nat.pow_zero, Nat.div_one]⟩, rfl⟩
      case round =>
        obtain ⟨j, hj, rfl, ⟨p, rfl, hp, HP⟩, hwr⟩ := hrel
        obtain rfl : w = wr := hwr.symm
        by_cases hlt2 : j < A.length
        · have HP2 : Hid (p / 2 = y / 2 ^ (j + 1)) := by unfold Hid; rw [HP.out, Nat.div_div_eq_div_mul, Nat.pow_succ]
          clear HP
          go_wp2
          go_roundw
          case rel => exact ⟨j + 1, by omega, by go_num, ⟨p / 2, by go_num, by omega, HP2⟩, trivial⟩
          case measure => simp [intOf]; omega
        · obtain rfl : j = A.length := by omega
          have HPD : Hid (0 < p ↔ 2 ^ A.length ≤ y) := by
            unfold Hid
            rw [HP.out]
            exact ⟨fun h => by
              have := Nat.div_mul_le_self y (2 ^ A.length)
              have h2 : 1 * 2 ^ A.length ≤ y / 2 ^ A.length * 2 ^ A.length := Nat.mul_le_mul_right _ h
              omega, fun h => Nat.div_pos h (Nat.two_pow_pos _)⟩
          by_cases hp0 : 0 < p
          · have HF := Lib.hid (HM1.out (HIN.out (decide_eq_true (HPD.out.1 hp0))))
            clear HP HPD
            go_wp2
            go_ret
            exact ⟨ret_bool HF.out.symm, rfl⟩
          · have HF : Hid ((A.take (k + 1)).any (fun x => decide (2 ^ A.length ≤ x)) = false) := by
              unfold Hid
              rw [HAT.out, HT.out, decide_eq_false (fun h => hp0 (HPD.out.2 h))]
              rfl
            clear HP HPD
            go_wp2
            go_roundw
            case rel => exact ⟨k + 1, by omega, by go_num, HF, trivial⟩
            case measure => simp [intOf]; omega
    · obtain rfl : k = A.length := by omega
      have HNO : Hid ((A.any fun x => decide (2 ^ A.length ≤ x)) = false) := by have := HT.out; rwa [List.take_length] at this
      have HF := Lib.hid (HM0.out HNO.out)
      clear HT HNO HM0 HM1
      go_wp2
      go_ret
      exact ⟨ret_bool (by rw [HF.out, Bool.eq_iff_iff]; simp; try omega), rfl⟩
theorem refWithC_any (v : Value) (row : List Nat) (k : Nat) (w : World) (hv : Rd w v (nats row)) (hs : SrcN v) (hl : row.length ≤ 1000) :
    Calls Try.prog 28 #[v, .int .i64 (k : Int)] w fun e w' => ∃ v', e = .returned v' ∧ w'.ownsRow w.heap.size 3 1 v' (row.length + 1) (nats (row ++ [k])) ∧ SrcN v' ∧ Below w.heap.size w w' := by
  obtain ⟨j0, hj0, hy0, hy1', hy2'⟩ := info_parts infoN11
  have HV := Lib.hid hv
  have HS := Lib.hid hs
  obtain ⟨a, c, rfl⟩ := hv.len
  rw [nats_len] at HV HS ⊢
  have hba : Below w.heap.size w (w.alloc (.cells #[] 3)) := (Below.refl _ w).alloc (Nat.le_refl _) _
  have HBA := Lib.hid hba
  have HOA := Lib.hid (World.ownsRow_made (e := 3) (base := w.heap.size) (size := 1) w #[] 0 (Nat.le_refl _) (by unfold maxLen; omega) (by simp))
  have HNA : Hid (nats row ++ [.int .i64 (k : Int)] = nats (row ++ [k])) := by unfold Hid; simp [nats]
  clear hv hs hba
  go_enter Try.func28, Try.ntmps28
  go_wp2_with (at_builtin; refine wpList_append_srcI rfl _ _ rfl w.heap.size _ 0 [] rfl HOA.out _ row rfl (HV.out.below HBA.out (Nat.le_refl _)) HS.out (by omega) HBA.out.size ?_)
  intro v1 w1 ho1 hg1
  have hb1 := HBA.out.grown hg1 HBA.out.size (fun x hx => (HOA.out.lt x hx).1)
  have HO1 := Lib.hid ho1
  have HB1 := Lib.hid hb1
  obtain ⟨a1, c1, rfl⟩ := row_slice ho1
  clear ho1 hg1 hb1
  go_wp2_with (at_builtin; refine wpList_append_own _ rfl _ _ 23 rfl w.heap.size 3 j0 (.int .i64 0) 1 8 Try.underlying23 hj0 hy0 hy1' hy2' rfl (by decide) (.slice a1 row.length c1) row.length (nats row) rfl (HO1.out.alloc _) ⟨w1.heap.size, 0, none⟩ 1 1 [.int .i64 (k : Int)] rfl rfl (cell_one_at w1 _ _) (one_int _ _) (by unfold maxLen; omega) (by omega) (by have := HB1.out.size; simp; omega) ?_)
  intro v2 w2 ho2 hg2 _
  rw [HNA.out] at ho2
  have HO2 := Lib.hid ho2
  have HB2 := Lib.hid ((HB1.out.alloc HB1.out.size _).grown hg2 (by have := HB1.out.size; simp; omega) (fun x hx => (HO1.out.lt x hx).1))
  obtain ⟨a2, c2, rfl⟩ := row_slice ho2
  clear ho2 hg2
  go_wp2
  go_ret
  exact ⟨_, rfl, HO2.out, SrcN.of_row HO2.out, HB2.out⟩
set_option maxRecDepth 100000 in
set_option maxHeartbeats 4000000 in
theorem refWalkC_any (v rv : Value) (A row : List Nat) (w : World) (hv : Rd w v (u32s A)) (hA : ∀ x ∈ A, x < 4294967296) (hr : Rd w rv (nats row)) (hrl : row.length ≤ 65536) (hlt : ∀ k ∈ row, k < A.length) (hal : A.length ≤ 65536) (hcap : ∀ a m c, rv = .slice a m c → m ≤ c) :
    Calls Try.prog 12 #[v, rv] w fun e w' => e = .returned (.bool (walkB A row)) ∧ w' = w := by
  obtain ⟨va, vc, rfl⟩ := hv.len
  obtain ⟨ra, rc, rfl⟩ := hr.len
  rw [u32s_len] at hv ⊢
  rw [nats_len] at hr hcap ⊢
  have hcp := hcap _ _ _ rfl
  have HW := Lib.hid (walk_steps A row)
  have HWN := Lib.hid (fun (k : Nat) (hk : k < row.length) (h : stepY A row k = false) => stepY_not hk h)
  have HLT := Lib.hid hlt
  have HR := Lib.hid hr
  have HV := Lib.hid hv
  have HA := Lib.hid hA
  have HHS := Lib.hid (fun (k : Nat) (hk : k ≤ row.length) (x : Nat) => hasN_any _ (row.take k) x w (rdN_cut hr k hk) (by rw [List.length_take]; omega))
  clear hv hr hlt hA hcap
  generalize walkB A row = R at *
  go_enter Try.func12, Try.ntmps12
  go_wp2_with fail
  go_loopw [10] (fun x wr => ∃ k : Nat, k ≤ row.length ∧ x = .int .i64 k ∧ Hid ((List.range k).all (stepY A row) = true) ∧ wr = w) (fun x _ => row.length - (intOf x).toNat)
  case atStart => exact ⟨0, by omega, rfl, rfl, rfl⟩
  case round =>
    obtain ⟨k, hk, rfl, HS, hwr⟩ := hrel
    obtain rfl : w = wr := hwr.symm
    by_cases hlt : k < row.length
    · obtain ⟨b, o, c', he, hb, hc⟩ := HR.out.opened (by rw [nats_len]; omega)
      simp only [Value.slice.injEq] at he
      obtain ⟨rfl, -, rfl⟩ := he
      have hck := hc k _ (nats_get hlt)
      have h00 : 0 < row.length := Nat.lt_of_le_of_lt (Nat.zero_le k) hlt
      have hc0 := hc 0 _ (nats_get h00)
      rw [Nat.add_zero] at hc0
      have hxA := HLT.out _ (List.getElem_mem hlt)
      obtain ⟨zb, zo, zc, hze, hzl, hzcs⟩ := HV.out.opened (by rw [u32s_len]; omega)
      simp only [Value.slice.injEq] at hze
      obtain ⟨rfl, -, rfl⟩ := hze
      have hcx := hzcs row[k] _ (u32s_get hxA)
      have hax := HA.out _ (List.getElem_mem hxA)
      have hst : stepY A row k = (!(row.take k).contains row[k] && A[row[k]].testBit (row.getD ((k + 1) % row.length) 0)) := by unfold stepY; rw [getD_get hlt, aft_at hxA]
      have HST := Lib.hid (HWN.out k hlt)
      have HSN : Hid (stepY A row k = true → (List.range (k + 1)).all (stepY A row) = true) := fun h => by rw [stepY_next, HS.out, h]; rfl
      have HHK := Lib.hid (HHS.out k hk row[k])
      have HNX : Hid (row.getD ((k + 1) % row.length) 0 < A.length) := by
        have hm : (k + 1) % row.length < row.length := Nat.mod_lt _ (by omega)
        unfold Hid
        rw [getD_get hm]
        exact HLT.out _ (List.getElem_mem _)
      have HBI := Lib.hid (fun (y : Nat) (hy : y < A.length) => refBit9_any A[row[k]] y hax (by omega) w)
      have hkc : (k : Int) ≤ (rc : Int) := by omega
      by_cases hl : k + 1 < row.length
      · have hcn := hc (k + 1) _ (nats_get hl)
        have hmod : (k + 1) % row.length = k + 1 := Nat.mod_eq_of_lt hl
        rw [hmod, getD_get hl] at hst HNX
        have HBY := Lib.hid (HBI.out _ HNX.out)
        clear hc hzcs HBI hmod HNX hzl hb HS
        generalize A[row[k]] = ax at *
        generalize row[k] = x at *
        generalize row[k + 1] = y at *
        generalize row[0] = y0 at *
        cases hct : (row.take k).contains x with
        | true =>
          rw [hct] at HHK hst
          rw [Bool.not_true, Bool.false_and] at hst
          obtain rfl : R = false := HST.out hst
          clear hst HST HSN hct HBY HHS
          go_wp2_with (go_at_call 27; refine HHK.out.mono ?_; rintro e w5 ⟨rfl, hw5⟩; rw [← hw5]; clear hw5)
          go_ret
          exact ⟨rfl, rfl⟩
        | false =>
          rw [hct] at HHK hst
          rw [Bool.not_false, Bool.true_and] at hst
          clear hct HHS
          cases hbt : ax.testBit y with
          | false =>
            rw [hbt] at HBY hst
            obtain rfl : R = false := HST.out hst
            clear hst HST HSN hbt
            go_wp2_with (first
              | (go_at_call 27; refine HHK.out.mono ?_; rintro e w5 ⟨rfl, hw5⟩; rw [← hw5]; clear hw5)
              | (go_at_call 29; refine HBY.out.mono ?_; rintro e w6 ⟨rfl, hw6⟩; rw [hw6]; clear hw6))
            go_ret
            exact ⟨rfl, rfl⟩
          | true =>
            rw [hbt] at HBY hst
            have HS2 := Lib.hid (HSN.out hst)
            clear hst HST HSN hbt
            go_wp2_with (first
              | (go_at_call 27; refine HHK.out.mono ?_; rintro e w5 ⟨rfl, hw5⟩; rw [← hw5]; clear hw5)
              | (go_at_call 29; refine HBY.out.mono ?_; rintro e w6 ⟨rfl, hw6⟩; rw [hw6]; clear hw6))
            go_roundw
            case rel => exact ⟨k + 1, by omega, by go_num, HS2.out, trivial⟩
            case measure => simp [intOf]; omega
      · have hmod : (k + 1) % row.length = 0 := by rw [show k + 1 = row.length from by omega, Nat.mod_self]
        rw [hmod, getD_get h00] at hst HNX
        have HBY := Lib.hid (HBI.out _ HNX.out)
        clear hc hzcs HBI hmod HNX hzl hb HS
        generalize A[row[k]] = ax at *
        generalize row[k] = x at *
        generalize row[0] = y at *
        cases hct : (row.take k).contains x with
        | true =>
          rw [hct] at HHK hst
          rw [Bool.not_true, Bool.false_and] at hst
          obtain rfl : R = false := HST.out hst
          clear hst HST HSN hct HBY HHS
          go_wp2_with (go_at_call 27; refine HHK.out.mono ?_; rintro e w5 ⟨rfl, hw5⟩; rw [← hw5]; clear hw5)
          go_ret
          exact ⟨rfl, rfl⟩
        | false =>
          rw [hct] at HHK hst
          rw [Bool.not_false, Bool.true_and] at hst
          clear hct HHS
          cases hbt : ax.testBit y with
          | false =>
            rw [hbt] at HBY hst
            obtain rfl : R = false := HST.out hst
            clear hst HST HSN hbt
            go_wp2_with (first
              | (go_at_call 27; refine HHK.out.mono ?_; rintro e w5 ⟨rfl, hw5⟩; rw [← hw5]; clear hw5)
              | (go_at_call 29; refine HBY.out.mono ?_; rintro e w6 ⟨rfl, hw6⟩; rw [hw6]; clear hw6))
            go_ret
            exact ⟨rfl, rfl⟩
          | true =>
            rw [hbt] at HBY hst
            have HS2 := Lib.hid (HSN.out hst)
            clear hst HST HSN hbt
            go_wp2_with (first
              | (go_at_call 27; refine HHK.out.mono ?_; rintro e w5 ⟨rfl, hw5⟩; rw [← hw5]; clear hw5)
              | (go_at_call 29; refine HBY.out.mono ?_; rintro e w6 ⟨rfl, hw6⟩; rw [hw6]; clear hw6))
            go_roundw
            case rel => exact ⟨k + 1, by omega, by go_num, HS2.out, trivial⟩
            case measure => simp [intOf]; omega
    · obtain rfl : k = row.length := by omega
      have HR2 : Hid (R = !row.isEmpty) := by rw [Hid, HW.out, HS.out, Bool.and_true]
      have HNE : Hid ((!row.isEmpty) = decide (0 < row.length)) := by
        cases row with
        | nil => rfl
        | cons x r => rfl
      clear HWN HW HS HHS
      go_wp2
      go_ret
      exact ⟨ret_bool (by rw [HR2.out, HNE.out]; try simp), rfl⟩
end Go.Proofs.Ytclhbnfnmpabbaa
