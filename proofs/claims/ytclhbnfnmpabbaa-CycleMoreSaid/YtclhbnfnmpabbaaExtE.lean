/- The walks of package extend's bit, placesOf, nextOf, goesBack, check. -/
import Derived.Test.YtclhbnfnmpabbaaExtC
import Derived.Test.YtclhbnfnmpabbaaExtD
import Derived.Test.YtclhbnfnmpabbaaOrdC
import Derived.Test.YtclhbnfnmpabbaaOrdE
import Derived.Test.YtclhbnfnmpabbaaKitB
import Derived.Test.YtclhbnfnmpabbaaTxtD
import Derived.Laws.BitsAllLaws
namespace Go.Proofs.Ytclhbnfnmpabbaa.RPlain
end Go.Proofs.Ytclhbnfnmpabbaa.RPlain
namespace Go.Proofs.Ytclhbnfnmpabbaa
open Go.RowKit RPlain

theorem u32s_len (L : List Nat) : (u32s L).length = L.length := by simp [u32s]
theorem u32s_get {L : List Nat} {k : Nat} (h : k < L.length) : (u32s L)[k]? = some (.int .u32 (L[k] : Int)) := by
  unfold u32s
  rw [List.getElem?_map, List.getElem?_eq_getElem h]; rfl
theorem extBit_any (k : Nat) (hk : k < 32) (w : World) : Calls Try.prog 47 #[.int .i64 (k : Int)] w fun e w' => e = .returned (.int .u32 ((2 ^ k : Nat) : Int)) ∧ w' = w := by
  go_enter Try.func47, Try.ntmps47
  go_wp2
  go_ret
  exact ⟨by rw [pow_u32 hk]; rfl, rfl⟩
theorem placesOf_any (a : Option Addr) (n c : Nat) (hn : n < 32) (w : World) : Calls Try.prog 41 #[.slice a n c] w fun e w' => e = .returned (.int .u32 ((2 ^ n - 1 : Nat) : Int)) ∧ w' = w := by
  have hb := extBit_any n hn w
  have hp : 0 < 2 ^ n := Nat.two_pow_pos n
  have hlt : 2 ^ n < 4294967296 := Nat.pow_lt_pow_right (a := 2) (m := n) (n := 32) (by decide) hn
  generalize 2 ^ n = z at *
  go_enter Try.func41, Try.ntmps41
  go_wp2_with fail
  refine hb.mono ?_
  rintro e w1 ⟨rfl, rfl⟩
  go_wp2
  go_ret
  exact ⟨ret_int (by omega), rfl⟩
theorem and_pow2 (n k : Nat) : n &&& 2 ^ k = if n.testBit k = true then 2 ^ k else 0 := by
  refine Nat.eq_of_testBit_eq fun i => ?_
  rw [Nat.testBit_and, Nat.testBit_two_pow]
  split
  · rename_i h
    rw [Nat.testBit_two_pow]
    by_cases hi : k = i
    · subst hi; simp [h]
    · simp [hi]
  · rename_i h
    rw [Nat.zero_testBit]
    by_cases hi : k = i
    · subst hi; simpa using h
    · simp [hi]
set_option maxRecDepth 100000 in
set_option maxHeartbeats 1000000 in
theorem nextOf_any (v : Value) (A : List Nat) (left : Nat) (w : World) (hv : Rd w v (u32s A)) (hn : A.length ≤ 6) (hA : ∀ a ∈ A, a < 4294967296) (hl : left < 64) :
    Calls Try.prog 48 #[v, .int .u32 (left : Int)] w fun e w' => e = .returned (.int .u32 ((nextS A left A.length : Nat) : Int)) ∧ w' = w := by
  have HV := Lib.hid hv
  obtain ⟨a, c, rfl⟩ := hv.len
  rw [u32s_len] at HV ⊢
  have HA := Lib.hid hA
  clear hv hA
  go_enter Try.func48, Try.ntmps48
  go_wp2_with fail
  go_loopw [5, 11] (fun y x wr => ∃ k : Nat, k ≤ A.length ∧ x = .int .i64 k ∧ y = .int .u32 ((nextS A left k : Nat) : Int) ∧ wr = w) (fun _ x _ => A.length - (intOf x).toNat)
  case atStart => exact ⟨0, by omega, rfl, rfl, rfl⟩
  case round =>
    obtain ⟨k, hk, rfl, rfl, rfl⟩ := hrel
    by_cases hlt : k < A.length
    · obtain ⟨b, o, c', he, hb, hc⟩ := HV.out.opened (by rw [u32s_len]; omega)
      have hck := hc k _ (u32s_get hlt)
      simp only [Value.slice.injEq] at he
      obtain ⟨rfl, -, rfl⟩ := he
      clear hc
      have hak := HA.out _ (List.getElem_mem hlt)
      have hle := nextS_le A left k
      have hkb := extBit_any k (by omega)
      have hlt3 : 2 ^ k < 4294967296 := Nat.pow_lt_pow_right (a := 2) (m := k) (n := 32) (by decide) (by omega)
      have hand := u32_and_nat left (2 ^ k) (by omega) hlt3
      have hap := and_pow2 left k
      have hpos : 0 < 2 ^ k := Nat.two_pow_pos k
      have hstep : nextS A left (k + 1) = if left.testBit k = true then lessN (nextS A left k) A[k] else nextS A left k := by
        rw [nextS, List.getD_eq_getElem?_getD, List.getElem?_eq_getElem hlt]; rfl
      have HST := Lib.hid hstep
      generalize A[k] = y at *
      generalize nextS A left k = nx at *
      obtain ⟨nx', hnx'⟩ : ∃ z, nextS A left (k + 1) = z := ⟨_, rfl⟩
      have HNX' := Lib.hid hnx'
      rw [hnx'] at HST
      clear hnx'
      have hano := u32_andNot_nat nx y (by omega) hak
      have hln : nx &&& (4294967295 - y) = lessN nx y := rfl
      rw [hln] at hano
      generalize lessN nx y = ly at *
      clear hstep hln
      obtain ⟨pw, hpw⟩ : ∃ pw, 2 ^ k = pw := ⟨_, rfl⟩
      rw [hpw] at hkb hlt3 hand hap hpos
      clear hpw
      cases hb : left.testBit k with
      | true =>
        rw [hb, if_pos rfl] at hap
        rw [hap] at hand
        have he := HST.out
        rw [hb, if_pos rfl] at he
        subst he
        clear HST hap
        have tq : ((pw : Int) != 0) = true := by simp; omega
        go_wp2_with (go_at_call 47; refine (hkb _).mono ?_; rintro e w3 ⟨rfl, rfl⟩)
        go_roundw
        case rel => exact ⟨k + 1, by omega, by go_num, by rw [HNX'.out], trivial⟩
        case measure => simp [intOf]; omega
      | false =>
        rw [hb, if_neg (by decide)] at hap
        rw [hap] at hand
        have he := HST.out
        rw [hb, if_neg (by decide)] at he
        subst he
        clear HST hap
        go_wp2_with (go_at_call 47; refine (hkb _).mono ?_; rintro e w3 ⟨rfl, rfl⟩)
        go_roundw
        case rel => exact ⟨k + 1, by omega, by go_num, by rw [HNX'.out], trivial⟩
        case measure => simp [intOf]; omega
    · obtain rfl : k = A.length := by omega
      go_wp2
      go_ret
      exact ⟨rfl, rfl⟩
set_option maxRecDepth 100000 in
set_option maxHeartbeats 1000000 in
theorem goesBack_any (v : Value) (A : List Nat) (w : World) (hv : Rd w v (u32s A)) (hn : A.length ≤ 6) (hA : ∀ a ∈ A, a < 4294967296) :
    Calls Try.prog 43 #[v] w fun e w' => (∃ b, e = .returned (.bool b) ∧ (b = false ↔ Free A)) ∧ w' = w := by
  have HV := Lib.hid hv
  obtain ⟨a, c, rfl⟩ := hv.len
  rw [u32s_len] at HV ⊢
  have HA := Lib.hid hA
  have HNX := Lib.hid (fun left (hl : left < 64) => nextOf_any (.slice a A.length c) A left w HV.out hn HA.out hl)
  have hp := placesOf_any a A.length c (by omega) w
  have HB0 := Lib.hid (back_start (A := A) hn)
  have hn0 := HNX.out _ HB0.out.1
  clear hv hA HV
  have HST := Lib.hid (fun left (h : Back A left) => back_step HA.out h)
  have HEN := Lib.hid (fun left (h : Back A left) => back_end HA.out h)
  have HSU := Lib.hid (fun left (h : left < 64) k => next_sub (A := A) (k := k) HA.out h)
  obtain ⟨l0, hl0⟩ : ∃ z, 2 ^ A.length - 1 = z := ⟨_, rfl⟩
  rw [hl0] at hp HB0 hn0
  clear hl0
  go_enter Try.func43, Try.ntmps43
  go_wp2_with fail
  refine hp.mono ?_
  rintro e w1 ⟨rfl, hw1⟩
  obtain rfl : w = w1 := hw1.symm
  go_wp2_with fail
  refine hn0.mono ?_
  rintro e w1 ⟨rfl, hw1⟩
  obtain rfl : w = w1 := hw1.symm
  clear hn0 hp
  go_wp2_with fail
  go_loopw [3, 4] (fun x y wr => ∃ p : Nat, x = .int .u32 (p : Int) ∧ y = .int .u32 ((nextS A p A.length : Nat) : Int) ∧ Hid (Back A p) ∧ wr = w) (fun x _ _ => (intOf x).toNat)
  case atStart => exact ⟨l0, rfl, rfl, HB0, rfl⟩
  case round =>
    clear HB0
    obtain ⟨p, rfl, rfl, HP, rfl⟩ := hrel
    have h64 := HP.out.1
    by_cases h0 : nextS A p A.length = 0
    · have HE := Lib.hid (HEN.out p HP.out h0)
      rw [h0]
      by_cases hp0 : p = 0
      · have HF : Hid (Free A) := HE.out.2 hp0
        subst hp0
        clear HE
        go_wp2
        go_ret
        exact ⟨⟨_, rfl, by simp [HF.out]⟩, rfl⟩
      · have HF : Hid (¬ Free A) := fun hf => hp0 (HE.out.1 hf)
        have tq : ((p : Int) != 0) = true := by simp; omega
        clear HE
        go_wp2
        go_ret
        exact ⟨⟨_, rfl, by simp [HF.out]⟩, rfl⟩
    · have hle := nextS_le A p A.length
      have HL : Hid (lessN p (nextS A p A.length) < p) := lessN_less h64 hle h0 (fun k => HSU.out p h64 k)
      have HB2 := Lib.hid (HST.out p HP.out)
      have hcall := HNX.out _ HB2.out.1
      have hano := u32_andNot_nat p (nextS A p A.length) (by omega) (by omega)
      have hln : p &&& (4294967295 - nextS A p A.length) = lessN p (nextS A p A.length) := rfl
      rw [hln] at hano
      obtain ⟨q, hq⟩ : ∃ q, lessN p (nextS A p A.length) = q := ⟨_, rfl⟩
      rw [hq] at HL HB2 hcall hano
      have tq : (((nextS A p A.length : Nat) : Int) != 0) = true := by simp; omega
      clear hln hq
      generalize nextS A p A.length = nx at *
      go_wp2_with fail
      refine hcall.mono ?_
      rintro e w1 ⟨rfl, rfl⟩
      go_wp2
      go_roundw
      case rel => exact ⟨q, rfl, rfl, HB2, trivial⟩
      case measure =>
        have := HL.out
        simp [intOf]; omega
end Go.Proofs.Ytclhbnfnmpabbaa
