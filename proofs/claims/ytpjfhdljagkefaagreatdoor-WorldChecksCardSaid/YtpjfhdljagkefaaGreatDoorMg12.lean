/- Merged: ExtE, ExtF, ExtG, OrdF, OrdG, LegB. -/
import Derived.Test.YtpjfhdljagkefaaGreatDoorMg1
import Derived.Test.YtpjfhdljagkefaaGreatDoorMg7
import Derived.Test.YtpjfhdljagkefaaGreatDoorMg11
import Derived.Test.YtpjfhdljagkefaaGreatDoorOrdE
import Derived.Test.YtpjfhdljagkefaaGreatDoorMg3
import Derived.Test.YtpjfhdljagkefaaGreatDoorMg4
import Derived.Test.YtpjfhdljagkefaaGreatDoorShelf
import Derived.Test.YtpjfhdljagkefaaGreatDoorMg2
import Derived.Laws.BitsAllLaws
import Derived.Laws.AppendOwnNone
import Derived.BigQuiet
/- The walks of package extend's bit, placesOf, nextOf, goesBack, check. -/
namespace Go.Proofs.YtpjfhdljagkefaaGreatDoor.RPlain
end Go.Proofs.YtpjfhdljagkefaaGreatDoor.RPlain
namespace Go.Proofs.YtpjfhdljagkefaaGreatDoor
open Go.RowKit RPlain

theorem u32s_len (L : List Nat) : (u32s L).length = L.length := by simp [u32s]
theorem u32s_get {L : List Nat} {k : Nat} (h : k < L.length) : (u32s L)[k]? = some (.int .u32 (L[k] : Int)) := by
  unfold u32s
  rw [List.getElem?_map, List.getElem?_eq_getElem h]; rfl
theorem extBit_any (k : Nat) (hk : k < 32) (w : World) : Calls Tryz.prog 122 #[.int .i64 (k : Int)] w fun e w' => e = .returned (.int .u32 ((2 ^ k : Nat) : Int)) ∧ w' = w := by
  go_enter Tryz.func122, Tryz.ntmps122
  go_wp2
  go_ret
  exact ⟨by rw [pow_u32 hk]; rfl, rfl⟩
theorem placesOf_any (a : Option Addr) (n c : Nat) (hn : n < 32) (w : World) : Calls Tryz.prog 113 #[.slice a n c] w fun e w' => e = .returned (.int .u32 ((2 ^ n - 1 : Nat) : Int)) ∧ w' = w := by
  have hb := extBit_any n hn w
  have hp : 0 < 2 ^ n := Nat.two_pow_pos n
  have hlt : 2 ^ n < 4294967296 := Nat.pow_lt_pow_right (a := 2) (m := n) (n := 32) (by decide) hn
  generalize 2 ^ n = z at *
  go_enter Tryz.func113, Tryz.ntmps113
  go_wp2_with fail
  refine hb.mono ?_
  rintro e w1 ⟨rfl, rfl⟩
  go_wp2
  go_ret
  exact ⟨ret_int (by omega), rfl⟩
theorem and_pow2 (n k : Nat) : n &&& 2 ^ k = if n.testBit k = true then 2 ^ k else 0 := by
  refine Nat.eq_of_testBit_eq fun i => ?_
  rw [Nat.testBit_and, Nat.testBit_two_pow]
  split
  · rename_i h
    rw [Nat.testBit_two_pow]
    by_cases hi : k = i
    · subst hi; simp [h]
    · simp [hi]
  · rename_i h
    rw [Nat.zero_testBit]
    by_cases hi : k = i
    · subst hi; simpa using h
    · simp [hi]
set_option maxRecDepth 100000 in
set_option maxHeartbeats 1000000 in
theorem nextOf_any (v : Value) (A : List Nat) (left : Nat) (w : World) (hv : Rd w v (u32s A)) (hn : A.length ≤ 6) (hA : ∀ a ∈ A, a < 4294967296) (hl : left < 64) :
    Calls Tryz.prog 124 #[v, .int .u32 (left : Int)] w fun e w' => e = .returned (.int .u32 ((nextS A left A.length : Nat) : Int)) ∧ w' = w := by
  have HV := Lib.hid hv
  obtain ⟨a, c, rfl⟩ := hv.len
  rw [u32s_len] at HV ⊢
  have HA := Lib.hid hA
  clear hv hA
  go_enter Tryz.func124, Tryz.ntmps124
  go_wp2_with fail
  go_loopw [5, 11] (fun y x wr => ∃ k : Nat, k ≤ A.length ∧ x = .int .i64 k ∧ y = .int .u32 ((nextS A left k : Nat) : Int) ∧ wr = w) (fun _ x _ => A.length - (intOf x).toNat)
  case atStart => exact ⟨0, by omega, rfl, rfl, rfl⟩
  case round =>
    obtain ⟨k, hk, rfl, rfl, rfl⟩ := hrel
    by_cases hlt : k < A.length
    · obtain ⟨b, o, c', he, hb, hc⟩ := HV.out.opened (by rw [u32s_len]; omega)
      have hck := hc k _ (u32s_get hlt)
      simp only [Value.slice.injEq] at he
      obtain ⟨rfl, -, rfl⟩ := he
      clear hc
      have hak := HA.out _ (List.getElem_mem hlt)
      have hle := nextS_le A left k
      have hkb := extBit_any k (by omega)
      have hlt3 : 2 ^ k < 4294967296 := Nat.pow_lt_pow_right (a := 2) (m := k) (n := 32) (by decide) (by omega)
      have hand := u32_and_nat left (2 ^ k) (by omega) hlt3
      have hap := and_pow2 left k
      have hpos : 0 < 2 ^ k := Nat.two_pow_pos k
      have hstep : nextS A left (k + 1) = if left.testBit k = true then lessN (nextS A left k) A[k] else nextS A left k := by
        rw [nextS, List.getD_eq_getElem?_getD, List.getElem?_eq_getElem hlt]; rfl
      have HST := Lib.hid hstep
      generalize A[k] = y at *
      generalize nextS A left k = nx at *
      obtain ⟨nx', hnx'⟩ : ∃ z, nextS A left (k + 1) = z := ⟨_, rfl⟩
      have HNX' := Lib.hid hnx'
      rw [hnx'] at HST
      clear hnx'
      have hano := u32_andNot_nat nx y (by omega) hak
      have hln : nx &&& (4294967295 - y) = lessN nx y := rfl
      rw [hln] at hano
      generalize lessN nx y = ly at *
      clear hstep hln
      obtain ⟨pw, hpw⟩ : ∃ pw, 2 ^ k = pw := ⟨_, rfl⟩
      rw [hpw] at hkb hlt3 hand hap hpos
      clear hpw
      cases hb : left.testBit k with
      | true =>
        rw [hb, if_pos rfl] at hap
        rw [hap] at hand
        have he := HST.out
        rw [hb, if_pos rfl] at he
        subst he
        clear HST hap
        have tq : ((pw : Int) != 0) = true := by simp; omega
        go_wp2_with (go_at_call 122; refine (hkb _).mono ?_; rintro e w3 ⟨rfl, rfl⟩)
        go_roundw
        case rel => exact ⟨k + 1, by omega, by go_num, by rw [HNX'.out], trivial⟩
        case measure => simp [intOf]; omega
      | false =>
        rw [hb, if_neg (by decide)] at hap
        rw [hap] at hand
        have he := HST.out
        rw [hb, if_neg (by decide)] at he
        subst he
        clear HST hap
        go_wp2_with (go_at_call 122; refine (hkb _).mono ?_; rintro e w3 ⟨rfl, rfl⟩)
        go_roundw
        case rel => exact ⟨k + 1, by omega, by go_num, by rw [HNX'.out], trivial⟩
        case measure => simp [intOf]; omega
    · obtain rfl : k = A.length := by omega
      go_wp2
      go_ret
      exact ⟨rfl, rfl⟩
set_option maxRecDepth 100000 in
set_option maxHeartbeats 1000000 in
theorem goesBack_any (v : Value) (A : List Nat) (w : World) (hv : Rd w v (u32s A)) (hn : A.length ≤ 6) (hA : ∀ a ∈ A, a < 4294967296) :
    Calls Tryz.prog 116 #[v] w fun e w' => (∃ b, e = .returned (.bool b) ∧ (b = false ↔ Free A)) ∧ w' = w := by
  have HV := Lib.hid hv
  obtain ⟨a, c, rfl⟩ := hv.len
  rw [u32s_len] at HV ⊢
  have HA := Lib.hid hA
  have HNX := Lib.hid (fun left (hl : left < 64) => nextOf_any (.slice a A.length c) A left w HV.out hn HA.out hl)
  have hp := placesOf_any a A.length c (by omega) w
  have HB0 := Lib.hid (back_start (A := A) hn)
  have hn0 := HNX.out _ HB0.out.1
  clear hv hA HV
  have HST := Lib.hid (fun left (h : Back A left) => back_step HA.out h)
  have HEN := Lib.hid (fun left (h : Back A left) => back_end HA.out h)
  have HSU := Lib.hid (fun left (h : left < 64) k => next_sub (A := A) (k := k) HA.out h)
  obtain ⟨l0, hl0⟩ : ∃ z, 2 ^ A.length - 1 = z := ⟨_, rfl⟩
  rw [hl0] at hp HB0 hn0
  clear hl0
  go_enter Tryz.func116, Tryz.ntmps116
  go_wp2_with fail
  refine hp.mono ?_
  rintro e w1 ⟨rfl, hw1⟩
  obtain rfl : w = w1 := hw1.symm
  go_wp2_with fail
  refine hn0.mono ?_
  rintro e w1 ⟨rfl, hw1⟩
  obtain rfl : w = w1 := hw1.symm
  clear hn0 hp
  go_wp2_with fail
  go_loopw [3, 4] (fun x y wr => ∃ p : Nat, x = .int .u32 (p : Int) ∧ y = .int .u32 ((nextS A p A.length : Nat) : Int) ∧ Hid (Back A p) ∧ wr = w) (fun x _ _ => (intOf x).toNat)
  case atStart => exact ⟨l0, rfl, rfl, HB0, rfl⟩
  case round =>
    clear HB0
    obtain ⟨p, rfl, rfl, HP, rfl⟩ := hrel
    have h64 := HP.out.1
    by_cases h0 : nextS A p A.length = 0
    · have HE := Lib.hid (HEN.out p HP.out h0)
      rw [h0]
      by_cases hp0 : p = 0
      · have HF : Hid (Free A) := HE.out.2 hp0
        subst hp0
        clear HE
        go_wp2
        go_ret
        exact ⟨⟨_, rfl, by simp [HF.out]⟩, rfl⟩
      · have HF : Hid (¬ Free A) := fun hf => hp0 (HE.out.1 hf)
        have tq : ((p : Int) != 0) = true := by simp; omega
        clear HE
        go_wp2
        go_ret
        exact ⟨⟨_, rfl, by simp [HF.out]⟩, rfl⟩
    · have hle := nextS_le A p A.length
      have HL : Hid (lessN p (nextS A p A.length) < p) := lessN_less h64 hle h0 (fun k => HSU.out p h64 k)
      have HB2 := Lib.hid (HST.out p HP.out)
      have hcall := HNX.out _ HB2.out.1
      have hano := u32_andNot_nat p (nextS A p A.length) (by omega) (by omega)
      have hln : p &&& (4294967295 - nextS A p A.length) = lessN p (nextS A p A.length) := rfl
      rw [hln] at hano
      obtain ⟨q, hq⟩ : ∃ q, lessN p (nextS A p A.length) = q := ⟨_, rfl⟩
      rw [hq] at HL HB2 hcall hano
      have tq : (((nextS A p A.length : Nat) : Int) != 0) = true := by simp; omega
      clear hln hq
      generalize nextS A p A.length = nx at *
      go_wp2_with fail
      refine hcall.mono ?_
      rintro e w1 ⟨rfl, rfl⟩
      go_wp2
      go_roundw
      case rel => exact ⟨q, rfl, rfl, HB2, trivial⟩
      case measure =>
        have := HL.out
        simp [intOf]; omega
end Go.Proofs.YtpjfhdljagkefaaGreatDoor
/- The walks of package extend's check, with IndexFunc and ContainsFunc at its closure. -/
namespace Go.Proofs.YtpjfhdljagkefaaGreatDoor.RPlain
end Go.Proofs.YtpjfhdljagkefaaGreatDoor.RPlain
namespace Go.Proofs.YtpjfhdljagkefaaGreatDoor
open Go.RowKit RPlain

/-- has a number a bit that is no place's? -/
def moreB (p : Nat) (x : Nat) : Bool := lessN x p != 0
theorem isMore_any (x p P : Nat) (w : World) (hx : x < 4294967296) (hp : p < 4294967296) (hc : w.cell? ⟨P, 0, none⟩ = some (.int .u32 (p : Int))) :
    Calls Tryz.prog 114 #[.int .u32 (x : Int), .pointer (some ⟨P, 0, none⟩)] w fun e w' => e = .returned (.bool (moreB p x)) ∧ w' = w := by
  have hano := u32_andNot_nat x p hx hp
  have hln : x &&& (4294967295 - p) = lessN x p := rfl
  rw [hln] at hano
  have HF : Hid (moreB p x = decide (lessN x p ≠ 0)) := by unfold Hid moreB; rw [Bool.eq_iff_iff]; simp
  generalize lessN x p = z at *
  go_enter Tryz.func114, Tryz.ntmps114
  go_wp2
  go_ret
  exact ⟨ret_bool (by rw [HF.out, Bool.eq_iff_iff]; simp), rfl⟩
set_option maxRecDepth 100000 in
set_option maxHeartbeats 1000000 in
theorem indexM_any (v : Value) (A : List Nat) (p P : Nat) (w : World) (hv : Rd w v (u32s A)) (hl : A.length ≤ 65536) (hA : ∀ a ∈ A, a < 4294967296) (hp : p < 4294967296) (hc : w.cell? ⟨P, 0, none⟩ = some (.int .u32 (p : Int))) :
    Calls Tryz.prog 123 #[v, .func (.func 114) #[] #[.pointer (some ⟨P, 0, none⟩)]] w fun e w' => (∃ z : Int, e = .returned (.int .i64 z) ∧ decide (0 ≤ z) = A.any (moreB p)) ∧ w' = w := by
  have HV := Lib.hid hv
  have HA := Lib.hid hA
  have HCL := Lib.hid (fun x (hx : x < 4294967296) => isMore_any x p P w hx hp hc)
  obtain ⟨va, vc, rfl⟩ := hv.len
  rw [u32s_len] at HV ⊢
  clear hv hc hA
  go_enter Tryz.func123, Tryz.ntmps123
  go_wp2_with fail
  go_loopw [8] (fun x wr => ∃ k : Nat, k ≤ A.length ∧ x = .int .i64 k ∧ Hid ((A.take k).any (moreB p) = false) ∧ wr = w) (fun x _ => A.length - (intOf x).toNat)
  case atStart => exact ⟨0, by omega, rfl, rfl, rfl⟩
  case round =>
    obtain ⟨k, hk, rfl, HT0, rfl⟩ := hrel
    by_cases hlt : k < A.length
    · have HT : Hid (A.take (k + 1) = A.take k ++ [A[k]]) := List.take_succ_eq_append_getElem hlt
      have HM : Hid (A[k] ∈ A) := List.getElem_mem hlt
      obtain ⟨b, o, c', he, hbl, hcs⟩ := HV.out.opened (by rw [u32s_len]; omega)
      simp only [Value.slice.injEq] at he
      obtain ⟨rfl, -, rfl⟩ := he
      have hck := hcs k _ (u32s_get hlt)
      have HC2 := Lib.hid (HCL.out A[k] (HA.out _ HM.out))
      clear hcs
      generalize A[k] = y at *
      cases hnb : moreB p y with
      | false =>
        rw [hnb] at HC2
        have HA2 : Hid ((A.take (k + 1)).any (moreB p) = false) := by
          unfold Hid
          rw [HT.out, List.any_append, HT0.out]
          simp [hnb]
        clear hnb HT HM HT0
        go_wp2_with (go_at_call 114; refine HC2.out.mono ?_; rintro e w3 ⟨rfl, rfl⟩)
        go_roundw
        case rel => exact ⟨k + 1, by omega, by go_num, HA2, trivial⟩
        case measure => simp [intOf]; omega
      | true =>
        rw [hnb] at HC2
        have HA2 : Hid (A.any (moreB p) = true) := List.any_eq_true.2 ⟨y, HM.out, hnb⟩
        clear hnb HT HM HT0
        go_wp2_with (go_at_call 114; refine HC2.out.mono ?_; rintro e w3 ⟨rfl, rfl⟩)
        go_ret
        exact ⟨⟨_, rfl, by rw [HA2.out]; exact decide_eq_true (by omega)⟩, rfl⟩
    · obtain rfl : k = A.length := by omega
      have HA2 : Hid (A.any (moreB p) = false) := by have := HT0.out; rwa [List.take_length] at this
      clear HT0
      go_wp2
      go_ret
      exact ⟨⟨_, rfl, by rw [HA2.out]; rfl⟩, rfl⟩
theorem containsM_any (v : Value) (A : List Nat) (p P : Nat) (w : World) (hv : Rd w v (u32s A)) (hl : A.length ≤ 65536) (hA : ∀ a ∈ A, a < 4294967296) (hp : p < 4294967296) (hc : w.cell? ⟨P, 0, none⟩ = some (.int .u32 (p : Int))) :
    Calls Tryz.prog 115 #[v, .func (.func 114) #[] #[.pointer (some ⟨P, 0, none⟩)]] w fun e w' => e = .returned (.bool (A.any (moreB p))) ∧ w' = w := by
  have HI := Lib.hid (indexM_any v A p P w hv hl hA hp hc)
  clear hv hl hc hA hp
  go_enter Tryz.func115, Tryz.ntmps115
  go_wp2_with fail
  refine HI.out.mono ?_
  rintro e w1 ⟨⟨z, rfl, hz⟩, rfl⟩
  go_wp2
  all_goals go_ret
  all_goals exact ⟨ret_bool (by rw [← hz]), rfl⟩
theorem more_any {A : List Nat} (hn : A.length ≤ 6) (hA : ∀ a ∈ A, a < 4294967296) : A.any (moreB (2 ^ A.length - 1)) = A.any fun a => decide (2 ^ A.length ≤ a) := by
  rw [Bool.eq_iff_iff, List.any_eq_true, List.any_eq_true]
  refine exists_congr fun a => and_congr_right fun ha => ?_
  have h := more_iff (n := A.length) hn (hA a ha)
  unfold moreB
  simp only [bne_iff_ne, ne_eq, decide_eq_true_eq, h]
  omega
set_option maxRecDepth 100000 in
set_option maxHeartbeats 1000000 in
theorem checkX_any (v : Value) (A : List Nat) (w : World) (hv : Rd w v (u32s A)) (hA : ∀ a ∈ A, a < 4294967296) (hl : A.length ≤ 65536) :
    Calls Tryz.prog 104 #[v] w fun e w' => e = .returned (.int .i64 ((mayE A : Nat) : Int)) ∧ Below w.heap.size w w' := by
  have HV := Lib.hid hv
  have HA := Lib.hid hA
  obtain ⟨a, c, rfl⟩ := hv.len
  rw [u32s_len] at HV ⊢
  clear hv hA
  have hun : mayE A = if 6 < A.length ∨ (A.any fun x => decide (2 ^ A.length ≤ x)) = true then 1 else if ((List.range A.length).any fun i => (waysS A i).contains i) = true then 8 else 0 := rfl
  by_cases h6 : 6 < A.length
  · rw [if_pos (.inl h6)] at hun
    rw [hun]
    clear hun
    go_enter Tryz.func104, Tryz.ntmps104
    go_wp2
    go_ret
    exact ⟨rfl, Below.refl _ _⟩
  · have hn : A.length ≤ 6 := by omega
    have hp := placesOf_any a A.length c (by omega) w
    have h64 := leftA_lt hn []
    have hl0 : leftA A.length [] = 2 ^ A.length - 1 := rfl
    rw [hl0] at h64
    have hMore := more_any hn HA.out
    obtain ⟨l0, hl0'⟩ : ∃ z, 2 ^ A.length - 1 = z := ⟨_, rfl⟩
    rw [hl0'] at hp h64 hMore
    have HB := (Below.refl w.heap.size w).alloc (Nat.le_refl _) (.cells #[.int .u32 (l0 : Int)] 23)
    have HC := Lib.hid (containsM_any (.slice a A.length c) A l0 w.heap.size (w.alloc (.cells #[.int .u32 (l0 : Int)] 23)) (HV.out.below HB (Nat.le_refl _)) hl HA.out (by omega) ((At.new w _ _).cell (i := 0) rfl))
    rw [hMore] at HC
    have HG := Lib.hid (goesBack_any (.slice a A.length c) A (w.alloc (.cells #[.int .u32 (l0 : Int)] 23)) (HV.out.below HB (Nat.le_refl _)) hn HA.out)
    have hfree := free_iff A
    clear hl0 hl0' hMore
    cases hm : A.any fun x => decide (2 ^ A.length ≤ x) with
    | true =>
      rw [hm] at HC
      rw [if_pos (.inr hm)] at hun
      rw [hun]
      clear hun hm HG hfree
      go_enter Tryz.func104, Tryz.ntmps104
      go_wp2_with fail
      refine hp.mono ?_
      rintro e w1 ⟨rfl, hw1⟩
      obtain rfl : w = w1 := hw1.symm
      go_wp2_with fail
      refine HC.out.mono ?_
      rintro e w1 ⟨rfl, rfl⟩
      go_wp2
      go_ret
      exact ⟨rfl, HB⟩
    | false =>
      rw [hm] at HC
      rw [if_neg (by rw [hm]; simp; omega)] at hun
      clear hm
      go_enter Tryz.func104, Tryz.ntmps104
      go_wp2_with fail
      refine hp.mono ?_
      rintro e w1 ⟨rfl, hw1⟩
      obtain rfl : w = w1 := hw1.symm
      go_wp2_with fail
      refine HC.out.mono ?_
      rintro e w1 ⟨rfl, hw2⟩
      obtain rfl : w.alloc (.cells #[.int .u32 (l0 : Int)] 23) = w1 := hw2.symm
      go_wp2_with fail
      refine HG.out.mono ?_
      rintro e w1 ⟨⟨b, rfl, hb⟩, hw2⟩
      obtain rfl : w.alloc (.cells #[.int .u32 (l0 : Int)] 23) = w1 := hw2.symm
      cases b with
      | true =>
        have hnf : ¬ Free A := fun hf => absurd (hb.2 hf) (by decide)
        have h8 : mayE A = 8 := by
          rw [hun, if_pos]
          cases hc : ((List.range A.length).any fun i => (waysS A i).contains i) with
          | true => rfl
          | false => exact absurd (hfree.1 hc) hnf
        clear hun hfree hb hnf
        go_wp2
        go_ret
        exact ⟨ret_int (by rw [h8]; rfl), HB⟩
      | false =>
        have h8 : mayE A = 0 := by
          rw [hun, if_neg]
          rw [hfree.2 (hb.1 rfl)]
          decide
        clear hun hfree hb
        go_wp2
        go_ret
        exact ⟨ret_int (by rw [h8]; rfl), HB⟩
end Go.Proofs.YtpjfhdljagkefaaGreatDoor
/- slices.Concat at two rows of ints, the second of one place; append of a row of ints that may be nil. -/
namespace Go.Proofs.YtpjfhdljagkefaaGreatDoor.RPlain
end Go.Proofs.YtpjfhdljagkefaaGreatDoor.RPlain
namespace Go.Proofs.YtpjfhdljagkefaaGreatDoor
open Go.RowKit RPlain

theorem infoN11 : (Tryz.prog.info? 3).map (fun i => (i.zero, i.size, i.bytes)) = some (some (.int .i64 0), 1, 8) := by kernel_rfl
/-- nil, or a slice with an address -/
def SrcN (v : Value) : Prop := v = .slice none 0 0 ∨ ∃ a n c, v = .slice (some a) n c
theorem SrcN.of_row {w : World} {B : Nat} {e : TypeId} {s : Nat} {v : Value} {n : Nat} {xs : List Value} (h : w.ownsRow B e s v n xs) : SrcN v := by
  rcases h.2 with ⟨rfl, _⟩ | ⟨g, cap, cur, rfl, _⟩
  · exact .inl rfl
  · exact .inr ⟨_, _, _, rfl⟩
theorem nats_one (L : List Nat) : ∀ u ∈ nats L, u.oneCell' = true := by
  intro u hu
  obtain ⟨x, _, rfl⟩ := List.mem_map.1 hu
  rfl
theorem nats_get {L : List Nat} {k : Nat} (h : k < L.length) : (nats L)[k]? = some (.int .i64 (L[k] : Int)) := by
  unfold nats
  rw [List.getElem?_map, List.getElem?_eq_getElem h]; rfl
theorem nats_app (L M : List Nat) : nats L ++ nats M = nats (L ++ M) := by simp [nats]
theorem rdCells11 {w : World} {ad : Addr} {m c : Nat} {xs : List Value} (h : Rd w (.slice (some ad) m c) xs) : xs.length = m ∧ ∀ j u, xs[j]? = some u → w.cell? (ad.add j) = some u := by
  rcases h with ⟨rfl, a', c', he⟩ | ⟨h0, b, o, c', he, hc⟩
  · simp only [Value.slice.injEq] at he
    exact ⟨he.2.1.symm, fun j u hu => by simp at hu⟩
  · simp only [Value.slice.injEq, Option.some.injEq] at he
    obtain ⟨rfl, rfl, rfl⟩ := he
    refine ⟨rfl, fun j u hu => ?_⟩
    rw [show (⟨b, o, none⟩ : Addr).add j = ⟨b, o + j, none⟩ from by unfold Addr.add; split <;> simp_all]
    exact hc j u hu
theorem wpList_append_srcI {ops : Array Oper} {rest : List Oper} {o : Oper} {a : Act} {w : World} {Q : Exit → Act → World → Prop} (hgd : o.guard = none) (s x : Operand)
    (ho : o.op = .call { callee := .builtin .append, args := #[s, x], argTypes := #[24, 24] }) (base : Nat)
    (v : Value) (n : Nat) (xs : List Value) (hs : a.eval s = v) (hown : w.ownsRow base 3 1 v n xs)
    (v2 : Value) (L : List Nat) (hx : a.eval x = v2) (hv : Rd w v2 (nats L)) (hsrc : SrcN v2) (h63 : n + L.length ≤ 65536) (hbase : base ≤ w.heap.size)
    (hK : ∀ v' w', w'.ownsRow base 3 1 v' (n + L.length) (xs ++ nats L) → w.grownBy w' v.ownBlock → wpList Tryz.prog ops Q rest (a.put o.dst v') w') : wpList Tryz.prog ops Q (o :: rest) a w := by
  obtain ⟨j0, hj0, hy0, hy1', hy2'⟩ := info_parts infoN11
  rcases hsrc with rfl | ⟨ad, m, c, rfl⟩
  · have h0 : L = [] := by
      obtain ⟨_, _, he⟩ := hv.len
      simp only [Value.slice.injEq, nats_len] at he
      exact List.length_eq_zero_iff.1 he.2.1.symm
    subst h0
    have hrest := hK v w (by simpa [nats] using hown) ⟨rfl, rfl, rfl, Nat.le_refl _, fun _ _ _ => rfl⟩
    exact wpList_append_own_none hgd s x 24 ho base 3 j0 1 Tryz.underlying24 hj0 v n xs hs hown hx hrest
  · obtain ⟨hl, hc⟩ := rdCells11 hv
    rw [nats_len] at hl
    subst hl
    refine wpList_append_own w hgd s x 24 ho base 3 j0 _ 1 8 Tryz.underlying24 hj0 hy0 hy1' hy2' rfl (by decide) v n xs hs hown ad L.length c (nats L) hx (by rw [nats_len]; omega) hc (nats_one L) (by unfold maxLen; omega) (by omega) hbase ?_
    intro v' w' h2 h3 _
    exact hK v' w' h2 h3
/-- slices.Grow(nil, n) -/
theorem grow_nilI (n : Nat) (h0 : 0 < n) (hn : n ≤ 65000) (w : World) :
    Calls Tryz.prog 90 #[.slice none 0 0, .int .i64 n] w fun e w' => ∃ v, e = .returned v ∧ w'.ownsRow w.heap.size 3 1 v 0 [] ∧ Below w.heap.size w w' := by
  obtain ⟨j0, hj0, hy0, hy1', hy2'⟩ := info_parts infoN11
  have hG : n ≤ maxLen := by unfold maxLen; omega
  have h := Any8.slices_Grow_grow Tryz.growI j0 (.int .i64 0) hj0 hy0 (by omega) none 0 0 n [] w (Nat.le_refl _) (by omega) (by rw [hy2']; omega) (by omega) (by simp) (fun _ => rfl) (fun a ha => by cases ha)
  refine h.mono fun e w' ⟨he, hw⟩ => ?_
  have hle := grownCap_le_maxLen w (0 + n) 0 3 (by unfold maxLen; omega)
  have hge := grownCap_ge w (0 + n) 0 3
  obtain ⟨G, hG⟩ : ∃ G, G = grownCap w (0 + n) 0 3 := ⟨_, rfl⟩
  have he' : e = .returned (.slice (some ⟨w.heap.size, 0, none⟩) 0 G) := by rw [hG]; exact he
  have hw' : w' = w.drew.alloc (.cells (([] : List Value).toArray ++ Builtin.zeroCells (Value.int .i64 0).cells (0 + n - 0) ++ Builtin.zeroCells (Value.int .i64 0).cells (G - (0 + n))) 3) := by rw [hG]; exact hw
  rw [← hG] at hle hge
  clear he hw hG
  refine ⟨_, he', ?_, ?_⟩
  · rw [hw']
    refine World.ownsRow_made (size := 1) (e := 3) (base := w.heap.size) w.drew _ _ (Nat.le_refl _) hle ?_
    have hcs : (Value.int .i64 0).cells.size = 1 := rfl
    simp [Builtin.zeroCells, hcs]
    omega
  · rw [hw']
    exact ((Below.refl w.heap.size w).drew).alloc (Nat.le_refl _) _
set_option maxRecDepth 100000 in
set_option maxHeartbeats 2000000 in
theorem concatI_any (B : Nat) (v0 v1 : Value) (l0 l1 : List Nat) (w : World) (c0 : w.cell? ⟨B, 0, none⟩ = some v0) (c1 : w.cell? ⟨B, 1, none⟩ = some v1)
    (r0 : Rd w v0 (nats l0)) (r1 : Rd w v1 (nats l1)) (s0 : SrcN v0) (s1 : SrcN v1) (h0 : l0.length ≤ 20000) (h1 : l1.length ≤ 20000) (hp : 0 < l1.length) :
    Calls Tryz.prog 66 #[.slice (some ⟨B, 0, none⟩) 2 2] w fun e w' => ∃ v, e = .returned v ∧ w'.ownsRow w.heap.size 3 1 v (l0 ++ l1).length (nats (l0 ++ l1)) ∧ Below w.heap.size w w' := by
  obtain ⟨a0, d0, rfl⟩ := r0.len
  obtain ⟨a1, d1, rfl⟩ := r1.len
  have R0 := Lib.hid r0
  have R1 := Lib.hid r1
  have S0 := Lib.hid s0
  have S1 := Lib.hid s1
  rw [nats_len] at R0 R1 S0 S1 c0 c1
  have C0 := Lib.hid c0
  have C1 := Lib.hid c1
  have hB : B < w.heap.size := World.block_lt_of_cell? w _ c0
  clear r0 r1 s0 s1
  have HA := Lib.hid (nats_app l0 l1)
  have hll : (l0 ++ l1).length = l0.length + l1.length := List.length_append
  rw [hll]
  clear hll
  generalize hn0 : l0.length = n0 at *
  generalize hn1 : l1.length = n1 at *
  have HN0 := Lib.hid hn0
  have HN1 := Lib.hid hn1
  clear hn0 hn1
  go_enter Tryz.func66, Tryz.ntmps66
  go_wp2_with fail
  go_loop [3, 11] (fun s i => (i = .int .i64 0 ∧ s = .int .i64 0) ∨ (i = .int .i64 1 ∧ s = .int .i64 (n0 : Int)) ∨ (i = .int .i64 2 ∧ s = .int .i64 ((n0 + n1 : Nat) : Int))) (fun _ i => 2 - (intOf i).toNat)
  case atStart => exact .inl ⟨rfl, rfl⟩
  case round =>
    rcases hrel with ⟨rfl, rfl⟩ | ⟨rfl, rfl⟩ | ⟨rfl, rfl⟩
    · go_wp2
      go_round
      case rel => exact .inr (.inl ⟨by go_num, by go_num⟩)
      case measure => simp [intOf]
    · go_wp2
      go_round
      case rel => exact .inr (.inr ⟨by go_num, by go_num⟩)
      case measure => simp [intOf]
    · go_wp2_with fail
      refine (grow_nilI (n0 + n1) (by omega) (by omega) _).mono ?_
      rintro e w1 ⟨v, rfl, ho, hb⟩
      obtain ⟨ga, gc, rfl⟩ := row_slice ho
      clear c0 c1
      go_wp2_with fail
      go_loopw [6, 27] (fun y i wr => ((i = .int .i64 0 ∧ wr.ownsRow w.heap.size 3 1 y 0 []) ∨ (i = .int .i64 1 ∧ wr.ownsRow w.heap.size 3 1 y n0 (nats l0)) ∨ (i = .int .i64 2 ∧ wr.ownsRow w.heap.size 3 1 y (n0 + n1) (nats l0 ++ nats l1))) ∧ Below w.heap.size w wr) (fun _ i _ => 2 - (intOf i).toNat)
      case atStart => exact ⟨.inl ⟨rfl, ho⟩, hb⟩
      case round =>
        clear ho hb
        obtain ⟨hrel, hb⟩ := hrel
        have c0 := (hb.cell (p := ⟨B, 0, none⟩) hB).trans C0.out
        have c1 := (hb.cell (p := ⟨B, 1, none⟩) hB).trans C1.out
        have hbs := hb.size
        rcases hrel with ⟨rfl, ho⟩ | ⟨rfl, ho⟩ | ⟨rfl, ho⟩
        · go_wp2_with (at_builtin; refine wpList_append_srcI rfl _ _ rfl w.heap.size _ 0 [] rfl ho _ l0 rfl (R0.out.below hb (Nat.le_refl _)) S0.out (by rw [HN0.out]; omega) hbs ?_)
          intro v2 w2 ho2 hg2
          rw [HN0.out] at ho2
          have hb2 := hb.grown hg2 hbs (fun k hk => (ho.lt k hk).1)
          clear ho hb c0 c1 hbs hg2
          go_wp2
          go_roundw
          case rel => exact ⟨.inr (.inl ⟨by go_num, by simpa using ho2⟩), hb2⟩
          case measure => simp [intOf]
        · go_wp2_with (at_builtin; refine wpList_append_srcI rfl _ _ rfl w.heap.size _ n0 (nats l0) rfl ho _ l1 rfl (R1.out.below hb (Nat.le_refl _)) S1.out (by rw [HN1.out]; omega) hbs ?_)
          intro v2 w2 ho2 hg2
          rw [HN1.out] at ho2
          have hb2 := hb.grown hg2 hbs (fun k hk => (ho.lt k hk).1)
          clear ho hb c0 c1 hbs hg2
          go_wp2
          go_roundw
          case rel => exact ⟨.inr (.inr ⟨by go_num, ho2⟩), hb2⟩
          case measure => simp [intOf]
        · obtain ⟨ya, yc, rfl⟩ := row_slice ho
          rw [HA.out] at ho
          have HO := Lib.hid ho
          clear ho
          go_wp2
          go_ret
          exact ⟨_, rfl, HO.out, hb⟩
end Go.Proofs.YtpjfhdljagkefaaGreatDoor
/- The walks of package order's afterOf, Before and Keeps. -/
namespace Go.Proofs.YtpjfhdljagkefaaGreatDoor.WPlain
end Go.Proofs.YtpjfhdljagkefaaGreatDoor.WPlain
namespace Go.Proofs.YtpjfhdljagkefaaGreatDoor.QPlain
end Go.Proofs.YtpjfhdljagkefaaGreatDoor.QPlain
namespace Go.Proofs.YtpjfhdljagkefaaGreatDoor.RPlain
end Go.Proofs.YtpjfhdljagkefaaGreatDoor.RPlain
namespace Go.Proofs.YtpjfhdljagkefaaGreatDoor
open Go.RowKit WPlain QPlain RPlain

/-- is there no transaction of a place? -/
def noneB (n : Nat) (x : Int) : Bool := decide (x < 0) || decide ((n : Int) ≤ x)
theorem none_there (l : List Tx) (row : List Int) : row.any (noneB l.length) = !(thereS l row) := by
  unfold thereS
  rw [List.not_all_eq_any_not]
  refine congrArg (fun p => row.any p) (funext fun x => ?_)
  unfold noneB
  by_cases h1 : x < 0
  · simp [h1]
  · by_cases h2 : (l.length : Int) ≤ x
    · simp [h1, h2]
    · simp [h1, h2]; omega
end Go.Proofs.YtpjfhdljagkefaaGreatDoor
/- The walks of package order's Before and Keeps. -/
namespace Go.Proofs.YtpjfhdljagkefaaGreatDoor.WPlain
end Go.Proofs.YtpjfhdljagkefaaGreatDoor.WPlain
namespace Go.Proofs.YtpjfhdljagkefaaGreatDoor.QPlain
end Go.Proofs.YtpjfhdljagkefaaGreatDoor.QPlain
namespace Go.Proofs.YtpjfhdljagkefaaGreatDoor.RPlain
end Go.Proofs.YtpjfhdljagkefaaGreatDoor.RPlain
namespace Go.Proofs.YtpjfhdljagkefaaGreatDoor.RPlain
open WPlain QPlain

/-- places that are there are numbers -/
theorem row_nats {l : List Tx} {row : List Int} (h : thereS l row = true) : ∃ rn : List Nat, row = rn.map (fun x : Nat => (x : Int)) ∧ ∀ b ∈ rn, b < l.length := by
  have h1 := (thereS_iff l row).1 h
  refine ⟨row.map Int.toNat, ?_, ?_⟩
  · refine List.ext_getElem (by simp) fun i h2 h3 => ?_
    have := (h1 row[i] (List.getElem_mem h2)).1
    simp
    omega
  · intro b hb
    obtain ⟨x, hx, rfl⟩ := List.mem_map.1 hb
    have := h1 x hx
    omega
theorem pow_32 {n x : Nat} (hn : n ≤ 6) (hx : x < 2 ^ n) : x < 4294967296 :=
  Nat.lt_of_lt_of_le hx (Nat.pow_le_pow_right (n := 2) (i := n) (j := 32) (by decide) (by omega))
theorem two_32 {n k : Nat} (hn : n ≤ 6) (hk : k < n) : 2 ^ k < 4294967296 := Nat.pow_lt_pow_right (a := 2) (m := k) (n := 32) (by decide) (by omega)
end Go.Proofs.YtpjfhdljagkefaaGreatDoor.RPlain
namespace Go.Proofs.YtpjfhdljagkefaaGreatDoor
open Go.RowKit WPlain QPlain RPlain

end Go.Proofs.YtpjfhdljagkefaaGreatDoor
/- Plain words: rows whose places are there once; a row's bits; eight values. -/
namespace Go.Proofs.YtpjfhdljagkefaaGreatDoor.WPlain
end Go.Proofs.YtpjfhdljagkefaaGreatDoor.WPlain
namespace Go.Proofs.YtpjfhdljagkefaaGreatDoor.QPlain
end Go.Proofs.YtpjfhdljagkefaaGreatDoor.QPlain
namespace Go.Proofs.YtpjfhdljagkefaaGreatDoor.RPlain
end Go.Proofs.YtpjfhdljagkefaaGreatDoor.RPlain
namespace Go.Proofs.YtpjfhdljagkefaaGreatDoor.RPlain
open WPlain QPlain

/-- the error of a row of events -/
def errL (h : List Ev) (row : List Int) : Nat := if (checkS h).2 = 0 then (if thereS (tableS h) row = true then (if row.Nodup then 0 else 1) else 7) else (checkS h).2
theorem errL_zero {h : List Ev} {row : List Int} (h0 : errL h row = 0) : (checkS h).2 = 0 ∧ thereS (tableS h) row = true ∧ row.Nodup := by
  unfold errL at h0
  by_cases h1 : (checkS h).2 = 0
  · rw [if_pos h1] at h0
    cases ht : thereS (tableS h) row with
    | true =>
      rw [ht, if_pos rfl] at h0
      by_cases hn : row.Nodup
      · exact ⟨h1, rfl, hn⟩
      · rw [if_neg hn] at h0; exact absurd h0 (by decide)
    | false => rw [ht] at h0; simp at h0
  · rw [if_neg h1] at h0; exact absurd h0 h1
theorem nodup_cast (rn : List Nat) : (rn.map (fun x : Nat => (x : Int))).Nodup ↔ rn.Nodup := by
  unfold List.Nodup
  rw [List.pairwise_map]
  constructor
  · exact fun h => h.imp fun {a b} hab => by omega
  · exact fun h => h.imp fun {a b} hab => by omega
theorem nodupL_le : ∀ (l1 l2 : List Nat), l1.Nodup → (∀ x ∈ l1, x ∈ l2) → l1.length ≤ l2.length := by
  intro l1
  induction l1 with
  | nil => intro _ _ _; simp
  | cons x r ih =>
    intro l2 hn hs
    obtain ⟨hx, hr⟩ := List.nodup_cons.1 hn
    have h1 := ih (l2.erase x) hr (fun y hy => (List.mem_erase_of_ne (show y ≠ x from fun hc => hx (by rw [← hc]; exact hy))).2 (hs y (List.mem_cons_of_mem _ hy)))
    have hm := hs x (List.mem_cons_self ..)
    have h2 := List.length_erase_of_mem hm
    have h3 := List.length_pos_of_mem hm
    rw [List.length_cons]
    omega
theorem errL_nil {h : List Ev} {row : List Int} (h0 : errL h row = 0) : ∃ rn : List Nat, row = rn.map (fun x : Nat => (x : Int)) ∧ (∀ b ∈ rn, b < (tableS h).length) ∧ rn.Nodup ∧ rn.length ≤ 6 := by
  obtain ⟨h1, h2, h3⟩ := errL_zero h0
  obtain ⟨rn, rfl, hr⟩ := row_nats h2
  have hn : rn.Nodup := (nodup_cast rn).1 h3
  refine ⟨rn, rfl, hr, hn, ?_⟩
  have h6 := table_six h1
  have h7 : rn.length ≤ (List.range (tableS h).length).length := nodupL_le rn _ hn fun b hb => List.mem_range.2 (hr b hb)
  rw [List.length_range] at h7
  omega
theorem nodup_next {α : Type} {l : List α} {k : Nat} (hk : k < l.length) (h : (l.take k).Nodup) (hn : l[k] ∉ l.take k) : (l.take (k + 1)).Nodup := by
  rw [List.take_succ_eq_append_getElem hk]
  refine List.nodup_append.2 ⟨h, by simp, fun a ha b hb => ?_⟩
  rw [List.mem_singleton.1 hb]
  rintro rfl
  exact hn ha
theorem nodup_not {α : Type} {l : List α} {k : Nat} (hk : k < l.length) (hm : l[k] ∈ l.take k) : ¬ l.Nodup := by
  intro h
  rw [← List.take_append_drop k l, List.drop_eq_getElem_cons hk] at h
  exact (List.nodup_append.1 h).2.2 _ hm _ (List.mem_cons_self ..) rfl
/-- bits of any number -/
theorem and_powL (n p : Nat) : n &&& 2 ^ p = 0 ↔ n.testBit p = false := by
  constructor
  · intro h
    have h1 : (n &&& 2 ^ p).testBit p = false := by rw [h]; exact Nat.zero_testBit p
    rw [Nat.testBit_and, Nat.testBit_two_pow_self, Bool.and_true] at h1
    exact h1
  · intro h
    refine Nat.eq_of_testBit_eq fun j => ?_
    rw [Nat.testBit_and, Nat.zero_testBit, Nat.testBit_two_pow]
    by_cases hj : p = j
    · subst hj; rw [h]; rfl
    · simp [hj]
theorem ahead_in (rn : List Nat) (p : Nat) : aheadN rn &&& 2 ^ p = 0 ↔ p ∉ rn := by
  rw [and_powL, ← aheadN_bit, Bool.not_eq_true]
/-- what an Op makes of a memory -/
def stepO (M : Int → Int) (o : Rwo) : Int → Int := if o.w = true then putM M o.v o.x else M
theorem with_take {M : Int → Int} {ops : List Rwo} {k : Nat} (hk : k < ops.length) : withM M (ops.take (k + 1)) = stepO (withM M (ops.take k)) ops[k] := by
  rw [List.take_succ_eq_append_getElem hk, withM_app]
  rfl
def okOps (ops : List Rwo) : Prop := ∀ o ∈ ops, 0 ≤ o.v ∧ o.v ≤ 7
theorem askedE_any (h : List Ev) (t : Int) {p : Ev → Prop} (h0 : p ⟨0, 0, 0, 0⟩) (h1 : ∀ e ∈ h, p e) : p (askedOf h t) := by
  revert h1
  refine rev_ind (p := fun h => (∀ e ∈ h, p e) → p (askedOf h t)) ?_ ?_ h
  · intro _; exact h0
  · intro g e ih h1
    rw [askedOf_snoc]
    split
    · exact h1 e (by simp)
    · exact ih fun x hx => h1 x (List.mem_append_left _ hx)
theorem ops_any (h : List Ev) (t : Int) (h1 : ∀ e ∈ h, 0 ≤ e.v ∧ e.v ≤ 7) : okOps (opsOf h t) := by
  revert h1
  refine rev_ind (p := fun h => (∀ e ∈ h, 0 ≤ e.v ∧ e.v ≤ 7) → okOps (opsOf h t)) ?_ ?_ h
  · intro _ o ho; simp [opsOf] at ho
  · intro g e ih h1 o ho
    rw [opsOf_snoc] at ho
    have hg : ∀ e ∈ g, 0 ≤ e.v ∧ e.v ≤ 7 := fun x hx => h1 x (List.mem_append_left _ hx)
    rcases List.mem_append.1 ho with ho | ho
    · exact ih hg o ho
    · have ha := askedE_any g t (p := fun e => 0 ≤ e.v ∧ e.v ≤ 7) ⟨by decide, by decide⟩ hg
      split at ho
      · unfold opStep at ho
        split at ho
        · rw [List.mem_singleton.1 ho]; exact ha
        · split at ho
          · rw [List.mem_singleton.1 ho]; exact ha
          · cases ho
      · cases ho
theorem table_ops {h : List Ev} (h0 : (checkS h).2 = 0) : ∀ X ∈ tableS h, okOps X.o ∧ X.o.length ≤ 60 := by
  intro X hX
  obtain ⟨t, _, rfl⟩ := List.mem_map.1 hX
  have hr := (check_agree h0).1
  have h60 := (right_evs hr).1
  refine ⟨ops_any h t fun e he => ?_, ?_⟩
  · simp only [right, Bool.and_eq_true, decide_eq_true_eq, List.all_eq_true] at hr
    have := hr.1.2 e he
    simp only [evOk, inB, Bool.and_eq_true, decide_eq_true_eq] at this
    omega
  · show (opsOf h t).length ≤ 60
    rw [ops_len]
    exact Nat.le_trans (List.length_filter_le _ _) h60
theorem opsAtL_get {l : List Tx} {i : Nat} (hi : i < l.length) : opsAt l i = l[i].o := by
  unfold opsAt
  rw [List.getElem?_eq_getElem hi]
theorem legal_next {l : List Tx} {c : Nat} {M : Int → Int} {rn : List Nat} {k : Nat} (hk : k < rn.length) (h : legalG l c M (rn.take k) = k) (ho : ownS (behindS l c M (rn.take k)) (opsAt l rn[k]) = (opsAt l rn[k]).length) : legalG l c M (rn.take (k + 1)) = k + 1 := by
  have hl : (rn.take k).length = k := by rw [List.length_take]; omega
  rw [List.take_succ_eq_append_getElem hk, legal_app, hl, if_pos h, legalG, if_pos ho, legalG]
theorem legal_stop {l : List Tx} {c : Nat} {M : Int → Int} {rn : List Nat} {k : Nat} (hk : k < rn.length) (h : legalG l c M (rn.take k) = k) (ho : ¬ ownS (behindS l c M (rn.take k)) (opsAt l rn[k]) = (opsAt l rn[k]).length) : legalG l c M rn = k := by
  have hl : (rn.take k).length = k := by rw [List.length_take]; omega
  have h1 := legal_app l c (rn.take k) (rn.drop k) M
  rw [List.take_append_drop, hl, if_pos h, List.drop_eq_getElem_cons hk, legalG, if_neg ho, Nat.add_zero] at h1
  exact h1
theorem behind_take {l : List Tx} {c : Nat} {M : Int → Int} {rn : List Nat} {k : Nat} (hk : k < rn.length) : behindS l c M (rn.take (k + 1)) = stepM l c (behindS l c M (rn.take k)) rn[k] := by
  rw [List.take_succ_eq_append_getElem hk, behind_app]
  rfl
end Go.Proofs.YtpjfhdljagkefaaGreatDoor.RPlain
namespace Go.Proofs.YtpjfhdljagkefaaGreatDoor
open Go.RowKit WPlain QPlain RPlain

/-- a memory's cells -/
def memC (M : Int → Int) : Array Value := #[.int .i64 (M 0), .int .i64 (M 1), .int .i64 (M 2), .int .i64 (M 3), .int .i64 (M 4), .int .i64 (M 5), .int .i64 (M 6), .int .i64 (M 7)]
end Go.Proofs.YtpjfhdljagkefaaGreatDoor
