/- Merged: ExtE, ExtF. -/
import Derived.Test.YtpjfhdljagkefaaDoorMg1
import Derived.Test.YtpjfhdljagkefaaDoorMg9
import Derived.Test.YtpjfhdljagkefaaDoorMg12
import Derived.Test.YtpjfhdljagkefaaDoorOrdE
import Derived.Test.YtpjfhdljagkefaaDoorMg4
import Derived.Test.YtpjfhdljagkefaaDoorMg5
import Derived.Laws.BitsAllLaws
/- The walks of package extend's bit, placesOf, nextOf, goesBack, check. -/
namespace Go.Proofs.YtpjfhdljagkefaaDoor.RPlain
end Go.Proofs.YtpjfhdljagkefaaDoor.RPlain
namespace Go.Proofs.YtpjfhdljagkefaaDoor
open Go.RowKit RPlain

theorem u32s_len (L : List Nat) : (u32s L).length = L.length := by simp [u32s]
theorem u32s_get {L : List Nat} {k : Nat} (h : k < L.length) : (u32s L)[k]? = some (.int .u32 (L[k] : Int)) := by
  unfold u32s
  rw [List.getElem?_map, List.getElem?_eq_getElem h]; rfl
theorem extBit_any (k : Nat) (hk : k < 32) (w : World) : Calls Tryd.prog 79 #[.int .i64 (k : Int)] w fun e w' => e = .returned (.int .u32 ((2 ^ k : Nat) : Int)) ∧ w' = w := by
  go_enter Tryd.func79, Tryd.ntmps79
  go_wp2
  go_ret
  exact ⟨by rw [pow_u32 hk]; rfl, rfl⟩
theorem placesOf_any (a : Option Addr) (n c : Nat) (hn : n < 32) (w : World) : Calls Tryd.prog 72 #[.slice a n c] w fun e w' => e = .returned (.int .u32 ((2 ^ n - 1 : Nat) : Int)) ∧ w' = w := by
  have hb := extBit_any n hn w
  have hp : 0 < 2 ^ n := Nat.two_pow_pos n
  have hlt : 2 ^ n < 4294967296 := Nat.pow_lt_pow_right (a := 2) (m := n) (n := 32) (by decide) hn
  generalize 2 ^ n = z at *
  go_enter Tryd.func72, Tryd.ntmps72
  go_wp2_with fail
  refine hb.mono ?_
  rintro e w1 ⟨rfl, rfl⟩
  go_wp2
  go_ret
  exact ⟨ret_int (by omega), rfl⟩
theorem and_pow2 (n k : Nat) : n &&& 2 ^ k = if n.testBit k = true then 2 ^ k else 0 := by
  refine Nat.eq_of_testBit_eq fun i => ?_
  rw [Nat.testBit_and, Nat.testBit_two_pow]
  split
  · rename_i h
    rw [Nat.testBit_two_pow]
    by_cases hi : k = i
    · subst hi; simp [h]
    · simp [hi]
  · rename_i h
    rw [Nat.zero_testBit]
    by_cases hi : k = i
    · subst hi; simpa using h
    · simp [hi]
set_option maxRecDepth 100000 in
set_option maxHeartbeats 1000000 in
theorem nextOf_any (v : Value) (A : List Nat) (left : Nat) (w : World) (hv : Rd w v (u32s A)) (hn : A.length ≤ 6) (hA : ∀ a ∈ A, a < 4294967296) (hl : left < 64) :
    Calls Tryd.prog 81 #[v, .int .u32 (left : Int)] w fun e w' => e = .returned (.int .u32 ((nextS A left A.length : Nat) : Int)) ∧ w' = w := by
  have HV := Lib.hid hv
  obtain ⟨a, c, rfl⟩ := hv.len
  rw [u32s_len] at HV ⊢
  have HA := Lib.hid hA
  clear hv hA
  go_enter Tryd.func81, Tryd.ntmps81
  go_wp2_with fail
  go_loopw [5, 11] (fun y x wr => ∃ k : Nat, k ≤ A.length ∧ x = .int .i64 k ∧ y = .int .u32 ((nextS A left k : Nat) : Int) ∧ wr = w) (fun _ x _ => A.length - (intOf x).toNat)
  case atStart => exact ⟨0, by omega, rfl, rfl, rfl⟩
  case round =>
    obtain ⟨k, hk, rfl, rfl, rfl⟩ := hrel
    by_cases hlt : k < A.length
    · obtain ⟨b, o, c', he, hb, hc⟩ := HV.out.opened (by rw [u32s_len]; omega)
      have hck := hc k _ (u32s_get hlt)
      simp only [Value.slice.injEq] at he
      obtain ⟨rfl, -, rfl⟩ := he
      clear hc
      have hak := HA.out _ (List.getElem_mem hlt)
      have hle := nextS_le A left k
      have hkb := extBit_any k (by omega)
      have hlt3 : 2 ^ k < 4294967296 := Nat.pow_lt_pow_right (a := 2) (m := k) (n := 32) (by decide) (by omega)
      have hand := u32_and_nat left (2 ^ k) (by omega) hlt3
      have hap := and_pow2 left k
      have hpos : 0 < 2 ^ k := Nat.two_pow_pos k
      have hstep : nextS A left (k + 1) = if left.testBit k = true then lessN (nextS A left k) A[k] else nextS A left k := by
        rw [nextS, List.getD_eq_getElem?_getD, List.getElem?_eq_getElem hlt]; rfl
      have HST := Lib.hid hstep
      generalize A[k] = y at *
      generalize nextS A left k = nx at *
      obtain ⟨nx', hnx'⟩ : ∃ z, nextS A left (k + 1) = z := ⟨_, rfl⟩
      have HNX' := Lib.hid hnx'
      rw [hnx'] at HST
      clear hnx'
      have hano := u32_andNot_nat nx y (by omega) hak
      have hln : nx &&& (4294967295 - y) = lessN nx y := rfl
      rw [hln] at hano
      generalize lessN nx y = ly at *
      clear hstep hln
      obtain ⟨pw, hpw⟩ : ∃ pw, 2 ^ k = pw := ⟨_, rfl⟩
      rw [hpw] at hkb hlt3 hand hap hpos
      clear hpw
      cases hb : left.testBit k with
      | true =>
        rw [hb, if_pos rfl] at hap
        rw [hap] at hand
        have he := HST.out
        rw [hb, if_pos rfl] at he
        subst he
        clear HST hap
        have tq : ((pw : Int) != 0) = true := by simp; omega
        go_wp2_with (go_at_call 79; refine (hkb _).mono ?_; rintro e w3 ⟨rfl, rfl⟩)
        go_roundw
        case rel => exact ⟨k + 1, by omega, by go_num, by rw [HNX'.out], trivial⟩
        case measure => simp [intOf]; omega
      | false =>
        rw [hb, if_neg (by decide)] at hap
        rw [hap] at hand
        have he := HST.out
        rw [hb, if_neg (by decide)] at he
        subst he
        clear HST hap
        go_wp2_with (go_at_call 79; refine (hkb _).mono ?_; rintro e w3 ⟨rfl, rfl⟩)
        go_roundw
        case rel => exact ⟨k + 1, by omega, by go_num, by rw [HNX'.out], trivial⟩
        case measure => simp [intOf]; omega
    · obtain rfl : k = A.length := by omega
      go_wp2
      go_ret
      exact ⟨rfl, rfl⟩
set_option maxRecDepth 100000 in
set_option maxHeartbeats 1000000 in
theorem goesBack_any (v : Value) (A : List Nat) (w : World) (hv : Rd w v (u32s A)) (hn : A.length ≤ 6) (hA : ∀ a ∈ A, a < 4294967296) :
    Calls Tryd.prog 75 #[v] w fun e w' => (∃ b, e = .returned (.bool b) ∧ (b = false ↔ Free A)) ∧ w' = w := by
  have HV := Lib.hid hv
  obtain ⟨a, c, rfl⟩ := hv.len
  rw [u32s_len] at HV ⊢
  have HA := Lib.hid hA
  have HNX := Lib.hid (fun left (hl : left < 64) => nextOf_any (.slice a A.length c) A left w HV.out hn HA.out hl)
  have hp := placesOf_any a A.length c (by omega) w
  have HB0 := Lib.hid (back_start (A := A) hn)
  have hn0 := HNX.out _ HB0.out.1
  clear hv hA HV
  have HST := Lib.hid (fun left (h : Back A left) => back_step HA.out h)
  have HEN := Lib.hid (fun left (h : Back A left) => back_end HA.out h)
  have HSU := Lib.hid (fun left (h : left < 64) k => next_sub (A := A) (k := k) HA.out h)
  obtain ⟨l0, hl0⟩ : ∃ z, 2 ^ A.length - 1 = z := ⟨_, rfl⟩
  rw [hl0] at hp HB0 hn0
  clear hl0
  go_enter Tryd.func75, Tryd.ntmps75
  go_wp2_with fail
  refine hp.mono ?_
  rintro e w1 ⟨rfl, hw1⟩
  obtain rfl : w = w1 := hw1.symm
  go_wp2_with fail
  refine hn0.mono ?_
  rintro e w1 ⟨rfl, hw1⟩
  obtain rfl : w = w1 := hw1.symm
  clear hn0 hp
  go_wp2_with fail
  go_loopw [3, 4] (fun x y wr => ∃ p : Nat, x = .int .u32 (p : Int) ∧ y = .int .u32 ((nextS A p A.length : Nat) : Int) ∧ Hid (Back A p) ∧ wr = w) (fun x _ _ => (intOf x).toNat)
  case atStart => exact ⟨l0, rfl, rfl, HB0, rfl⟩
  case round =>
    clear HB0
    obtain ⟨p, rfl, rfl, HP, rfl⟩ := hrel
    have h64 := HP.out.1
    by_cases h0 : nextS A p A.length = 0
    · have HE := Lib.hid (HEN.out p HP.out h0)
      rw [h0]
      by_cases hp0 : p = 0
      · have HF : Hid (Free A) := HE.out.2 hp0
        subst hp0
        clear HE
        go_wp2
        go_ret
        exact ⟨⟨_, rfl, by simp [HF.out]⟩, rfl⟩
      · have HF : Hid (¬ Free A) := fun hf => hp0 (HE.out.1 hf)
        have tq : ((p : Int) != 0) = true := by simp; omega
        clear HE
        go_wp2
        go_ret
        exact ⟨⟨_, rfl, by simp [HF.out]⟩, rfl⟩
    · have hle := nextS_le A p A.length
      have HL : Hid (lessN p (nextS A p A.length) < p) := lessN_less h64 hle h0 (fun k => HSU.out p h64 k)
      have HB2 := Lib.hid (HST.out p HP.out)
      have hcall := HNX.out _ HB2.out.1
      have hano := u32_andNot_nat p (nextS A p A.length) (by omega) (by omega)
      have hln : p &&& (4294967295 - nextS A p A.length) = lessN p (nextS A p A.length) := rfl
      rw [hln] at hano
      obtain ⟨q, hq⟩ : ∃ q, lessN p (nextS A p A.length) = q := ⟨_, rfl⟩
      rw [hq] at HL HB2 hcall hano
      have tq : (((nextS A p A.length : Nat) : Int) != 0) = true := by simp; omega
      clear hln hq
      generalize nextS A p A.length = nx at *
      go_wp2_with fail
      refine hcall.mono ?_
      rintro e w1 ⟨rfl, rfl⟩
      go_wp2
      go_roundw
      case rel => exact ⟨q, rfl, rfl, HB2, trivial⟩
      case measure =>
        have := HL.out
        simp [intOf]; omega
end Go.Proofs.YtpjfhdljagkefaaDoor
/- The walks of package extend's check, with IndexFunc and ContainsFunc at its closure. -/
namespace Go.Proofs.YtpjfhdljagkefaaDoor.RPlain
end Go.Proofs.YtpjfhdljagkefaaDoor.RPlain
namespace Go.Proofs.YtpjfhdljagkefaaDoor
open Go.RowKit RPlain

/-- has a number a bit that is no place's? -/
def moreB (p : Nat) (x : Nat) : Bool := lessN x p != 0
theorem isMore_any (x p P : Nat) (w : World) (hx : x < 4294967296) (hp : p < 4294967296) (hc : w.cell? ⟨P, 0, none⟩ = some (.int .u32 (p : Int))) :
    Calls Tryd.prog 73 #[.int .u32 (x : Int), .pointer (some ⟨P, 0, none⟩)] w fun e w' => e = .returned (.bool (moreB p x)) ∧ w' = w := by
  have hano := u32_andNot_nat x p hx hp
  have hln : x &&& (4294967295 - p) = lessN x p := rfl
  rw [hln] at hano
  have HF : Hid (moreB p x = decide (lessN x p ≠ 0)) := by unfold Hid moreB; rw [Bool.eq_iff_iff]; simp
  generalize lessN x p = z at *
  go_enter Tryd.func73, Tryd.ntmps73
  go_wp2
  go_ret
  exact ⟨ret_bool (by rw [HF.out, Bool.eq_iff_iff]; simp), rfl⟩
set_option maxRecDepth 100000 in
set_option maxHeartbeats 1000000 in
theorem indexM_any (v : Value) (A : List Nat) (p P : Nat) (w : World) (hv : Rd w v (u32s A)) (hl : A.length ≤ 65536) (hA : ∀ a ∈ A, a < 4294967296) (hp : p < 4294967296) (hc : w.cell? ⟨P, 0, none⟩ = some (.int .u32 (p : Int))) :
    Calls Tryd.prog 80 #[v, .func (.func 73) #[] #[.pointer (some ⟨P, 0, none⟩)]] w fun e w' => (∃ z : Int, e = .returned (.int .i64 z) ∧ decide (0 ≤ z) = A.any (moreB p)) ∧ w' = w := by
  have HV := Lib.hid hv
  have HA := Lib.hid hA
  have HCL := Lib.hid (fun x (hx : x < 4294967296) => isMore_any x p P w hx hp hc)
  obtain ⟨va, vc, rfl⟩ := hv.len
  rw [u32s_len] at HV ⊢
  clear hv hc hA
  go_enter Tryd.func80, Tryd.ntmps80
  go_wp2_with fail
  go_loopw [8] (fun x wr => ∃ k : Nat, k ≤ A.length ∧ x = .int .i64 k ∧ Hid ((A.take k).any (moreB p) = false) ∧ wr = w) (fun x _ => A.length - (intOf x).toNat)
  case atStart => exact ⟨0, by omega, rfl, rfl, rfl⟩
  case round =>
    obtain ⟨k, hk, rfl, HT0, rfl⟩ := hrel
    by_cases hlt : k < A.length
    · have HT : Hid (A.take (k + 1) = A.take k ++ [A[k]]) := List.take_succ_eq_append_getElem hlt
      have HM : Hid (A[k] ∈ A) := List.getElem_mem hlt
      obtain ⟨b, o, c', he, hbl, hcs⟩ := HV.out.opened (by rw [u32s_len]; omega)
      simp only [Value.slice.injEq] at he
      obtain ⟨rfl, -, rfl⟩ := he
      have hck := hcs k _ (u32s_get hlt)
      have HC2 := Lib.hid (HCL.out A[k] (HA.out _ HM.out))
      clear hcs
      generalize A[k] = y at *
      cases hnb : moreB p y with
      | false =>
        rw [hnb] at HC2
        have HA2 : Hid ((A.take (k + 1)).any (moreB p) = false) := by
          unfold Hid
          rw [HT.out, List.any_append, HT0.out]
          simp [hnb]
        clear hnb HT HM HT0
        go_wp2_with (go_at_call 73; refine HC2.out.mono ?_; rintro e w3 ⟨rfl, rfl⟩)
        go_roundw
        case rel => exact ⟨k + 1, by omega, by go_num, HA2, trivial⟩
        case measure => simp [intOf]; omega
      | true =>
        rw [hnb] at HC2
        have HA2 : Hid (A.any (moreB p) = true) := List.any_eq_true.2 ⟨y, HM.out, hnb⟩
        clear hnb HT HM HT0
        go_wp2_with (go_at_call 73; refine HC2.out.mono ?_; rintro e w3 ⟨rfl, rfl⟩)
        go_ret
        exact ⟨⟨_, rfl, by rw [HA2.out]; exact decide_eq_true (by omega)⟩, rfl⟩
    · obtain rfl : k = A.length := by omega
      have HA2 : Hid (A.any (moreB p) = false) := by have := HT0.out; rwa [List.take_length] at this
      clear HT0
      go_wp2
      go_ret
      exact ⟨⟨_, rfl, by rw [HA2.out]; rfl⟩, rfl⟩
theorem containsM_any (v : Value) (A : List Nat) (p P : Nat) (w : World) (hv : Rd w v (u32s A)) (hl : A.length ≤ 65536) (hA : ∀ a ∈ A, a < 4294967296) (hp : p < 4294967296) (hc : w.cell? ⟨P, 0, none⟩ = some (.int .u32 (p : Int))) :
    Calls Tryd.prog 74 #[v, .func (.func 73) #[] #[.pointer (some ⟨P, 0, none⟩)]] w fun e w' => e = .returned (.bool (A.any (moreB p))) ∧ w' = w := by
  have HI := Lib.hid (indexM_any v A p P w hv hl hA hp hc)
  clear hv hl hc hA hp
  go_enter Tryd.func74, Tryd.ntmps74
  go_wp2_with fail
  refine HI.out.mono ?_
  rintro e w1 ⟨⟨z, rfl, hz⟩, rfl⟩
  go_wp2
  all_goals go_ret
  all_goals exact ⟨ret_bool (by rw [← hz]), rfl⟩
theorem more_any {A : List Nat} (hn : A.length ≤ 6) (hA : ∀ a ∈ A, a < 4294967296) : A.any (moreB (2 ^ A.length - 1)) = A.any fun a => decide (2 ^ A.length ≤ a) := by
  rw [Bool.eq_iff_iff, List.any_eq_true, List.any_eq_true]
  refine exists_congr fun a => and_congr_right fun ha => ?_
  have h := more_iff (n := A.length) hn (hA a ha)
  unfold moreB
  simp only [bne_iff_ne, ne_eq, decide_eq_true_eq, h]
  omega
set_option maxRecDepth 100000 in
set_option maxHeartbeats 1000000 in
theorem checkX_any (v : Value) (A : List Nat) (w : World) (hv : Rd w v (u32s A)) (hA : ∀ a ∈ A, a < 4294967296) (hl : A.length ≤ 65536) :
    Calls Tryd.prog 67 #[v] w fun e w' => e = .returned (.int .i64 ((mayE A : Nat) : Int)) ∧ Below w.heap.size w w' := by
  have HV := Lib.hid hv
  have HA := Lib.hid hA
  obtain ⟨a, c, rfl⟩ := hv.len
  rw [u32s_len] at HV ⊢
  clear hv hA
  have hun : mayE A = if 6 < A.length ∨ (A.any fun x => decide (2 ^ A.length ≤ x)) = true then 1 else if ((List.range A.length).any fun i => (waysS A i).contains i) = true then 8 else 0 := rfl
  by_cases h6 : 6 < A.length
  · rw [if_pos (.inl h6)] at hun
    rw [hun]
    clear hun
    go_enter Tryd.func67, Tryd.ntmps67
    go_wp2
    go_ret
    exact ⟨rfl, Below.refl _ _⟩
  · have hn : A.length ≤ 6 := by omega
    have hp := placesOf_any a A.length c (by omega) w
    have h64 := leftA_lt hn []
    have hl0 : leftA A.length [] = 2 ^ A.length - 1 := rfl
    rw [hl0] at h64
    have hMore := more_any hn HA.out
    obtain ⟨l0, hl0'⟩ : ∃ z, 2 ^ A.length - 1 = z := ⟨_, rfl⟩
    rw [hl0'] at hp h64 hMore
    have HB := (Below.refl w.heap.size w).alloc (Nat.le_refl _) (.cells #[.int .u32 (l0 : Int)] 23)
    have HC := Lib.hid (containsM_any (.slice a A.length c) A l0 w.heap.size (w.alloc (.cells #[.int .u32 (l0 : Int)] 23)) (HV.out.below HB (Nat.le_refl _)) hl HA.out (by omega) ((At.new w _ _).cell (i := 0) rfl))
    rw [hMore] at HC
    have HG := Lib.hid (goesBack_any (.slice a A.length c) A (w.alloc (.cells #[.int .u32 (l0 : Int)] 23)) (HV.out.below HB (Nat.le_refl _)) hn HA.out)
    have hfree := free_iff A
    clear hl0 hl0' hMore
    cases hm : A.any fun x => decide (2 ^ A.length ≤ x) with
    | true =>
      rw [hm] at HC
      rw [if_pos (.inr hm)] at hun
      rw [hun]
      clear hun hm HG hfree
      go_enter Tryd.func67, Tryd.ntmps67
      go_wp2_with fail
      refine hp.mono ?_
      rintro e w1 ⟨rfl, hw1⟩
      obtain rfl : w = w1 := hw1.symm
      go_wp2_with fail
      refine HC.out.mono ?_
      rintro e w1 ⟨rfl, rfl⟩
      go_wp2
      go_ret
      exact ⟨rfl, HB⟩
    | false =>
      rw [hm] at HC
      rw [if_neg (by rw [hm]; simp; omega)] at hun
      clear hm
      go_enter Tryd.func67, Tryd.ntmps67
      go_wp2_with fail
      refine hp.mono ?_
      rintro e w1 ⟨rfl, hw1⟩
      obtain rfl : w = w1 := hw1.symm
      go_wp2_with fail
      refine HC.out.mono ?_
      rintro e w1 ⟨rfl, hw2⟩
      obtain rfl : w.alloc (.cells #[.int .u32 (l0 : Int)] 23) = w1 := hw2.symm
      go_wp2_with fail
      refine HG.out.mono ?_
      rintro e w1 ⟨⟨b, rfl, hb⟩, hw2⟩
      obtain rfl : w.alloc (.cells #[.int .u32 (l0 : Int)] 23) = w1 := hw2.symm
      cases b with
      | true =>
        have hnf : ¬ Free A := fun hf => absurd (hb.2 hf) (by decide)
        have h8 : mayE A = 8 := by
          rw [hun, if_pos]
          cases hc : ((List.range A.length).any fun i => (waysS A i).contains i) with
          | true => rfl
          | false => exact absurd (hfree.1 hc) hnf
        clear hun hfree hb hnf
        go_wp2
        go_ret
        exact ⟨ret_int (by rw [h8]; rfl), HB⟩
      | false =>
        have h8 : mayE A = 0 := by
          rw [hun, if_neg]
          rw [hfree.2 (hb.1 rfl)]
          decide
        clear hun hfree hb
        go_wp2
        go_ret
        exact ⟨ret_int (by rw [h8]; rfl), HB⟩
end Go.Proofs.YtpjfhdljagkefaaDoor
