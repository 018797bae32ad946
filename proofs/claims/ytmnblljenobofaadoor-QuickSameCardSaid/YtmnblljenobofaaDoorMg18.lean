/- Merged: ExtE, ExtF, ExtG. -/
import Derived.Test.YtmnblljenobofaaDoorExtC
import Derived.Test.YtmnblljenobofaaDoorExtD
import Derived.Test.YtmnblljenobofaaDoorMg11
import Derived.Test.YtmnblljenobofaaDoorOrdE
import Derived.Test.YtmnblljenobofaaDoorMg3
import Derived.Test.YtmnblljenobofaaDoorMg4
import Derived.Test.YtmnblljenobofaaDoorShelf
import Derived.Laws.BitsAllLaws
import Derived.Laws.AppendOwnNone
/- The walks of package extend's bit, placesOf, nextOf, goesBack, check. -/
namespace Go.Proofs.YtmnblljenobofaaDoor.RPlain
end Go.Proofs.YtmnblljenobofaaDoor.RPlain
namespace Go.Proofs.YtmnblljenobofaaDoor
open Go.RowKit RPlain

theorem u32s_len (L : List Nat) : (u32s L).length = L.length := by simp [u32s]
theorem u32s_get {L : List Nat} {k : Nat} (h : k < L.length) : (u32s L)[k]? = some (.int .u32 (L[k] : Int)) := by
  unfold u32s
  rw [List.getElem?_map, List.getElem?_eq_getElem h]; rfl
theorem extBit_any (k : Nat) (hk : k < 32) (w : World) : Calls Tryd.prog 85 #[.int .i64 (k : Int)] w fun e w' => e = .returned (.int .u32 ((2 ^ k : Nat) : Int)) ∧ w' = w := by
  go_enter Tryd.func85, Tryd.ntmps85
  go_wp2
  go_ret
  exact ⟨by rw [pow_u32 hk]; rfl, rfl⟩
theorem placesOf_any (a : Option Addr) (n c : Nat) (hn : n < 32) (w : World) : Calls Tryd.prog 67 #[.slice a n c] w fun e w' => e = .returned (.int .u32 ((2 ^ n - 1 : Nat) : Int)) ∧ w' = w := by
  have hb := extBit_any n hn w
  have hp : 0 < 2 ^ n := Nat.two_pow_pos n
  have hlt : 2 ^ n < 4294967296 := Nat.pow_lt_pow_right (a := 2) (m := n) (n := 32) (by decide) hn
  generalize 2 ^ n = z at *
  go_enter Tryd.func67, Tryd.ntmps67
  go_wp2_with fail
  refine hb.mono ?_
  rintro e w1 ⟨rfl, rfl⟩
  go_wp2
  go_ret
  exact ⟨ret_int (by omega), rfl⟩
theorem and_pow2 (n k : Nat) : n &&& 2 ^ k = if n.testBit k = true then 2 ^ k else 0 := by
  refine Nat.eq_of_testBit_eq fun i => ?_
  rw [Nat.testBit_and, Nat.testBit_two_pow]
  split
  · rename_i h
    rw [Nat.testBit_two_pow]
    by_cases hi : k = i
    · subst hi; simp [h]
    · simp [hi]
  · rename_i h
    rw [Nat.zero_testBit]
    by_cases hi : k = i
    · subst hi; simpa using h
    · simp [hi]
set_option maxRecDepth 100000 in
set_option maxHeartbeats 1000000 in
theorem nextOf_any (v : Value) (A : List Nat) (left : Nat) (w : World) (hv : Rd w v (u32s A)) (hn : A.length ≤ 6) (hA : ∀ a ∈ A, a < 4294967296) (hl : left < 64) :
    Calls Tryd.prog 87 #[v, .int .u32 (left : Int)] w fun e w' => e = .returned (.int .u32 ((nextS A left A.length : Nat) : Int)) ∧ w' = w := by
  have HV := Lib.hid hv
  obtain ⟨a, c, rfl⟩ := hv.len
  rw [u32s_len] at HV ⊢
  have HA := Lib.hid hA
  clear hv hA
  go_enter Tryd.func87, Tryd.ntmps87
  go_wp2_with fail
  go_loopw [5, 11] (fun y x wr => ∃ k : Nat, k ≤ A.length ∧ x = .int .i64 k ∧ y = .int .u32 ((nextS A left k : Nat) : Int) ∧ wr = w) (fun _ x _ => A.length - (intOf x).toNat)
  case atStart => exact ⟨0, by omega, rfl, rfl, rfl⟩
  case round =>
    obtain ⟨k, hk, rfl, rfl, rfl⟩ := hrel
    by_cases hlt : k < A.length
    · obtain ⟨b, o, c', he, hb, hc⟩ := HV.out.opened (by rw [u32s_len]; omega)
      have hck := hc k _ (u32s_get hlt)
      simp only [Value.slice.injEq] at he
      obtain ⟨rfl, -, rfl⟩ := he
      clear hc
      have hak := HA.out _ (List.getElem_mem hlt)
      have hle := nextS_le A left k
      have hkb := extBit_any k (by omega)
      have hlt3 : 2 ^ k < 4294967296 := Nat.pow_lt_pow_right (a := 2) (m := k) (n := 32) (by decide) (by omega)
      have hand := u32_and_nat left (2 ^ k) (by omega) hlt3
      have hap := and_pow2 left k
      have hpos : 0 < 2 ^ k := Nat.two_pow_pos k
      have hstep : nextS A left (k + 1) = if left.testBit k = true then lessN (nextS A left k) A[k] else nextS A left k := by
        rw [nextS, List.getD_eq_getElem?_getD, List.getElem?_eq_getElem hlt]; rfl
      have HST := Lib.hid hstep
      generalize A[k] = y at *
      generalize nextS A left k = nx at *
      obtain ⟨nx', hnx'⟩ : ∃ z, nextS A left (k + 1) = z := ⟨_, rfl⟩
      have HNX' := Lib.hid hnx'
      rw [hnx'] at HST
      clear hnx'
      have hano := u32_andNot_nat nx y (by omega) hak
      have hln : nx &&& (4294967295 - y) = lessN nx y := rfl
      rw [hln] at hano
      generalize lessN nx y = ly at *
      clear hstep hln
      obtain ⟨pw, hpw⟩ : ∃ pw, 2 ^ k = pw := ⟨_, rfl⟩
      rw [hpw] at hkb hlt3 hand hap hpos
      clear hpw
      cases hb : left.testBit k with
      | true =>
        rw [hb, if_pos rfl] at hap
        rw [hap] at hand
        have he := HST.out
        rw [hb, if_pos rfl] at he
        subst he
        clear HST hap
        have tq : ((pw : Int) != 0) = true := by simp; omega
        go_wp2_with (go_at_call 85; refine (hkb _).mono ?_; rintro e w3 ⟨rfl, rfl⟩)
        go_roundw
        case rel => exact ⟨k + 1, by omega, by go_num, by rw [HNX'.out], trivial⟩
        case measure => simp [intOf]; omega
      | false =>
        rw [hb, if_neg (by decide)] at hap
        rw [hap] at hand
        have he := HST.out
        rw [hb, if_neg (by decide)] at he
        subst he
        clear HST hap
        go_wp2_with (go_at_call 85; refine (hkb _).mono ?_; rintro e w3 ⟨rfl, rfl⟩)
        go_roundw
        case rel => exact ⟨k + 1, by omega, by go_num, by rw [HNX'.out], trivial⟩
        case measure => simp [intOf]; omega
    · obtain rfl : k = A.length := by omega
      go_wp2
      go_ret
      exact ⟨rfl, rfl⟩
set_option maxRecDepth 100000 in
set_option maxHeartbeats 1000000 in
theorem goesBack_any (v : Value) (A : List Nat) (w : World) (hv : Rd w v (u32s A)) (hn : A.length ≤ 6) (hA : ∀ a ∈ A, a < 4294967296) :
    Calls Tryd.prog 70 #[v] w fun e w' => (∃ b, e = .returned (.bool b) ∧ (b = false ↔ Free A)) ∧ w' = w := by
  have HV := Lib.hid hv
  obtain ⟨a, c, rfl⟩ := hv.len
  rw [u32s_len] at HV ⊢
  have HA := Lib.hid hA
  have HNX := Lib.hid (fun left (hl : left < 64) => nextOf_any (.slice a A.length c) A left w HV.out hn HA.out hl)
  have hp := placesOf_any a A.length c (by omega) w
  have HB0 := Lib.hid (back_start (A := A) hn)
  have hn0 := HNX.out _ HB0.out.1
  clear hv hA HV
  have HST := Lib.hid (fun left (h : Back A left) => back_step HA.out h)
  have HEN := Lib.hid (fun left (h : Back A left) => back_end HA.out h)
  have HSU := Lib.hid (fun left (h : left < 64) k => next_sub (A := A) (k := k) HA.out h)
  obtain ⟨l0, hl0⟩ : ∃ z, 2 ^ A.length - 1 = z := ⟨_, rfl⟩
  rw [hl0] at hp HB0 hn0
  clear hl0
  go_enter Tryd.func70, Tryd.ntmps70
  go_wp2_with fail
  refine hp.mono ?_
  rintro e w1 ⟨rfl, hw1⟩
  obtain rfl : w = w1 := hw1.symm
  go_wp2_with fail
  refine hn0.mono ?_
  rintro e w1 ⟨rfl, hw1⟩
  obtain rfl : w = w1 := hw1.symm
  clear hn0 hp
  go_wp2_with fail
  go_loopw [3, 4] (fun x y wr => ∃ p : Nat, x = .int .u32 (p : Int) ∧ y = .int .u32 ((nextS A p A.length : Nat) : Int) ∧ Hid (Back A p) ∧ wr = w) (fun x _ _ => (intOf x).toNat)
  case atStart => exact ⟨l0, rfl, rfl, HB0, rfl⟩
  case round =>
    clear HB0
    obtain ⟨p, rfl, rfl, HP, rfl⟩ := hrel
    have h64 := HP.out.1
    by_cases h0 : nextS A p A.length = 0
    · have HE := Lib.hid (HEN.out p HP.out h0)
      rw [h0]
      by_cases hp0 : p = 0
      · have HF : Hid (Free A) := HE.out.2 hp0
        subst hp0
        clear HE
        go_wp2
        go_ret
        exact ⟨⟨_, rfl, by simp [HF.out]⟩, rfl⟩
      · have HF : Hid (¬ Free A) := fun hf => hp0 (HE.out.1 hf)
        have tq : ((p : Int) != 0) = true := by simp; omega
        clear HE
        go_wp2
        go_ret
        exact ⟨⟨_, rfl, by simp [HF.out]⟩, rfl⟩
    · have hle := nextS_le A p A.length
      have HL : Hid (lessN p (nextS A p A.length) < p) := lessN_less h64 hle h0 (fun k => HSU.out p h64 k)
      have HB2 := Lib.hid (HST.out p HP.out)
      have hcall := HNX.out _ HB2.out.1
      have hano := u32_andNot_nat p (nextS A p A.length) (by omega) (by omega)
      have hln : p &&& (4294967295 - nextS A p A.length) = lessN p (nextS A p A.length) := rfl
      rw [hln] at hano
      obtain ⟨q, hq⟩ : ∃ q, lessN p (nextS A p A.length) = q := ⟨_, rfl⟩
      rw [hq] at HL HB2 hcall hano
      have tq : (((nextS A p A.length : Nat) : Int) != 0) = true := by simp; omega
      clear hln hq
      generalize nextS A p A.length = nx at *
      go_wp2_with fail
      refine hcall.mono ?_
      rintro e w1 ⟨rfl, rfl⟩
      go_wp2
      go_roundw
      case rel => exact ⟨q, rfl, rfl, HB2, trivial⟩
      case measure =>
        have := HL.out
        simp [intOf]; omega
end Go.Proofs.YtmnblljenobofaaDoor
/- The walks of package extend's check, with IndexFunc and ContainsFunc at its closure. -/
namespace Go.Proofs.YtmnblljenobofaaDoor.RPlain
end Go.Proofs.YtmnblljenobofaaDoor.RPlain
namespace Go.Proofs.YtmnblljenobofaaDoor
open Go.RowKit RPlain

/-- has a number a bit that is no place's? -/
def moreB (p : Nat) (x : Nat) : Bool := lessN x p != 0
theorem isMore_any (x p P : Nat) (w : World) (hx : x < 4294967296) (hp : p < 4294967296) (hc : w.cell? ⟨P, 0, none⟩ = some (.int .u32 (p : Int))) :
    Calls Tryd.prog 68 #[.int .u32 (x : Int), .pointer (some ⟨P, 0, none⟩)] w fun e w' => e = .returned (.bool (moreB p x)) ∧ w' = w := by
  have hano := u32_andNot_nat x p hx hp
  have hln : x &&& (4294967295 - p) = lessN x p := rfl
  rw [hln] at hano
  have HF : Hid (moreB p x = decide (lessN x p ≠ 0)) := by unfold Hid moreB; rw [Bool.eq_iff_iff]; simp
  generalize lessN x p = z at *
  go_enter Tryd.func68, Tryd.ntmps68
  go_wp2
  go_ret
  exact ⟨ret_bool (by rw [HF.out, Bool.eq_iff_iff]; simp), rfl⟩
set_option maxRecDepth 100000 in
set_option maxHeartbeats 1000000 in
theorem indexM_any (v : Value) (A : List Nat) (p P : Nat) (w : World) (hv : Rd w v (u32s A)) (hl : A.length ≤ 65536) (hA : ∀ a ∈ A, a < 4294967296) (hp : p < 4294967296) (hc : w.cell? ⟨P, 0, none⟩ = some (.int .u32 (p : Int))) :
    Calls Tryd.prog 86 #[v, .func (.func 68) #[] #[.pointer (some ⟨P, 0, none⟩)]] w fun e w' => (∃ z : Int, e = .returned (.int .i64 z) ∧ decide (0 ≤ z) = A.any (moreB p)) ∧ w' = w := by
  have HV := Lib.hid hv
  have HA := Lib.hid hA
  have HCL := Lib.hid (fun x (hx : x < 4294967296) => isMore_any x p P w hx hp hc)
  obtain ⟨va, vc, rfl⟩ := hv.len
  rw [u32s_len] at HV ⊢
  clear hv hc hA
  go_enter Tryd.func86, Tryd.ntmps86
  go_wp2_with fail
  go_loopw [8] (fun x wr => ∃ k : Nat, k ≤ A.length ∧ x = .int .i64 k ∧ Hid ((A.take k).any (moreB p) = false) ∧ wr = w) (fun x _ => A.length - (intOf x).toNat)
  case atStart => exact ⟨0, by omega, rfl, rfl, rfl⟩
  case round =>
    obtain ⟨k, hk, rfl, HT0, rfl⟩ := hrel
    by_cases hlt : k < A.length
    · have HT : Hid (A.take (k + 1) = A.take k ++ [A[k]]) := List.take_succ_eq_append_getElem hlt
      have HM : Hid (A[k] ∈ A) := List.getElem_mem hlt
      obtain ⟨b, o, c', he, hbl, hcs⟩ := HV.out.opened (by rw [u32s_len]; omega)
      simp only [Value.slice.injEq] at he
      obtain ⟨rfl, -, rfl⟩ := he
      have hck := hcs k _ (u32s_get hlt)
      have HC2 := Lib.hid (HCL.out A[k] (HA.out _ HM.out))
      clear hcs
      generalize A[k] = y at *
      cases hnb : moreB p y with
      | false =>
        rw [hnb] at HC2
        have HA2 : Hid ((A.take (k + 1)).any (moreB p) = false) := by
          unfold Hid
          rw [HT.out, List.any_append, HT0.out]
          simp [hnb]
        clear hnb HT HM HT0
        go_wp2_with (go_at_call 68; refine HC2.out.mono ?_; rintro e w3 ⟨rfl, rfl⟩)
        go_roundw
        case rel => exact ⟨k + 1, by omega, by go_num, HA2, trivial⟩
        case measure => simp [intOf]; omega
      | true =>
        rw [hnb] at HC2
        have HA2 : Hid (A.any (moreB p) = true) := List.any_eq_true.2 ⟨y, HM.out, hnb⟩
        clear hnb HT HM HT0
        go_wp2_with (go_at_call 68; refine HC2.out.mono ?_; rintro e w3 ⟨rfl, rfl⟩)
        go_ret
        exact ⟨⟨_, rfl, by rw [HA2.out]; exact decide_eq_true (by omega)⟩, rfl⟩
    · obtain rfl : k = A.length := by omega
      have HA2 : Hid (A.any (moreB p) = false) := by have := HT0.out; rwa [List.take_length] at this
      clear HT0
      go_wp2
      go_ret
      exact ⟨⟨_, rfl, by rw [HA2.out]; rfl⟩, rfl⟩
theorem containsM_any (v : Value) (A : List Nat) (p P : Nat) (w : World) (hv : Rd w v (u32s A)) (hl : A.length ≤ 65536) (hA : ∀ a ∈ A, a < 4294967296) (hp : p < 4294967296) (hc : w.cell? ⟨P, 0, none⟩ = some (.int .u32 (p : Int))) :
    Calls Tryd.prog 69 #[v, .func (.func 68) #[] #[.pointer (some ⟨P, 0, none⟩)]] w fun e w' => e = .returned (.bool (A.any (moreB p))) ∧ w' = w := by
  have HI := Lib.hid (indexM_any v A p P w hv hl hA hp hc)
  clear hv hl hc hA hp
  go_enter Tryd.func69, Tryd.ntmps69
  go_wp2_with fail
  refine HI.out.mono ?_
  rintro e w1 ⟨⟨z, rfl, hz⟩, rfl⟩
  go_wp2
  all_goals go_ret
  all_goals exact ⟨ret_bool (by rw [← hz]), rfl⟩
theorem more_any {A : List Nat} (hn : A.length ≤ 6) (hA : ∀ a ∈ A, a < 4294967296) : A.any (moreB (2 ^ A.length - 1)) = A.any fun a => decide (2 ^ A.length ≤ a) := by
  rw [Bool.eq_iff_iff, List.any_eq_true, List.any_eq_true]
  refine exists_congr fun a => and_congr_right fun ha => ?_
  have h := more_iff (n := A.length) hn (hA a ha)
  unfold moreB
  simp only [bne_iff_ne, ne_eq, decide_eq_true_eq, h]
  omega
set_option maxRecDepth 100000 in
set_option maxHeartbeats 1000000 in
theorem checkX_any (v : Value) (A : List Nat) (w : World) (hv : Rd w v (u32s A)) (hA : ∀ a ∈ A, a < 4294967296) (hl : A.length ≤ 65536) :
    Calls Tryd.prog 49 #[v] w fun e w' => e = .returned (.int .i64 ((mayE A : Nat) : Int)) ∧ Below w.heap.size w w' := by
  have HV := Lib.hid hv
  have HA := Lib.hid hA
  obtain ⟨a, c, rfl⟩ := hv.len
  rw [u32s_len] at HV ⊢
  clear hv hA
  have hun : mayE A = if 6 < A.length ∨ (A.any fun x => decide (2 ^ A.length ≤ x)) = true then 1 else if ((List.range A.length).any fun i => (waysS A i).contains i) = true then 8 else 0 := rfl
  by_cases h6 : 6 < A.length
  · rw [if_pos (.inl h6)] at hun
    rw [hun]
    clear hun
    go_enter Tryd.func49, Tryd.ntmps49
    go_wp2
    go_ret
    exact ⟨rfl, Below.refl _ _⟩
  · have hn : A.length ≤ 6 := by omega
    have hp := placesOf_any a A.length c (by omega) w
    have h64 := leftA_lt hn []
    have hl0 : leftA A.length [] = 2 ^ A.length - 1 := rfl
    rw [hl0] at h64
    have hMore := more_any hn HA.out
    obtain ⟨l0, hl0'⟩ : ∃ z, 2 ^ A.length - 1 = z := ⟨_, rfl⟩
    rw [hl0'] at hp h64 hMore
    have HB := (Below.refl w.heap.size w).alloc (Nat.le_refl _) (.cells #[.int .u32 (l0 : Int)] 23)
    have HC := Lib.hid (containsM_any (.slice a A.length c) A l0 w.heap.size (w.alloc (.cells #[.int .u32 (l0 : Int)] 23)) (HV.out.below HB (Nat.le_refl _)) hl HA.out (by omega) ((At.new w _ _).cell (i := 0) rfl))
    rw [hMore] at HC
    have HG := Lib.hid (goesBack_any (.slice a A.length c) A (w.alloc (.cells #[.int .u32 (l0 : Int)] 23)) (HV.out.below HB (Nat.le_refl _)) hn HA.out)
    have hfree := free_iff A
    clear hl0 hl0' hMore
    cases hm : A.any fun x => decide (2 ^ A.length ≤ x) with
    | true =>
      rw [hm] at HC
      rw [if_pos (.inr hm)] at hun
      rw [hun]
      clear hun hm HG hfree
      go_enter Tryd.func49, Tryd.ntmps49
      go_wp2_with fail
      refine hp.mono ?_
      rintro e w1 ⟨rfl, hw1⟩
      obtain rfl : w = w1 := hw1.symm
      go_wp2_with fail
      refine HC.out.mono ?_
      rintro e w1 ⟨rfl, rfl⟩
      go_wp2
      go_ret
      exact ⟨rfl, HB⟩
    | false =>
      rw [hm] at HC
      rw [if_neg (by rw [hm]; simp; omega)] at hun
      clear hm
      go_enter Tryd.func49, Tryd.ntmps49
      go_wp2_with fail
      refine hp.mono ?_
      rintro e w1 ⟨rfl, hw1⟩
      obtain rfl : w = w1 := hw1.symm
      go_wp2_with fail
      refine HC.out.mono ?_
      rintro e w1 ⟨rfl, hw2⟩
      obtain rfl : w.alloc (.cells #[.int .u32 (l0 : Int)] 23) = w1 := hw2.symm
      go_wp2_with fail
      refine HG.out.mono ?_
      rintro e w1 ⟨⟨b, rfl, hb⟩, hw2⟩
      obtain rfl : w.alloc (.cells #[.int .u32 (l0 : Int)] 23) = w1 := hw2.symm
      cases b with
      | true =>
        have hnf : ¬ Free A := fun hf => absurd (hb.2 hf) (by decide)
        have h8 : mayE A = 8 := by
          rw [hun, if_pos]
          cases hc : ((List.range A.length).any fun i => (waysS A i).contains i) with
          | true => rfl
          | false => exact absurd (hfree.1 hc) hnf
        clear hun hfree hb hnf
        go_wp2
        go_ret
        exact ⟨ret_int (by rw [h8]; rfl), HB⟩
      | false =>
        have h8 : mayE A = 0 := by
          rw [hun, if_neg]
          rw [hfree.2 (hb.1 rfl)]
          decide
        clear hun hfree hb
        go_wp2
        go_ret
        exact ⟨ret_int (by rw [h8]; rfl), HB⟩
end Go.Proofs.YtmnblljenobofaaDoor
/- slices.Concat at two rows of ints, the second of one place; append of a row of ints that may be nil. -/
namespace Go.Proofs.YtmnblljenobofaaDoor.RPlain
end Go.Proofs.YtmnblljenobofaaDoor.RPlain
namespace Go.Proofs.YtmnblljenobofaaDoor
open Go.RowKit RPlain

theorem infoN11 : (Tryd.prog.info? 3).map (fun i => (i.zero, i.size, i.bytes)) = some (some (.int .i64 0), 1, 8) := by kernel_rfl
/-- nil, or a slice with an address -/
def SrcN (v : Value) : Prop := v = .slice none 0 0 ∨ ∃ a n c, v = .slice (some a) n c
theorem SrcN.of_row {w : World} {B : Nat} {e : TypeId} {s : Nat} {v : Value} {n : Nat} {xs : List Value} (h : w.ownsRow B e s v n xs) : SrcN v := by
  rcases h.2 with ⟨rfl, _⟩ | ⟨g, cap, cur, rfl, _⟩
  · exact .inl rfl
  · exact .inr ⟨_, _, _, rfl⟩
theorem nats_one (L : List Nat) : ∀ u ∈ nats L, u.oneCell' = true := by
  intro u hu
  obtain ⟨x, _, rfl⟩ := List.mem_map.1 hu
  rfl
theorem nats_app (L M : List Nat) : nats L ++ nats M = nats (L ++ M) := by simp [nats]
theorem rdCells11 {w : World} {ad : Addr} {m c : Nat} {xs : List Value} (h : Rd w (.slice (some ad) m c) xs) : xs.length = m ∧ ∀ j u, xs[j]? = some u → w.cell? (ad.add j) = some u := by
  rcases h with ⟨rfl, a', c', he⟩ | ⟨h0, b, o, c', he, hc⟩
  · simp only [Value.slice.injEq] at he
    exact ⟨he.2.1.symm, fun j u hu => by simp at hu⟩
  · simp only [Value.slice.injEq, Option.some.injEq] at he
    obtain ⟨rfl, rfl, rfl⟩ := he
    refine ⟨rfl, fun j u hu => ?_⟩
    rw [show (⟨b, o, none⟩ : Addr).add j = ⟨b, o + j, none⟩ from by unfold Addr.add; split <;> simp_all]
    exact hc j u hu
theorem wpList_append_srcI {ops : Array Oper} {rest : List Oper} {o : Oper} {a : Act} {w : World} {Q : Exit → Act → World → Prop} (hgd : o.guard = none) (s x : Operand)
    (ho : o.op = .call { callee := .builtin .append, args := #[s, x], argTypes := #[24, 24] }) (base : Nat)
    (v : Value) (n : Nat) (xs : List Value) (hs : a.eval s = v) (hown : w.ownsRow base 3 1 v n xs)
    (v2 : Value) (L : List Nat) (hx : a.eval x = v2) (hv : Rd w v2 (nats L)) (hsrc : SrcN v2) (h63 : n + L.length ≤ 65536) (hbase : base ≤ w.heap.size)
    (hK : ∀ v' w', w'.ownsRow base 3 1 v' (n + L.length) (xs ++ nats L) → w.grownBy w' v.ownBlock → wpList Tryd.prog ops Q rest (a.put o.dst v') w') : wpList Tryd.prog ops Q (o :: rest) a w := by
  obtain ⟨j0, hj0, hy0, hy1', hy2'⟩ := info_parts infoN11
  rcases hsrc with rfl | ⟨ad, m, c, rfl⟩
  · have h0 : L = [] := by
      obtain ⟨_, _, he⟩ := hv.len
      simp only [Value.slice.injEq, nats_len] at he
      exact List.length_eq_zero_iff.1 he.2.1.symm
    subst h0
    have hrest := hK v w (by simpa [nats] using hown) ⟨rfl, rfl, rfl, Nat.le_refl _, fun _ _ _ => rfl⟩
    exact wpList_append_own_none hgd s x 24 ho base 3 j0 1 Tryd.underlying24 hj0 v n xs hs hown hx hrest
  · obtain ⟨hl, hc⟩ := rdCells11 hv
    rw [nats_len] at hl
    subst hl
    refine wpList_append_own w hgd s x 24 ho base 3 j0 _ 1 8 Tryd.underlying24 hj0 hy0 hy1' hy2' rfl (by decide) v n xs hs hown ad L.length c (nats L) hx (by rw [nats_len]; omega) hc (nats_one L) (by unfold maxLen; omega) (by omega) hbase ?_
    intro v' w' h2 h3 _
    exact hK v' w' h2 h3
/-- slices.Grow(nil, n) -/
theorem grow_nilI (n : Nat) (h0 : 0 < n) (hn : n ≤ 65000) (w : World) :
    Calls Tryd.prog 79 #[.slice none 0 0, .int .i64 n] w fun e w' => ∃ v, e = .returned v ∧ w'.ownsRow w.heap.size 3 1 v 0 [] ∧ Below w.heap.size w w' := by
  obtain ⟨j0, hj0, hy0, hy1', hy2'⟩ := info_parts infoN11
  have hG : n ≤ maxLen := by unfold maxLen; omega
  have h := Any8.slices_Grow_grow Tryd.growI j0 (.int .i64 0) hj0 hy0 (by omega) none 0 0 n [] w (Nat.le_refl _) (by omega) (by rw [hy2']; omega) (by omega) (by simp) (fun _ => rfl) (fun a ha => by cases ha)
  refine h.mono fun e w' ⟨he, hw⟩ => ?_
  have hle := grownCap_le_maxLen w (0 + n) 0 3 (by unfold maxLen; omega)
  have hge := grownCap_ge w (0 + n) 0 3
  obtain ⟨G, hG⟩ : ∃ G, G = grownCap w (0 + n) 0 3 := ⟨_, rfl⟩
  have he' : e = .returned (.slice (some ⟨w.heap.size, 0, none⟩) 0 G) := by rw [hG]; exact he
  have hw' : w' = w.drew.alloc (.cells (([] : List Value).toArray ++ Builtin.zeroCells (Value.int .i64 0).cells (0 + n - 0) ++ Builtin.zeroCells (Value.int .i64 0).cells (G - (0 + n))) 3) := by rw [hG]; exact hw
  rw [← hG] at hle hge
  clear he hw hG
  refine ⟨_, he', ?_, ?_⟩
  · rw [hw']
    refine World.ownsRow_made (size := 1) (e := 3) (base := w.heap.size) w.drew _ _ (Nat.le_refl _) hle ?_
    have hcs : (Value.int .i64 0).cells.size = 1 := rfl
    simp [Builtin.zeroCells, hcs]
    omega
  · rw [hw']
    exact ((Below.refl w.heap.size w).drew).alloc (Nat.le_refl _) _
set_option maxRecDepth 100000 in
set_option maxHeartbeats 2000000 in
theorem concatJ_any (B : Nat) (v0 v1 : Value) (l0 l1 : List Nat) (w : World) (c0 : w.cell? ⟨B, 0, none⟩ = some v0) (c1 : w.cell? ⟨B, 1, none⟩ = some v1)
    (r0 : Rd w v0 (nats l0)) (r1 : Rd w v1 (nats l1)) (s0 : SrcN v0) (s1 : SrcN v1) (h0 : l0.length ≤ 20000) (h1 : l1.length ≤ 20000) (hp : 0 < l0.length + l1.length) :
    Calls Tryd.prog 56 #[.slice (some ⟨B, 0, none⟩) 2 2] w fun e w' => ∃ v, e = .returned v ∧ w'.ownsRow w.heap.size 3 1 v (l0 ++ l1).length (nats (l0 ++ l1)) ∧ Below w.heap.size w w' := by
  obtain ⟨a0, d0, rfl⟩ := r0.len
  obtain ⟨a1, d1, rfl⟩ := r1.len
  have R0 := Lib.hid r0
  have R1 := Lib.hid r1
  have S0 := Lib.hid s0
  have S1 := Lib.hid s1
  rw [nats_len] at R0 R1 S0 S1 c0 c1
  have C0 := Lib.hid c0
  have C1 := Lib.hid c1
  have hB : B < w.heap.size := World.block_lt_of_cell? w _ c0
  clear r0 r1 s0 s1
  have HA := Lib.hid (nats_app l0 l1)
  have hll : (l0 ++ l1).length = l0.length + l1.length := List.length_append
  rw [hll]
  clear hll
  generalize hn0 : l0.length = n0 at *
  generalize hn1 : l1.length = n1 at *
  have HN0 := Lib.hid hn0
  have HN1 := Lib.hid hn1
  clear hn0 hn1
  go_enter Tryd.func56, Tryd.ntmps56
  go_wp2_with fail
  go_loop [3, 11] (fun s i => (i = .int .i64 0 ∧ s = .int .i64 0) ∨ (i = .int .i64 1 ∧ s = .int .i64 (n0 : Int)) ∨ (i = .int .i64 2 ∧ s = .int .i64 ((n0 + n1 : Nat) : Int))) (fun _ i => 2 - (intOf i).toNat)
  case atStart => exact .inl ⟨rfl, rfl⟩
  case round =>
    rcases hrel with ⟨rfl, rfl⟩ | ⟨rfl, rfl⟩ | ⟨rfl, rfl⟩
    · go_wp2
      go_round
      case rel => exact .inr (.inl ⟨by go_num, by go_num⟩)
      case measure => simp [intOf]
    · go_wp2
      go_round
      case rel => exact .inr (.inr ⟨by go_num, by go_num⟩)
      case measure => simp [intOf]
    · go_wp2_with fail
      refine (grow_nilI (n0 + n1) (by omega) (by omega) _).mono ?_
      rintro e w1 ⟨v, rfl, ho, hb⟩
      obtain ⟨ga, gc, rfl⟩ := row_slice ho
      clear c0 c1
      go_wp2_with fail
      go_loopw [6, 27] (fun y i wr => ((i = .int .i64 0 ∧ wr.ownsRow w.heap.size 3 1 y 0 []) ∨ (i = .int .i64 1 ∧ wr.ownsRow w.heap.size 3 1 y n0 (nats l0)) ∨ (i = .int .i64 2 ∧ wr.ownsRow w.heap.size 3 1 y (n0 + n1) (nats l0 ++ nats l1))) ∧ Below w.heap.size w wr) (fun _ i _ => 2 - (intOf i).toNat)
      case atStart => exact ⟨.inl ⟨rfl, ho⟩, hb⟩
      case round =>
        clear ho hb
        obtain ⟨hrel, hb⟩ := hrel
        have c0 := (hb.cell (p := ⟨B, 0, none⟩) hB).trans C0.out
        have c1 := (hb.cell (p := ⟨B, 1, none⟩) hB).trans C1.out
        have hbs := hb.size
        rcases hrel with ⟨rfl, ho⟩ | ⟨rfl, ho⟩ | ⟨rfl, ho⟩
        · go_wp2_with (at_builtin; refine wpList_append_srcI rfl _ _ rfl w.heap.size _ 0 [] rfl ho _ l0 rfl (R0.out.below hb (Nat.le_refl _)) S0.out (by rw [HN0.out]; omega) hbs ?_)
          intro v2 w2 ho2 hg2
          rw [HN0.out] at ho2
          have hb2 := hb.grown hg2 hbs (fun k hk => (ho.lt k hk).1)
          clear ho hb c0 c1 hbs hg2
          go_wp2
          go_roundw
          case rel => exact ⟨.inr (.inl ⟨by go_num, by simpa using ho2⟩), hb2⟩
          case measure => simp [intOf]
        · go_wp2_with (at_builtin; refine wpList_append_srcI rfl _ _ rfl w.heap.size _ n0 (nats l0) rfl ho _ l1 rfl (R1.out.below hb (Nat.le_refl _)) S1.out (by rw [HN1.out]; omega) hbs ?_)
          intro v2 w2 ho2 hg2
          rw [HN1.out] at ho2
          have hb2 := hb.grown hg2 hbs (fun k hk => (ho.lt k hk).1)
          clear ho hb c0 c1 hbs hg2
          go_wp2
          go_roundw
          case rel => exact ⟨.inr (.inr ⟨by go_num, ho2⟩), hb2⟩
          case measure => simp [intOf]
        · obtain ⟨ya, yc, rfl⟩ := row_slice ho
          rw [HA.out] at ho
          have HO := Lib.hid ho
          clear ho
          go_wp2
          go_ret
          exact ⟨_, rfl, HO.out, hb⟩
theorem concatI_any (B : Nat) (v0 v1 : Value) (l0 l1 : List Nat) (w : World) (c0 : w.cell? ⟨B, 0, none⟩ = some v0) (c1 : w.cell? ⟨B, 1, none⟩ = some v1)
    (r0 : Rd w v0 (nats l0)) (r1 : Rd w v1 (nats l1)) (s0 : SrcN v0) (s1 : SrcN v1) (h0 : l0.length ≤ 20000) (h1 : l1.length ≤ 20000) (hp : 0 < l1.length) :
    Calls Tryd.prog 56 #[.slice (some ⟨B, 0, none⟩) 2 2] w fun e w' => ∃ v, e = .returned v ∧ w'.ownsRow w.heap.size 3 1 v (l0 ++ l1).length (nats (l0 ++ l1)) ∧ Below w.heap.size w w' :=
  concatJ_any B v0 v1 l0 l1 w c0 c1 r0 r1 s0 s1 h0 h1 (by omega)
end Go.Proofs.YtmnblljenobofaaDoor
