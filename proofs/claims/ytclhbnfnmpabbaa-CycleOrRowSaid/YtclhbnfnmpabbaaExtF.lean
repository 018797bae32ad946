/- The walks of package extend's check, with IndexFunc and ContainsFunc at its closure. -/
import Derived.Test.YtclhbnfnmpabbaaExtE
namespace Go.Proofs.Ytclhbnfnmpabbaa.RPlain
end Go.Proofs.Ytclhbnfnmpabbaa.RPlain
namespace Go.Proofs.Ytclhbnfnmpabbaa
open Go.RowKit RPlain

/-- has a number a bit that is no place's? -/
def moreB (p : Nat) (x : Nat) : Bool := lessN x p != 0
theorem isMore_any (x p P : Nat) (w : World) (hx : x < 4294967296) (hp : p < 4294967296) (hc : w.cell? ⟨P, 0, none⟩ = some (.int .u32 (p : Int))) :
    Calls Try.prog 42 #[.int .u32 (x : Int), .pointer (some ⟨P, 0, none⟩)] w fun e w' => e = .returned (.bool (moreB p x)) ∧ w' = w := by
  have hano := u32_andNot_nat x p hx hp
  have hln : x &&& (4294967295 - p) = lessN x p := rfl
  rw [hln] at hano
  have HF : Hid (moreB p x = decide (lessN x p ≠ 0)) := by unfold Hid moreB; rw [Bool.eq_iff_iff]; simp
  generalize lessN x p = z at *
  go_enter Try.func42, Try.ntmps42
  go_wp2
  go_ret
  exact ⟨ret_bool (by rw [HF.out, Bool.eq_iff_iff]; simp), rfl⟩
set_option maxRecDepth 100000 in
set_option maxHeartbeats 1000000 in
theorem indexM_any (v : Value) (A : List Nat) (p P : Nat) (w : World) (hv : Rd w v (u32s A)) (hl : A.length ≤ 65536) (hA : ∀ a ∈ A, a < 4294967296) (hp : p < 4294967296) (hc : w.cell? ⟨P, 0, none⟩ = some (.int .u32 (p : Int))) :
    Calls Try.prog 46 #[v, .func (.func 42) #[] #[.pointer (some ⟨P, 0, none⟩)]] w fun e w' => (∃ z : Int, e = .returned (.int .i64 z) ∧ decide (0 ≤ z) = A.any (moreB p)) ∧ w' = w := by
  have HV := Lib.hid hv
  have HA := Lib.hid hA
  have HCL := Lib.hid (fun x (hx : x < 4294967296) => isMore_any x p P w hx hp hc)
  obtain ⟨va, vc, rfl⟩ := hv.len
  rw [u32s_len] at HV ⊢
  clear hv hc hA
  go_enter Try.func46, Try.ntmps46
  go_wp2_with fail
  go_loopw [8] (fun x wr => ∃ k : Nat, k ≤ A.length ∧ x = .int .i64 k ∧ Hid ((A.take k).any (moreB p) = false) ∧ wr = w) (fun x _ => A.length - (intOf x).toNat)
  case atStart => exact ⟨0, by omega, rfl, rfl, rfl⟩
  case round =>
    obtain ⟨k, hk, rfl, HT0, rfl⟩ := hrel
    by_cases hlt : k < A.length
    · have HT : Hid (A.take (k + 1) = A.take k ++ [A[k]]) := List.take_succ_eq_append_getElem hlt
      have HM : Hid (A[k] ∈ A) := List.getElem_mem hlt
      obtain ⟨b, o, c', he, hbl, hcs⟩ := HV.out.opened (by rw [u32s_len]; omega)
      simp only [Value.slice.injEq] at he
      obtain ⟨rfl, -, rfl⟩ := he
      have hck := hcs k _ (u32s_get hlt)
      have HC2 := Lib.hid (HCL.out A[k] (HA.out _ HM.out))
      clear hcs
      generalize A[k] = y at *
      cases hnb : moreB p y with
      | false =>
        rw [hnb] at HC2
        have HA2 : Hid ((A.take (k + 1)).any (moreB p) = false) := by
          unfold Hid
          rw [HT.out, List.any_append, HT0.out]
          simp [hnb]
        clear hnb HT HM HT0
        go_wp2_with (go_at_call 42; refine HC2.out.mono ?_; rintro e w3 ⟨rfl, rfl⟩)
        go_roundw
        case rel => exact ⟨k + 1, by omega, by go_num, HA2, trivial⟩
        case measure => simp [intOf]; omega
      | true =>
        rw [hnb] at HC2
        have HA2 : Hid (A.any (moreB p) = true) := List.any_eq_true.2 ⟨y, HM.out, hnb⟩
        clear hnb HT HM HT0
        go_wp2_with (go_at_call 42; refine HC2.out.mono ?_; rintro e w3 ⟨rfl, rfl⟩)
        go_ret
        exact ⟨⟨_, rfl, by rw [HA2.out]; exact decide_eq_true (by omega)⟩, rfl⟩
    · obtain rfl : k = A.length := by omega
      have HA2 : Hid (A.any (moreB p) = false) := by have := HT0.out; rwa [List.take_length] at this
      clear HT0
      go_wp2
      go_ret
      exact ⟨⟨_, rfl, by rw [HA2.out]; rfl⟩, rfl⟩
theorem containsM_any (v : Value) (A : List Nat) (p P : Nat) (w : World) (hv : Rd w v (u32s A)) (hl : A.length ≤ 65536) (hA : ∀ a ∈ A, a < 4294967296) (hp : p < 4294967296) (hc : w.cell? ⟨P, 0, none⟩ = some (.int .u32 (p : Int))) :
    Calls Try.prog 37 #[v, .func (.func 42) #[] #[.pointer (some ⟨P, 0, none⟩)]] w fun e w' => e = .returned (.bool (A.any (moreB p))) ∧ w' = w := by
  have HI := Lib.hid (indexM_any v A p P w hv hl hA hp hc)
  clear hv hl hc hA hp
  go_enter Try.func37, Try.ntmps37
  go_wp2_with fail
  refine HI.out.mono ?_
  rintro e w1 ⟨⟨z, rfl, hz⟩, rfl⟩
  go_wp2
  all_goals go_ret
  all_goals exact ⟨ret_bool (by rw [← hz]), rfl⟩
theorem more_any {A : List Nat} (hn : A.length ≤ 6) (hA : ∀ a ∈ A, a < 4294967296) : A.any (moreB (2 ^ A.length - 1)) = A.any fun a => decide (2 ^ A.length ≤ a) := by
  rw [Bool.eq_iff_iff, List.any_eq_true, List.any_eq_true]
  refine exists_congr fun a => and_congr_right fun ha => ?_
  have h := more_iff (n := A.length) hn (hA a ha)
  unfold moreB
  simp only [bne_iff_ne, ne_eq, decide_eq_true_eq, h]
  omega
set_option maxRecDepth 100000 in
set_option maxHeartbeats 1000000 in
theorem checkX_any (v : Value) (A : List Nat) (w : World) (hv : Rd w v (u32s A)) (hA : ∀ a ∈ A, a < 4294967296) (hl : A.length ≤ 65536) :
    Calls Try.prog 30 #[v] w fun e w' => e = .returned (.int .i64 ((mayE A : Nat) : Int)) ∧ Below w.heap.size w w' := by
  have HV := Lib.hid hv
  have HA := Lib.hid hA
  obtain ⟨a, c, rfl⟩ := hv.len
  rw [u32s_len] at HV ⊢
  clear hv hA
  have hun : mayE A = if 6 < A.length ∨ (A.any fun x => decide (2 ^ A.length ≤ x)) = true then 1 else if ((List.range A.length).any fun i => (waysS A i).contains i) = true then 8 else 0 := rfl
  by_cases h6 : 6 < A.length
  · rw [if_pos (.inl h6)] at hun
    rw [hun]
    clear hun
    go_enter Try.func30, Try.ntmps30
    go_wp2
    go_ret
    exact ⟨rfl, Below.refl _ _⟩
  · have hn : A.length ≤ 6 := by omega
    have hp := placesOf_any a A.length c (by omega) w
    have h64 := leftA_lt hn []
    have hl0 : leftA A.length [] = 2 ^ A.length - 1 := rfl
    rw [hl0] at h64
    have hMore := more_any hn HA.out
    obtain ⟨l0, hl0'⟩ : ∃ z, 2 ^ A.length - 1 = z := ⟨_, rfl⟩
    rw [hl0'] at hp h64 hMore
    have HB := (Below.refl w.heap.size w).alloc (Nat.le_refl _) (.cells #[.int .u32 (l0 : Int)] 39)
    have HC := Lib.hid (containsM_any (.slice a A.length c) A l0 w.heap.size (w.alloc (.cells #[.int .u32 (l0 : Int)] 39)) (HV.out.below HB (Nat.le_refl _)) hl HA.out (by omega) ((At.new w _ _).cell (i := 0) rfl))
    rw [hMore] at HC
    have HG := Lib.hid (goesBack_any (.slice a A.length c) A (w.alloc (.cells #[.int .u32 (l0 : Int)] 39)) (HV.out.below HB (Nat.le_refl _)) hn HA.out)
    have hfree := free_iff A
    clear hl0 hl0' hMore
    cases hm : A.any fun x => decide (2 ^ A.length ≤ x) with
    | true =>
      rw [hm] at HC
      rw [if_pos (.inr hm)] at hun
      rw [hun]
      clear hun hm HG hfree
      go_enter Try.func30, Try.ntmps30
      go_wp2_with fail
      refine hp.mono ?_
      rintro e w1 ⟨rfl, hw1⟩
      obtain rfl : w = w1 := hw1.symm
      go_wp2_with fail
      refine HC.out.mono ?_
      rintro e w1 ⟨rfl, rfl⟩
      go_wp2
      go_ret
      exact ⟨rfl, HB⟩
    | false =>
      rw [hm] at HC
      rw [if_neg (by rw [hm]; simp; omega)] at hun
      clear hm
      go_enter Try.func30, Try.ntmps30
      go_wp2_with fail
      refine hp.mono ?_
      rintro e w1 ⟨rfl, hw1⟩
      obtain rfl : w = w1 := hw1.symm
      go_wp2_with fail
      refine HC.out.mono ?_
      rintro e w1 ⟨rfl, hw2⟩
      obtain rfl : w.alloc (.cells #[.int .u32 (l0 : Int)] 39) = w1 := hw2.symm
      go_wp2_with fail
      refine HG.out.mono ?_
      rintro e w1 ⟨⟨b, rfl, hb⟩, hw2⟩
      obtain rfl : w.alloc (.cells #[.int .u32 (l0 : Int)] 39) = w1 := hw2.symm
      cases b with
      | true =>
        have hnf : ¬ Free A := fun hf => absurd (hb.2 hf) (by decide)
        have h8 : mayE A = 8 := by
          rw [hun, if_pos]
          cases hc : ((List.range A.length).any fun i => (waysS A i).contains i) with
          | true => rfl
          | false => exact absurd (hfree.1 hc) hnf
        clear hun hfree hb hnf
        go_wp2
        go_ret
        exact ⟨ret_int (by rw [h8]; rfl), HB⟩
      | false =>
        have h8 : mayE A = 0 := by
          rw [hun, if_neg]
          rw [hfree.2 (hb.1 rfl)]
          decide
        clear hun hfree hb
        go_wp2
        go_ret
        exact ⟨ret_int (by rw [h8]; rfl), HB⟩
end Go.Proofs.Ytclhbnfnmpabbaa
