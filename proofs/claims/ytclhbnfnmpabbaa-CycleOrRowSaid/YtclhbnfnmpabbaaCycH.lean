/- The walks of the law's alive and of CycleLeast. -/
import Derived.Test.YtclhbnfnmpabbaaCycD
import Derived.Test.YtclhbnfnmpabbaaCycG
import Derived.Test.YtclhbnfnmpabbaaExtP
import Derived.Test.YtclhbnfnmpabbaaExtQ
import Derived.Deep.DeepMust
namespace Go.Proofs.Ytclhbnfnmpabbaa.RPlain
end Go.Proofs.Ytclhbnfnmpabbaa.RPlain
namespace Go.Proofs.Ytclhbnfnmpabbaa
open Go.RowKit RPlain

theorem least_alive : leastE [2, 1, 4] = 0 ∧ leastR [2, 1, 4] = [2] := by decide
set_option maxRecDepth 100000 in
set_option maxHeartbeats 1000000 in
theorem aliveCy_any (w : World) : Calls Try.prog 9 #[] w fun e w' => e = .returned (.bool true) ∧ Below w.heap.size w w' := by
  have hba : Below w.heap.size w (w.alloc (.cells #[.int .u32 2, .int .u32 1, .int .u32 4] 39)) := (Below.refl _ w).alloc (Nat.le_refl _) _
  have hrd : Rd (w.alloc (.cells #[.int .u32 2, .int .u32 1, .int .u32 4] 39)) (.slice (some ⟨w.heap.size, 0, none⟩) 3 3) (u32s [2, 1, 4]) := Rd.of_at (L := u32s [2, 1, 4]) 3 (At.new w _ _)
  have hall := leastC_any (.slice (some ⟨w.heap.size, 0, none⟩) 3 3) [2, 1, 4] (w.alloc (.cells #[.int .u32 2, .int .u32 1, .int .u32 4] 39)) hrd (by decide) (by decide)
  rw [least_alive.1, least_alive.2] at hall
  have HALL := Lib.hid hall
  have HBA := Lib.hid hba
  clear hall hba hrd
  go_enter Try.func9, Try.ntmps9
  go_wp2_with fail
  refine HALL.out.mono ?_
  rintro e w1 ⟨v, rfl, hv, hb⟩
  have hb1 := HBA.out.trans (hb.mono HBA.out.size)
  have hbn : Below w1.heap.size w1 (w1.alloc (.cells #[.int .i64 2] 3)) := (Below.refl _ w1).alloc (Nat.le_refl _) _
  have hr1 := Rd.of_row hv
  obtain ⟨va, vc, rfl⟩ := row_slice hv
  have hin := intsN_any (.slice va [2].length vc) (.slice (some ⟨w1.heap.size, 0, none⟩) 1 1) [2] (w1.alloc (.cells #[.int .i64 2] 3)) (hr1.below hbn (Nat.le_refl _)) (Rd.of_at (L := nats [2]) 1 (At.new w1 _ _)) (by decide)
  have HIN := Lib.hid hin
  have HBW := Lib.hid (hb1.trans (hbn.mono hb1.size))
  clear hr1 hv hin hbn hb hb1
  go_wp2_with (go_at_call 11; refine HIN.out.mono ?_; rintro e w2 ⟨rfl, hb2⟩; have HB2 := Lib.hid hb2; clear hb2)
  go_ret
  exact ⟨rfl, HBW.out.trans (HB2.out.mono HBW.out.size)⟩
set_option maxRecDepth 100000 in
set_option maxHeartbeats 8000000 in
theorem cycLeast_walk (a b : Option Addr) (n c m d : Nat) (A : List Nat) (row : List Int) (w : World) (hn : n ≤ c) (hm : min (n : Int) 8 = (A.length : Int)) (hle : A.length ≤ n) (h8 : A.length ≤ 8)
    (hn2 : m ≤ d) (hm2 : min (m : Int) 10 = (row.length : Int)) (hle2 : row.length ≤ m) (h10 : row.length ≤ 10) (hv : Rd w (.slice a A.length c) (u32s A)) (hA : ∀ x ∈ A, x < 4294967296) (hr : Rd w (.slice b row.length d) (ints row)) :
    Calls Try.prog 3 #[.slice a n c, .slice b m d] w fun e w' => e = .returned (.bool true) ∧ Below w.heap.size w w' := by
  have HV := Lib.hid hv
  have HA := Lib.hid hA
  have HR := Lib.hid hr
  have HLST := Lib.hid (fun (W : World) (hb : Below w.heap.size w W) => leastC_any _ A W (HV.out.below hb (Nat.le_refl _)) HA.out (by omega))
  have HWLK := Lib.hid (fun (W : World) (hb : Below w.heap.size w W) => walkC_any _ _ A row W (HV.out.below hb (Nat.le_refl _)) HA.out (by omega) (HR.out.below hb (Nat.le_refl _)) (by omega))
  have HMAY := Lib.hid (fun (W : World) (hb : Below w.heap.size w W) => refMayC_any _ A W (HV.out.below hb (Nat.le_refl _)) HA.out (by omega))
  have HALV := Lib.hid (fun (W : World) => aliveCy_any W)
  have hnc : (A.length : Int) ≤ (c : Int) := by omega
  have hnd : (row.length : Int) ≤ (d : Int) := by omega
  clear hv hA hr
  have HB0 := Lib.hid (belowDr11 w)
  go_enter Try.func3, Try.ntmps3
  go_wp2_with fail
  go_region
  generalize w.drew = w1 at *
  clear hm hm2
  go_wp2_with fail
  refine (HLST.out w1 HB0.out).mono ?_
  rintro e w2 ⟨v2, rfl, hv2, hb2⟩
  have HB2 := Lib.hid (HB0.out.trans (hb2.mono HB0.out.size))
  have HV2 := Lib.hid hv2
  obtain ⟨v2a, v2c, rfl⟩ := row_slice hv2
  clear hb2 hv2 HLST
  go_wp2_with fail
  refine (HWLK.out w2 HB2.out).mono ?_
  rintro e w3 ⟨rfl, hb3⟩
  have HB3 := Lib.hid (HB2.out.trans (hb3.mono HB2.out.size))
  have HV3 := Lib.hid ((Rd.of_row HV2.out).below hb3 (Nat.le_refl _))
  clear hb3 HV2 HWLK
  go_wp2_with fail
  refine (HMAY.out w3 HB3.out).mono ?_
  rintro e w4 ⟨rfl, hw4⟩
  rw [hw4]
  clear hw4 HMAY
  have hWR : walkR A row = if walkE A row = 0 then walkB A (row.map Int.toNat) else false := rfl
  have hWE : walkE A row = if mayCy A = true then (if row.any (noneC A.length) = true then 7 else 0) else 1 := rfl
  have hLE : leastE A = if mayCy A = true then (if leastS A = [] then 7 else 0) else 1 := rfl
  have hLR : leastR A = if mayCy A = true then leastS A else [] := rfl
  cases hmy : mayCy A with
  | false =>
    rw [hmy, if_neg (by decide)] at hWE hLE hLR
    rw [hWE, if_neg (by decide)] at hWR
    rw [hWE, hLE, hLR, hWR]
    clear hWR hWE hLE hLR hmy HV3
    rw [List.length_nil]
    go_wp2_with (go_at_call 9; refine (HALV.out w3).mono ?_; rintro e w5 ⟨rfl, hb5⟩; have HB5 := Lib.hid (HB3.out.trans (hb5.mono HB3.out.size)); clear hb5)
    go_ret
    exact ⟨rfl, HB5.out⟩
  | true =>
    have hal : A.length ≤ 6 := by
      unfold mayCy at hmy
      rw [Bool.and_eq_true, decide_eq_true_eq] at hmy
      exact hmy.1
    rw [hmy, if_pos rfl] at hWE hLE hLR
    have HREF := Lib.hid (refLeastC_any _ A w3 (HV.out.below HB3.out (Nat.le_refl _)) HA.out hal)
    rw [hLE, hLR]
    rw [hLR] at HV3
    have HWR := Lib.hid hWR
    have HWE := Lib.hid hWE
    have hl6 : (leastS A).length ≤ 6 := by
      rcases least_tells A with ⟨h, _⟩ | ⟨h, _⟩
      · rw [h]; simp
      · have := cyc_len h
        omega
    clear hWR hWE hLE hLR hmy
    have HZ : Hid (leastS A = [] ↔ (leastS A).length = 0) := List.length_eq_zero_iff.symm
    obtain ⟨er, her⟩ : ∃ er : Nat, (if leastS A = [] then 7 else 0) = er := ⟨_, rfl⟩
    have her2 : (er = 7 ∧ (leastS A).length = 0) ∨ (er = 0 ∧ 0 < (leastS A).length) := by
      by_cases h : leastS A = []
      · rw [if_pos h] at her
        exact .inl ⟨her.symm, HZ.out.1 h⟩
      · rw [if_neg h] at her
        refine .inr ⟨her.symm, ?_⟩
        have : ¬ (leastS A).length = 0 := fun h2 => h (HZ.out.2 h2)
        omega
    rw [her]
    obtain ⟨f, hf⟩ : ∃ f, walkE A row = f := ⟨_, rfl⟩
    obtain ⟨R, hR⟩ : ∃ R, walkR A row = R := ⟨_, rfl⟩
    rw [hf, hR]
    have HF := Lib.hid hf
    have HRR := Lib.hid hR
    clear her hf hR
    go_wp2_with fail
    refine HREF.out.mono ?_
    rintro e w5 ⟨v5, rfl, hv5, hb5⟩
    have HB5 := Lib.hid (HB3.out.trans (hb5.mono HB3.out.size))
    have HIN := Lib.hid (intsN_any _ _ (leastS A) w5 (HV3.out.below hb5 (Nat.le_refl _)) (Rd.of_row hv5) (by omega))
    obtain ⟨v5a, v5c, rfl⟩ := row_slice hv5
    clear hb5 hv5 HV3 HREF HZ hl6
    generalize (leastS A).length = ln at *
    have HBAD : Hid (row.any (noneC A.length) = true → f = 7 ∧ R = false) := fun h => by
      have h1 : f = 7 := by rw [← HF.out, HWE.out, if_pos h]
      exact ⟨h1, by rw [← HRR.out, HWR.out, HF.out, h1]; rfl⟩
    have HGOOD : Hid (row.any (noneC A.length) = false → f = 0 ∧ R = walkB A (row.map Int.toNat)) := fun h => by
      have h1 : f = 0 := by rw [← HF.out, HWE.out, if_neg (by rw [h]; decide)]
      exact ⟨h1, by rw [← HRR.out, HWR.out, HF.out, h1]; rfl⟩
    clear HF HRR HWR HWE
    rcases her2 with ⟨rfl, rfl⟩ | ⟨rfl, hlp⟩
    all_goals
      try (have hl0 : ((ln : Int) == 0) = false := by rw [beq_eq_false_iff_ne]; omega)
      go_wp2_with (first
        | (go_at_call 11; refine HIN.out.mono ?_; rintro e w6 ⟨rfl, hb6⟩; have HB6 := Lib.hid (HB5.out.trans (hb6.mono HB5.out.size)); clear hb6)
        | (go_at_call 9; refine (HALV.out _).mono ?_; rintro e w7 ⟨rfl, hb7⟩; have HB7 := Lib.hid (HB6.out.trans (hb7.mono HB6.out.size)); clear hb7))
      clear HIN HB5 HB6 HALV
      obtain ⟨w9, hw9⟩ : ∃ w9 : World, w9 = w7 := ⟨w7, rfl⟩
      subst hw9
      go_loopw [82] (fun x wr => ∃ k : Nat, k ≤ row.length ∧ x = .int .i64 k ∧ Hid ((row.take k).any (noneC A.length) = false) ∧ wr = w9) (fun x _ => row.length - (intOf x).toNat)
      case atStart => exact ⟨0, by omega, rfl, rfl, rfl⟩
      case round =>
        obtain ⟨k, hk, rfl, HT, hwr⟩ := hrel
        obtain rfl : w9 = wr := hwr.symm
        by_cases hlt : k < row.length
        · obtain ⟨rb, ro, rc', he, hbl, hcs⟩ := (HR.out.below HB7.out (Nat.le_refl _)).opened (by rw [ints_len]; omega)
          simp only [Value.slice.injEq] at he
          obtain ⟨rfl, -, rfl⟩ := he
          have hck := hcs k (.int .i64 row[k]) (by unfold ints; rw [List.getElem?_map, List.getElem?_eq_getElem hlt]; rfl)
          have HTK : Hid (row.take (k + 1) = row.take k ++ [row[k]]) := List.take_succ_eq_append_getElem hlt
          have HM : Hid (row[k] ∈ row) := List.getElem_mem hlt
          clear hcs hbl
          obtain ⟨y, hy⟩ : ∃ y, row[k] = y := ⟨_, rfl⟩
          rw [hy] at hck HTK HM
          clear hy
          by_cases hn0 : y < 0
          · obtain ⟨rfl, rfl⟩ := HBAD.out (List.any_eq_true.2 ⟨y, HM.out, by unfold noneC; simp [hn0]⟩)
            clear HTK HM HT HGOOD HBAD
            go_wp2
            go_ret
            exact ⟨rfl, HB7.out⟩
          · by_cases hn1 : (A.length : Int) ≤ y
            · obtain ⟨rfl, rfl⟩ := HBAD.out (List.any_eq_true.2 ⟨y, HM.out, by unfold noneC; simp [hn1]⟩)
              clear HTK HM HT HGOOD HBAD
              go_wp2
              go_ret
              exact ⟨rfl, HB7.out⟩
            · have HT2 : Hid ((row.take (k + 1)).any (noneC A.length) = false) := by
                unfold Hid
                rw [HTK.out, List.any_append, HT.out]
                simp [noneC, hn0, hn1]
              clear HTK HM HT
              go_wp2
              go_roundw
              case rel => exact ⟨k + 1, by omega, by go_num, HT2, trivial⟩
              case measure => simp [intOf]; omega
        · obtain rfl : k = row.length := by omega
          have hno : row.any (noneC A.length) = false := by have := HT.out; rwa [List.take_length] at this
          obtain ⟨rn, hrn, hrn2, hrl⟩ := none_nats hno
          obtain ⟨hf0, hRw⟩ := HGOOD.out hno
          have hrr : Rd w9 (.slice b row.length d) (nats rn) := by rw [nats_ints, ← hrn]; exact HR.out.below HB7.out (Nat.le_refl _)
          have hrnl : rn.length = row.length := by rw [hrn, List.length_map]
          have HWK := Lib.hid (refWalkC_any (.slice a A.length c) (.slice b row.length d) A rn w9 (HV.out.below HB7.out (Nat.le_refl _)) HA.out hrr (by omega) hrl (by omega) (fun a' m' c' he => by
            simp only [Value.slice.injEq] at he
            obtain ⟨-, rfl, rfl⟩ := he
            omega))
          rw [← hrn2, ← hRw] at HWK
          subst hf0
          clear hno hrn hrn2 hrl hRw hrr hrnl HT HBAD HGOOD
          go_wp2_with (go_at_call 12; refine HWK.out.mono ?_; rintro e w8 ⟨rfl, hw8⟩; rw [hw8]; clear hw8)
          go_ret
          exact ⟨rfl, HB7.out⟩
theorem cycLeast_any (a : Option Addr) (n c : Nat) (b : Option Addr) (m d : Nat) (A : List Nat) (row : List Int) (w : World) (hn : n ≤ c) (hn2 : m ≤ d) (hv : Rd w (.slice a (min (n : Int) 8).toNat c) (u32s A)) (hA : ∀ x ∈ A, x < 4294967296) (hr : Rd w (.slice b (min (m : Int) 10).toNat d) (ints row)) :
    Calls Try.prog 3 #[.slice a n c, .slice b m d] w fun e w' => e = .returned (.bool true) ∧ Below w.heap.size w w' := by
  obtain ⟨k, hk⟩ : ∃ k : Nat, min (n : Int) 8 = (k : Int) := ⟨(min (n : Int) 8).toNat, by omega⟩
  rw [hk, Int.toNat_natCast] at hv
  obtain rfl : k = A.length := by
    obtain ⟨_, _, he⟩ := hv.len
    simp only [Value.slice.injEq, u32s_len] at he
    exact he.2.1
  obtain ⟨j, hj⟩ : ∃ j : Nat, min (m : Int) 10 = (j : Int) := ⟨(min (m : Int) 10).toNat, by omega⟩
  rw [hj, Int.toNat_natCast] at hr
  obtain rfl : j = row.length := by
    obtain ⟨_, _, he⟩ := hr.len
    simp only [Value.slice.injEq, ints_len] at he
    exact he.2.1
  exact cycLeast_walk a b n c m d A row w hn hk (by omega) (by omega) hn2 hj (by omega) (by omega) hv hA hr
end Go.Proofs.Ytclhbnfnmpabbaa
