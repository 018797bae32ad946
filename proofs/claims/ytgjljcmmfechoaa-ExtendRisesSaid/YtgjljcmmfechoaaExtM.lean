/- The walk of the reference's May. -/
import Derived.Test.YtgjljcmmfechoaaExtL
namespace Go.Proofs.Ytgjljcmmfechoaa.RPlain
end Go.Proofs.Ytgjljcmmfechoaa.RPlain
namespace Go.Proofs.Ytgjljcmmfechoaa
open Go.RowKit RPlain

theorem any_take {α : Type} {p : α → Bool} {l : List α} {k : Nat} (h : k < l.length) : (l.take (k + 1)).any p = ((l.take k).any p || p l[k]) := by
  rw [List.take_succ_eq_append_getElem h, List.any_append]
  simp
theorem any_range (p : Nat → Bool) (k : Nat) : (List.range (k + 1)).any p = ((List.range k).any p || p k) := by
  rw [List.range_succ, List.any_append]
  simp
set_option maxRecDepth 100000 in
set_option maxHeartbeats 2000000 in
theorem refMayX_any (av : Value) (A : List Nat) (w : World) (hav : Rd w av (u32s A)) (hA : ∀ x ∈ A, x < 4294967296) (hl : A.length ≤ 65536) :
    Calls Try.prog 8 #[av] w fun e w' => e = .returned (.int .i64 ((mayE A : Nat) : Int)) ∧ Below w.heap.size w w' := by
  have HAV := Lib.hid hav
  have HA := Lib.hid hA
  obtain ⟨aa, ac, rfl⟩ := hav.len
  rw [u32s_len] at HAV ⊢
  clear hav hA
  have hun : mayE A = if 6 < A.length ∨ (A.any fun x => decide (2 ^ A.length ≤ x)) = true then 1 else if ((List.range A.length).any fun i => (waysS A i).contains i) = true then 8 else 0 := rfl
  by_cases h6 : 6 < A.length
  · rw [if_pos (.inl h6)] at hun
    rw [hun]
    clear hun
    go_enter Try.func8, Try.ntmps8
    go_wp2
    go_ret
    exact ⟨rfl, Below.refl _ _⟩
  · have h6' : A.length ≤ 6 := by omega
    have HW := Lib.hid (fun (i : Nat) (hi : i < A.length) (W : World) (hb : Below w.heap.size w W) => refWays_any (.slice aa A.length ac) A i W (HAV.out.below hb (Nat.le_refl _)) HA.out h6' hi)
    have HWL : Hid (∀ i, i < A.length → (waysS A i).length ≤ A.length) := fun i hi => way_len (way_G hi (A.length - 1))
    have HM1 : Hid ((A.any fun x => decide (2 ^ A.length ≤ x)) = true → mayE A = 1) := fun h => by rw [hun, if_pos (.inr h)]
    have HM8 : Hid ((A.any fun x => decide (2 ^ A.length ≤ x)) = false → ((List.range A.length).any fun i => (waysS A i).contains i) = true → mayE A = 8) := fun h h' => by rw [hun, if_neg (by rw [h]; simp; omega), if_pos h']
    have HM0 : Hid ((A.any fun x => decide (2 ^ A.length ≤ x)) = false → ((List.range A.length).any fun i => (waysS A i).contains i) = false → mayE A = 0) := fun h h' => by rw [hun, if_neg (by rw [h]; simp; omega), if_neg (by rw [h']; decide)]
    obtain ⟨m, hm⟩ : ∃ m, mayE A = m := ⟨_, rfl⟩
    rw [hm] at HM1 HM8 HM0 ⊢
    have HB0 := Lib.hid (Below.refl w.heap.size w)
    clear hun hm
    go_enter Try.func8, Try.ntmps8
    go_wp2_with fail
    go_loopw [11] (fun x wr => ∃ k : Nat, k ≤ A.length ∧ x = .int .i64 k ∧ Hid ((A.take k).any (fun x => decide (2 ^ A.length ≤ x)) = false) ∧ wr = w) (fun x _ => A.length - (intOf x).toNat)
    case atStart => exact ⟨0, by omega, rfl, rfl, rfl⟩
    case round =>
      obtain ⟨k, hk, rfl, HT, hwr⟩ := hrel
      obtain rfl : w = wr := hwr.symm
      by_cases hlt : k < A.length
      · obtain ⟨b, o, c', he, hb, hc⟩ := HAV.out.opened (by rw [u32s_len]; omega)
        simp only [Value.slice.injEq] at he
        obtain ⟨rfl, -, rfl⟩ := he
        have hck := hc k _ (u32s_get hlt)
        have hak := HA.out _ (List.getElem_mem hlt)
        have HAT := Lib.hid (any_take (p := fun x => decide (2 ^ A.length ≤ x)) hlt)
        have HIN : Hid (decide (2 ^ A.length ≤ A[k]) = true → (A.any fun x => decide (2 ^ A.length ≤ x)) = true) := fun h => List.any_eq_true.2 ⟨_, List.getElem_mem hlt, h⟩
        clear hc hb
        generalize A[k] = y at *
        go_wp2_with fail
        go_loopw [4, 17] (fun z x wr2 => ∃ j : Nat, j ≤ A.length ∧ x = .int .i64 j ∧ (∃ p : Nat, z = .int .u32 p ∧ p < 4294967296 ∧ Hid (p = y / 2 ^ j)) ∧ wr2 = w) (fun _ x _ => A.length - (intOf x).toNat)
        case atStart => exact ⟨0, by omega, rfl, ⟨y, rfl, hak, by unfold Hid; rw [Nat.pow_zero, Nat.div_one]⟩, rfl⟩
        case round =>
          obtain ⟨j, hj, rfl, ⟨p, rfl, hp, HP⟩, hwr⟩ := hrel
          obtain rfl : w = wr := hwr.symm
          by_cases hlt2 : j < A.length
          · have HP2 : Hid (p / 2 = y / 2 ^ (j + 1)) := by unfold Hid; rw [HP.out, Nat.div_div_eq_div_mul, Nat.pow_succ]
            clear HP
            go_wp2
            go_roundw
            case rel => exact ⟨j + 1, by omega, by go_num, ⟨p / 2, by go_num, by omega, HP2⟩, trivial⟩
            case measure => simp [intOf]; omega
          · obtain rfl : j = A.length := by omega
            have HPD : Hid (0 < p ↔ 2 ^ A.length ≤ y) := by
              unfold Hid
              rw [HP.out]
              exact ⟨fun h => by
                have := Nat.div_mul_le_self y (2 ^ A.length)
                have h2 : 1 * 2 ^ A.length ≤ y / 2 ^ A.length * 2 ^ A.length := Nat.mul_le_mul_right _ h
                omega, fun h => Nat.div_pos h (Nat.two_pow_pos _)⟩
            by_cases hp0 : 0 < p
            · have HF := Lib.hid (HM1.out (HIN.out (decide_eq_true (HPD.out.1 hp0))))
              clear HP HPD
              go_wp2
              go_ret
              exact ⟨ret_int (by rw [HF.out]; rfl), HB0.out⟩
            · have HF : Hid ((A.take (k + 1)).any (fun x => decide (2 ^ A.length ≤ x)) = false) := by
                unfold Hid
                rw [HAT.out, HT.out, decide_eq_false (fun h => hp0 (HPD.out.2 h))]
                rfl
              clear HP HPD
              go_wp2
              go_roundw
              case rel => exact ⟨k + 1, by omega, by go_num, HF, trivial⟩
              case measure => simp [intOf]; omega
      · obtain rfl : k = A.length := by omega
        have HNO : Hid ((A.any fun x => decide (2 ^ A.length ≤ x)) = false) := by have := HT.out; rwa [List.take_length] at this
        clear HT
        go_wp2_with fail
        go_loopw [27] (fun x wr => ∃ k : Nat, k ≤ A.length ∧ x = .int .i64 k ∧ Hid ((List.range k).any (fun i => (waysS A i).contains i) = false) ∧ Hid (Below w.heap.size w wr)) (fun x _ => A.length - (intOf x).toNat)
        case atStart => exact ⟨0, by omega, rfl, rfl, HB0⟩
        case round =>
          clear HB0
          obtain ⟨i, hi, rfl, HT, HB⟩ := hrel
          by_cases hlt : i < A.length
          · have HWI := Lib.hid (HW.out i hlt wr HB.out)
            have HAR := Lib.hid (any_range (fun i => (waysS A i).contains i) i)
            have HIN : Hid ((waysS A i).contains i = true → ((List.range A.length).any fun i => (waysS A i).contains i) = true) := fun h => List.any_eq_true.2 ⟨i, List.mem_range.2 hlt, h⟩
            have hwl := HWL.out i hlt
            clear HW HWL
            go_wp2_with fail
            refine HWI.out.mono ?_
            rintro e w2 ⟨v, rfl, hv, hb2⟩
            have HV := Lib.hid hv
            have HB2 := Lib.hid (HB.out.trans (hb2.mono HB.out.size))
            have HHS := Lib.hid (hasN_any v (waysS A i) i w2 hv (by omega))
            obtain ⟨va, vc, rfl⟩ := hv.len
            clear hv hb2
            cases hct : (waysS A i).contains i with
            | true =>
              have HF := Lib.hid (HM8.out HNO.out (HIN.out hct))
              rw [hct] at HHS
              clear hct
              go_wp2_with (go_at_call 17; refine HHS.out.mono ?_; rintro e w5 ⟨rfl, rfl⟩)
              go_ret
              exact ⟨ret_int (by rw [HF.out]; rfl), HB2.out⟩
            | false =>
              have HF : Hid ((List.range (i + 1)).any (fun i => (waysS A i).contains i) = false) := by
                unfold Hid
                rw [HAR.out, HT.out, hct]
                rfl
              rw [hct] at HHS
              clear hct
              go_wp2_with (go_at_call 17; refine HHS.out.mono ?_; rintro e w5 ⟨rfl, rfl⟩)
              go_roundw
              case rel => exact ⟨i + 1, by omega, by go_num, HF, HB2⟩
              case measure => simp [intOf]; omega
          · obtain rfl : i = A.length := by omega
            have HF := Lib.hid (HM0.out HNO.out HT.out)
            go_wp2
            go_ret
            exact ⟨ret_int (by rw [HF.out]; rfl), HB.out⟩
end Go.Proofs.Ytgjljcmmfechoaa
