/- The walk of package varint's Get. -/
import Derived.Test.YtgdijlmfpboecaaDoorVarF
import Derived.Laws.ShiftsVarLaws
namespace Go.Proofs.YtgdijlmfpboecaaDoor.VPlain
end Go.Proofs.YtgdijlmfpboecaaDoor.VPlain
namespace Go.Proofs.YtgdijlmfpboecaaDoor
open Go.RowKit VPlain

/-- a result from place k on, with what came ahead of it -/
def comb (acc k : Nat) (q : Nat × Nat × Nat) : Nat × Nat × Nat := if q.2.2 = 0 then (acc + 128 ^ k * q.1, k + q.2.1, 0) else (0, k + q.2.1, q.2.2)
theorem comb_zero (l : List Nat) : comb 0 0 (getL 0 l) = getL 0 l := by
  unfold comb
  split
  · rename_i h
    refine Prod.ext ?_ (Prod.ext ?_ h.symm)
    · show 0 + 128 ^ 0 * _ = _
      simp
    · show 0 + _ = _
      simp
  · rename_i h
    refine Prod.ext (getL_bad l 0 h).symm (Prod.ext ?_ rfl)
    show 0 + _ = _
    simp
theorem comb_more (acc k c : Nat) (t : List Nat) (hk : k ≠ 9) (hc : 128 ≤ c) : comb acc k (getL k (c :: t)) = comb (acc + c % 128 * 128 ^ k) (k + 1) (getL (k + 1) t) := by
  rw [getL_more t hk hc]
  unfold comb
  by_cases he : (getL (k + 1) t).2.2 = 0
  · simp only [he, if_true]
    refine Prod.ext ?_ (Prod.ext ?_ rfl)
    · show acc + 128 ^ k * (c % 128 + 128 * _) = acc + c % 128 * 128 ^ k + 128 ^ (k + 1) * _
      rw [Nat.pow_succ, Nat.mul_add, Nat.mul_comm (128 ^ k) (c % 128), Nat.mul_assoc, Nat.add_assoc]
    · show k + (_ + 1) = k + 1 + _
      omega
  · simp only [he, if_false]
    refine Prod.ext rfl (Prod.ext ?_ rfl)
    show k + (_ + 1) = k + 1 + _
    omega
theorem comb_last (acc k c : Nat) (t : List Nat) (h : k = 9 → c ≤ 1) (h2 : 0 < k → c ≠ 0) (hc : c < 128) : comb acc k (getL k (c :: t)) = (acc + c % 128 * 128 ^ k, k + 1, 0) := by
  rw [getL_last t h h2 hc]
  unfold comb
  simp [Nat.mod_eq_of_lt hc, Nat.mul_comm]
theorem comb_flt (acc k c : Nat) (t : List Nat) (h : flt c k ≠ 0) : comb acc k (getL k (c :: t)) = (0, k, flt c k) := by
  unfold flt at h ⊢
  by_cases h9 : k = 9 ∧ 1 < c
  · rw [if_pos h9, getL_over t h9.1 h9.2]; rfl
  · rw [if_neg h9] at h ⊢
    by_cases h0 : 0 < k ∧ c = 0
    · rw [if_pos h0, getL_syn t h0.1 h0.2]; rfl
    · rw [if_neg h0] at h; exact absurd rfl h
theorem flt_zero {c k : Nat} (h : flt c k = 0) : (k = 9 → c ≤ 1) ∧ (0 < k → c ≠ 0) := by
  unfold flt at h
  by_cases h9 : k = 9 ∧ 1 < c
  · rw [if_pos h9] at h; cases h
  · rw [if_neg h9] at h
    by_cases h0 : 0 < k ∧ c = 0
    · rw [if_pos h0] at h; cases h
    · exact ⟨fun hk => by omega, fun hk hc => h0 ⟨hk, hc⟩⟩
theorem comb_end (acc k : Nat) : comb acc k (getL k []) = (0, k, 4) := rfl

theorem pow7 (k : Nat) : 128 ^ k = 2 ^ (7 * k) := by rw [show (128 : Nat) = 2 ^ 7 from rfl, ← Nat.pow_mul]
theorem acc_step {acc c k : Nat} (hk : k ≤ 9) (ha : acc < 128 ^ k) (h9 : k = 9 → c ≤ 1) (hc : c < 256) : acc ||| (c % 128 * 2 ^ (7 * k)) = acc + c % 128 * 128 ^ k ∧ acc + c % 128 * 128 ^ k < 128 ^ (k + 1) ∧ c % 128 * 2 ^ (7 * k) < 18446744073709551616 := by
  have hp := pow7 k
  have h0 : 0 < 128 ^ k := Nat.pow_pos (by decide)
  refine ⟨?_, ?_, ?_⟩
  · rw [hp] at ha ⊢
    rw [Nat.or_comm, Nat.mul_comm, ← Nat.two_pow_add_eq_or_of_lt ha, Nat.add_comm]
  · rw [Nat.pow_succ]
    have : c % 128 * 128 ^ k ≤ 127 * 128 ^ k := Nat.mul_le_mul (by omega) (Nat.le_refl _)
    omega
  · rw [← hp]
    by_cases h : k = 9
    · subst h
      have := h9 rfl
      have h1 : c % 128 ≤ 1 := by omega
      have := Nat.mul_le_mul h1 (Nat.le_refl (128 ^ 9))
      have e : (128 : Nat) ^ 9 = 9223372036854775808 := by decide
      omega
    · have h1 : 128 ^ k ≤ 128 ^ 8 := Nat.pow_le_pow_right (by decide) (by omega)
      have e : (128 : Nat) ^ 8 = 72057594037927936 := by decide
      have := Nat.mul_le_mul (show c % 128 ≤ 127 by omega) h1
      omega

theorem get_end (a : Option Addr) (n c : Nat) (hnc : n ≤ c) (_ : (c : Int) ≤ 9223372036854775807) (w : World) :
    Calls Tryd.prog 26 #[.slice a n c, .int .i64 n] w fun e w' => e = .returned (.tuple #[.int .u64 0, .int .i64 n, .int .i64 4]) ∧ w = w' := by
  have h0 : ¬ (n : Int) < 0 := by omega
  by_cases hcn : c = n
  · subst hcn
    go_enter Tryd.func26, Tryd.ntmps26
    go_wp2_with fail
    refine wp_loop_rounds 1 ?_
    rw [rounds_succ]
    go_wp2
    go_ret3
    exact ⟨rfl, rfl⟩
  · have h2 : ¬ c ≤ n := by omega
    cases a with
    | none =>
      go_enter Tryd.func26, Tryd.ntmps26
      go_wp2_with fail
      all_goals refine wp_loop_rounds 1 ?_
      all_goals rw [rounds_succ]
      all_goals go_wp2
      all_goals go_ret3
      all_goals exact ⟨rfl, rfl⟩
    | some q =>
      go_enter Tryd.func26, Tryd.ntmps26
      go_wp2_with fail
      all_goals refine wp_loop_rounds 1 ?_
      all_goals rw [rounds_succ]
      all_goals go_wp2
      all_goals go_ret3
      all_goals exact ⟨rfl, rfl⟩
theorem and_low (c : Nat) (h : c < 256) : bits .and .u8 (c : Int) 127 = ((c % 128 : Nat) : Int) := by
  have h1 := u8_and_nat c 127 h (by decide)
  rw [show (127 : Nat) = 2 ^ 7 - 1 from rfl, Nat.and_two_pow_sub_one_eq_mod] at h1
  exact h1
theorem and_more (c : Nat) (h : c < 256) : bits .and .u8 (c : Int) 128 = if c < 128 then 0 else 128 := by
  have h1 := u8_and_nat c 128 h (by decide)
  have h2 : c &&& 128 = if c < 128 then 0 else 128 := by
    have all : ∀ j : Fin 256, j.val &&& 128 = if j.val < 128 then 0 else 128 := by decide +kernel
    exact all ⟨c, h⟩
  rw [h2] at h1
  rw [show (128 : Int) = ((128 : Nat) : Int) from rfl, h1]
  split <;> rfl
set_option maxHeartbeats 1000000 in
theorem get_in (b o c : Nat) (l : List Nat) (i : Nat) (hi : i < l.length) (hlc : l.length ≤ c) (hcb : (c : Int) ≤ 9223372036854775807) (hb : ∀ x ∈ l, x < 256) (w : World)
    (hv : ∀ j u, (bs l)[j]? = some u → w.cell? ⟨b, o + j, none⟩ = some u) (y j e : Nat) (hg : getL 0 (l.drop i) = (y, j, e)) :
    Calls Tryd.prog 26 #[.slice (some ⟨b, o, none⟩) l.length c, .int .i64 i] w fun en w' => en = .returned (.tuple #[.int .u64 y, .int .i64 (i + j : Nat), .int .i64 e]) ∧ w = w' := by
  have h0 : ¬ (i : Int) < 0 := by omega
  have h1 : ¬ (l.length : Int) < (i : Int) := by omega
  have HV := Lib.hid hv
  have HB := Lib.hid hb
  have HG := Lib.hid hg
  clear hv hb hg
  go_enter Tryd.func26, Tryd.ntmps26
  go_wp2_with fail
  go_loopw [7, 23] (fun x v wr => ∃ k acc : Nat, k ≤ 9 ∧ i + k ≤ l.length ∧ v = .int .i64 k ∧ x = .int .u64 acc ∧ Hid (acc < 128 ^ k) ∧ Hid (comb acc k (getL k (l.drop (i + k))) = (y, j, e)) ∧ wr = w) (fun x v _ => l.length - (intOf v).toNat)
  case atStart => exact ⟨0, 0, by omega, by omega, rfl, rfl, Nat.one_pos, by unfold Hid; rw [Nat.add_zero, comb_zero]; exact HG.out, rfl⟩
  case round =>
    obtain ⟨k, acc, hk9, hik, rfl, rfl, HA, HC, rfl⟩ := hrel
    clear HG
    by_cases hlt : i + k < l.length
    · have hcell := HV.out (i + k) _ (bs_at hlt)
      rw [← Nat.add_assoc] at hcell
      have hcr := HB.out l[i + k] (List.getElem_mem _)
      have hdr : l.drop (i + k) = l[i + k] :: l.drop (i + k + 1) := List.drop_eq_getElem_cons hlt
      rw [hdr] at HC
      clear hdr
      generalize l[i + k] = ch at *
      have hklt : k < l.length - i := by omega
      obtain ⟨f, hf⟩ : ∃ f, f = flt ch k := ⟨_, rfl⟩
      have HF := Lib.hid (fault_any ch k hcr)
      by_cases hf0 : f = 0
      · subst hf0
        have hfz := hf.symm
        obtain ⟨f9, fz⟩ := flt_zero hfz
        obtain ⟨a1, a2, a3⟩ := acc_step hk9 HA.out f9 hcr
        have HM := Lib.hid hfz
        obtain ⟨acc2, hacc2⟩ : ∃ acc2, acc2 = acc + ch % 128 * 128 ^ k := ⟨_, rfl⟩
        have H2 : Hid (acc2 < 128 ^ (k + 1)) := by unfold Hid; rw [hacc2]; exact a2
        obtain ⟨M, hM⟩ : ∃ M, M = ch % 128 * 2 ^ (7 * k) := ⟨_, rfl⟩
        have hacc64 : acc < 18446744073709551616 := by
          have h3 : 128 ^ k ≤ 128 ^ 9 := Nat.pow_le_pow_right (by decide) hk9
          have e3 : (128 : Nat) ^ 9 = 9223372036854775808 := by decide
          have h4 := HA.out
          omega
        have hor : bits .or .u64 (acc : Int) (M : Int) = (acc2 : Int) := by
          rw [u64_or_nat acc M hacc64 (by rw [hM]; exact a3), hM, a1, hacc2]
        have hand := and_low ch hcr
        have hsh : IntKind.u64.wrap ((ch : Int) % 128 * 2 ^ (7 * k)) = (M : Int) := by
          have q0 : (ch : Int) % 128 * 2 ^ (7 * k) = (M : Int) := by rw [hM]; simp
          have q1 : IntKind.u64.wrap (M : Int) = (M : Int) % 18446744073709551616 := by simp [IntKind.wrap, IntKind.bits, IntKind.signed]
          have q2 : M < 18446744073709551616 := by rw [hM]; exact a3
          rw [q0, q1]
          omega
        have hbit := and_more ch hcr
        by_cases hc : ch < 128
        · rw [if_pos hc] at hbit
          have HE := HC.out.symm.trans (comb_last acc k ch (l.drop (i + k + 1)) f9 fz hc)
          rw [← hacc2] at HE
          simp only [Prod.mk.injEq] at HE
          obtain ⟨ey, ej, ee⟩ := HE
          have HEY := Lib.hid ey
          have HEJ := Lib.hid ej
          have HEE := Lib.hid ee
          clear HC HA H2 a1 a2 a3 ey ej ee f9 fz hf hfz
          go_wp2_with fail
          refine (HF.out _).mono ?_
          rintro en w1 ⟨rfl, rfl⟩
          rw [HM.out]
          clear hM hacc2
          go_wp2_with fail
          go_ret3
          refine ⟨?_, rfl⟩
          have q1 : ((i + (k + 1) : Nat) : Int) = (i : Int) + (k : Int) + 1 := by omega
          rw [HEY.out, HEJ.out, HEE.out, q1]
          first | rfl | (rw [hsh, hor]; rfl) | (rw [hor]; rfl)
        · rw [if_neg hc] at hbit
          have hk8 : k ≠ 9 := by intro h; have := f9 h; omega
          have HC2 : Hid (comb acc2 (k + 1) (getL (k + 1) (l.drop (i + k + 1))) = (y, j, e)) := by
            unfold Hid; rw [hacc2, ← comb_more acc k ch _ hk8 (by omega)]; exact HC.out
          clear HC HA a1 a2 a3 f9 fz hf hfz
          go_wp2_with fail
          refine (HF.out _).mono ?_
          rintro en w1 ⟨rfl, rfl⟩
          rw [HM.out]
          clear hM hacc2
          go_wp2
          go_roundw
          case rel => exact ⟨k + 1, acc2, by omega, by omega, by go_num, by first | rfl | (rw [hsh, hor]) | (rw [hor]), H2, HC2, by first | rfl | trivial⟩
          case measure => simp [intOf]; omega
      · have HE := HC.out.symm.trans (comb_flt acc k ch (l.drop (i + k + 1)) (hf ▸ hf0))
        simp only [Prod.mk.injEq] at HE
        obtain ⟨rfl, rfl, he⟩ := HE
        rw [← hf] at he
        subst he
        have hne : ((e : Int) != 0) = true := by simp; omega
        have HFE := Lib.hid hf
        clear hf HC HA
        go_wp2_with fail
        refine (HF.out _).mono ?_
        rintro en w1 ⟨rfl, rfl⟩
        rw [← HFE.out]
        go_wp2
        go_ret3
        exact ⟨by go_num, rfl⟩
    · have hkl : i + k = l.length := by omega
      have hk2 : l.length - i = k := by omega
      have HE := HC.out
      rw [hkl, List.drop_length, comb_end] at HE
      simp only [Prod.mk.injEq] at HE
      obtain ⟨rfl, rfl, rfl⟩ := HE
      clear HC HA
      go_wp2
      go_ret3
      exact ⟨by go_num, rfl⟩
end Go.Proofs.YtgdijlmfpboecaaDoor
