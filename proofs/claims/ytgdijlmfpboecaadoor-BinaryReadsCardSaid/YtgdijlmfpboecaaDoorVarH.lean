/- The walk of the reference's Get. -/
import Derived.Test.YtgdijlmfpboecaaDoorVarG
namespace Go.Proofs.YtgdijlmfpboecaaDoor.VPlain
end Go.Proofs.YtgdijlmfpboecaaDoor.VPlain
namespace Go.Proofs.YtgdijlmfpboecaaDoor
open Go.RowKit VPlain

theorem refGet_end (a : Option Addr) (n c : Nat) (_ : n ≤ c) (_ : (c : Int) ≤ 9223372036854775807) (w : World) :
    Calls Tryd.prog 14 #[.slice a n c, .int .i64 n] w fun e w' => e = .returned (.agg #[.int .u64 0, .int .i64 n, .int .i64 4]) ∧ Below w.heap.size w w' := by
  have hA := At.new w #[.int .u64 0, .int .i64 0, .int .i64 0] 49
  have hb := (Below.refl w.heap.size w).alloc (Nat.le_refl _) (.cells #[.int .u64 0, .int .i64 0, .int .i64 0] 49)
  have hA0 := hA.cell (i := 0) rfl
  have hA1 := hA.cell (i := 1) rfl
  have hA2 := hA.cell (i := 2) rfl
  have hF0 := hA.free 0
  have hF1 := hA.free 1
  have hF2 := hA.free 2
  have h0 : ¬ (n : Int) < 0 := by omega
  go_enter Tryd.func14, Tryd.ntmps14
  go_wp2_with fail
  generalize w.alloc (.cells #[.int .u64 0, .int .i64 0, .int .i64 0] 49) = w1 at *
  refine wp_loop_rounds 1 ?_
  rw [rounds_succ]
  go_wp2_with fail
  exact bodyPost_ret (v := .agg #[.int .u64 0, .int .i64 (n : Int), .int .i64 4]) (by simp [results, Tryd.results14, go_sem, hA0, hA1, hA2]) rfl ⟨rfl, ((hb.setCell (by simp) _).setCell (by simp) _).setCell (by simp) _⟩
set_option maxRecDepth 100000 in
set_option maxHeartbeats 2000000 in
theorem refGet_in (b o c : Nat) (l : List Nat) (i : Nat) (hi : i ≤ l.length) (hlc : l.length ≤ c) (hcb : (c : Int) ≤ 9223372036854775807) (hb : ∀ x ∈ l, x < 256) (w : World)
    (hv : ∀ j u, (bs l)[j]? = some u → w.cell? ⟨b, o + j, none⟩ = some u) (y j e : Nat) (hg : getL 0 (l.drop i) = (y, j, e)) :
    Calls Tryd.prog 14 #[.slice (some ⟨b, o, none⟩) l.length c, .int .i64 i] w fun en w' => en = .returned (.agg #[.int .u64 y, .int .i64 (i + j : Nat), .int .i64 e]) ∧ Below w.heap.size w w' := by
  have h0 : ¬ (i : Int) < 0 := by omega
  have h1 : ¬ (l.length : Int) < (i : Int) := by omega
  have hA := At.new w #[.int .u64 0, .int .i64 0, .int .i64 0] 49
  have hbw := (Below.refl w.heap.size w).alloc (Nat.le_refl _) (.cells #[.int .u64 0, .int .i64 0, .int .i64 0] 49)
  have hA0 := hA.cell (i := 0) rfl
  have hA1 := hA.cell (i := 1) rfl
  have hA2 := hA.cell (i := 2) rfl
  have hF0 := hA.free 0
  have hF1 := hA.free 1
  have hF2 := hA.free 2
  have hv1 : ∀ j u, (bs l)[j]? = some u → (w.alloc (.cells #[.int .u64 0, .int .i64 0, .int .i64 0] 49)).cell? ⟨b, o + j, none⟩ = some u := fun j u hu =>
    (hbw.cell (p := ⟨b, o + j, none⟩) (World.block_lt_of_cell? w _ (hv j u hu))).trans (hv j u hu)
  have HV := Lib.hid hv1
  have HB := Lib.hid hb
  have HG := Lib.hid hg
  clear hv hv1 hb hg hA
  go_enter Tryd.func14, Tryd.ntmps14
  go_wp2_with fail
  generalize w.alloc (.cells #[.int .u64 0, .int .i64 0, .int .i64 0] 49) = w1 at *
  go_loop [5, 6, 7] (fun x sc v => ∃ k p acc S : Nat, p ≤ 9 ∧ k = i + p ∧ k ≤ l.length ∧ v = .int .i64 k ∧ x = .int .u64 acc ∧ sc = .int .u64 S ∧ Hid (S = 128 ^ p) ∧ Hid (acc < 128 ^ p) ∧ Hid (comb acc p (getL p (l.drop k)) = (y, j, e))) (fun _ _ v => l.length - (intOf v).toNat)
  case atStart => exact ⟨i, 0, 0, 1, by omega, rfl, hi, rfl, rfl, rfl, rfl, Nat.one_pos, by unfold Hid; rw [comb_zero]; exact HG.out⟩
  case round =>
    obtain ⟨k, p, acc, S, hp9, hkp, hkl, rfl, rfl, rfl, HS, HA, HC⟩ := hrel
    clear HG
    have hsub : (k : Int) - (i : Int) = (p : Int) := by omega
    have hk1 : k ≤ i + p := by omega
    have hk2 : i + p ≤ k := by omega
    clear hkp
    by_cases hlt : k < l.length
    · have hlt' : (k : Int) < (l.length : Int) := by omega
      have hcell := HV.out k _ (bs_at hlt)
      have hcr := HB.out l[k] (List.getElem_mem _)
      have hdr : l.drop k = l[k] :: l.drop (k + 1) := List.drop_eq_getElem_cons hlt
      rw [hdr] at HC
      clear hdr
      generalize l[k] = ch at *
      by_cases hf0 : flt ch p = 0
      · obtain ⟨f9, fz⟩ := flt_zero hf0
        obtain ⟨a1, a2, a3⟩ := acc_step hp9 HA.out f9 hcr
        clear a1
        have H2 := Lib.hid a2
        rw [← pow7] at a3
        obtain ⟨M, hM⟩ : ∃ M, M = ch % 128 * 128 ^ p := ⟨_, rfl⟩
        have hmul : (ch : Int) % 128 * (S : Int) = (M : Int) := by rw [hM, HS.out]; simp
        have hM64 : M < 18446744073709551616 := by rw [hM]; exact a3
        have hacc : acc + M < 18446744073709551616 := by
          have h3 : 128 ^ p ≤ 128 ^ 9 := Nat.pow_le_pow_right (by decide) hp9
          have e3 : (128 : Nat) ^ 9 = 9223372036854775808 := by decide
          have h4 := HA.out
          rw [hM]
          by_cases h99 : p = 9
          · subst h99
            have h5 : ch % 128 ≤ 1 := by have := f9 rfl; omega
            have h6 := Nat.mul_le_mul h5 (Nat.le_refl (128 ^ 9))
            omega
          · have h7 : 128 ^ (p + 1) ≤ 128 ^ 9 := Nat.pow_le_pow_right (by decide) (by omega)
            omega
        have g1 : ¬ ((p : Int) = 9 ∧ (1 : Int) < (ch : Int)) := by intro ⟨x1, x2⟩; have := f9 (by omega); omega
        have g2 : ¬ ((i : Int) < (k : Int) ∧ (ch : Int) = 0) := by intro ⟨x1, x2⟩; exact fz (by omega) (by omega)
        have q0 : ((acc + M : Nat) : Int) = (acc : Int) + (M : Int) := by omega
        by_cases hc : ch < 128
        · have hc' : (ch : Int) < 128 := by omega
          have HE := HC.out.symm.trans (comb_last acc p ch (l.drop (k + 1)) f9 fz hc)
          rw [← hM] at HE
          simp only [Prod.mk.injEq] at HE
          obtain ⟨ey, ej, ee⟩ := HE
          have q1 : ((i + (p + 1) : Nat) : Int) = (k : Int) + 1 := by omega
          have HQ : Hid (Ending.returned (.agg #[.int .u64 ((acc : Int) + (M : Int)), .int .i64 ((k : Int) + 1), .int .i64 0]) = Ending.returned (.agg #[.int .u64 (y : Int), .int .i64 ((i + j : Nat) : Int), .int .i64 (e : Int)])) := by
            unfold Hid; rw [ey, ej, ee, q0, q1]; rfl
          clear HC HA HS H2 a2 a3 ey ej ee hM hf0 q0 q1
          by_cases hn : p = 9
          · subst hn
            have : ch = 1 := by have := f9 rfl; have := fz (by omega); omega
            subst this
            have tg : (i : Int) < (k : Int) := by omega
            have hSM : (S : Int) = (M : Int) := by simpa using hmul
            have hS64 : (acc : Int) + (S : Int) < 18446744073709551616 := by omega
            rw [← hSM] at HQ
            clear f9 fz g1 g2 hcr hc hmul hSM hM64 hacc
            go_wp2_with fail
            exact bodyPost_ret (v := .agg #[.int .u64 ((acc : Int) + (S : Int)), .int .i64 ((k : Int) + 1), .int .i64 0]) (by simp [results, Tryd.results14, go_sem, hA0, hA1, hA2]) rfl ⟨HQ.out, ((hbw.setCell (by simp) _).setCell (by simp) _).setCell (by simp) _⟩
          · have tn : ((p : Int) == 9) = false := by simp; omega
            by_cases hp0 : p = 0
            · subst hp0
              have tg : ¬ (i : Int) < (k : Int) := by omega
              clear f9 fz g1 g2
              go_wp2_with fail
              exact bodyPost_ret (v := .agg #[.int .u64 ((acc : Int) + (M : Int)), .int .i64 ((k : Int) + 1), .int .i64 0]) (by simp [results, Tryd.results14, go_sem, hA0, hA1, hA2]) rfl ⟨HQ.out, ((hbw.setCell (by simp) _).setCell (by simp) _).setCell (by simp) _⟩
            · have tg : (i : Int) < (k : Int) := by omega
              have tz : ((ch : Int) == 0) = false := by have := fz (by omega); simp; omega
              clear f9 fz g1 g2
              go_wp2_with fail
              exact bodyPost_ret (v := .agg #[.int .u64 ((acc : Int) + (M : Int)), .int .i64 ((k : Int) + 1), .int .i64 0]) (by simp [results, Tryd.results14, go_sem, hA0, hA1, hA2]) rfl ⟨HQ.out, ((hbw.setCell (by simp) _).setCell (by simp) _).setCell (by simp) _⟩
        · have hc' : ¬ (ch : Int) < 128 := by omega
          have hp8 : p ≠ 9 := by intro h; have := f9 h; omega
          have HC2 : Hid (comb (acc + M) (p + 1) (getL (p + 1) (l.drop (k + 1))) = (y, j, e)) := by
            unfold Hid; rw [hM, ← comb_more acc p ch _ hp8 (by omega)]; exact HC.out
          have hS128 : S * 128 < 18446744073709551616 := by
            have h7 : 128 ^ (p + 1) ≤ 128 ^ 9 := Nat.pow_le_pow_right (by decide) (by omega)
            have e3 : (128 : Nat) ^ 9 = 9223372036854775808 := by decide
            rw [HS.out, ← Nat.pow_succ]
            show 128 ^ (p + 1) < _
            omega
          have HS2 : Hid (S * 128 = 128 ^ (p + 1)) := by unfold Hid; rw [HS.out, Nat.pow_succ]
          have HA2 : Hid (acc + M < 128 ^ (p + 1)) := by unfold Hid; rw [hM]; exact H2.out
          have tn : ((p : Int) == 9) = false := by simp; omega
          have tz : ((ch : Int) == 0) = false := by simp; omega
          clear HC HA HS H2 a2 a3 hM hf0 f9 fz g1 g2
          by_cases hp0 : p = 0
          · subst hp0
            have tg : ¬ (i : Int) < (k : Int) := by omega
            go_wp2
            go_round
            case rel => exact ⟨k + 1, 0 + 1, acc + M, S * 128, by omega, by omega, by omega, by go_num, by go_num, by go_num, HS2, HA2, HC2⟩
            case measure => simp [intOf]; omega
          · have tg : (i : Int) < (k : Int) := by omega
            go_wp2
            go_round
            case rel => exact ⟨k + 1, p + 1, acc + M, S * 128, by omega, by omega, by omega, by go_num, by go_num, by go_num, HS2, HA2, HC2⟩
            case measure => simp [intOf]; omega
      · have HE := HC.out.symm.trans (comb_flt acc p ch (l.drop (k + 1)) hf0)
        simp only [Prod.mk.injEq] at HE
        obtain ⟨ey, ej, ee⟩ := HE
        have q1 : ((i + p : Nat) : Int) = (k : Int) := by omega
        clear HC HA HS
        by_cases h3 : p = 9 ∧ 1 < ch
        · obtain ⟨rfl, h1c⟩ := h3
          have e3 : flt ch 9 = 3 := by unfold flt; rw [if_pos ⟨rfl, h1c⟩]
          rw [e3] at ee
          have HQ : Hid (Ending.returned (.agg #[.int .u64 0, .int .i64 (k : Int), .int .i64 3]) = Ending.returned (.agg #[.int .u64 (y : Int), .int .i64 ((i + j : Nat) : Int), .int .i64 (e : Int)])) := by
            unfold Hid; rw [ey, ej, ee, q1]; rfl
          have t1 : (1 : Int) < (ch : Int) := by omega
          clear e3 ey ej ee hf0 q1
          go_wp2_with fail
          exact bodyPost_ret (v := .agg #[.int .u64 0, .int .i64 (k : Int), .int .i64 3]) (by simp [results, Tryd.results14, go_sem, hA0, hA1, hA2]) rfl ⟨HQ.out, ((hbw.setCell (by simp) _).setCell (by simp) _).setCell (by simp) _⟩
        · have h2 : 0 < p ∧ ch = 0 := by
            by_cases h : 0 < p ∧ ch = 0
            · exact h
            · exact absurd (by unfold flt; rw [if_neg h3, if_neg h]) hf0
          obtain ⟨hp0, rfl⟩ := h2
          have e3 : flt 0 p = 2 := by unfold flt; rw [if_neg h3, if_pos ⟨hp0, rfl⟩]
          rw [e3] at ee
          have HQ : Hid (Ending.returned (.agg #[.int .u64 0, .int .i64 (k : Int), .int .i64 2]) = Ending.returned (.agg #[.int .u64 (y : Int), .int .i64 ((i + j : Nat) : Int), .int .i64 (e : Int)])) := by
            unfold Hid; rw [ey, ej, ee, q1]; rfl
          have tg : (i : Int) < (k : Int) := by omega
          clear e3 ey ej ee hf0 q1 h3
          by_cases hn : p = 9
          · subst hn
            go_wp2_with fail
            exact bodyPost_ret (v := .agg #[.int .u64 0, .int .i64 (k : Int), .int .i64 2]) (by simp [results, Tryd.results14, go_sem, hA0, hA1, hA2]) rfl ⟨HQ.out, ((hbw.setCell (by simp) _).setCell (by simp) _).setCell (by simp) _⟩
          · have tn : ((p : Int) == 9) = false := by simp; omega
            go_wp2_with fail
            exact bodyPost_ret (v := .agg #[.int .u64 0, .int .i64 (k : Int), .int .i64 2]) (by simp [results, Tryd.results14, go_sem, hA0, hA1, hA2]) rfl ⟨HQ.out, ((hbw.setCell (by simp) _).setCell (by simp) _).setCell (by simp) _⟩
    · obtain rfl : k = l.length := by omega
      have HE := HC.out
      rw [List.drop_length, comb_end] at HE
      simp only [Prod.mk.injEq] at HE
      obtain ⟨ey, ej, ee⟩ := HE
      have HQ : Hid (Ending.returned (.agg #[.int .u64 0, .int .i64 (l.length : Int), .int .i64 4]) = Ending.returned (.agg #[.int .u64 (y : Int), .int .i64 ((i + j : Nat) : Int), .int .i64 (e : Int)])) := by
        unfold Hid; rw [← ey, ← ej, ← ee, show i + p = l.length from by omega]; rfl
      clear HC HA HS ey ej ee
      go_wp2_with fail
      exact bodyPost_ret (v := .agg #[.int .u64 0, .int .i64 (l.length : Int), .int .i64 4]) (by simp [results, Tryd.results14, go_sem, hA0, hA1, hA2]) rfl ⟨HQ.out, ((hbw.setCell (by simp) _).setCell (by simp) _).setCell (by simp) _⟩
end Go.Proofs.YtgdijlmfpboecaaDoor
