/- The walks of package word's Text and of the reference's Text and Number. -/
import Derived.Test.YtnbecfgoambbpaaDoorWalkE
import Derived.Lib.ItoaMem
import Derived.Lib.ItoaLen
import Derived.Lib.SmallJoins
namespace Go.Proofs.YtnbecfgoambbpaaDoor
open Go.RowKit WPlain

theorem digits_piece (i : Nat) (h : i < 10) : (⟨#[48, 49, 50, 51, 52, 53, 54, 55, 56, 57]⟩ : ByteArray).extract i (i + 1) = ⟨(Lib.decDigits i).toArray⟩ := by
  rw [Lib.decDigits_one h]
  match i, h with
  | 0, _ => rfl
  | 1, _ => rfl
  | 2, _ => rfl
  | 3, _ => rfl
  | 4, _ => rfl
  | 5, _ => rfl
  | 6, _ => rfl
  | 7, _ => rfl
  | 8, _ => rfl
  | 9, _ => rfl

theorem dec_size (u : Nat) (h : u ≤ 9223372036854775807) : (⟨(Lib.decDigits u).toArray⟩ : ByteArray).size ≤ 21 := by
  have h1 := Lib.itoa_length_le (u : Int) (by omega) (by omega)
  rw [Lib.itoa_nonneg] at h1
  exact h1

set_option maxHeartbeats 400000 in
theorem refText_pos (f : Nat) : ∀ (i : Nat) (w : World), i < f → i ≤ 2147483648 →
    Calls Tryd.prog 29 #[.int .i64 i] w fun e w' => e = .returned (.string ⟨(Lib.decDigits i).toArray⟩) ∧ w = w' := by
  induction f with
  | zero => intro i w h; omega
  | succ f ih =>
    intro i w hf hi
    have IH := Lib.hid ih
    clear ih
    have h0 : ¬ (i : Int) < 0 := by omega
    by_cases h10 : i < 10
    · have HP := Lib.hid (digits_piece i h10)
      have h10' : (i : Int) < 10 := by omega
      go_enter Tryd.func29, Tryd.ntmps29
      go_wp2_with fail
      go_ret
      exact ⟨by rw [← HP.out]; rfl, rfl⟩
    · have h10' : ¬ (i : Int) < 10 := by omega
      have e1 : (i : Int) / 10 = ((i / 10 : Nat) : Int) := by omega
      have e2 : (i : Int) % 10 = ((i % 10 : Nat) : Int) := by omega
      have E1 := Lib.hid e1
      have E2 := Lib.hid e2
      clear e1 e2
      obtain ⟨b1, hb1⟩ : ∃ b : ByteArray, b = ⟨(Lib.decDigits (i / 10)).toArray⟩ := ⟨_, rfl⟩
      obtain ⟨b2, hb2⟩ : ∃ b : ByteArray, b = ⟨(Lib.decDigits (i % 10)).toArray⟩ := ⟨_, rfl⟩
      have s1 : b1.size ≤ 21 := by rw [hb1]; exact dec_size _ (by omega)
      have s2 : b2.size ≤ 21 := by rw [hb2]; exact dec_size _ (by omega)
      have HF : Hid (b1 ++ b2 = ⟨(Lib.decDigits i).toArray⟩) := by
        unfold Hid
        rw [hb1, hb2, ByteArray.mk_append_mk]
        rw [Lib.decDigits_one (i := i % 10) (by omega)]
        conv => rhs; rw [Lib.decDigits, dif_neg h10]
      have I1 := IH.out (i / 10) w (by omega) (by omega)
      have I2 := IH.out (i % 10) w (by omega) (by omega)
      rw [← hb1] at I1
      rw [← hb2] at I2
      have J1 := Lib.hid I1
      have J2 := Lib.hid I2
      clear I1 I2 hb1 hb2 IH
      go_enter Tryd.func29, Tryd.ntmps29
      go_wp2_with fail
      rw [E1.out]
      refine J1.out.mono ?_
      rintro e w' ⟨rfl, rfl⟩
      go_wp2_with fail
      rw [E2.out]
      refine J2.out.mono ?_
      rintro e w' ⟨rfl, rfl⟩
      go_wp2_with fail
      go_ret
      exact ⟨by rw [← HF.out]; rfl, rfl⟩

set_option maxHeartbeats 400000 in
theorem refText_any (n : Int) (w : World) (h1 : -2147483648 ≤ n) (h2 : n ≤ 2147483647) :
    Calls Tryd.prog 29 #[.int .i64 n] w fun e w' => e = .returned (.string ⟨(Lib.itoa n).toArray⟩) ∧ w = w' := by
  by_cases h0 : n < 0
  · obtain ⟨u, hu⟩ : ∃ u : Nat, n = -(u : Int) := ⟨n.natAbs, by omega⟩
    have hub : u ≤ 2147483648 := by omega
    obtain ⟨b1, hb1⟩ : ∃ b : ByteArray, b = ⟨(Lib.decDigits u).toArray⟩ := ⟨_, rfl⟩
    have s1 : b1.size ≤ 21 := by rw [hb1]; exact dec_size _ (by omega)
    have HF : Hid ((⟨#[45]⟩ : ByteArray) ++ b1 = ⟨(Lib.itoa n).toArray⟩) := by
      unfold Hid
      rw [hb1, hu, Lib.itoa_neg u (by omega), ByteArray.mk_append_mk]
      simp
    have I1 := refText_pos (u + 1) u w (by omega) hub
    rw [← hb1] at I1
    have J1 := Lib.hid I1
    clear I1 hb1
    have E : Hid (0 - n = (u : Int)) := by unfold Hid; omega
    clear hu
    go_enter Tryd.func29, Tryd.ntmps29
    go_wp2_with fail
    first | rw [E.out] | rw [show -n = (u : Int) from by have := E.out; omega]
    refine J1.out.mono ?_
    rintro e w' ⟨rfl, rfl⟩
    go_wp2_with fail
    go_ret
    exact ⟨by rw [← HF.out]; rfl, rfl⟩
  · obtain ⟨u, rfl⟩ : ∃ u : Nat, n = (u : Int) := ⟨n.toNat, by omega⟩
    rw [Lib.itoa_nonneg]
    exact refText_pos (u + 1) u w (by omega) (by omega)

theorem refNumber_any (n : Int) (w : World) :
    Calls Tryd.prog 48 #[.int .i64 n] w fun e w' => e = .returned (.bool (inR n)) ∧ w = w' := by
  by_cases h1 : -2147483648 ≤ n
  · by_cases h2 : n ≤ 2147483647
    · have HT : Hid (inR n = true) := by unfold Hid inR; simp [h1, h2]
      go_enter Tryd.func48, Tryd.ntmps48
      go_wp2
      go_ret
      exact ⟨ret_bool HT.out.symm, rfl⟩
    · have HT : Hid (inR n = false) := by unfold Hid inR; simp [h2]
      have t2 : decide (n ≤ 2147483647) = false := by simp; omega
      go_enter Tryd.func48, Tryd.ntmps48
      go_wp2
      go_ret
      exact ⟨ret_bool HT.out.symm, rfl⟩
  · have HT : Hid (inR n = false) := by unfold Hid inR; simp [h1]
    have t2 : decide (-2147483648 ≤ n) = false := by simp; omega
    go_enter Tryd.func48, Tryd.ntmps48
    go_wp2
    go_ret
    exact ⟨ret_bool HT.out.symm, rfl⟩

theorem below_grow (w : World) (k : Nat) (os : Array Obj) : Below w.heap.size w (Go.Sort.grow (w.drewN k) os) := by
  refine ⟨rfl, rfl, rfl, ?_, ?_⟩
  · simp [Go.Sort.grow]
  · intro j hj
    simp only [Go.Sort.grow]
    exact Array.getElem?_append_left hj

theorem text_yes (n : Int) (w : World) (h1 : -2147483648 ≤ n) (h2 : n ≤ 2147483647) (htab : Lib.TabIs Tryd.prog w "internal/strconv.uint64pow10" .u64 Lib.pow10Tab) :
    Calls Tryd.prog 58 #[.int .i64 n] w fun e w' => e = .returned (.tuple #[.string ⟨(Lib.itoa n).toArray⟩, .int .i64 0]) ∧ Below w.heap.size w w' := by
  have HT : Hid (inR n = true) := by unfold Hid inR; simp [h1, h2]
  go_enter Tryd.func58, Tryd.ntmps58
  go_wp2_with fail
  refine (isNumber_any _ _).mono ?_
  rintro e w' ⟨rfl, rfl⟩
  rw [HT.out]
  go_wp2_with fail
  refine (Tryd.strconv_Itoa n (by omega) (by omega) _ htab).mono ?_
  rintro e w' ⟨rfl, k, os, rfl⟩
  have hb := below_grow w k os
  generalize Go.Sort.grow (w.drewN k) os = w1 at *
  go_wp2_with fail
  go_ret2
  exact ⟨rfl, hb⟩
theorem text_no (n : Int) (w : World) (h : inR n = false) :
    Calls Tryd.prog 58 #[.int .i64 n] w fun e w' => e = .returned (.tuple #[.string ByteArray.empty, .int .i64 1]) ∧ w = w' := by
  have HT := Lib.hid h
  clear h
  go_enter Tryd.func58, Tryd.ntmps58
  go_wp2_with fail
  refine (isNumber_any _ _).mono ?_
  rintro e w' ⟨rfl, rfl⟩
  rw [HT.out]
  go_wp2_with fail
  go_ret2
  exact ⟨rfl, rfl⟩
end Go.Proofs.YtnbecfgoambbpaaDoor
