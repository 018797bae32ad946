/- The walks of Is, of both sides. -/
import Derived.Test.YtgebmjbfeakpgaaDoorKitF
import Derived.Test.YtgebmjbfeakpgaaDoorVarP
import Derived.Lib.Hide
namespace Go.Proofs.YtgebmjbfeakpgaaDoor
open Go.RowKit WPlain VPlain BPlain

/-- a byte that no text has -/
def noTxt (c : Nat) : Bool := decide (c ≠ 9) && decide (c ≠ 10) && (decide (c < 32) || decide (126 < c))
theorem five (c : Nat) : c = 9 ∨ c = 10 ∨ (c < 32 ∧ c ≠ 9 ∧ c ≠ 10) ∨ (32 ≤ c ∧ c ≤ 126) ∨ 126 < c := by omega

theorem isNoTexts_any (c : Nat) (hc : c < 256) (w : World) : Calls Tryd.prog 27 #[.int .u8 (c : Int)] w fun e w' => e = .returned (.bool (noTxt c)) ∧ w = w' := by
  rcases five c with rfl | rfl | ⟨h1, h2, h3⟩ | ⟨h1, h2⟩ | h1
  · have : noTxt 9 = false := by decide
    rw [this]
    go_enter Tryd.func27, Tryd.ntmps27
    go_wp2
    go_ret
    exact ⟨rfl, rfl⟩
  · have : noTxt 10 = false := by decide
    rw [this]
    go_enter Tryd.func27, Tryd.ntmps27
    go_wp2
    go_ret
    exact ⟨rfl, rfl⟩
  · have hn : noTxt c = true := by simp [noTxt, h1, h2, h3]
    rw [hn]
    have t1 : ((c : Int) != 9) = true := by simp; omega
    have t2 : ((c : Int) != 10) = true := by simp; omega
    clear hn
    go_enter Tryd.func27, Tryd.ntmps27
    go_wp2
    go_ret
    exact ⟨rfl, rfl⟩
  · have hn : noTxt c = false := by
      have a1 : ¬ c < 32 := by omega
      have a2 : ¬ 126 < c := by omega
      simp [noTxt, a1, a2]
    rw [hn]
    have t1 : ((c : Int) != 9) = true := by simp; omega
    have t2 : ((c : Int) != 10) = true := by simp; omega
    have t3 : decide ((c : Int) < 32) = false := by simp; omega
    have t4 : decide ((126 : Int) < (c : Int)) = false := by simp; omega
    clear hn
    go_enter Tryd.func27, Tryd.ntmps27
    go_wp2
    go_ret
    exact ⟨rfl, rfl⟩
  · have hn : noTxt c = true := by
      have a1 : c ≠ 9 := by omega
      have a2 : c ≠ 10 := by omega
      simp [noTxt, a1, a2, h1]
    rw [hn]
    have t1 : ((c : Int) != 9) = true := by simp; omega
    have t2 : ((c : Int) != 10) = true := by simp; omega
    have t3 : decide ((c : Int) < 32) = false := by simp; omega
    have t4 : decide ((126 : Int) < (c : Int)) = true := by simp; omega
    clear hn
    go_enter Tryd.func27, Tryd.ntmps27
    go_wp2
    go_ret
    exact ⟨rfl, rfl⟩

theorem any_take_succ (L : List Nat) (k : Nat) (hk : k < L.length) : (L.take (k + 1)).any noTxt = ((L.take k).any noTxt || noTxt L[k]) := by
  rw [List.take_succ_eq_append_getElem hk, List.any_append]; simp
/-- where the first byte is that no text has -/
def Found (L : List Nat) (w : World) (e : Ending) (w' : World) : Prop := ∃ r : Int, e = .returned (.int .i64 r) ∧ decide (0 ≤ r) = L.any noTxt ∧ w = w'
set_option maxHeartbeats 1000000 in
theorem indexFunc_any (a : Option Addr) (c : Nat) (L : List Nat) (w : World) (hv : Rd w (.slice a L.length c) (bs L)) (hb : ∀ x ∈ L, x < 256) (hl : L.length ≤ 65536) :
    Calls Tryd.prog 49 #[.slice a L.length c, .func (.func 27) #[] #[]] w (Found L w) := by
  have HV := Lib.hid hv
  have HB := Lib.hid hb
  have HS := Lib.hid (any_take_succ L)
  clear hv hb
  go_enter Tryd.func49, Tryd.ntmps49
  go_wp2_with fail
  go_loop [8] (fun x => ∃ k : Nat, k ≤ L.length ∧ x = .int .i64 k ∧ Hid ((L.take k).any noTxt = false)) (fun x => L.length - (intOf x).toNat)
  case atStart => exact ⟨0, Nat.zero_le _, rfl, by simp [Hid]⟩
  case round =>
    obtain ⟨k, hk, rfl, HN⟩ := hrel
    by_cases hlt : k < L.length
    · have hs := HS.out k hlt
      rw [HN.out, Bool.false_or] at hs
      rcases HV.out with ⟨e0, _⟩ | ⟨_, b, o, c', he, hc⟩
      · have := bs_len L; rw [e0] at this; simp at this; omega
      · rw [bs_len] at he
        obtain ⟨rfl, rfl⟩ : a = some ⟨b, o, none⟩ ∧ c = c' := by simpa using he
        have hcell := hc k _ (bs_at hlt)
        have h256 := HB.out L[k] (List.getElem_mem hlt)
        have hmem := List.getElem_mem hlt
        clear hc he
        generalize L[k] = ch at *
        cases hno : noTxt ch with
        | true =>
          have hany : L.any noTxt = true := List.any_eq_true.2 ⟨ch, hmem, hno⟩
          have HA := Lib.hid hany
          have HNO := Lib.hid hno
          clear hs hno hany hmem
          go_wp2_with fail
          refine (isNoTexts_any ch h256 _).mono ?_
          rintro e w1 ⟨rfl, rfl⟩
          rw [HNO.out]
          go_wp2
          go_ret
          exact ⟨_, rfl, by rw [HA.out]; simp, rfl⟩
        | false =>
          have HN2 : Hid ((L.take (k + 1)).any noTxt = false) := by unfold Hid; rw [hs, hno]
          have HNO := Lib.hid hno
          clear hs hno hmem
          go_wp2_with fail
          refine (isNoTexts_any ch h256 _).mono ?_
          rintro e w1 ⟨rfl, rfl⟩
          rw [HNO.out]
          go_wp2
          go_round
          case rel => exact ⟨k + 1, by omega, by go_num, HN2⟩
          case measure => simp [intOf]; omega
    · obtain rfl : k = L.length := by omega
      have hany := HN.out
      rw [List.take_length] at hany
      have HA := Lib.hid hany
      clear hany HN
      go_wp2
      go_ret
      exact ⟨_, rfl, by rw [HA.out]; rfl, rfl⟩
set_option maxRecDepth 100000 in
theorem is_any (a : Option Addr) (c : Nat) (L : List Nat) (w : World) (hv : Rd w (.slice a L.length c) (bs L)) (hb : ∀ x ∈ L, x < 256) (hl : L.length ≤ 65536) :
    Calls Tryd.prog 12 #[.slice a L.length c] w fun e w' => e = .returned (.bool (!L.any noTxt)) ∧ w = w' := by
  have HI := Lib.hid (indexFunc_any a c L w hv hb hl)
  clear hv hb
  have HC : Hid (Calls Tryd.prog 26 #[.slice a L.length c, .func (.func 27) #[] #[]] w fun e w' => e = .returned (.bool (L.any noTxt)) ∧ w = w') := by
    unfold Hid
    go_enter Tryd.func26, Tryd.ntmps26
    go_wp2_with fail
    refine HI.out.mono ?_
    rintro e w1 ⟨r, rfl, hr, rfl⟩
    have HR := Lib.hid hr
    clear hr
    go_wp2
    go_ret
    exact ⟨ret_bool (by rw [← HR.out]), rfl⟩
  clear HI
  obtain ⟨z, hz⟩ : ∃ z, L.any noTxt = z := ⟨_, rfl⟩
  rw [hz] at HC ⊢
  clear hz
  cases z
  all_goals
    go_enter Tryd.func12, Tryd.ntmps12
    go_wp2_with fail
    refine HC.out.mono ?_
    rintro e w1 ⟨rfl, rfl⟩
    go_wp2
    go_ret
    exact ⟨rfl, rfl⟩
set_option maxHeartbeats 1000000 in
theorem refIs_any (a : Option Addr) (c : Nat) (L : List Nat) (w : World) (hv : Rd w (.slice a L.length c) (bs L)) (hb : ∀ x ∈ L, x < 256) (hl : L.length ≤ 65536) :
    Calls Tryd.prog 13 #[.slice a L.length c] w fun e w' => e = .returned (.bool (!L.any noTxt)) ∧ w = w' := by
  have HV := Lib.hid hv
  have HB := Lib.hid hb
  have HS := Lib.hid (any_take_succ L)
  obtain ⟨z, hz⟩ : ∃ z, L.any noTxt = z := ⟨_, rfl⟩
  rw [hz]
  have HZ := Lib.hid hz
  clear hv hb hz
  go_enter Tryd.func13, Tryd.ntmps13
  go_wp2_with fail
  go_loop [7] (fun x => ∃ k : Nat, k ≤ L.length ∧ x = .int .i64 k ∧ Hid ((L.take k).any noTxt = false)) (fun x => L.length - (intOf x).toNat)
  case atStart => exact ⟨0, Nat.zero_le _, rfl, by simp [Hid]⟩
  case round =>
    obtain ⟨k, hk, rfl, HN⟩ := hrel
    by_cases hlt : k < L.length
    · have hs := HS.out k hlt
      rw [HN.out, Bool.false_or] at hs
      rcases HV.out with ⟨e0, _⟩ | ⟨_, b, o, c', he, hc⟩
      · have := bs_len L; rw [e0] at this; simp at this; omega
      · rw [bs_len] at he
        obtain ⟨rfl, rfl⟩ : a = some ⟨b, o, none⟩ ∧ c = c' := by simpa using he
        have hcell := hc k _ (bs_at hlt)
        have hmem := List.getElem_mem hlt
        clear hc he
        generalize L[k] = ch at *
        rcases five ch with rfl | rfl | ⟨h1, h2, h3⟩ | ⟨h1, h2⟩ | h1
        · have hno : noTxt 9 = false := by decide
          have HN2 : Hid ((L.take (k + 1)).any noTxt = false) := by unfold Hid; rw [hs, hno]
          clear hs hno hmem
          go_wp2
          go_round
          case rel => exact ⟨k + 1, by omega, by go_num, HN2⟩
          case measure => simp [intOf]; omega
        · have hno : noTxt 10 = false := by decide
          have HN2 : Hid ((L.take (k + 1)).any noTxt = false) := by unfold Hid; rw [hs, hno]
          clear hs hno hmem
          go_wp2
          go_round
          case rel => exact ⟨k + 1, by omega, by go_num, HN2⟩
          case measure => simp [intOf]; omega
        · have hno : noTxt ch = true := by simp [noTxt, h1, h2, h3]
          have hany : L.any noTxt = true := List.any_eq_true.2 ⟨ch, hmem, hno⟩
          have hzz := HZ.out
          rw [hany] at hzz
          subst hzz
          have t1 : ((ch : Int) != 9) = true := by simp; omega
          have t2 : ((ch : Int) != 10) = true := by simp; omega
          clear hs hno hmem hany
          go_wp2
          go_ret
          exact ⟨rfl, rfl⟩
        · have hno : noTxt ch = false := by
            have a1 : ¬ ch < 32 := by omega
            have a2 : ¬ 126 < ch := by omega
            simp [noTxt, a1, a2]
          have HN2 : Hid ((L.take (k + 1)).any noTxt = false) := by unfold Hid; rw [hs, hno]
          have t1 : ((ch : Int) != 9) = true := by simp; omega
          have t2 : ((ch : Int) != 10) = true := by simp; omega
          have t3 : decide ((ch : Int) < 32) = false := by simp; omega
          have t4 : decide ((126 : Int) < (ch : Int)) = false := by simp; omega
          clear hs hno hmem
          go_wp2
          go_round
          case rel => exact ⟨k + 1, by omega, by go_num, HN2⟩
          case measure => simp [intOf]; omega
        · have hno : noTxt ch = true := by
            have a1 : ch ≠ 9 := by omega
            have a2 : ch ≠ 10 := by omega
            simp [noTxt, a1, a2, h1]
          have hany : L.any noTxt = true := List.any_eq_true.2 ⟨ch, hmem, hno⟩
          have hzz := HZ.out
          rw [hany] at hzz
          subst hzz
          have t1 : ((ch : Int) != 9) = true := by simp; omega
          have t2 : ((ch : Int) != 10) = true := by simp; omega
          have t3 : decide ((ch : Int) < 32) = false := by simp; omega
          have t4 : decide ((126 : Int) < (ch : Int)) = true := by simp; omega
          clear hs hno hmem hany
          go_wp2
          go_ret
          exact ⟨rfl, rfl⟩
    · obtain rfl : k = L.length := by omega
      have hany := HN.out
      rw [List.take_length] at hany
      have hzz := HZ.out
      rw [hany] at hzz
      subst hzz
      clear hany HN
      go_wp2
      go_ret
      exact ⟨rfl, rfl⟩
end Go.Proofs.YtgebmjbfeakpgaaDoor
