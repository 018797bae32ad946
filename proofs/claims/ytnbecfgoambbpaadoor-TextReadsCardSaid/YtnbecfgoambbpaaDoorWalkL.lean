/- The walk of the reference's Int. -/
import Derived.Test.YtnbecfgoambbpaaDoorWalkK
import Derived.Test.YtnbecfgoambbpaaDoorPlainD
namespace Go.Proofs.YtnbecfgoambbpaaDoor
open Go.RowKit WPlain

set_option maxHeartbeats 800000 in
theorem refDigits_any (s : ByteArray) (w : World) (hs : s.size ≤ 4294967280) :
    Calls Tryd.prog 65 #[.string s] w fun e w' => e = .returned (.bool (refDigs s.data.toList)) ∧ w = w' := by
  go_enter Tryd.func65, Tryd.ntmps65
  go_wp2
  go_loop [3] (fun x => ∃ k : Nat, k ≤ s.size ∧ x = .int .i64 k ∧ (s.data.toList.take k).all isDig = true) (fun x => s.size - (intOf x).toNat)
  case atStart => exact ⟨0, by omega, rfl, rfl⟩
  case round =>
    obtain ⟨k, hk, rfl, hall⟩ := hrel
    have HA := Lib.hid hall
    clear hall
    by_cases hlt : k < s.size
    · have hts := all_take_snoc s k hlt
      by_cases hd : isDig s[k] = true
      · have hb := isDig_lo hd
        obtain ⟨hb1, hb2⟩ := hb
        have HE : Hid ((s.data.toList.take (k + 1)).all isDig = true) := by
          unfold Hid; rw [hts, List.all_append, HA.out]; simp [hd]
        have t1 : decide ((s[k].toNat : Int) < 48) = false := by simp; omega
        have t2 : decide ((57 : Int) < (s[k].toNat : Int)) = false := by simp; omega
        clear hts hd HA
        go_wp2
        go_round
        case rel => exact ⟨k + 1, by omega, by go_num, HE.out⟩
        case measure => simp [intOf]; omega
      · have hf : refDigs s.data.toList = false := by
          unfold refDigs
          have : s.data.toList.all isDig = false := by
            apply Bool.eq_false_iff.2
            intro h
            rw [List.all_eq_true] at h
            exact hd (h _ (by show s.data.toList[k]'(by simpa using hlt) ∈ _; exact List.getElem_mem _))
          rw [this]; rfl
        have hcase : (s[k].toNat : Int) < 48 ∨ (48 ≤ (s[k].toNat : Int) ∧ 57 < (s[k].toNat : Int)) := by
          simp [isDig] at hd; omega
        have HF := Lib.hid hf
        clear hf hd hts HA
        rcases hcase with h1 | ⟨h1, h2⟩
        · have t1 : decide ((s[k].toNat : Int) < 48) = true := by simp; omega
          go_wp2
          go_ret
          exact ⟨ret_bool HF.out.symm, rfl⟩
        · have t1 : decide ((s[k].toNat : Int) < 48) = false := by simp; omega
          have t2 : decide ((57 : Int) < (s[k].toNat : Int)) = true := by simp; omega
          go_wp2
          go_ret
          exact ⟨ret_bool HF.out.symm, rfl⟩
    · have hks : s.data.toList.take k = s.data.toList := List.take_of_length_le (by have := Lib.size_eq s; omega)
      have hall : s.data.toList.all isDig = true := by rw [← hks]; exact HA.out
      have hl := Lib.size_eq s
      have HF : Hid (refDigs s.data.toList = (decide (s.size = 1) || (decide (1 < s.size) && !(s.data.toList.head? == some 48)))) := by unfold Hid refDigs; rw [hall, hl]; rfl
      clear hall hks HA hl
      by_cases h1 : s.size = 1
      · have t1 : ((s.size : Int) == 1) = true := by simp [h1]
        have HT : Hid (decide (s.size = 1) = true) := by unfold Hid; simp [h1]
        clear h1
        go_wp2
        go_ret
        exact ⟨ret_bool (by rw [HF.out, HT.out]; rfl), rfl⟩
      · have t1 : ((s.size : Int) == 1) = false := by simp; omega
        have HT : Hid (decide (s.size = 1) = false) := by unfold Hid; simp [h1]
        by_cases h2 : 1 < s.size
        · have t2 : (1 : Int) < (s.size : Int) := by omega
          have HT2 : Hid (decide (1 < s.size) = true) := by unfold Hid; simp [h2]
          have h0 : 0 < s.size := by omega
          have hh := head_of s h0
          by_cases hz : s[0] = 48
          · have t3 : ((s[0].toNat : Int) == 48) = true := (u8_eq hz).1
            have t4 : ((s[0].toNat : Int) != 48) = false := (u8_eq hz).2
            have HH : Hid ((s.data.toList.head? == some 48) = true) := by unfold Hid; rw [hh]; simpa using hz
            clear hh hz
            go_wp2
            go_ret
            exact ⟨ret_bool (by rw [HF.out, HT.out, HT2.out, HH.out]; rfl), rfl⟩
          · have t3 : ((s[0].toNat : Int) == 48) = false := (u8_ne hz).1
            have t4 : ((s[0].toNat : Int) != 48) = true := (u8_ne hz).2
            have HH : Hid ((s.data.toList.head? == some 48) = false) := by unfold Hid; rw [hh]; simpa using hz
            clear hh hz
            go_wp2
            go_ret
            exact ⟨ret_bool (by rw [HF.out, HT.out, HT2.out, HH.out]; rfl), rfl⟩
        · have t2 : decide ((1 : Int) < (s.size : Int)) = false := by simp; omega
          have HT2 : Hid (decide (1 < s.size) = false) := by unfold Hid; simp [h2]
          go_wp2
          go_ret
          exact ⟨ret_bool (by rw [HF.out, HT.out, HT2.out]; rfl), rfl⟩

theorem above_any (a b : ByteArray) (w : World) :
    Calls Tryd.prog 66 #[.string a, .string b] w fun e w' => e = .returned (.bool (aboveB a.data.toList b.data.toList)) ∧ w = w' := by
  have hla := Lib.size_eq a
  have hlb := Lib.size_eq b
  have hta := Lib.toList_data a
  have htb := Lib.toList_data b
  have HF : Hid (aboveB a.data.toList b.data.toList = if a.size = b.size then (!Op.bytesLess a.toList b.toList && !(a.toList == b.toList)) else decide (b.size < a.size)) := by
    unfold Hid aboveB; rw [← hla, ← hlb, hta, htb]
  clear hla hlb hta htb
  by_cases h : a.size = b.size
  · have t1 : ((a.size : Int) == (b.size : Int)) = true := by simp [h]
    have t2 : ((a.size : Int) != (b.size : Int)) = false := by simp [h]
    have HI := Lib.hid h
    clear h
    go_enter Tryd.func66, Tryd.ntmps66
    go_wp2
    go_ret
    exact ⟨ret_bool (by rw [HF.out, if_pos HI.out]), rfl⟩
  · have t1 : ((a.size : Int) == (b.size : Int)) = false := by simp; omega
    have t2 : ((a.size : Int) != (b.size : Int)) = true := by simp; omega
    by_cases h2 : b.size < a.size
    · have t3 : (b.size : Int) < (a.size : Int) := by omega
      have HI := Lib.hid h
      clear h
      go_enter Tryd.func66, Tryd.ntmps66
      go_wp2
      go_ret
      exact ⟨ret_bool (by rw [HF.out, if_neg HI.out]; simp [h2]), rfl⟩
    · have t3 : decide ((b.size : Int) < (a.size : Int)) = false := by simp; omega
      have HI := Lib.hid h
      clear h
      go_enter Tryd.func66, Tryd.ntmps66
      go_wp2
      go_ret
      exact ⟨ret_bool (by rw [HF.out, if_neg HI.out]; simp [h2]), rfl⟩

theorem hasP_one (s : ByteArray) (c : UInt8) : (Lib.hasPrefix s.data.toList [c] = true ∧ ∃ h : 0 < s.size, s[0] = c) ∨ (Lib.hasPrefix s.data.toList [c] = false ∧ ∀ h : 0 < s.size, ¬ s[0] = c) := by
  unfold Lib.hasPrefix
  by_cases h0 : 0 < s.size
  · have h' : 0 < s.data.toList.length := by simpa using h0
    have e : s.data.toList = s[0] :: s.data.toList.drop 1 := by
      have h2 : s.data.toList.drop 0 = s.data.toList[0] :: s.data.toList.drop (0 + 1) := List.drop_eq_getElem_cons h'
      exact h2
    by_cases hc : s[0] = c
    · left; refine ⟨?_, h0, hc⟩; rw [e, hc]; simp [List.isPrefixOf]
    · right; refine ⟨?_, fun _ => hc⟩; rw [e]; simp [List.isPrefixOf, Ne.symm hc]
  · right
    refine ⟨?_, fun h => absurd h h0⟩
    have : s.data.toList = [] := List.length_eq_zero_iff.1 (by have := Lib.size_eq s; omega)
    rw [this]; rfl

theorem val_take_bd (d : ByteArray) (k : Nat) (h : d.data.toList.all isDig = true) (hk : k ≤ 10) : 0 ≤ val (d.data.toList.take k) ∧ val (d.data.toList.take k) ≤ 10000000000 := by
  have h1 : (d.data.toList.take k).all isDig = true := by
    rw [List.all_eq_true] at h ⊢
    intro x hx; exact h x (List.mem_of_mem_take hx)
  have h2 := val_lt _ h1
  have h3 : (10 : Int) ^ (d.data.toList.take k).length ≤ 10 ^ 10 := by
    have : (d.data.toList.take k).length ≤ 10 := Nat.le_trans (List.length_take_le _ _) hk
    exact_mod_cast Nat.pow_le_pow_right (by decide) this
  have e : (10 : Int) ^ 10 = 10000000000 := by decide
  omega

theorem intSpec_syn (l : List UInt8) (h : ¬ (refDigs (Lib.trimPrefix l [45]) = true ∧ ¬ (Lib.hasPrefix l [45] = true ∧ Lib.trimPrefix l [45] = [48]))) : intSpec l = (0, 2) := by
  rw [← refDigs_eq] at h
  unfold intSpec
  cases hd : digs (Lib.trimPrefix l [45]) with
  | false => simp
  | true =>
    cases hz : leadZ (Lib.trimPrefix l [45]) (Lib.hasPrefix l [45]) with
    | true => simp
    | false => exact absurd ⟨hd, hz⟩ h
theorem intSpec_num (l : List UInt8) (h1 : refDigs (Lib.trimPrefix l [45]) = true) (h2 : ¬ (Lib.hasPrefix l [45] = true ∧ Lib.trimPrefix l [45] = [48])) :
    intSpec l = if aboveB (Lib.trimPrefix l [45]) (most (Lib.hasPrefix l [45])) = true then (0, 3) else (sgn (Lib.hasPrefix l [45]) (val (Lib.trimPrefix l [45])), 0) := by
  obtain ⟨hd, hz⟩ := (refDigs_eq (Lib.trimPrefix l [45]) (Lib.hasPrefix l [45])).2 ⟨h1, h2⟩
  unfold intSpec
  rw [hd, hz, above_inR _ _ h1]
  cases inR (sgn (Lib.hasPrefix l [45]) (val (Lib.trimPrefix l [45]))) <;> simp
theorem above_len (d : List UInt8) (b : Bool) (h : aboveB d (most b) = false) : d.length ≤ 10 := by
  have hml : (most b).length = 10 := by cases b <;> rfl
  unfold aboveB at h
  rw [hml] at h
  split at h
  · omega
  · simp at h; exact h


set_option maxHeartbeats 1600000 in
theorem refInt_neg (s d : ByteArray) (w : World) (hs : s.size ≤ 4294967280) (h0 : 0 < s.size) (h45 : s[0] = 45) (hd : s.extract 1 s.size = d) :
    Calls Tryd.prog 55 #[.string s] w fun e w' =>
      e = .returned (.agg (if refDigs d.data.toList = true ∧ ¬ (true = true ∧ d.data.toList = [48]) then (if aboveB d.data.toList (most true) = true then #[.int .i64 0, .int .i64 3] else #[.int .i64 (sgn true (val d.data.toList)), .int .i64 0]) else #[.int .i64 0, .int .i64 2])) ∧ Below w.heap.size w w' := by
  have hsz : (0 : Int) < (s.size : Int) := by omega
  have t0 : ((s[0].toNat : Int) == 45) = true := (u8_eq h45).1
  have HD := Lib.hid hd
  have hds : d.size ≤ 4294967280 := by rw [← hd]; simp [ByteArray.size_extract]; omega
  have h1s : 1 ≤ s.size := h0
  clear hd h45
  have hA := At.new w #[.int .i64 0, .int .i64 0] 93
  have hb := (Below.refl w.heap.size w).alloc (Nat.le_refl _) (.cells #[.int .i64 0, .int .i64 0] 93)
  have hAf := hA.free 0
  have hAg := hA.free 1
  have hAc := hA.cell (i := 0) rfl
  have hAd := hA.cell (i := 1) rfl
  cases hr : refDigs d.data.toList with
  | false =>
    have HR := Lib.hid hr
    clear hr
    rw [if_neg (by simp)]
    go_enter Tryd.func55, Tryd.ntmps55
    go_wp2_with fail
    generalize w.alloc (.cells #[.int .i64 0, .int .i64 0] 93) = w1 at *
    rw [HD.out]
    refine (refDigits_any _ _ (by omega)).mono ?_
    rintro e w' ⟨rfl, rfl⟩
    rw [HR.out]
    go_wp2_with fail
    exact bodyPost_ret (v := .agg #[.int .i64 0, .int .i64 2]) (by simp [results, Tryd.results55, go_sem, hAc, hAd]) rfl ⟨rfl, (hb.setCell (by simp) _).setCell (by simp) _⟩
  | true =>
    have HR := Lib.hid hr
    clear hr
    by_cases h48 : d.data.toList = [48]
    · have t48 : (d.toList == [48]) = true := by rw [Lib.toList_data, h48]; rfl
      rw [if_neg (by simp [h48])]
      clear h48
      go_enter Tryd.func55, Tryd.ntmps55
      go_wp2_with fail
      generalize w.alloc (.cells #[.int .i64 0, .int .i64 0] 93) = w1 at *
      rw [HD.out]
      refine (refDigits_any _ _ (by omega)).mono ?_
      rintro e w' ⟨rfl, rfl⟩
      rw [HR.out]
      go_wp2_with fail
      exact bodyPost_ret (v := .agg #[.int .i64 0, .int .i64 2]) (by simp [results, Tryd.results55, go_sem, hAc, hAd]) rfl ⟨rfl, (hb.setCell (by simp) _).setCell (by simp) _⟩
    · have t48 : (d.toList == [48]) = false := by rw [Lib.toList_data]; exact beq_eq_false_iff_ne.2 h48
      rw [if_pos (by simp [h48])]
      clear h48
      have hall : d.data.toList.all isDig = true := by
        have := HR.out; unfold refDigs at this; simp only [Bool.and_eq_true] at this; exact this.1
      have HALL := Lib.hid hall
      clear hall
      cases hab : aboveB d.data.toList (most true) with
      | true =>
        have HB := Lib.hid hab
        clear hab
        rw [if_pos rfl]
        go_enter Tryd.func55, Tryd.ntmps55
        go_wp2_with fail
        generalize w.alloc (.cells #[.int .i64 0, .int .i64 0] 93) = w1 at *
        rw [HD.out]
        refine (refDigits_any _ _ (by omega)).mono ?_
        rintro e w' ⟨rfl, rfl⟩
        rw [HR.out]
        go_wp2_with fail
        refine (above_any _ _ _).mono ?_
        rintro e w' ⟨rfl, rfl⟩
        rw [show aboveB d.data.toList (⟨#[50, 49, 52, 55, 52, 56, 51, 54, 52, 56]⟩ : ByteArray).data.toList = true from HB.out]
        go_wp2_with fail
        exact bodyPost_ret (v := .agg #[.int .i64 0, .int .i64 3]) (by simp [results, Tryd.results55, go_sem, hAc, hAd]) rfl ⟨rfl, (hb.setCell (by simp) _).setCell (by simp) _⟩
      | false =>
        have hlen : d.size ≤ 10 := by rw [Lib.size_eq]; exact above_len _ _ hab
        have HB := Lib.hid hab
        clear hab
        rw [if_neg (by simp)]
        go_enter Tryd.func55, Tryd.ntmps55
        go_wp2_with fail
        generalize w.alloc (.cells #[.int .i64 0, .int .i64 0] 93) = w1 at *
        rw [HD.out]
        refine (refDigits_any _ _ (by omega)).mono ?_
        rintro e w' ⟨rfl, rfl⟩
        rw [HR.out]
        go_wp2_with fail
        refine (above_any _ _ _).mono ?_
        rintro e w' ⟨rfl, rfl⟩
        rw [show aboveB d.data.toList (⟨#[50, 49, 52, 55, 52, 56, 51, 54, 52, 56]⟩ : ByteArray).data.toList = false from HB.out]
        go_wp2_with fail
        go_loop [6, 7] (fun n x => ∃ k : Nat, k ≤ d.size ∧ x = .int .i64 k ∧ n = .int .i64 (val (d.data.toList.take k))) (fun _ x => d.size - (intOf x).toNat)
        case atStart => exact ⟨0, by omega, rfl, rfl⟩
        case round =>
          obtain ⟨k, hk, rfl, rfl⟩ := hrel
          have hbd := val_take_bd d k HALL.out (by omega)
          obtain ⟨hb1, hb2⟩ := hbd
          by_cases hlt : k < d.size
          · have hdk : isDig d[k] = true := by
              have := HALL.out
              rw [List.all_eq_true] at this
              exact this _ (by show d.data.toList[k]'(by simpa using hlt) ∈ _; exact List.getElem_mem _)
            obtain ⟨d1, d2⟩ := isDig_lo hdk
            have HE : Hid (val (d.data.toList.take (k + 1)) = 10 * val (d.data.toList.take k) + ((d[k].toNat : Int) - 48)) := by
              unfold Hid; rw [all_take_snoc d k hlt, val_snoc]; unfold vstep; omega
            clear hdk
            generalize val (d.data.toList.take k) = g at *
            go_wp2
            go_round
            case rel => exact ⟨k + 1, by omega, by go_num, by rw [HE.out]⟩
            case measure => simp [intOf]; omega
          · have hks : d.data.toList.take k = d.data.toList := List.take_of_length_le (by have := Lib.size_eq d; omega)
            have HV : Hid (val (d.data.toList.take k) = val d.data.toList) := by unfold Hid; rw [hks]
            clear hks
            generalize val (d.data.toList.take k) = g at *
            go_wp2
            exact bodyPost_ret (v := .agg #[.int .i64 (-g), .int .i64 0]) (by simp [results, Tryd.results55, go_sem, hAc, hAd]) rfl ⟨by rw [← HV.out]; rfl, (hb.setCell (by simp) _).setCell (by simp) _⟩

set_option maxHeartbeats 1600000 in
theorem refInt_pos (s d : ByteArray) (w : World) (hs : s.size ≤ 4294967280) (h45 : ∀ h : 0 < s.size, ¬ s[0] = 45) (hd : s = d) :
    Calls Tryd.prog 55 #[.string s] w fun e w' =>
      e = .returned (.agg (if refDigs d.data.toList = true ∧ ¬ (false = true ∧ d.data.toList = [48]) then (if aboveB d.data.toList (most false) = true then #[.int .i64 0, .int .i64 3] else #[.int .i64 (sgn false (val d.data.toList)), .int .i64 0]) else #[.int .i64 0, .int .i64 2])) ∧ Below w.heap.size w w' := by
  subst hd
  have hds := hs
  have hcases : (s.size = 0 ∧ decide ((0 : Int) < (s.size : Int)) = false) ∨ (∃ h : 0 < s.size, (0 : Int) < (s.size : Int) ∧ ((s[0].toNat : Int) == 45) = false) := by
    by_cases h0 : 0 < s.size
    · exact .inr ⟨h0, by omega, (u8_ne (h45 h0)).1⟩
    · exact .inl ⟨by omega, decide_eq_false (by omega)⟩
  clear h45
  have hA := At.new w #[.int .i64 0, .int .i64 0] 93
  have hb := (Below.refl w.heap.size w).alloc (Nat.le_refl _) (.cells #[.int .i64 0, .int .i64 0] 93)
  have hAf := hA.free 0
  have hAg := hA.free 1
  have hAc := hA.cell (i := 0) rfl
  have hAd := hA.cell (i := 1) rfl
  cases hr : refDigs s.data.toList with
  | false =>
    have HR := Lib.hid hr
    clear hr
    rw [if_neg (by simp)]
    rcases hcases with ⟨z1, z2⟩ | ⟨z1, z2, z3⟩
    all_goals
      go_enter Tryd.func55, Tryd.ntmps55
      go_wp2_with fail
      generalize w.alloc (.cells #[.int .i64 0, .int .i64 0] 93) = w1 at *
      refine (refDigits_any _ _ (by omega)).mono ?_
      rintro e w' ⟨rfl, rfl⟩
      rw [HR.out]
      go_wp2_with fail
      exact bodyPost_ret (v := .agg #[.int .i64 0, .int .i64 2]) (by simp [results, Tryd.results55, go_sem, hAc, hAd]) rfl ⟨rfl, (hb.setCell (by simp) _).setCell (by simp) _⟩
  | true =>
    have HR := Lib.hid hr
    clear hr
    rw [if_pos (by simp)]
    have hne : ¬ s.size = 0 := by
      intro hz
      have h0 : s.data.toList = [] := List.length_eq_zero_iff.1 (by have := Lib.size_eq s; omega)
      have h1 := HR.out
      rw [h0] at h1
      exact absurd h1 (by decide)
    obtain ⟨z1, z2, z3⟩ := hcases.resolve_left (fun h => hne h.1)
    clear hcases
    have hall : s.data.toList.all isDig = true := by
      have := HR.out; unfold refDigs at this; simp only [Bool.and_eq_true] at this; exact this.1
    have HALL := Lib.hid hall
    clear hall
    cases hab : aboveB s.data.toList (most false) with
    | true =>
      have HB := Lib.hid hab
      clear hab
      rw [if_pos rfl]
      all_goals
        go_enter Tryd.func55, Tryd.ntmps55
        go_wp2_with fail
        generalize w.alloc (.cells #[.int .i64 0, .int .i64 0] 93) = w1 at *
        refine (refDigits_any _ _ (by omega)).mono ?_
        rintro e w' ⟨rfl, rfl⟩
        rw [HR.out]
        go_wp2_with fail
        refine (above_any _ _ _).mono ?_
        rintro e w' ⟨rfl, rfl⟩
        rw [show aboveB s.data.toList (⟨#[50, 49, 52, 55, 52, 56, 51, 54, 52, 55]⟩ : ByteArray).data.toList = true from HB.out]
        go_wp2_with fail
        exact bodyPost_ret (v := .agg #[.int .i64 0, .int .i64 3]) (by simp [results, Tryd.results55, go_sem, hAc, hAd]) rfl ⟨rfl, (hb.setCell (by simp) _).setCell (by simp) _⟩
    | false =>
      have hlen : s.size ≤ 10 := by rw [Lib.size_eq]; exact above_len _ _ hab
      have HB := Lib.hid hab
      clear hab
      rw [if_neg (by simp)]
      all_goals
        go_enter Tryd.func55, Tryd.ntmps55
        go_wp2_with fail
        generalize w.alloc (.cells #[.int .i64 0, .int .i64 0] 93) = w1 at *
        refine (refDigits_any _ _ (by omega)).mono ?_
        rintro e w' ⟨rfl, rfl⟩
        rw [HR.out]
        go_wp2_with fail
        refine (above_any _ _ _).mono ?_
        rintro e w' ⟨rfl, rfl⟩
        rw [show aboveB s.data.toList (⟨#[50, 49, 52, 55, 52, 56, 51, 54, 52, 55]⟩ : ByteArray).data.toList = false from HB.out]
        go_wp2_with fail
        go_loop [6, 7] (fun n x => ∃ k : Nat, k ≤ s.size ∧ x = .int .i64 k ∧ n = .int .i64 (val (s.data.toList.take k))) (fun _ x => s.size - (intOf x).toNat)
        case atStart => exact ⟨0, by omega, rfl, rfl⟩
        case round =>
          obtain ⟨k, hk, rfl, rfl⟩ := hrel
          have hbd := val_take_bd s k HALL.out (by omega)
          obtain ⟨hb1, hb2⟩ := hbd
          by_cases hlt : k < s.size
          · have hdk : isDig s[k] = true := by
              have := HALL.out
              rw [List.all_eq_true] at this
              exact this _ (by show s.data.toList[k]'(by simpa using hlt) ∈ _; exact List.getElem_mem _)
            obtain ⟨d1, d2⟩ := isDig_lo hdk
            have HE : Hid (val (s.data.toList.take (k + 1)) = 10 * val (s.data.toList.take k) + ((s[k].toNat : Int) - 48)) := by
              unfold Hid; rw [all_take_snoc s k hlt, val_snoc]; unfold vstep; omega
            clear hdk
            generalize val (s.data.toList.take k) = g at *
            go_wp2
            go_round
            case rel => exact ⟨k + 1, by omega, by go_num, by rw [HE.out]⟩
            case measure => simp [intOf]; omega
          · have hks : s.data.toList.take k = s.data.toList := List.take_of_length_le (by have := Lib.size_eq s; omega)
            have HV : Hid (val (s.data.toList.take k) = val s.data.toList) := by unfold Hid; rw [hks]
            clear hks
            generalize val (s.data.toList.take k) = g at *
            go_wp2
            exact bodyPost_ret (v := .agg #[.int .i64 (g), .int .i64 0]) (by simp [results, Tryd.results55, go_sem, hAc, hAd]) rfl ⟨by rw [← HV.out]; rfl, (hb.setCell (by simp) _).setCell (by simp) _⟩
end Go.Proofs.YtnbecfgoambbpaaDoor
