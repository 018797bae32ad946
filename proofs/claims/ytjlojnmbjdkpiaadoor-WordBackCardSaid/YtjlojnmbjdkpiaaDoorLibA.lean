/- Walks of the library's IndexRune at a rune above 127, of IndexAny and ContainsAny where none of chars is in s. -/
import Derived.Test.YtjlojnmbjdkpiaaDoorKit
import Derived.Test.YtjlojnmbjdkpiaaDoorShelf
import Derived.Laws.Runes
import Derived.Lib.OthersKept
import Derived.Deep.LoopGhost
import Derived.Deep.QuietTactic
import Derived.BigQuiet
namespace Go.Proofs.YtjlojnmbjdkpiaaDoor
open Go.RowKit

theorem indexByte_hi (s : ByteArray) (c : UInt8) (w : World) (hs : ∀ i (h : i < s.size), s[i].toNat < 128) (hc : 128 ≤ c.toNat) :
    Calls Tryd.prog 37 #[.string s, .int .u8 c.toNat] w fun e w' => e = .returned (.int .i64 (-1)) ∧ w' = w := by
  have h : Lib.indexByte s.data.toList ((c.toNat : Int)).toNat.toUInt8 = -1 := by
    have e : ((c.toNat : Int)).toNat.toUInt8 = c := by simp
    rw [e]
    have hge : -1 ≤ Lib.indexByte s.data.toList c := by rw [← Lib.index_one]; exact Lib.index_ge _ _
    by_cases h0 : 0 ≤ Lib.indexByte s.data.toList c
    · obtain ⟨o, ho⟩ : ∃ o : Nat, Lib.indexByte s.data.toList c = o := ⟨_, (Int.toNat_of_nonneg h0).symm⟩
      have h1 := (Lib.indexByte_some ho).1
      have h2 : o < s.size := by
        have := (List.getElem?_eq_some_iff.1 h1).1
        rw [Lib.size_eq]; exact this
      have h3 := hs o h2
      have h4 : s[o] = c := by
        have := (List.getElem?_eq_some_iff.1 h1).2
        exact this
      rw [h4] at h3
      omega
    · omega
  refine (Tryd.strings_IndexByte s _ w).mono ?_
  rintro e w' ⟨he, hw⟩
  rw [h] at he
  exact ⟨he, hw⟩

set_option maxHeartbeats 800000 in
set_option maxRecDepth 100000 in
theorem indexRune_hi (cs : ByteArray) (r : Int) (w : World) (hcs : ∀ i (h : i < cs.size), cs[i].toNat < 128) (h1 : 128 ≤ r) (h2 : r ≤ 2147483647) :
    Calls Tryd.prog 31 #[.string cs, .int .i32 r] w fun e w' => e = .returned (.int .i64 (-1)) ∧ Below w.heap.size w w' := by
  have HC := Lib.hid hcs
  clear hcs
  have t0 : decide (r < 128) = false := by simp; omega
  by_cases he : r = 65533
  · have t1 : (r == 65533) = true := by simpa using he
    clear he
    go_enter Tryd.func31, Tryd.ntmps31
    go_wp2_with fail
    go_loopg [5, 6] cs.size (fun g _ _ wx => ∃ i : Nat, i + g = cs.size ∧ wx = w.iter cs i)
    case atStart => exact ⟨0, by omega, rfl⟩
    case round =>
      obtain ⟨i, hig, rfl⟩ := hrel
      cases gk with
      | zero =>
        obtain rfl : i = cs.size := by omega
        have hnx := run_next_end (P := Tryd.prog) w cs cs.size
        go_wp2
        go_ret
        exact ⟨rfl, (Below.refl _ _).alloc (Nat.le_refl _) _⟩
      | succ g =>
        have hi : i < cs.size := by omega
        have h128 := HC.out i hi
        have hnx := fun ty => run_next_ascii (P := Tryd.prog) w cs i ty hi h128
        generalize cs[i] = x at *
        have tx : ((x.toNat : Int) == 65533) = false := by simp; omega
        go_wp2
        go_roundg g
        case measure => omega
        case rel => exact ⟨i + 1, by omega, rfl⟩
  · have t1 : (r == 65533) = false := by simpa using he
    clear he
    cases hv : Lib.validRune r with
    | false =>
      have HV := Lib.hid hv
      clear hv
      go_enter Tryd.func31, Tryd.ntmps31
      go_wp2_with fail
      refine (Tryd.utf8_ValidRune _ _).mono ?_
      rintro e w' ⟨rfl, hw⟩
      rw [hw, HV.out]
      go_wp2_with fail
      go_ret
      exact ⟨rfl, Below.refl _ _⟩
    | true =>
      have HV := Lib.hid hv
      clear hv
      go_enter Tryd.func31, Tryd.ntmps31
      go_wp2_with fail
      refine (Tryd.utf8_ValidRune _ _).mono ?_
      rintro e w' ⟨rfl, hw⟩
      rw [hw, HV.out]
      go_wp2_with fail
      have hval : Utf8.valid r = true := by rw [validRune_eq]; exact HV.out
      have hF := encode_facts r hval h1
      obtain ⟨e, hee⟩ : ∃ e, Utf8.encode r = e := ⟨_, rfl⟩
      have hF2 : 2 ≤ e.size ∧ e.size ≤ 4 ∧ ∀ h : e.size - 1 < e.size, 128 ≤ (e[e.size - 1]'h).toNat := by rw [← hee]; exact hF
      obtain ⟨f1, f2, f3⟩ := hF2
      obtain ⟨last, hl1, hl2, f4, hl3, hl4⟩ : ∃ last : Nat, (e.size : Int) - 1 = last ∧ ∃ h : last < e.size, 128 ≤ e[last].toNat ∧ 1 ≤ last ∧ last ≤ 3 :=
        ⟨e.size - 1, by omega, by omega, f3 (by omega), by omega, by omega⟩
      have HE := Lib.hid hee
      have HL := Lib.hid hl1
      obtain ⟨g1, g2, _⟩ := hF
      clear hval f3 hee hl1
      go_step3
      go_wp2_with fail
      rw [HE.out, HL.out]
      by_cases hin : last < cs.size
      · have h128 := HC.out last hin
        have tne : ((cs[last].toNat : Int) == (e[last].toNat : Int)) = false := by simp; omega
        have tne2 : ((cs[last].toNat : Int) != (e[last].toNat : Int)) = true := by simp; omega
        have i1 : (last : Int) < (cs.size : Int) := by omega
        have i2 : (last : Int) < (e.size : Int) := by omega
        have e1 : IntKind.i64.wrap ((last : Int) + 1) = (last : Int) + 1 := IntWalk.i64_in _ (by omega)
        have i3 : (0 : Int) ≤ (last : Int) + 1 := by omega
        have i4 : (last : Int) + 1 ≤ (cs.size : Int) := by omega
        have i5 : ((last : Int) + 1).toNat = last + 1 := by omega
        have i6 : last + 1 ≤ cs.size := by omega
        have HIB := Lib.hid (fun w => indexByte_hi (cs.extract (last + 1) cs.size) e[last] w (fun i h => by rw [ByteArray.getElem_extract]; exact HC.out _ _) f4)
        refine wp_loop_rounds 1 ?_
        rw [rounds_succ]
        go_wp2_with fail
        go_step3
        go_wp2_with fail
        go_quiet (fail)
        go_wp2_with fail
        obtain ⟨w1, hw1, hb1⟩ : ∃ w1, w.drewN nq = w1 ∧ Below w.heap.size w w1 := ⟨_, rfl, below_drewN (Below.refl _ _) _⟩
        rw [hw1]
        clear hw1
        go_quiet ((go_at_call 37; exact Calls.quiet_of_same (HIB.out _)))
        go_wp2_with fail
        repeat rw [Exit.noGoto_ret]
        go_wp2
        repeat rw [Exit.noGoto_ret]
        go_ret
        exact ⟨rfl, below_drewN hb1 _⟩
      · refine wp_loop_rounds 1 ?_
        rw [rounds_succ]
        go_wp2_with fail
        rw [Exit.noGoto_ret]
        go_ret
        exact ⟨rfl, Below.refl _ _⟩

theorem decode_hi (s : ByteArray) (pos : Nat) (h : pos < s.size) (ha : 128 ≤ (s[pos]'h).toNat) :
    128 ≤ (Utf8.decode s pos).1 ∧ (Utf8.decode s pos).1 ≤ 1114111 ∧ 1 ≤ (Utf8.decode s pos).2 ∧ pos + (Utf8.decode s pos).2 ≤ s.size := by
  have e : s.get! (pos + 0) = s[pos]'h := by
    show s.get! pos = _
    simp [ByteArray.get!, getElem!_pos, h]
    rfl
  have hb : (s[pos]'h).toNat < 256 := UInt8.toNat_lt _
  have hr : (128 ≤ Utf8.runeError ∧ Utf8.runeError ≤ 1114111) ∧ 1 ≤ 1 ∧ pos + 1 ≤ s.size := ⟨by decide, by omega, by omega⟩
  simp only [Utf8.decode, e]
  rw [if_neg (by omega)]
  split
  · rename_i h1
    simp only [Bool.and_eq_true, decide_eq_true_eq] at h1
    split
    · refine ⟨by omega, ?_, by omega, by omega⟩
      simp only []
      omega
    · exact ⟨hr.1.1, hr.1.2, hr.2.1, hr.2.2⟩
  · split
    · rename_i h1
      simp only [Bool.and_eq_true, decide_eq_true_eq] at h1
      split
      · refine ⟨?_, ?_, by omega, by omega⟩
        · rename_i h2
          simp only [Bool.and_eq_true, decide_eq_true_eq] at h2
          simp only []
          omega
        · simp only []
          omega
      · exact ⟨hr.1.1, hr.1.2, hr.2.1, hr.2.2⟩
    · split
      · rename_i h1
        simp only [Bool.and_eq_true, decide_eq_true_eq] at h1
        split
        · rename_i h2
          simp only [Bool.and_eq_true, decide_eq_true_eq] at h2
          have hv : Utf8.valid ((((s[pos]'h).toNat % 8 * 262144 + (s.get! (pos + 1)).toNat % 64 * 4096 + (s.get! (pos + 2)).toNat % 64 * 64 + (s.get! (pos + 3)).toNat % 64 : Nat) : Int)) = true := h2.2
          rw [validRune_eq] at hv
          simp only [validRune, decide_eq_true_eq] at hv
          refine ⟨?_, ?_, by omega, by omega⟩
          · simp only []
            omega
          · simp only []
            omega
        · exact ⟨hr.1.1, hr.1.2, hr.2.1, hr.2.2⟩
      · exact ⟨hr.1.1, hr.1.2, hr.2.1, hr.2.2⟩

theorem none_any (s : ByteArray) (hno : ∀ i (h : i < s.size), ¬ s[i] = 32 ∧ ¬ s[i] = 9 ∧ ¬ s[i] = 35) : Lib.indexAny s.data.toList [32, 9, 35] = -1 := by
  apply Lib.indexAny_none
  intro j b hj hb
  have hj' : j < s.size := by rw [Lib.size_eq]; exact hj
  obtain ⟨h1, h2, h3⟩ := hno j hj'
  have hbe : s[j] = b := by
    have := (List.getElem?_eq_some_iff.1 hb).2
    exact this
  rw [hbe] at h1 h2 h3
  simp [h1, h2, h3]

set_option maxHeartbeats 800000 in
set_option maxRecDepth 100000 in
theorem indexAny_short (s : ByteArray) (w : World) (h8 : s.size ≤ 8) (hno : ∀ i (h : i < s.size), ¬ s[i] = 32 ∧ ¬ s[i] = 9 ∧ ¬ s[i] = 35) :
    Calls Tryd.prog 26 #[.string s, .string ⟨#[32, 9, 35]⟩] w fun e w' => e = .returned (.int .i64 (-1)) ∧ Below w.heap.size w w' := by
  have HN := Lib.hid hno
  clear hno
  have h8z : decide ((8 : Int) < (s.size : Int)) = false := decide_eq_false (by omega)
  go_enter Tryd.func26, Tryd.ntmps26
  go_wp2_with fail
  refine (Tryd.strings_shouldUseASCIISet _ _).mono ?_
  rintro e w' ⟨rfl, hw⟩
  rw [hw, h8z]
  go_wp2_with fail
  go_loopg [9, 10] s.size (fun g _ _ wx => ∃ i : Nat, i ≤ s.size ∧ s.size - i ≤ g ∧ wx.heap[w.heap.size]? = some (.stringIter s i) ∧ Below w.heap.size w wx)
  case atStart => exact ⟨0, by omega, by omega, World.iter_heap _ _ _, (Below.refl _ _).alloc (Nat.le_refl _) _⟩
  case round =>
    obtain ⟨i, hi, hig, hit, hb⟩ := hrel
    by_cases hlt : i < s.size
    · cases gk with
      | zero => omega
      | succ g =>
        have hnx := fun ty => Lib.run_next_any_at (P := Tryd.prog) wr w.heap.size s i ty hit hlt
        have hit2 := Lib.iterAt_heap wr w.heap.size s i (i + (Utf8.decode s i).2) hit
        have hb2 := Lib.below_iterAt hb (Nat.le_refl _) s (i + (Utf8.decode s i).2)
        have hsz2 : w.heap.size < (wr.iterAt w.heap.size s (i + (Utf8.decode s i).2)).heap.size := (Array.getElem?_eq_some_iff.1 hit2).1
        have HIT := Lib.hid hit2
        clear hit2 hit hb
        generalize wr.iterAt w.heap.size s (i + (Utf8.decode s i).2) = w2 at *
        by_cases h128 : (s[i]'hlt).toNat < 128
        · have hdec := decode_ascii s i hlt h128
          rw [hdec] at hnx HIT
          have hr : Lib.indexByte [32, 9, 35] ((s[i].toNat : Int)).toNat.toUInt8 = -1 := by
            obtain ⟨h1, h2, h3⟩ := HN.out i hlt
            have e : ((s[i].toNat : Int)).toNat.toUInt8 = s[i] := by simp
            rw [e]
            simp [Lib.indexByte, Ne.symm h1, Ne.symm h2, Ne.symm h3]
          have HR := Lib.hid hr
          clear hr hdec
          go_wp2_with fail
          refine (Tryd.strings_IndexRune_ascii _ _ _ (by omega) (by omega)).mono ?_
          rintro e w' ⟨rfl, hw⟩
          rw [hw]
          rw [show Lib.indexByte (⟨#[32, 9, 35]⟩ : ByteArray).data.toList ((s[i].toNat : Int)).toNat.toUInt8 = -1 from HR.out]
          clear hw
          go_wp2
          go_roundg g
          case measure => omega
          case rel => exact ⟨i + 1, by omega, by omega, HIT.out, hb2⟩
        · obtain ⟨d1, d2, d3, d4⟩ := decode_hi s i hlt (by omega)
          generalize (Utf8.decode s i).1 = r at *
          generalize (Utf8.decode s i).2 = wd at *
          have hcs : ∀ j (h : j < (⟨#[32, 9, 35]⟩ : ByteArray).size), (⟨#[32, 9, 35]⟩ : ByteArray)[j].toNat < 128 := by
            intro j h
            match j, h with
            | 0, _ => show (32 : UInt8).toNat < 128; decide
            | 1, _ => show (9 : UInt8).toNat < 128; decide
            | 2, _ => show (35 : UInt8).toNat < 128; decide
          have HCS := Lib.hid hcs
          clear hcs
          go_wp2_with fail
          refine (indexRune_hi ⟨#[32, 9, 35]⟩ _ _ HCS.out (by omega) (by omega)).mono ?_
          rintro e w3 ⟨rfl, hb3⟩
          have hit3 : w3.heap[w.heap.size]? = some (.stringIter s (i + wd)) := by
            rw [hb3.block _ hsz2]; exact HIT.out
          have hb4 := hb2.trans (hb3.mono (Nat.le_of_lt hsz2))
          have HIT3 := Lib.hid hit3
          clear hit3 hb3 hb2 hnx
          go_wp2
          go_roundg g
          case measure => omega
          case rel => exact ⟨i + wd, by omega, by omega, HIT3.out, hb4⟩
    · have hnx := fun ty => Lib.run_next_end_at (P := Tryd.prog) wr w.heap.size s i ty hit hlt
      have HB := Lib.hid hb
      clear hit hb
      go_wp2
      go_ret
      exact ⟨rfl, HB.out⟩

theorem contains_none (s : ByteArray) (w : World) (hs : s.size ≤ 2147483648) (hno : ∀ i (h : i < s.size), ¬ s[i] = 32 ∧ ¬ s[i] = 9 ∧ ¬ s[i] = 35) :
    Calls Tryd.prog 13 #[.string s, .string ⟨#[32, 9, 35]⟩] w fun e w' => e = .returned (.bool false) ∧ Below w.heap.size w w' := by
  have key : Calls Tryd.prog 26 #[.string s, .string ⟨#[32, 9, 35]⟩] w fun e w' => e = .returned (.int .i64 (-1)) ∧ Below w.heap.size w w' := by
    by_cases h8 : s.size ≤ 8
    · exact indexAny_short s w h8 hno
    · refine (Tryd.strings_IndexAny_long (fun _ => by kernel_rfl) s ⟨#[32, 9, 35]⟩ w (by decide) (by omega) (by omega) (by decide) ?_).mono ?_
      · intro j b hj
        match j, hj with
        | 0, hj => simp at hj; subst hj; decide
        | 1, hj => simp at hj; subst hj; decide
        | 2, hj => simp at hj; subst hj; decide
      · rintro e w' ⟨rfl, rfl⟩
        exact ⟨by rw [show Lib.indexAny s.data.toList (⟨#[32, 9, 35]⟩ : ByteArray).data.toList = -1 from none_any s hno], ((Below.refl _ _).alloc (Nat.le_refl _) _).alloc (by simp) _⟩
  have HK := Lib.hid key
  clear key hno
  go_enter Tryd.func13, Tryd.ntmps13
  go_wp2_with fail
  refine HK.out.mono ?_
  rintro e w' ⟨rfl, hb⟩
  go_wp2
  go_ret
  exact ⟨rfl, hb⟩
end Go.Proofs.YtjlojnmbjdkpiaaDoor
