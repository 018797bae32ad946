/- The walk of the statement WordInts. -/
import Derived.Test.YtjlojnmbjdkpiaaDoorWalkL
import Derived.Test.YtjlojnmbjdkpiaaDoorWalkH
namespace Go.Proofs.YtjlojnmbjdkpiaaDoor
open Go.RowKit WPlain

theorem refInt_any (s : ByteArray) (w : World) (hs : s.size ≤ 4294967280) :
    Calls Tryd.prog 7 #[.string s] w fun e w' => e = .returned (.agg #[.int .i64 (intSpec s.data.toList).1, .int .i64 (intSpec s.data.toList).2]) ∧ Below w.heap.size w w' := by
  have key : ∀ b : Bool, Lib.hasPrefix s.data.toList [45] = b → ∀ d : List UInt8, Lib.trimPrefix s.data.toList [45] = d →
      (if refDigs d = true ∧ ¬ (b = true ∧ d = [48]) then (if aboveB d (most b) = true then #[Value.int .i64 0, .int .i64 3] else #[.int .i64 (sgn b (val d)), .int .i64 0]) else #[.int .i64 0, .int .i64 2]) =
      #[.int .i64 (intSpec s.data.toList).1, .int .i64 (intSpec s.data.toList).2] := by
    intro b hb d hd
    subst hb hd
    split
    · rename_i h
      rw [intSpec_num _ h.1 h.2]
      split <;> rfl
    · rename_i h
      rw [intSpec_syn _ h]
  rcases hasP_one s 45 with ⟨hp, h0, h45⟩ | ⟨hp, h45⟩
  · have ht : Lib.trimPrefix s.data.toList [45] = (s.extract 1 s.size).data.toList := by
      unfold Lib.trimPrefix; rw [hp, if_pos rfl, Lib.extract_data, Lib.size_eq]
      rw [List.take_of_length_le (by rw [List.length_drop]; omega)]
      rfl
    refine (refInt_neg s _ w hs h0 h45 rfl).mono fun e w' ⟨he, hb⟩ => ⟨?_, hb⟩
    rw [he, key true hp _ ht]
  · have ht : Lib.trimPrefix s.data.toList [45] = s.data.toList := by
      unfold Lib.trimPrefix; rw [hp]; rfl
    refine (refInt_pos s _ w hs h45 rfl).mono fun e w' ⟨he, hb⟩ => ⟨?_, hb⟩
    rw [he, key false hp _ ht]

theorem size_extract0 (s : ByteArray) (n : Nat) (h : n ≤ s.size) : (s.extract 0 n).size = n := by simp [ByteArray.size_extract]; omega

theorem gPow : Tryd.prog.globalNamed "internal/strconv.uint64pow10" = some 1 := by kernel_rfl
theorem TabIs.later {w w' : World} {B : Nat} (h : Lib.TabIs Tryd.prog w "internal/strconv.uint64pow10" .u64 Lib.pow10Tab) (hb : Below B w w') (hB : w.heap.size ≤ B) : Lib.TabIs Tryd.prog w' "internal/strconv.uint64pow10" .u64 Lib.pow10Tab := by
  have h0 := h.cell gPow 0 (by decide)
  exact var?_below hb gPow (Nat.lt_of_lt_of_le (World.block_lt_of_cell? w _ h0) hB) h

set_option maxHeartbeats 1600000 in
theorem ints_any (s : ByteArray) (n : Int) (w : World) (hs : s.size ≤ maxLen) (hm : HasM w) (htab : Lib.TabIs Tryd.prog w "internal/strconv.uint64pow10" .u64 Lib.pow10Tab) :
    Calls Tryd.prog 3 #[.string s, .int .i64 n] w fun e w' => e = .returned (.bool true) ∧ Below w.heap.size w w' := by
  unfold maxLen at hs
  have HT : Hid (∀ w : World, HasM w → Lib.TabIs Tryd.prog w "internal/strconv.uint64pow10" .u64 Lib.pow10Tab → (inR n = true → ∃ b : ByteArray, ∀ w : World, HasM w → Lib.TabIs Tryd.prog w "internal/strconv.uint64pow10" .u64 Lib.pow10Tab →
       (Calls Tryd.prog 6 #[.int .i64 n] w fun e w' => e = .returned (.tuple #[.string b, .int .i64 0]) ∧ Below w.heap.size w w') ∧
       (Calls Tryd.prog 10 #[.int .i64 n] w fun e w' => e = .returned (.string b) ∧ w = w'))) := by
    intro _ _ _ hin
    simp only [inR, Bool.and_eq_true, decide_eq_true_eq] at hin
    exact ⟨_, fun w hm ht => ⟨text_yes n w hin.1 hin.2 ht, refText_any n w hin.1 hin.2⟩⟩
  have HTW := Lib.hid htab
  have htb : ∀ {w' : World} {B : Nat}, Below B w w' → w.heap.size ≤ B → Lib.TabIs Tryd.prog w' "internal/strconv.uint64pow10" .u64 Lib.pow10Tab := fun hb hB => TabIs.later HTW.out hb hB
  have HTB : Hid (∀ (w' : World) (B : Nat), Below B w w' → w.heap.size ≤ B → Lib.TabIs Tryd.prog w' "internal/strconv.uint64pow10" .u64 Lib.pow10Tab) := fun w' B => htb
  have HT2 := Lib.hid (HT.out w hm htab)
  clear htab htb HT
  cases hin : inR n with
  | true =>
    obtain ⟨b, hbt⟩ := HT2.out hin
    have HBT := Lib.hid hbt
    have HIN := Lib.hid hin
    clear hin hbt HT2
    go_enter Tryd.func3, Tryd.ntmps3
    go_wp2_with fail
    obtain ⟨t, ht, hts⟩ : ∃ t : ByteArray, s.extract 0 (min (s.size : Int) 200).toNat = t ∧ t.size ≤ 200 := ⟨_, rfl, by rw [size_extract0 _ _ (by omega)]; omega⟩
    rw [ht]
    clear ht
    have hI1 := fun w => int_any t w (by omega)
    have hI2 := fun w => refInt_any t w (by omega)
    generalize (intSpec t.data.toList).1 = p at *
    generalize (intSpec t.data.toList).2 = q at *
    have HI1 := Lib.hid hI1
    have HI2 := Lib.hid hI2
    clear hI1 hI2
    refine (HI1.out _).mono ?_
    rintro e w1 ⟨rfl, hb1⟩
    have hm1 := hm.later hb1 (Nat.le_refl _)
    go_wp2_with fail
    refine (HBT.out w1 hm1 (HTB.out _ _ hb1 (Nat.le_refl _))).1.mono ?_
    rintro e w2 ⟨rfl, hb2⟩
    have hb3 := hb1.trans (hb2.mono hb1.size)
    have hm2 := hm.later hb3 (Nat.le_refl _)
    clear hb1 hb2 hm1
    go_wp2_with fail
    refine (HI2.out _).mono ?_
    rintro e w3 ⟨rfl, hb4⟩
    have hb5 := hb3.trans (hb4.mono hb3.size)
    clear hb3 hb4 hm2
    go_wp2_with fail
    have hA := At.new w3 #[.int .i64 p, .int .i64 q] 28
    have hb6 := hb5.alloc hb5.size (.cells #[.int .i64 p, .int .i64 q] 28)
    have hm6 := hm.later hb6 (Nat.le_refl _)
    refine (alive_any _ hm6).mono ?_
    rintro e w7 ⟨rfl, hb7⟩
    have hb8 := hb6.trans (hb7.mono hb6.size)
    have hm8 := hm.later hb8 (Nat.le_refl _)
    clear hA hb5 hb6 hb7 hm6
    go_wp2_with fail
    refine (refNumber_any _ _).mono ?_
    rintro e w' ⟨rfl, rfl⟩
    rw [HIN.out]
    go_wp2_with fail
    refine (HBT.out w7 hm8 (HTB.out _ _ hb8 (Nat.le_refl _))).2.mono ?_
    rintro e w' ⟨rfl, rfl⟩
    go_wp2_with fail
    go_ret
    exact ⟨rfl, hb8⟩
  | false =>
    have HIN := Lib.hid hin
    clear hin
    go_enter Tryd.func3, Tryd.ntmps3
    go_wp2_with fail
    obtain ⟨t, ht, hts⟩ : ∃ t : ByteArray, s.extract 0 (min (s.size : Int) 200).toNat = t ∧ t.size ≤ 200 := ⟨_, rfl, by rw [size_extract0 _ _ (by omega)]; omega⟩
    rw [ht]
    clear ht
    have hI1 := fun w => int_any t w (by omega)
    have hI2 := fun w => refInt_any t w (by omega)
    generalize (intSpec t.data.toList).1 = p at *
    generalize (intSpec t.data.toList).2 = q at *
    have HI1 := Lib.hid hI1
    have HI2 := Lib.hid hI2
    clear hI1 hI2
    refine (HI1.out _).mono ?_
    rintro e w1 ⟨rfl, hb1⟩
    have hm1 := hm.later hb1 (Nat.le_refl _)
    go_wp2_with fail
    refine (text_no _ _ HIN.out).mono ?_
    rintro e w2 ⟨rfl, hw⟩
    subst hw
    have hb3 := hb1
    have hm2 := hm1
    clear hb1 hm1
    go_wp2_with fail
    refine (HI2.out _).mono ?_
    rintro e w3 ⟨rfl, hb4⟩
    have hb5 := hb3.trans (hb4.mono hb3.size)
    clear hb3 hb4 hm2
    go_wp2_with fail
    have hA := At.new w3 #[.int .i64 p, .int .i64 q] 28
    have hb6 := hb5.alloc hb5.size (.cells #[.int .i64 p, .int .i64 q] 28)
    have hm6 := hm.later hb6 (Nat.le_refl _)
    refine (alive_any _ hm6).mono ?_
    rintro e w7 ⟨rfl, hb7⟩
    have hb8 := hb6.trans (hb7.mono hb6.size)
    have hm8 := hm.later hb8 (Nat.le_refl _)
    clear hA hb5 hb6 hb7 hm6
    go_wp2_with fail
    refine (refNumber_any _ _).mono ?_
    rintro e w' ⟨rfl, rfl⟩
    rw [HIN.out]
    go_wp2_with fail
    go_ret
    exact ⟨rfl, hb8⟩
end Go.Proofs.YtjlojnmbjdkpiaaDoor
