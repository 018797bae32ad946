/- The walk of WorldOne. -/
import Derived.Test.YtpjfhdljagkefaaGreatDoorMg25
import Derived.Test.YtpjfhdljagkefaaGreatDoorMg26
import Derived.Test.YtpjfhdljagkefaaGreatDoorMg21
import Derived.Deep.RegionHeld
import Derived.Deep.DeepMust
namespace Go.Proofs.YtpjfhdljagkefaaGreatDoor.WPlain
end Go.Proofs.YtpjfhdljagkefaaGreatDoor.WPlain
namespace Go.Proofs.YtpjfhdljagkefaaGreatDoor.QPlain
end Go.Proofs.YtpjfhdljagkefaaGreatDoor.QPlain
namespace Go.Proofs.YtpjfhdljagkefaaGreatDoor.RPlain
end Go.Proofs.YtpjfhdljagkefaaGreatDoor.RPlain
namespace Go.Proofs.YtpjfhdljagkefaaGreatDoor
open Go.RowKit WPlain QPlain RPlain

theorem oneG_len {B : Nat} {l : List Tx} {t c n : Nat} : ∀ (ps : List (Nat × List Nat)) (s : Nat), (∀ p ∈ ps, p.2.length ≤ n) → (oneG B l t c ps s).2.2.1.length ≤ n
  | [], _, _ => Nat.zero_le _
  | p :: r, s, h => by
    rw [oneG]
    by_cases h1 : s = B
    · rw [if_pos h1]; exact Nat.zero_le _
    · rw [if_neg h1]
      by_cases h2 : tellW l t c p.2 = true
      · rw [if_pos h2]; exact h p (List.mem_cons_self ..)
      · rw [if_neg h2]; exact oneG_len r (s + 1) fun q hq => h q (List.mem_cons_of_mem _ hq)
theorem oneS_len {B : Nat} {l : List Tx} {t c s : Nat} : (oneS B l t c s).2.2.1.length ≤ l.length := by
  refine oneG_len _ _ fun p hp => ?_
  obtain ⟨-, -, -, hr⟩ := pairsW_mem.1 (show (p.1, p.2) ∈ pairsW l t c from hp)
  obtain ⟨hd, hm, -⟩ := rowsW_mem.1 hr
  have := nodup_le p.2 (List.range l.length) hd (fun x hx => List.mem_range.2 ((hm x).1 hx).1)
  rwa [List.length_range] at this
theorem oneF_bad {h : List Ev} {t : Int} {c : Nat} {B : Int} (he : oneE h t c B ≠ 0) : oneF h t c B = (0, 0, [], 0) := if_neg he
theorem rowE_in {h : List Ev} {c : Nat} {B : Int} (h0 : srchE h B = 0) (hc : c < 2 ^ (tableS h).length) : rowE h 0 c B = 0 := by
  unfold rowE
  rw [if_pos h0, if_pos (by rw [Nat.zero_or]; exact hc)]
theorem rowE_out {h : List Ev} {c : Nat} {B : Int} (h0 : srchE h B = 0) (hc : ¬ c < 2 ^ (tableS h).length) : rowE h 0 c B = 7 := by
  unfold rowE
  rw [if_pos h0, if_neg (by rw [Nat.zero_or]; exact hc)]
theorem rowE_bad {h : List Ev} {c : Nat} {B : Int} (h0 : srchE h B ≠ 0) : rowE h 0 c B = srchE h B := by
  unfold rowE
  rw [if_neg h0]
theorem oneE_row {h : List Ev} {t : Int} {c : Nat} {B : Int} (h0 : rowE h 0 c B ≠ 0) : oneE h t c B = rowE h 0 c B := if_neg h0
theorem choice_in {l : List Tx} {c : Nat} (h6 : l.length ≤ 6) (hc : c < 2 ^ l.length) : choiceS l c = (chL l).contains c := by
  rw [← choices_chL h6]
  have h64 := Nat.lt_of_lt_of_le hc (pow_le_64 h6)
  cases h : choiceS l c with
  | true => exact (List.contains_iff_mem.2 (List.mem_filter.2 ⟨List.mem_range.2 h64, h⟩)).symm
  | false =>
    symm
    rw [← Bool.not_eq_true, List.contains_iff_mem]
    intro hm
    rw [(List.mem_filter.1 hm).2] at h
    cases h

set_option maxRecDepth 100000 in
set_option maxHeartbeats 8000000 in
theorem worOne_walk (a : Option Addr) (n m k : Nat) (h : List Ev) (t : Int) (c : Nat) (B : Int) (w : World) (hK : HasK w) (hn : n ≤ k) (HAE : Hid ((min (n : Int) 65).toNat = m)) (hmn : m ≤ n) (hv : Evs w (.slice a m k) h) (h1 : h.length = m) (hm1 : m ≤ 65) (hc32 : c < 4294967296) :
    Calls Tryz.prog 3 #[.slice a n k, .int .i64 t, .int .u32 (c : Int), .int .i64 B] w fun e w' => e = .returned (.bool true) ∧ Below w.heap.size w w' := by
  have HROW := Lib.hid (oneW_any _ h t c B w hK hv (by omega) hc32)
  have HALV := Lib.hid (fun (W : World) (hW : Below w.heap.size w W) => aliveW_any W (hK.later hW (Nat.le_refl _)))
  have HWHY := Lib.hid (fun (W : World) (hW : Below w.heap.size w W) => refWhyS_any _ h B W (hv.below hW (Nat.le_refl _)) (by omega) (capE (by omega)))
  have HOF := Lib.hid (fun (W : World) (hW : Below w.heap.size w W) => refOfS_any _ h W (hv.below hW (Nat.le_refl _)) (by omega) (capE (by omega)))
  have HO0 := Lib.hid (fun (W : World) (hW : Below w.heap.size w W) => refOfS_any (.slice a 0 k) [] W (evs_cutP (hv.below hW (Nat.le_refl _)) 0 (Nat.zero_le _)) (Nat.zero_le _) (capE (Nat.zero_le _)))
  clear hK hv
  by_cases h0 : srchE h B = 0
  · obtain ⟨hc0, hB0, hB1⟩ := srchE_zero h0
    have h6 := table_six hc0
    simp only [h0] at HWHY
    have HL : Hid ((tableS h).length ≤ 65536) := by show _ ≤ _; omega
    by_cases hcl : c < 2 ^ (tableS h).length
    · have HBIT : Hid (decide (c < 2 ^ (tableS h).length) = true) := decide_eq_true hcl
      have hrow := rowE_in h0 hcl
      by_cases ht0 : t < 0
      · have htt : t < 0 ∨ ((tableS h).length : Int) ≤ t := .inl ht0
        have hone : oneE h t c B = 7 := by unfold oneE; rw [if_pos hrow, if_pos htt]
        rw [oneF_bad (by rw [hone]; decide), hone] at HROW
        unfold fndV at HROW
        clear hone
        clear hrow htt h0 hc0 hcl
        go_enter Tryz.func3, Tryz.ntmps3
        go_upto_region 2 with fail
        rw [HAE.out]
        go_wp2_with fail
        refine HROW.out.mono ?_
        rintro e w1 ⟨rv, rfl, hr1, hb1⟩
        obtain ⟨rb, rc, rfl⟩ := hr1.len
        obtain ⟨rn, hrn⟩ : ∃ z, (nats []).length = z := ⟨_, rfl⟩
        rw [hrn] at hr1 ⊢
        obtain ⟨N9, hN9⟩ : ∃ z, w1.heap.size = z := ⟨_, rfl⟩
        obtain ⟨w2, hw2⟩ : ∃ z, w1.alloc (.cells #[.int .i64 0, .int .u32 0, .slice rb rn rc, .int .i64 0] 26) = z := ⟨_, rfl⟩
        have ha9 : At w2 N9 #[.int .i64 0, .int .u32 0, .slice rb rn rc, .int .i64 0] 26 := by
          rw [← hw2, ← hN9]; exact At.new w1 _ _
        have hb12 : Below w1.heap.size w1 w2 := by rw [← hw2]; exact (Below.refl _ w1).alloc (Nat.le_refl _) _
        have HB2 := Lib.hid (hb1.trans (hb12.mono hb1.size))
        have HA9 := Lib.hid ha9
        have HR2 := Lib.hid (hr1.below hb12 (Nat.le_refl _))
        have HW2 := Lib.hid hw2
        clear hr1 hb1 ha9 hb12 HROW hw2
        go_wp2_with fail
        rw [HW2.out]
        clear HW2
        refine (HWHY.out w2 HB2.out).mono ?_
        rintro e w3 ⟨rfl, hb3⟩
        have HB3 := Lib.hid (HB2.out.trans (hb3.mono HB2.out.size))
        have HA3 := Lib.hid (HA9.out.below hb3 HA9.out.lt)
        have HR3 := Lib.hid (HR2.out.below hb3 (Nat.le_refl _))
        clear hb3 HA9 HR2 HB2
        go_wp2_with fail
        refine (HO0.out w3 HB3.out).mono ?_
        rintro e w4 ⟨lv, rfl, ht4, hb4⟩
        obtain ⟨la, lc, rfl⟩ := ht4.len
        have HB4 := Lib.hid (HB3.out.trans (hb4.mono HB3.out.size))
        have HA4 := Lib.hid (HA3.out.below hb4 HA3.out.lt)
        have HR4 := Lib.hid (HR3.out.below hb4 (Nat.le_refl _))
        clear hb4 ht4 HA3 HR3 HB3
        go_wp2_with fail
        refine (HOF.out w4 HB4.out).mono ?_
        rintro e w5 ⟨lv5, rfl, ht5, hb5⟩
        obtain ⟨ma, mc, rfl⟩ := ht5.len
        have HB5 := Lib.hid (HB4.out.trans (hb5.mono HB4.out.size))
        have HA5 := Lib.hid (HA4.out.below hb5 HA4.out.lt)
        have HR5 := Lib.hid (HR4.out.below hb5 (Nat.le_refl _))
        have HT5 := Lib.hid ht5
        have hbi := refBitsS_any _ _ c w5 ht5 HL.out hc32
        rw [HBIT.out] at hbi
        have HBI := Lib.hid hbi
        clear hb5 ht5 hbi HA4 HR4 HB4 HOF HO0 HWHY
        go_wp2_with fail
        refine HBI.out.mono ?_
        rintro e w6 ⟨rfl, hw6⟩
        have hw6 := hw6.symm
        subst hw6
        go_wp2_with fail
        refine (HALV.out w5 HB5.out).mono ?_
        rintro e w7 ⟨rfl, hb7⟩
        have HB7 := Lib.hid (HB5.out.trans (hb7.mono HB5.out.size))
        have ha7 := HA5.out.below hb7 HA5.out.lt
        have HR7 := Lib.hid (HR5.out.below hb7 (Nat.le_refl _))
        have q0 : w7.cell? ⟨N9, 0, none⟩ = some (.int .i64 0) := ha7.cell rfl
        have q1 : w7.cell? ⟨N9, 1, none⟩ = some (.int .u32 0) := ha7.cell rfl
        have q2 : w7.cell? ⟨N9, 2, none⟩ = some (.slice rb rn rc) := ha7.cell rfl
        have q3 : w7.cell? ⟨N9, 3, none⟩ = some (.int .i64 0) := ha7.cell rfl
        have HSM := Lib.hid (refSame_same 0 0 0 [] (.slice rb rn rc) (.slice none 0 0) w7 HR7.out (.inl ⟨rfl, _, _, rfl⟩) (by decide))
        clear hb7 ha7 HB5 HA5 HR5 hrn
        go_wp2_with fail
        refine HSM.out.mono ?_
        rintro e w8 ⟨rfl, hb8⟩
        have HB8 := Lib.hid (HB7.out.trans (hb8.mono HB7.out.size))
        clear hb8
        go_wp2_with fail
        go_ret
        exact ⟨rfl, HB8.out⟩
      · by_cases htn : ((tableS h).length : Int) ≤ t
        · have htt : t < 0 ∨ ((tableS h).length : Int) ≤ t := .inr htn
          have hone : oneE h t c B = 7 := by unfold oneE; rw [if_pos hrow, if_pos htt]
          rw [oneF_bad (by rw [hone]; decide), hone] at HROW
          unfold fndV at HROW
          clear hone
          clear hrow htt h0 hc0 hcl
          go_enter Tryz.func3, Tryz.ntmps3
          go_upto_region 2 with fail
          rw [HAE.out]
          go_wp2_with fail
          refine HROW.out.mono ?_
          rintro e w1 ⟨rv, rfl, hr1, hb1⟩
          obtain ⟨rb, rc, rfl⟩ := hr1.len
          obtain ⟨rn, hrn⟩ : ∃ z, (nats []).length = z := ⟨_, rfl⟩
          rw [hrn] at hr1 ⊢
          obtain ⟨N9, hN9⟩ : ∃ z, w1.heap.size = z := ⟨_, rfl⟩
          obtain ⟨w2, hw2⟩ : ∃ z, w1.alloc (.cells #[.int .i64 0, .int .u32 0, .slice rb rn rc, .int .i64 0] 26) = z := ⟨_, rfl⟩
          have ha9 : At w2 N9 #[.int .i64 0, .int .u32 0, .slice rb rn rc, .int .i64 0] 26 := by
            rw [← hw2, ← hN9]; exact At.new w1 _ _
          have hb12 : Below w1.heap.size w1 w2 := by rw [← hw2]; exact (Below.refl _ w1).alloc (Nat.le_refl _) _
          have HB2 := Lib.hid (hb1.trans (hb12.mono hb1.size))
          have HA9 := Lib.hid ha9
          have HR2 := Lib.hid (hr1.below hb12 (Nat.le_refl _))
          have HW2 := Lib.hid hw2
          clear hr1 hb1 ha9 hb12 HROW hw2
          go_wp2_with fail
          rw [HW2.out]
          clear HW2
          refine (HWHY.out w2 HB2.out).mono ?_
          rintro e w3 ⟨rfl, hb3⟩
          have HB3 := Lib.hid (HB2.out.trans (hb3.mono HB2.out.size))
          have HA3 := Lib.hid (HA9.out.below hb3 HA9.out.lt)
          have HR3 := Lib.hid (HR2.out.below hb3 (Nat.le_refl _))
          clear hb3 HA9 HR2 HB2
          go_wp2_with fail
          refine (HO0.out w3 HB3.out).mono ?_
          rintro e w4 ⟨lv, rfl, ht4, hb4⟩
          obtain ⟨la, lc, rfl⟩ := ht4.len
          have HB4 := Lib.hid (HB3.out.trans (hb4.mono HB3.out.size))
          have HA4 := Lib.hid (HA3.out.below hb4 HA3.out.lt)
          have HR4 := Lib.hid (HR3.out.below hb4 (Nat.le_refl _))
          clear hb4 ht4 HA3 HR3 HB3
          go_wp2_with fail
          refine (HOF.out w4 HB4.out).mono ?_
          rintro e w5 ⟨lv5, rfl, ht5, hb5⟩
          obtain ⟨ma, mc, rfl⟩ := ht5.len
          have HB5 := Lib.hid (HB4.out.trans (hb5.mono HB4.out.size))
          have HA5 := Lib.hid (HA4.out.below hb5 HA4.out.lt)
          have HR5 := Lib.hid (HR4.out.below hb5 (Nat.le_refl _))
          have HT5 := Lib.hid ht5
          have hbi := refBitsS_any _ _ c w5 ht5 HL.out hc32
          rw [HBIT.out] at hbi
          have HBI := Lib.hid hbi
          clear hb5 ht5 hbi HA4 HR4 HB4 HOF HO0 HWHY
          go_wp2_with fail
          refine HBI.out.mono ?_
          rintro e w6 ⟨rfl, hw6⟩
          have hw6 := hw6.symm
          subst hw6
          go_wp2_with fail
          refine (HALV.out w5 HB5.out).mono ?_
          rintro e w7 ⟨rfl, hb7⟩
          have HB7 := Lib.hid (HB5.out.trans (hb7.mono HB5.out.size))
          have ha7 := HA5.out.below hb7 HA5.out.lt
          have HR7 := Lib.hid (HR5.out.below hb7 (Nat.le_refl _))
          have q0 : w7.cell? ⟨N9, 0, none⟩ = some (.int .i64 0) := ha7.cell rfl
          have q1 : w7.cell? ⟨N9, 1, none⟩ = some (.int .u32 0) := ha7.cell rfl
          have q2 : w7.cell? ⟨N9, 2, none⟩ = some (.slice rb rn rc) := ha7.cell rfl
          have q3 : w7.cell? ⟨N9, 3, none⟩ = some (.int .i64 0) := ha7.cell rfl
          have HSM := Lib.hid (refSame_same 0 0 0 [] (.slice rb rn rc) (.slice none 0 0) w7 HR7.out (.inl ⟨rfl, _, _, rfl⟩) (by decide))
          clear hb7 ha7 HB5 HA5 HR5 hrn
          go_wp2_with fail
          refine HSM.out.mono ?_
          rintro e w8 ⟨rfl, hb8⟩
          have HB8 := Lib.hid (HB7.out.trans (hb8.mono HB7.out.size))
          clear hb8
          go_wp2_with fail
          go_ret
          exact ⟨rfl, HB8.out⟩
        · have htt : ¬ (t < 0 ∨ ((tableS h).length : Int) ≤ t) := fun hh => by rcases hh with hh | hh <;> omega
          have hch := choice_in h6 hcl
          have HCHO := Lib.hid (fun (W : World) (v : Value) (ht : Txs W v (tableS h)) => refChoice_any v (tableS h) c W ht HL.out hc32)
          rw [hch] at HCHO
          clear hch
          cases hcc : (chL (tableS h)).contains c with
          | false =>
            rw [hcc] at HCHO
            have hone : oneE h t c B = 1 := by unfold oneE; rw [if_pos hrow, if_neg htt, if_neg (by rw [hcc]; decide)]
            rw [oneF_bad (by rw [hone]; decide), hone] at HROW
            unfold fndV at HROW
            clear hone
            clear hrow htt h0 hc0 hcl hcc
            go_enter Tryz.func3, Tryz.ntmps3
            go_upto_region 2 with fail
            rw [HAE.out]
            go_wp2_with fail
            refine HROW.out.mono ?_
            rintro e w1 ⟨rv, rfl, hr1, hb1⟩
            obtain ⟨rb, rc, rfl⟩ := hr1.len
            obtain ⟨rn, hrn⟩ : ∃ z, (nats []).length = z := ⟨_, rfl⟩
            rw [hrn] at hr1 ⊢
            obtain ⟨N9, hN9⟩ : ∃ z, w1.heap.size = z := ⟨_, rfl⟩
            obtain ⟨w2, hw2⟩ : ∃ z, w1.alloc (.cells #[.int .i64 0, .int .u32 0, .slice rb rn rc, .int .i64 0] 26) = z := ⟨_, rfl⟩
            have ha9 : At w2 N9 #[.int .i64 0, .int .u32 0, .slice rb rn rc, .int .i64 0] 26 := by
              rw [← hw2, ← hN9]; exact At.new w1 _ _
            have hb12 : Below w1.heap.size w1 w2 := by rw [← hw2]; exact (Below.refl _ w1).alloc (Nat.le_refl _) _
            have HB2 := Lib.hid (hb1.trans (hb12.mono hb1.size))
            have HA9 := Lib.hid ha9
            have HR2 := Lib.hid (hr1.below hb12 (Nat.le_refl _))
            have HW2 := Lib.hid hw2
            clear hr1 hb1 ha9 hb12 HROW hw2
            go_wp2_with fail
            rw [HW2.out]
            clear HW2
            refine (HWHY.out w2 HB2.out).mono ?_
            rintro e w3 ⟨rfl, hb3⟩
            have HB3 := Lib.hid (HB2.out.trans (hb3.mono HB2.out.size))
            have HA3 := Lib.hid (HA9.out.below hb3 HA9.out.lt)
            have HR3 := Lib.hid (HR2.out.below hb3 (Nat.le_refl _))
            clear hb3 HA9 HR2 HB2
            go_wp2_with fail
            refine (HO0.out w3 HB3.out).mono ?_
            rintro e w4 ⟨lv, rfl, ht4, hb4⟩
            obtain ⟨la, lc, rfl⟩ := ht4.len
            have HB4 := Lib.hid (HB3.out.trans (hb4.mono HB3.out.size))
            have HA4 := Lib.hid (HA3.out.below hb4 HA3.out.lt)
            have HR4 := Lib.hid (HR3.out.below hb4 (Nat.le_refl _))
            clear hb4 ht4 HA3 HR3 HB3
            go_wp2_with fail
            refine (HOF.out w4 HB4.out).mono ?_
            rintro e w5 ⟨lv5, rfl, ht5, hb5⟩
            obtain ⟨ma, mc, rfl⟩ := ht5.len
            have HB5 := Lib.hid (HB4.out.trans (hb5.mono HB4.out.size))
            have HA5 := Lib.hid (HA4.out.below hb5 HA4.out.lt)
            have HR5 := Lib.hid (HR4.out.below hb5 (Nat.le_refl _))
            have HT5 := Lib.hid ht5
            have hbi := refBitsS_any _ _ c w5 ht5 HL.out hc32
            rw [HBIT.out] at hbi
            have HBI := Lib.hid hbi
            clear hb5 ht5 hbi HA4 HR4 HB4 HOF HO0 HWHY
            go_wp2_with fail
            refine HBI.out.mono ?_
            rintro e w6 ⟨rfl, hw6⟩
            have hw6 := hw6.symm
            subst hw6
            go_wp2_with fail
            refine (HCHO.out w5 _ HT5.out).mono ?_
            rintro e w9 ⟨rfl, hb9⟩
            have HB9 := Lib.hid (HB5.out.trans (hb9.mono HB5.out.size))
            have HA9 := Lib.hid (HA5.out.below hb9 HA5.out.lt)
            have HR9 := Lib.hid (HR5.out.below hb9 (Nat.le_refl _))
            clear hb9 HA5 HR5 HB5 HT5 HCHO
            go_wp2_with fail
            refine (HALV.out w9 HB9.out).mono ?_
            rintro e w7 ⟨rfl, hb7⟩
            have HB7 := Lib.hid (HB9.out.trans (hb7.mono HB9.out.size))
            have ha7 := HA9.out.below hb7 HA9.out.lt
            have HR7 := Lib.hid (HR9.out.below hb7 (Nat.le_refl _))
            have q0 : w7.cell? ⟨N9, 0, none⟩ = some (.int .i64 0) := ha7.cell rfl
            have q1 : w7.cell? ⟨N9, 1, none⟩ = some (.int .u32 0) := ha7.cell rfl
            have q2 : w7.cell? ⟨N9, 2, none⟩ = some (.slice rb rn rc) := ha7.cell rfl
            have q3 : w7.cell? ⟨N9, 3, none⟩ = some (.int .i64 0) := ha7.cell rfl
            have HSM := Lib.hid (refSame_same 0 0 0 [] (.slice rb rn rc) (.slice none 0 0) w7 HR7.out (.inl ⟨rfl, _, _, rfl⟩) (by decide))
            clear hb7 ha7 HB9 HA9 HR9 hrn
            go_wp2_with fail
            refine HSM.out.mono ?_
            rintro e w8 ⟨rfl, hb8⟩
            have HB8 := Lib.hid (HB7.out.trans (hb8.mono HB7.out.size))
            clear hb8
            go_wp2_with fail
            go_ret
            exact ⟨rfl, HB8.out⟩
          | true =>
            rw [hcc] at HCHO
            obtain ⟨tn, rfl⟩ : ∃ tn : Nat, t = (tn : Int) := ⟨t.toNat, by omega⟩
            obtain ⟨BN, rfl⟩ : ∃ BN : Nat, B = (BN : Int) := ⟨B.toNat, by omega⟩
            have htl : tn < (tableS h).length := by omega
            have hone : oneE h (tn : Int) c (BN : Int) = 0 := by unfold oneE; rw [if_pos hrow, if_neg htt, if_pos hcc]
            have honf : oneF h (tn : Int) c (BN : Int) = oneS BN (tableS h) tn c 0 := by unfold oneF; rw [if_pos hone]; rfl
            obtain ⟨x, hx⟩ : ∃ x, oneS BN (tableS h) tn c 0 = x := ⟨_, rfl⟩
            rw [honf, hone, hx] at HROW
            have HRL : Hid (x.2.2.1.length ≤ 65536) := by
              have := oneS_len (B := BN) (l := tableS h) (t := tn) (c := c) (s := 0)
              rw [hx] at this
              show _ ≤ _
              omega
            have HONE : Hid (∀ (lv : Value) (W : World) (_ : Txs W lv (tableS h)), Calls Tryz.prog 12 #[lv, .int .i64 (tn : Int), .int .u32 (c : Int), .int .i64 (BN : Int), .int .i64 0] W fun e w' => ∃ rv, e = .returned (fndV x.1 x.2.1 rv x.2.2.2) ∧ Rd w' rv (nats x.2.2.1) ∧ Below W.heap.size W w') := fun lv W ht => by
              have h1 := refOneW_any lv (tableS h) tn c BN 0 W ht h6 (ops_sixty hc0) htl hcl (by omega) (Nat.zero_le _)
              rw [hx] at h1
              exact h1.mono fun e w' ⟨rv, he, hr, _, _, hb⟩ => ⟨rv, he, hr.rd, hb⟩
            unfold fndV at HROW HONE
            clear hone honf hx hrow h0 hc0 hcl hcc htt
            go_enter Tryz.func3, Tryz.ntmps3
            go_upto_region 2 with fail
            rw [HAE.out]
            go_wp2_with fail
            refine HROW.out.mono ?_
            rintro e w1 ⟨rv, rfl, hr1, hb1⟩
            obtain ⟨rb, rc, rfl⟩ := hr1.len
            obtain ⟨rn, hrn⟩ : ∃ z, (nats x.2.2.1).length = z := ⟨_, rfl⟩
            rw [hrn] at hr1 ⊢
            obtain ⟨N9, hN9⟩ : ∃ z, w1.heap.size = z := ⟨_, rfl⟩
            obtain ⟨w2, hw2⟩ : ∃ z, w1.alloc (.cells #[.int .i64 (x.1 : Int), .int .u32 (x.2.1 : Int), .slice rb rn rc, .int .i64 (x.2.2.2 : Int)] 26) = z := ⟨_, rfl⟩
            have ha9 : At w2 N9 #[.int .i64 (x.1 : Int), .int .u32 (x.2.1 : Int), .slice rb rn rc, .int .i64 (x.2.2.2 : Int)] 26 := by
              rw [← hw2, ← hN9]; exact At.new w1 _ _
            have hb12 : Below w1.heap.size w1 w2 := by rw [← hw2]; exact (Below.refl _ w1).alloc (Nat.le_refl _) _
            have HB2 := Lib.hid (hb1.trans (hb12.mono hb1.size))
            have HA9 := Lib.hid ha9
            have HR2 := Lib.hid (hr1.below hb12 (Nat.le_refl _))
            have HW2 := Lib.hid hw2
            clear hr1 hb1 ha9 hb12 HROW hw2
            go_wp2_with fail
            rw [HW2.out]
            clear HW2
            refine (HWHY.out w2 HB2.out).mono ?_
            rintro e w3 ⟨rfl, hb3⟩
            have HB3 := Lib.hid (HB2.out.trans (hb3.mono HB2.out.size))
            have HA3 := Lib.hid (HA9.out.below hb3 HA9.out.lt)
            have HR3 := Lib.hid (HR2.out.below hb3 (Nat.le_refl _))
            clear hb3 HA9 HR2 HB2
            go_wp2_with fail
            refine (HO0.out w3 HB3.out).mono ?_
            rintro e w4 ⟨lv, rfl, ht4, hb4⟩
            obtain ⟨la, lc, rfl⟩ := ht4.len
            have HB4 := Lib.hid (HB3.out.trans (hb4.mono HB3.out.size))
            have HA4 := Lib.hid (HA3.out.below hb4 HA3.out.lt)
            have HR4 := Lib.hid (HR3.out.below hb4 (Nat.le_refl _))
            clear hb4 ht4 HA3 HR3 HB3
            go_wp2_with fail
            refine (HOF.out w4 HB4.out).mono ?_
            rintro e w5 ⟨lv5, rfl, ht5, hb5⟩
            obtain ⟨ma, mc, rfl⟩ := ht5.len
            have HB5 := Lib.hid (HB4.out.trans (hb5.mono HB4.out.size))
            have HA5 := Lib.hid (HA4.out.below hb5 HA4.out.lt)
            have HR5 := Lib.hid (HR4.out.below hb5 (Nat.le_refl _))
            have HT5 := Lib.hid ht5
            have hbi := refBitsS_any _ _ c w5 ht5 HL.out hc32
            rw [HBIT.out] at hbi
            have HBI := Lib.hid hbi
            clear hb5 ht5 hbi HA4 HR4 HB4 HOF HO0 HWHY
            go_wp2_with fail
            refine HBI.out.mono ?_
            rintro e w6 ⟨rfl, hw6⟩
            have hw6 := hw6.symm
            subst hw6
            go_wp2_with fail
            refine (HCHO.out w5 _ HT5.out).mono ?_
            rintro e w9 ⟨rfl, hb9⟩
            have HB9 := Lib.hid (HB5.out.trans (hb9.mono HB5.out.size))
            have HA9 := Lib.hid (HA5.out.below hb9 HA5.out.lt)
            have HR9 := Lib.hid (HR5.out.below hb9 (Nat.le_refl _))
            have HT9 := Lib.hid (HT5.out.below hb9 (Nat.le_refl _))
            have HSS : Hid (∀ W, Below w9.heap.size w9 W → W.cell? ⟨N9, 0, none⟩ = some (.int .i64 (x.1 : Int)) ∧ W.cell? ⟨N9, 1, none⟩ = some (.int .u32 (x.2.1 : Int)) ∧ W.cell? ⟨N9, 2, none⟩ = some (.slice rb rn rc) ∧ W.cell? ⟨N9, 3, none⟩ = some (.int .i64 (x.2.2.2 : Int))) := fun W hW =>
              ⟨cell_on hW (HA9.out.cell rfl), cell_on hW (HA9.out.cell rfl), cell_on hW (HA9.out.cell rfl), cell_on hW (HA9.out.cell rfl)⟩
            clear hb9 HA5 HR5 HB5 HT5 HCHO hrn
            go_wp2_with fail
            first
            | go_must (go_region_held (fun W => W.cell? ⟨N9, 0, none⟩ = some (.int .i64 (x.1 : Int)) ∧ W.cell? ⟨N9, 1, none⟩ = some (.int .u32 (x.2.1 : Int)) ∧ W.cell? ⟨N9, 2, none⟩ = some (.slice rb rn rc) ∧ W.cell? ⟨N9, 3, none⟩ = some (.int .i64 (x.2.2.2 : Int)))
                (first | exact HSS.out _ (belowDrS _) | exact HSS.out _ hz5 | exact HSS.out _ hz7 | exact HSS.out _ hz8)
                (first
                  | (go_at_call 10; refine (HALV.out _ (HB9.out.drew)).mono ?_; rintro e u5 ⟨rfl, hb5⟩; have hz5 := (belowDrS w9).trans hb5; clear hb5)
                  | (go_at_call 12; refine (HONE.out _ u5 (HT9.out.below hz5 (Nat.le_refl _))).mono ?_; rintro e u7 ⟨rv7, rfl, hr7, hb7⟩; have hz7 := hz5.trans (hb7.mono hz5.size); obtain ⟨a7, c7, rfl⟩ := hr7.len; have hq7 := hr7; clear hb7)
                  | (go_at_call 11; refine (refSame_same x.1 x.2.1 x.2.2.2 x.2.2.1 _ _ u7 (HR9.out.below hz7 (Nat.le_refl _)) hq7 HRL.out).mono ?_; rintro e u8 ⟨rfl, hb8⟩; have hz8 := hz7.trans (hb8.mono hz7.size); clear hb8)))
            | fail
            have HB8 := Lib.hid (HB9.out.trans (hz8.mono HB9.out.size))
            clear hz5 hz7 hz8 hr7 hq7
            go_wp2_with fail
            go_ret
            exact ⟨rfl, HB8.out⟩
    · have HBIT : Hid (decide (c < 2 ^ (tableS h).length) = false) := decide_eq_false hcl
      have hrow := rowE_out h0 hcl
      have hone : oneE h t c B = 7 := by rw [oneE_row (by rw [hrow]; decide), hrow]
      rw [oneF_bad (by rw [hone]; decide), hone] at HROW
      unfold fndV at HROW
      clear hone
      clear hrow h0 hc0 hcl
      go_enter Tryz.func3, Tryz.ntmps3
      go_upto_region 2 with fail
      rw [HAE.out]
      go_wp2_with fail
      refine HROW.out.mono ?_
      rintro e w1 ⟨rv, rfl, hr1, hb1⟩
      obtain ⟨rb, rc, rfl⟩ := hr1.len
      obtain ⟨rn, hrn⟩ : ∃ z, (nats []).length = z := ⟨_, rfl⟩
      rw [hrn] at hr1 ⊢
      obtain ⟨N9, hN9⟩ : ∃ z, w1.heap.size = z := ⟨_, rfl⟩
      obtain ⟨w2, hw2⟩ : ∃ z, w1.alloc (.cells #[.int .i64 0, .int .u32 0, .slice rb rn rc, .int .i64 0] 26) = z := ⟨_, rfl⟩
      have ha9 : At w2 N9 #[.int .i64 0, .int .u32 0, .slice rb rn rc, .int .i64 0] 26 := by
        rw [← hw2, ← hN9]; exact At.new w1 _ _
      have hb12 : Below w1.heap.size w1 w2 := by rw [← hw2]; exact (Below.refl _ w1).alloc (Nat.le_refl _) _
      have HB2 := Lib.hid (hb1.trans (hb12.mono hb1.size))
      have HA9 := Lib.hid ha9
      have HR2 := Lib.hid (hr1.below hb12 (Nat.le_refl _))
      have HW2 := Lib.hid hw2
      clear hr1 hb1 ha9 hb12 HROW hw2
      go_wp2_with fail
      rw [HW2.out]
      clear HW2
      refine (HWHY.out w2 HB2.out).mono ?_
      rintro e w3 ⟨rfl, hb3⟩
      have HB3 := Lib.hid (HB2.out.trans (hb3.mono HB2.out.size))
      have HA3 := Lib.hid (HA9.out.below hb3 HA9.out.lt)
      have HR3 := Lib.hid (HR2.out.below hb3 (Nat.le_refl _))
      clear hb3 HA9 HR2 HB2
      go_wp2_with fail
      refine (HO0.out w3 HB3.out).mono ?_
      rintro e w4 ⟨lv, rfl, ht4, hb4⟩
      obtain ⟨la, lc, rfl⟩ := ht4.len
      have HB4 := Lib.hid (HB3.out.trans (hb4.mono HB3.out.size))
      have HA4 := Lib.hid (HA3.out.below hb4 HA3.out.lt)
      have HR4 := Lib.hid (HR3.out.below hb4 (Nat.le_refl _))
      clear hb4 ht4 HA3 HR3 HB3
      go_wp2_with fail
      refine (HOF.out w4 HB4.out).mono ?_
      rintro e w5 ⟨lv5, rfl, ht5, hb5⟩
      obtain ⟨ma, mc, rfl⟩ := ht5.len
      have HB5 := Lib.hid (HB4.out.trans (hb5.mono HB4.out.size))
      have HA5 := Lib.hid (HA4.out.below hb5 HA4.out.lt)
      have HR5 := Lib.hid (HR4.out.below hb5 (Nat.le_refl _))
      have HT5 := Lib.hid ht5
      have hbi := refBitsS_any _ _ c w5 ht5 HL.out hc32
      rw [HBIT.out] at hbi
      have HBI := Lib.hid hbi
      clear hb5 ht5 hbi HA4 HR4 HB4 HOF HO0 HWHY
      go_wp2_with fail
      refine HBI.out.mono ?_
      rintro e w6 ⟨rfl, hw6⟩
      have hw6 := hw6.symm
      subst hw6
      go_wp2_with fail
      refine (HALV.out w5 HB5.out).mono ?_
      rintro e w7 ⟨rfl, hb7⟩
      have HB7 := Lib.hid (HB5.out.trans (hb7.mono HB5.out.size))
      have ha7 := HA5.out.below hb7 HA5.out.lt
      have HR7 := Lib.hid (HR5.out.below hb7 (Nat.le_refl _))
      have q0 : w7.cell? ⟨N9, 0, none⟩ = some (.int .i64 0) := ha7.cell rfl
      have q1 : w7.cell? ⟨N9, 1, none⟩ = some (.int .u32 0) := ha7.cell rfl
      have q2 : w7.cell? ⟨N9, 2, none⟩ = some (.slice rb rn rc) := ha7.cell rfl
      have q3 : w7.cell? ⟨N9, 3, none⟩ = some (.int .i64 0) := ha7.cell rfl
      have HSM := Lib.hid (refSame_same 0 0 0 [] (.slice rb rn rc) (.slice none 0 0) w7 HR7.out (.inl ⟨rfl, _, _, rfl⟩) (by decide))
      clear hb7 ha7 HB5 HA5 HR5 hrn
      go_wp2_with fail
      refine HSM.out.mono ?_
      rintro e w8 ⟨rfl, hb8⟩
      have HB8 := Lib.hid (HB7.out.trans (hb8.mono HB7.out.size))
      clear hb8
      go_wp2_with fail
      go_ret
      exact ⟨rfl, HB8.out⟩
  · obtain ⟨er, her⟩ : ∃ er, srchE h B = er := ⟨_, rfl⟩
    have hrow := rowE_bad (c := c) h0
    have hone : oneE h t c B = er := by rw [oneE_row (by rw [hrow]; exact h0), hrow, her]
    rw [oneF_bad (by rw [hone, ← her]; exact h0), hone] at HROW
    unfold fndV at HROW
    simp only [her] at HWHY h0
    have te : ((er : Int) != 0) = true := by simp; omega
    have te1 : ((er : Int) == 0) = false := by simp; omega
    have te2 : ((er : Int) == (er : Int)) = true := by simp
    clear her h0 hrow hone HOF
    go_enter Tryz.func3, Tryz.ntmps3
    go_upto_region 2 with fail
    rw [HAE.out]
    go_wp2_with fail
    refine HROW.out.mono ?_
    rintro e w1 ⟨rv, rfl, hr1, hb1⟩
    obtain ⟨rb, rc, rfl⟩ := hr1.len
    obtain ⟨rn, hrn⟩ : ∃ z, (nats []).length = z := ⟨_, rfl⟩
    rw [hrn] at hr1 ⊢
    obtain ⟨N9, hN9⟩ : ∃ z, w1.heap.size = z := ⟨_, rfl⟩
    obtain ⟨w2, hw2⟩ : ∃ z, w1.alloc (.cells #[.int .i64 0, .int .u32 0, .slice rb rn rc, .int .i64 0] 26) = z := ⟨_, rfl⟩
    have ha9 : At w2 N9 #[.int .i64 0, .int .u32 0, .slice rb rn rc, .int .i64 0] 26 := by
      rw [← hw2, ← hN9]; exact At.new w1 _ _
    have hb12 : Below w1.heap.size w1 w2 := by rw [← hw2]; exact (Below.refl _ w1).alloc (Nat.le_refl _) _
    have HB2 := Lib.hid (hb1.trans (hb12.mono hb1.size))
    have HA9 := Lib.hid ha9
    have HR2 := Lib.hid (hr1.below hb12 (Nat.le_refl _))
    have HW2 := Lib.hid hw2
    clear hr1 hb1 ha9 hb12 HROW hw2
    go_wp2_with fail
    rw [HW2.out]
    clear HW2
    refine (HWHY.out w2 HB2.out).mono ?_
    rintro e w3 ⟨rfl, hb3⟩
    have HB3 := Lib.hid (HB2.out.trans (hb3.mono HB2.out.size))
    have HA3 := Lib.hid (HA9.out.below hb3 HA9.out.lt)
    have HR3 := Lib.hid (HR2.out.below hb3 (Nat.le_refl _))
    clear hb3 HA9 HR2 HB2
    go_wp2_with fail
    refine (HO0.out w3 HB3.out).mono ?_
    rintro e w4 ⟨lv, rfl, ht4, hb4⟩
    obtain ⟨la, lc, rfl⟩ := ht4.len
    have HB4 := Lib.hid (HB3.out.trans (hb4.mono HB3.out.size))
    have HA4 := Lib.hid (HA3.out.below hb4 HA3.out.lt)
    have HR4 := Lib.hid (HR3.out.below hb4 (Nat.le_refl _))
    clear hb4 ht4 HA3 HR3 HB3
    go_wp2_with fail
    refine (HALV.out w4 HB4.out).mono ?_
    rintro e w7 ⟨rfl, hb7⟩
    have HB7 := Lib.hid (HB4.out.trans (hb7.mono HB4.out.size))
    have ha7 := HA4.out.below hb7 HA4.out.lt
    have HR7 := Lib.hid (HR4.out.below hb7 (Nat.le_refl _))
    have q0 : w7.cell? ⟨N9, 0, none⟩ = some (.int .i64 0) := ha7.cell rfl
    have q1 : w7.cell? ⟨N9, 1, none⟩ = some (.int .u32 0) := ha7.cell rfl
    have q2 : w7.cell? ⟨N9, 2, none⟩ = some (.slice rb rn rc) := ha7.cell rfl
    have q3 : w7.cell? ⟨N9, 3, none⟩ = some (.int .i64 0) := ha7.cell rfl
    have HSM := Lib.hid (refSame_same 0 0 0 [] (.slice rb rn rc) (.slice none 0 0) w7 HR7.out (.inl ⟨rfl, _, _, rfl⟩) (by decide))
    clear hb7 ha7 HB4 HA4 HR4 hrn
    go_wp2_with fail
    refine HSM.out.mono ?_
    rintro e w8 ⟨rfl, hb8⟩
    have HB8 := Lib.hid (HB7.out.trans (hb8.mono HB7.out.size))
    clear hb8
    go_wp2_with fail
    go_ret
    exact ⟨rfl, HB8.out⟩
theorem u32_wfW {x : Int} (hx : (Lit.int .u32 x).wf = true) : ∃ c : Nat, x = (c : Int) ∧ c < 4294967296 := by
  have h1 : (decide ((0 : Int) ≤ x) && decide (x ≤ 4294967295)) = true := hx
  rw [Bool.and_eq_true, decide_eq_true_eq, decide_eq_true_eq] at h1
  exact ⟨x.toNat, by omega, by omega⟩
theorem worOne_any (a : Option Addr) (n k : Nat) (h : List Ev) (t c B : Int) (w : World) (hK : HasK w) (hn : n ≤ k) (hv : Evs w (.slice a (min (n : Int) 65).toNat k) h) (hc : (Lit.int .u32 c).wf = true) :
    Calls Tryz.prog 3 #[.slice a n k, .int .i64 t, .int .u32 c, .int .i64 B] w fun e w' => e = .returned (.bool true) ∧ Below w.heap.size w w' := by
  obtain ⟨m, hm⟩ : ∃ m, (min (n : Int) 65).toNat = m := ⟨_, rfl⟩
  rw [hm] at hv
  obtain ⟨c, rfl, hc32⟩ := u32_wfW hc
  exact worOne_walk a n m k h t c B w hK hn hm (by omega) hv hv.length.symm (by omega) hc32
end Go.Proofs.YtpjfhdljagkefaaGreatDoor
