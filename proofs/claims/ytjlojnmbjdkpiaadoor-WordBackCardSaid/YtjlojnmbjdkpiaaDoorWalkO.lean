/- The walk of the statement WordBack. -/
import Derived.Test.YtjlojnmbjdkpiaaDoorWalkN
namespace Go.Proofs.YtjlojnmbjdkpiaaDoor
open Go.RowKit WPlain

theorem gPow : Tryd.prog.globalNamed "internal/strconv.uint64pow10" = some 1 := by kernel_rfl
theorem TabIs.later {w w' : World} {B : Nat} (h : Lib.TabIs Tryd.prog w "internal/strconv.uint64pow10" .u64 Lib.pow10Tab) (hb : Below B w w') (hB : w.heap.size ≤ B) : Lib.TabIs Tryd.prog w' "internal/strconv.uint64pow10" .u64 Lib.pow10Tab := by
  have h0 := h.cell gPow 0 (by decide)
  exact var?_below hb gPow (Nat.lt_of_lt_of_le (World.block_lt_of_cell? w _ h0) hB) h
theorem size_extract0 (s : ByteArray) (n : Nat) (h : n ≤ s.size) : (s.extract 0 n).size = n := by simp [ByteArray.size_extract]; omega

theorem ret_val {k : IntKind} {a b : Int} (h : a = b) : Value.int k a = .int k b := by rw [h]

def Pow (w : World) : Prop := Lib.TabIs Tryd.prog w "internal/strconv.uint64pow10" .u64 Lib.pow10Tab

set_option maxHeartbeats 3200000 in
theorem back_any (s : ByteArray) (n : Int) (w : World) (hs : s.size ≤ maxLen) (hm : HasM w) (htab : Pow w) :
    Calls Tryd.prog 4 #[.string s, .int .i64 n] w fun e w' => e = .returned (.bool true) ∧ Below w.heap.size w w' := by
  unfold maxLen at hs
  have HTB : Hid (∀ (w' : World), Below w.heap.size w w' → Pow w') := fun w' hb => TabIs.later htab hb (Nat.le_refl _)
  have HMB : Hid (∀ (w' : World), Below w.heap.size w w' → HasM w') := fun w' hb => hm.later hb (Nat.le_refl _)
  clear htab hm
  obtain ⟨t, ht, hts⟩ : ∃ t : ByteArray, s.extract 0 (min (s.size : Int) 400).toNat = t ∧ t.size ≤ 400 := ⟨_, rfl, by rw [size_extract0 _ _ (by omega)]; omega⟩
  have HT0 := Lib.hid ht
  clear ht
  obtain ⟨p, q, hI2, hE⟩ : ∃ p q : Int, (∀ w, Calls Tryd.prog 5 #[.string t] w fun e w' => e = .returned (.tuple #[.int .i64 p, .int .i64 q]) ∧ Below w.heap.size w w') ∧
      ((q = 0 ∧ ∀ w, Pow w → Calls Tryd.prog 6 #[.int .i64 p] w fun e w' => e = .returned (.tuple #[.string t, .int .i64 0]) ∧ Below w.heap.size w w') ∨ q = 2 ∨ q = 3) := by
    refine ⟨(intSpec t.data.toList).1, (intSpec t.data.toList).2, fun w => int_any t w (by omega), ?_⟩
    rcases intSpec_e t.data.toList with h | h
    · refine .inl ⟨h, fun w hp => ?_⟩
      have hb := intSpec_n t.data.toList
      have := text_yes _ w hb.1 hb.2 hp
      rw [itoa_spec _ h] at this
      have e : (⟨t.data.toList.toArray⟩ : ByteArray) = t := rfl
      rw [e] at this
      exact this
    · exact .inr h
  have HI2 := Lib.hid hI2
  clear hI2
  have hll : (lineOf t.data.toList).length ≤ 400 := by have h2 := lineOf_le t.data.toList; have h3 := Lib.size_eq t; omega
  have hwl : (words (lineOf t.data.toList)).length ≤ 400 := by
    have h1 := words_len (lineOf t.data.toList)
    omega
  -- the words: pieces, where they stand, and that they rise
  obtain ⟨qs, hq1, hq2, hq3⟩ : ∃ qs, words (lineOf t.data.toList) = qs ∧ rise 0 qs ∧
      ∀ i (h : i < qs.length), qs[i].2 ≤ t.size ∧ ∃ b : ByteArray, (⟨(cutAt (lineOf t.data.toList) qs[i]).toArray⟩ : ByteArray) = b ∧ b.size = qs[i].2 - qs[i].1 ∧ (∀ j (h : j < b.size), ¬ b[j] = 32 ∧ ¬ b[j] = 9 ∧ ¬ b[j] = 35) ∧ Lib.hasPrefix (t.data.toList.drop qs[i].1) b.data.toList = true := by
    refine ⟨_, rfl, rise_words _, fun i h => ?_⟩
    obtain ⟨f1, f2, f3, f4⟩ := word_bytes t.data.toList _ (List.getElem_mem h)
    refine ⟨by rw [Lib.size_eq]; exact f1, _, rfl, f2, ?_, f4⟩
    intro j hj
    obtain ⟨g1, g2⟩ := f3 _ (List.getElem_mem (l := cutAt (lineOf t.data.toList) (words (lineOf t.data.toList))[i]) (n := j) hj)
    have e : ∀ c : UInt8, (⟨(cutAt (lineOf t.data.toList) (words (lineOf t.data.toList))[i]).toArray⟩ : ByteArray)[j] = c → (cutAt (lineOf t.data.toList) (words (lineOf t.data.toList))[i])[j] = c := fun c hc => hc
    refine ⟨fun hc => ?_, fun hc => ?_, fun hc => g2 (e _ hc)⟩
    · rw [e _ hc] at g1; exact absurd g1 (by decide)
    · rw [e _ hc] at g1; exact absurd g1 (by decide)
  -- WALKS
  have HQ1 := Lib.hid hq1
  have HQ2 := Lib.hid hq2
  have HQ3 := Lib.hid hq3
  have hql : qs.length ≤ 400 := by rw [← hq1]; exact hwl
  clear hq1 hq2 hq3 hwl hll
  cases hin : inR n with
  | true =>
    simp only [inR, Bool.and_eq_true, decide_eq_true_eq] at hin
    obtain ⟨hn1, hn2⟩ := hin
    obtain ⟨b, hb⟩ : ∃ b : ByteArray, b = ⟨(Lib.itoa n).toArray⟩ := ⟨_, rfl⟩
    have hT : ∀ w, Pow w → Calls Tryd.prog 6 #[.int .i64 n] w fun e w' => e = .returned (.tuple #[.string b, .int .i64 0]) ∧ Below w.heap.size w w' := by
      intro w ht; rw [hb]; exact text_yes n w hn1 hn2 ht
    have hI : ∀ w, Calls Tryd.prog 5 #[.string b] w fun e w' => e = .returned (.tuple #[.int .i64 n, .int .i64 0]) ∧ Below w.heap.size w w' := by
      intro w
      have hbs : b.size ≤ 2147483648 := by rw [hb]; have := Lib.itoa_length_le n (by omega) (by omega); show (Lib.itoa n).length ≤ _; omega
      have := int_any b w hbs
      have e : b.data.toList = Lib.itoa n := by rw [hb]
      rw [e, spec_itoa n hn1 hn2] at this
      exact this
    have HT := Lib.hid hT
    have HI := Lib.hid hI
    clear hT hI hb hn1 hn2
    rcases hE with ⟨rfl, hTX⟩ | hE
    · have HTX := Lib.hid hTX
      clear hTX
      go_enter Tryd.func4, Tryd.ntmps4
      go_wp2_with fail
      rw [HT0.out]
      refine (HT.out _ (HTB.out _ (Below.refl _ _))).mono ?_
      rintro e w1 ⟨rfl, hb1⟩
      go_wp2_with fail
      refine (HI.out _).mono ?_
      rintro e w2 ⟨rfl, hb2⟩
      have hb3 := hb1.trans (hb2.mono hb1.size)
      clear hb1 hb2
      go_wp2_with fail
      refine (HI2.out _).mono ?_
      rintro e w3 ⟨rfl, hb4⟩
      have hb5 := hb3.trans (hb4.mono hb3.size)
      clear hb3 hb4
      go_wp2_with fail
      refine (HTX.out _ (HTB.out _ hb5)).mono ?_
      rintro e w4 ⟨rfl, hb6⟩
      have hb7 := hb5.trans (hb6.mono hb5.size)
      clear hb5 hb6
      go_wp2_with fail
      refine (words_any _ _ (by omega) (HMB.out _ hb7)).mono ?_
      rintro e w5 ⟨v1, v2, rfl, hx, hy, hb8⟩
      have hb9 := hb7.trans (hb8.mono hb7.size)
      rw [HQ1.out] at hx hy
      have r1 := Rd.of_row hx
      have r2 := Rd.of_row hy
      clear hx hy hb7 hb8
      rcases r1 with ⟨e1, a1, c1, rfl⟩ | ⟨l1, b1, o1, c1, rfl, g1⟩
      · have hq0 : qs = [] := by simpa [strsOf] using e1
        rcases r2 with ⟨e2, a2, c2, rfl⟩ | ⟨l2, _⟩
        · clear HQ1
          subst hq0
          go_wp2_with fail
          refine (alive_any _ (HMB.out _ hb9)).mono ?_
          rintro e w6 ⟨rfl, hb10⟩
          have hb11 := hb9.trans (hb10.mono hb9.size)
          clear hb9 hb10
          go_wp2
          refine wp_loop_rounds 1 ?_
          rw [rounds_succ]
          go_wp2
          go_ret
          exact ⟨rfl, hb11⟩
        · rw [hq0] at l2; simp [begsOf] at l2
      · rcases r2 with ⟨e2, _⟩ | ⟨l2, b2, o2, c2, rfl, g2⟩
        · have hq0 : qs = [] := by simpa [begsOf] using e2
          rw [hq0] at l1; simp [strsOf] at l1
        · have HG : Hid (∀ i (h : i < qs.length), w5.cell? ⟨b1, o1 + i, none⟩ = some (.string ⟨(cutAt (lineOf t.data.toList) qs[i]).toArray⟩) ∧ w5.cell? ⟨b2, o2 + i, none⟩ = some (.int .i64 qs[i].1)) := by
            intro i h
            exact ⟨g1 i _ (by unfold strsOf; rw [List.getElem?_map, List.getElem?_eq_getElem h]; rfl), g2 i _ (by unfold begsOf; rw [List.getElem?_map, List.getElem?_eq_getElem h]; rfl)⟩
          have hbl : b1 < w5.heap.size ∧ b2 < w5.heap.size := by
            have h0 : 0 < qs.length := by simpa [strsOf] using l1
            exact ⟨World.block_lt_of_cell? w5 _ (HG.out 0 h0).1, World.block_lt_of_cell? w5 _ (HG.out 0 h0).2⟩
          obtain ⟨hbl1, hbl2⟩ := hbl
          clear g1 g2
          have el1 : (strsOf (lineOf t.data.toList) qs).length = qs.length := by simp [strsOf]
          have el2 : (begsOf qs).length = qs.length := by simp [begsOf]
          rw [el1, el2]
          clear el1 el2 l1 l2
          go_wp2_with fail
          refine (alive_any _ (HMB.out _ hb9)).mono ?_
          rintro e w6 ⟨rfl, hb10⟩
          go_wp2
          go_loopw [15, 77] (fun x y wr => ∃ k lo : Nat, k ≤ qs.length ∧ y = .int .i64 k ∧ x = .int .i64 ((lo : Int) - 1) ∧ lo ≤ 401 ∧ rise lo (qs.drop k) ∧ Below w5.heap.size w5 wr) (fun _ y _ => qs.length - (intOf y).toNat)
          case atStart => exact ⟨0, 0, by omega, rfl, rfl, by omega, HQ2.out, hb10⟩
          case round =>
            clear hb10
            obtain ⟨k, lo, hk, rfl, rfl, hlo, hri, hbr⟩ := hrel
            by_cases hlt : k < qs.length
            · obtain ⟨hr1, hr2, hr3⟩ := rise_at qs lo k hlt hri
              obtain ⟨hs2, b, hbe, hbs, hbn, hbp⟩ := HQ3.out k hlt
              obtain ⟨hc1, hc2⟩ := HG.out k hlt
              rw [hbe] at hc1
              have d1 : wr.cell? ⟨b1, o1 + k, none⟩ = some (.string b) := (hbr.cell (p := ⟨b1, o1 + k, none⟩) hbl1).trans hc1
              have d2 : wr.cell? ⟨b2, o2 + k, none⟩ = some (.int .i64 qs[k].1) := (hbr.cell (p := ⟨b2, o2 + k, none⟩) hbl2).trans hc2
              have HR3 := Lib.hid hr3
              have HBN := Lib.hid hbn
              clear hc1 hc2 hri hr3 hbe hbn
              generalize qs[k] = qk at *
              obtain ⟨qa, qb⟩ := qk
              simp only at hr1 hr2 hs2 hbs hbp d2 HR3
              have hbz : (b.size : Int) = (qb : Int) - (qa : Int) := by omega
              have hbe2 : b.toList.isEmpty = false := by
                rw [Lib.toList_data]
                cases hh : b.data.toList with
                | nil => have h0 : b.size = 0 := by rw [Lib.size_eq, hh]; rfl
                         omega
                | cons x r => rfl
              have tle : decide ((qa : Int) ≤ (lo : Int) - 1) = false := by simp; omega
              have kk : (k : Int) < (qs.length : Int) := by omega
              have HBP : Hid (Lib.hasPrefix (t.extract qa t.size).data.toList b.data.toList = true) := by
                unfold Hid
                rw [Lib.extract_data, Lib.size_eq, List.take_of_length_le (by rw [List.length_drop]; omega)]
                exact hbp
              have HBZ := Lib.hid hbz
              have hbb : b.size ≤ 400 := by omega
              clear hbs hbp hbz
              have mn : (min (qa : Int) (t.size : Int)) = (qa : Int) := by omega
              go_wp2_with fail
              refine (Tryd.strings_HasPrefix _ _ _).mono ?_
              rintro e w' ⟨rfl, hw⟩
              rw [hw, HBP.out]
              clear hw
              go_wp2_with fail
              refine (contains_none b _ (by omega) HBN.out).mono ?_
              rintro e w8 ⟨rfl, hb12⟩
              have d3 : w8.cell? ⟨b2, o2 + k, none⟩ = some (.int .i64 qa) := (hb12.cell (p := ⟨b2, o2 + k, none⟩) (Nat.lt_of_lt_of_le hbl2 hbr.size)).trans d2
              have hb13 := hbr.trans (hb12.mono hbr.size)
              clear d1 d2 hb12 hbr
              go_wp2
              go_roundw
              case rel => exact ⟨k + 1, qb + 1, by omega, by go_num, ret_val (by have := HBZ.out; omega), by omega, HR3.out, hb13⟩
              case measure => simp [intOf]; omega
            · go_wp2
              go_ret
              exact ⟨rfl, hb9.trans (hbr.mono hb9.size)⟩
    · rcases hE with rfl | rfl
      all_goals
        go_enter Tryd.func4, Tryd.ntmps4
        go_wp2_with fail
        rw [HT0.out]
        refine (HT.out _ (HTB.out _ (Below.refl _ _))).mono ?_
        rintro e w1 ⟨rfl, hb1⟩
        go_wp2_with fail
        refine (HI.out _).mono ?_
        rintro e w2 ⟨rfl, hb2⟩
        have hb3 := hb1.trans (hb2.mono hb1.size)
        clear hb1 hb2
        go_wp2_with fail
        refine (HI2.out _).mono ?_
        rintro e w3 ⟨rfl, hb4⟩
        have hb5 := hb3.trans (hb4.mono hb3.size)
        clear hb3 hb4
        go_wp2_with fail
        have hb7 := hb5
        clear hb5
        refine (words_any _ _ (by omega) (HMB.out _ hb7)).mono ?_
        rintro e w5 ⟨v1, v2, rfl, hx, hy, hb8⟩
        have hb9 := hb7.trans (hb8.mono hb7.size)
        rw [HQ1.out] at hx hy
        have r1 := Rd.of_row hx
        have r2 := Rd.of_row hy
        clear hx hy hb7 hb8
        rcases r1 with ⟨e1, a1, c1, rfl⟩ | ⟨l1, b1, o1, c1, rfl, g1⟩
        · have hq0 : qs = [] := by simpa [strsOf] using e1
          rcases r2 with ⟨e2, a2, c2, rfl⟩ | ⟨l2, _⟩
          · clear HQ1
            subst hq0
            go_wp2_with fail
            refine (alive_any _ (HMB.out _ hb9)).mono ?_
            rintro e w6 ⟨rfl, hb10⟩
            have hb11 := hb9.trans (hb10.mono hb9.size)
            clear hb9 hb10
            go_wp2
            refine wp_loop_rounds 1 ?_
            rw [rounds_succ]
            go_wp2
            go_ret
            exact ⟨rfl, hb11⟩
          · rw [hq0] at l2; simp [begsOf] at l2
        · rcases r2 with ⟨e2, _⟩ | ⟨l2, b2, o2, c2, rfl, g2⟩
          · have hq0 : qs = [] := by simpa [begsOf] using e2
            rw [hq0] at l1; simp [strsOf] at l1
          · have HG : Hid (∀ i (h : i < qs.length), w5.cell? ⟨b1, o1 + i, none⟩ = some (.string ⟨(cutAt (lineOf t.data.toList) qs[i]).toArray⟩) ∧ w5.cell? ⟨b2, o2 + i, none⟩ = some (.int .i64 qs[i].1)) := by
              intro i h
              exact ⟨g1 i _ (by unfold strsOf; rw [List.getElem?_map, List.getElem?_eq_getElem h]; rfl), g2 i _ (by unfold begsOf; rw [List.getElem?_map, List.getElem?_eq_getElem h]; rfl)⟩
            have hbl : b1 < w5.heap.size ∧ b2 < w5.heap.size := by
              have h0 : 0 < qs.length := by simpa [strsOf] using l1
              exact ⟨World.block_lt_of_cell? w5 _ (HG.out 0 h0).1, World.block_lt_of_cell? w5 _ (HG.out 0 h0).2⟩
            obtain ⟨hbl1, hbl2⟩ := hbl
            clear g1 g2
            have el1 : (strsOf (lineOf t.data.toList) qs).length = qs.length := by simp [strsOf]
            have el2 : (begsOf qs).length = qs.length := by simp [begsOf]
            rw [el1, el2]
            clear el1 el2 l1 l2
            go_wp2_with fail
            refine (alive_any _ (HMB.out _ hb9)).mono ?_
            rintro e w6 ⟨rfl, hb10⟩
            go_wp2
            go_loopw [15, 77] (fun x y wr => ∃ k lo : Nat, k ≤ qs.length ∧ y = .int .i64 k ∧ x = .int .i64 ((lo : Int) - 1) ∧ lo ≤ 401 ∧ rise lo (qs.drop k) ∧ Below w5.heap.size w5 wr) (fun _ y _ => qs.length - (intOf y).toNat)
            case atStart => exact ⟨0, 0, by omega, rfl, rfl, by omega, HQ2.out, hb10⟩
            case round =>
              clear hb10
              obtain ⟨k, lo, hk, rfl, rfl, hlo, hri, hbr⟩ := hrel
              by_cases hlt : k < qs.length
              · obtain ⟨hr1, hr2, hr3⟩ := rise_at qs lo k hlt hri
                obtain ⟨hs2, b, hbe, hbs, hbn, hbp⟩ := HQ3.out k hlt
                obtain ⟨hc1, hc2⟩ := HG.out k hlt
                rw [hbe] at hc1
                have d1 : wr.cell? ⟨b1, o1 + k, none⟩ = some (.string b) := (hbr.cell (p := ⟨b1, o1 + k, none⟩) hbl1).trans hc1
                have d2 : wr.cell? ⟨b2, o2 + k, none⟩ = some (.int .i64 qs[k].1) := (hbr.cell (p := ⟨b2, o2 + k, none⟩) hbl2).trans hc2
                have HR3 := Lib.hid hr3
                have HBN := Lib.hid hbn
                clear hc1 hc2 hri hr3 hbe hbn
                generalize qs[k] = qk at *
                obtain ⟨qa, qb⟩ := qk
                simp only at hr1 hr2 hs2 hbs hbp d2 HR3
                have hbz : (b.size : Int) = (qb : Int) - (qa : Int) := by omega
                have hbe2 : b.toList.isEmpty = false := by
                  rw [Lib.toList_data]
                  cases hh : b.data.toList with
                  | nil => have h0 : b.size = 0 := by rw [Lib.size_eq, hh]; rfl
                           omega
                  | cons x r => rfl
                have tle : decide ((qa : Int) ≤ (lo : Int) - 1) = false := by simp; omega
                have kk : (k : Int) < (qs.length : Int) := by omega
                have HBP : Hid (Lib.hasPrefix (t.extract qa t.size).data.toList b.data.toList = true) := by
                  unfold Hid
                  rw [Lib.extract_data, Lib.size_eq, List.take_of_length_le (by rw [List.length_drop]; omega)]
                  exact hbp
                have HBZ := Lib.hid hbz
                have hbb : b.size ≤ 400 := by omega
                clear hbs hbp hbz
                have mn : (min (qa : Int) (t.size : Int)) = (qa : Int) := by omega
                go_wp2_with fail
                refine (Tryd.strings_HasPrefix _ _ _).mono ?_
                rintro e w' ⟨rfl, hw⟩
                rw [hw, HBP.out]
                clear hw
                go_wp2_with fail
                refine (contains_none b _ (by omega) HBN.out).mono ?_
                rintro e w8 ⟨rfl, hb12⟩
                have d3 : w8.cell? ⟨b2, o2 + k, none⟩ = some (.int .i64 qa) := (hb12.cell (p := ⟨b2, o2 + k, none⟩) (Nat.lt_of_lt_of_le hbl2 hbr.size)).trans d2
                have hb13 := hbr.trans (hb12.mono hbr.size)
                clear d1 d2 hb12 hbr
                go_wp2
                go_roundw
                case rel => exact ⟨k + 1, qb + 1, by omega, by go_num, ret_val (by have := HBZ.out; omega), by omega, HR3.out, hb13⟩
                case measure => simp [intOf]; omega
              · go_wp2
                go_ret
                exact ⟨rfl, hb9.trans (hbr.mono hb9.size)⟩
  | false =>
    have HIN := Lib.hid hin
    clear hin
    rcases hE with ⟨rfl, hTX⟩ | hE
    · have HTX := Lib.hid hTX
      clear hTX
      go_enter Tryd.func4, Tryd.ntmps4
      go_wp2_with fail
      rw [HT0.out]
      refine (text_no _ _ HIN.out).mono ?_
      rintro e w2 ⟨rfl, hw⟩
      subst hw
      have hb3 := Below.refl w.heap.size w
      go_wp2_with fail
      refine (HI2.out _).mono ?_
      rintro e w3 ⟨rfl, hb4⟩
      have hb5 := hb3.trans (hb4.mono hb3.size)
      clear hb3 hb4
      go_wp2_with fail
      refine (HTX.out _ (HTB.out _ hb5)).mono ?_
      rintro e w4 ⟨rfl, hb6⟩
      have hb7 := hb5.trans (hb6.mono hb5.size)
      clear hb5 hb6
      go_wp2_with fail
      refine (words_any _ _ (by omega) (HMB.out _ hb7)).mono ?_
      rintro e w5 ⟨v1, v2, rfl, hx, hy, hb8⟩
      have hb9 := hb7.trans (hb8.mono hb7.size)
      rw [HQ1.out] at hx hy
      have r1 := Rd.of_row hx
      have r2 := Rd.of_row hy
      clear hx hy hb7 hb8
      rcases r1 with ⟨e1, a1, c1, rfl⟩ | ⟨l1, b1, o1, c1, rfl, g1⟩
      · have hq0 : qs = [] := by simpa [strsOf] using e1
        rcases r2 with ⟨e2, a2, c2, rfl⟩ | ⟨l2, _⟩
        · clear HQ1
          subst hq0
          go_wp2_with fail
          refine (alive_any _ (HMB.out _ hb9)).mono ?_
          rintro e w6 ⟨rfl, hb10⟩
          have hb11 := hb9.trans (hb10.mono hb9.size)
          clear hb9 hb10
          go_wp2
          refine wp_loop_rounds 1 ?_
          rw [rounds_succ]
          go_wp2
          go_ret
          exact ⟨rfl, hb11⟩
        · rw [hq0] at l2; simp [begsOf] at l2
      · rcases r2 with ⟨e2, _⟩ | ⟨l2, b2, o2, c2, rfl, g2⟩
        · have hq0 : qs = [] := by simpa [begsOf] using e2
          rw [hq0] at l1; simp [strsOf] at l1
        · have HG : Hid (∀ i (h : i < qs.length), w5.cell? ⟨b1, o1 + i, none⟩ = some (.string ⟨(cutAt (lineOf t.data.toList) qs[i]).toArray⟩) ∧ w5.cell? ⟨b2, o2 + i, none⟩ = some (.int .i64 qs[i].1)) := by
            intro i h
            exact ⟨g1 i _ (by unfold strsOf; rw [List.getElem?_map, List.getElem?_eq_getElem h]; rfl), g2 i _ (by unfold begsOf; rw [List.getElem?_map, List.getElem?_eq_getElem h]; rfl)⟩
          have hbl : b1 < w5.heap.size ∧ b2 < w5.heap.size := by
            have h0 : 0 < qs.length := by simpa [strsOf] using l1
            exact ⟨World.block_lt_of_cell? w5 _ (HG.out 0 h0).1, World.block_lt_of_cell? w5 _ (HG.out 0 h0).2⟩
          obtain ⟨hbl1, hbl2⟩ := hbl
          clear g1 g2
          have el1 : (strsOf (lineOf t.data.toList) qs).length = qs.length := by simp [strsOf]
          have el2 : (begsOf qs).length = qs.length := by simp [begsOf]
          rw [el1, el2]
          clear el1 el2 l1 l2
          go_wp2_with fail
          refine (alive_any _ (HMB.out _ hb9)).mono ?_
          rintro e w6 ⟨rfl, hb10⟩
          go_wp2
          go_loopw [15, 77] (fun x y wr => ∃ k lo : Nat, k ≤ qs.length ∧ y = .int .i64 k ∧ x = .int .i64 ((lo : Int) - 1) ∧ lo ≤ 401 ∧ rise lo (qs.drop k) ∧ Below w5.heap.size w5 wr) (fun _ y _ => qs.length - (intOf y).toNat)
          case atStart => exact ⟨0, 0, by omega, rfl, rfl, by omega, HQ2.out, hb10⟩
          case round =>
            clear hb10
            obtain ⟨k, lo, hk, rfl, rfl, hlo, hri, hbr⟩ := hrel
            by_cases hlt : k < qs.length
            · obtain ⟨hr1, hr2, hr3⟩ := rise_at qs lo k hlt hri
              obtain ⟨hs2, b, hbe, hbs, hbn, hbp⟩ := HQ3.out k hlt
              obtain ⟨hc1, hc2⟩ := HG.out k hlt
              rw [hbe] at hc1
              have d1 : wr.cell? ⟨b1, o1 + k, none⟩ = some (.string b) := (hbr.cell (p := ⟨b1, o1 + k, none⟩) hbl1).trans hc1
              have d2 : wr.cell? ⟨b2, o2 + k, none⟩ = some (.int .i64 qs[k].1) := (hbr.cell (p := ⟨b2, o2 + k, none⟩) hbl2).trans hc2
              have HR3 := Lib.hid hr3
              have HBN := Lib.hid hbn
              clear hc1 hc2 hri hr3 hbe hbn
              generalize qs[k] = qk at *
              obtain ⟨qa, qb⟩ := qk
              simp only at hr1 hr2 hs2 hbs hbp d2 HR3
              have hbz : (b.size : Int) = (qb : Int) - (qa : Int) := by omega
              have hbe2 : b.toList.isEmpty = false := by
                rw [Lib.toList_data]
                cases hh : b.data.toList with
                | nil => have h0 : b.size = 0 := by rw [Lib.size_eq, hh]; rfl
                         omega
                | cons x r => rfl
              have tle : decide ((qa : Int) ≤ (lo : Int) - 1) = false := by simp; omega
              have kk : (k : Int) < (qs.length : Int) := by omega
              have HBP : Hid (Lib.hasPrefix (t.extract qa t.size).data.toList b.data.toList = true) := by
                unfold Hid
                rw [Lib.extract_data, Lib.size_eq, List.take_of_length_le (by rw [List.length_drop]; omega)]
                exact hbp
              have HBZ := Lib.hid hbz
              have hbb : b.size ≤ 400 := by omega
              clear hbs hbp hbz
              have mn : (min (qa : Int) (t.size : Int)) = (qa : Int) := by omega
              go_wp2_with fail
              refine (Tryd.strings_HasPrefix _ _ _).mono ?_
              rintro e w' ⟨rfl, hw⟩
              rw [hw, HBP.out]
              clear hw
              go_wp2_with fail
              refine (contains_none b _ (by omega) HBN.out).mono ?_
              rintro e w8 ⟨rfl, hb12⟩
              have d3 : w8.cell? ⟨b2, o2 + k, none⟩ = some (.int .i64 qa) := (hb12.cell (p := ⟨b2, o2 + k, none⟩) (Nat.lt_of_lt_of_le hbl2 hbr.size)).trans d2
              have hb13 := hbr.trans (hb12.mono hbr.size)
              clear d1 d2 hb12 hbr
              go_wp2
              go_roundw
              case rel => exact ⟨k + 1, qb + 1, by omega, by go_num, ret_val (by have := HBZ.out; omega), by omega, HR3.out, hb13⟩
              case measure => simp [intOf]; omega
            · go_wp2
              go_ret
              exact ⟨rfl, hb9.trans (hbr.mono hb9.size)⟩
    · rcases hE with rfl | rfl
      all_goals
        go_enter Tryd.func4, Tryd.ntmps4
        go_wp2_with fail
        rw [HT0.out]
        refine (text_no _ _ HIN.out).mono ?_
        rintro e w2 ⟨rfl, hw⟩
        subst hw
        have hb3 := Below.refl w.heap.size w
        go_wp2_with fail
        refine (HI2.out _).mono ?_
        rintro e w3 ⟨rfl, hb4⟩
        have hb5 := hb3.trans (hb4.mono hb3.size)
        clear hb3 hb4
        go_wp2_with fail
        have hb7 := hb5
        clear hb5
        refine (words_any _ _ (by omega) (HMB.out _ hb7)).mono ?_
        rintro e w5 ⟨v1, v2, rfl, hx, hy, hb8⟩
        have hb9 := hb7.trans (hb8.mono hb7.size)
        rw [HQ1.out] at hx hy
        have r1 := Rd.of_row hx
        have r2 := Rd.of_row hy
        clear hx hy hb7 hb8
        rcases r1 with ⟨e1, a1, c1, rfl⟩ | ⟨l1, b1, o1, c1, rfl, g1⟩
        · have hq0 : qs = [] := by simpa [strsOf] using e1
          rcases r2 with ⟨e2, a2, c2, rfl⟩ | ⟨l2, _⟩
          · clear HQ1
            subst hq0
            go_wp2_with fail
            refine (alive_any _ (HMB.out _ hb9)).mono ?_
            rintro e w6 ⟨rfl, hb10⟩
            have hb11 := hb9.trans (hb10.mono hb9.size)
            clear hb9 hb10
            go_wp2
            refine wp_loop_rounds 1 ?_
            rw [rounds_succ]
            go_wp2
            go_ret
            exact ⟨rfl, hb11⟩
          · rw [hq0] at l2; simp [begsOf] at l2
        · rcases r2 with ⟨e2, _⟩ | ⟨l2, b2, o2, c2, rfl, g2⟩
          · have hq0 : qs = [] := by simpa [begsOf] using e2
            rw [hq0] at l1; simp [strsOf] at l1
          · have HG : Hid (∀ i (h : i < qs.length), w5.cell? ⟨b1, o1 + i, none⟩ = some (.string ⟨(cutAt (lineOf t.data.toList) qs[i]).toArray⟩) ∧ w5.cell? ⟨b2, o2 + i, none⟩ = some (.int .i64 qs[i].1)) := by
              intro i h
              exact ⟨g1 i _ (by unfold strsOf; rw [List.getElem?_map, List.getElem?_eq_getElem h]; rfl), g2 i _ (by unfold begsOf; rw [List.getElem?_map, List.getElem?_eq_getElem h]; rfl)⟩
            have hbl : b1 < w5.heap.size ∧ b2 < w5.heap.size := by
              have h0 : 0 < qs.length := by simpa [strsOf] using l1
              exact ⟨World.block_lt_of_cell? w5 _ (HG.out 0 h0).1, World.block_lt_of_cell? w5 _ (HG.out 0 h0).2⟩
            obtain ⟨hbl1, hbl2⟩ := hbl
            clear g1 g2
            have el1 : (strsOf (lineOf t.data.toList) qs).length = qs.length := by simp [strsOf]
            have el2 : (begsOf qs).length = qs.length := by simp [begsOf]
            rw [el1, el2]
            clear el1 el2 l1 l2
            go_wp2_with fail
            refine (alive_any _ (HMB.out _ hb9)).mono ?_
            rintro e w6 ⟨rfl, hb10⟩
            go_wp2
            go_loopw [15, 77] (fun x y wr => ∃ k lo : Nat, k ≤ qs.length ∧ y = .int .i64 k ∧ x = .int .i64 ((lo : Int) - 1) ∧ lo ≤ 401 ∧ rise lo (qs.drop k) ∧ Below w5.heap.size w5 wr) (fun _ y _ => qs.length - (intOf y).toNat)
            case atStart => exact ⟨0, 0, by omega, rfl, rfl, by omega, HQ2.out, hb10⟩
            case round =>
              clear hb10
              obtain ⟨k, lo, hk, rfl, rfl, hlo, hri, hbr⟩ := hrel
              by_cases hlt : k < qs.length
              · obtain ⟨hr1, hr2, hr3⟩ := rise_at qs lo k hlt hri
                obtain ⟨hs2, b, hbe, hbs, hbn, hbp⟩ := HQ3.out k hlt
                obtain ⟨hc1, hc2⟩ := HG.out k hlt
                rw [hbe] at hc1
                have d1 : wr.cell? ⟨b1, o1 + k, none⟩ = some (.string b) := (hbr.cell (p := ⟨b1, o1 + k, none⟩) hbl1).trans hc1
                have d2 : wr.cell? ⟨b2, o2 + k, none⟩ = some (.int .i64 qs[k].1) := (hbr.cell (p := ⟨b2, o2 + k, none⟩) hbl2).trans hc2
                have HR3 := Lib.hid hr3
                have HBN := Lib.hid hbn
                clear hc1 hc2 hri hr3 hbe hbn
                generalize qs[k] = qk at *
                obtain ⟨qa, qb⟩ := qk
                simp only at hr1 hr2 hs2 hbs hbp d2 HR3
                have hbz : (b.size : Int) = (qb : Int) - (qa : Int) := by omega
                have hbe2 : b.toList.isEmpty = false := by
                  rw [Lib.toList_data]
                  cases hh : b.data.toList with
                  | nil => have h0 : b.size = 0 := by rw [Lib.size_eq, hh]; rfl
                           omega
                  | cons x r => rfl
                have tle : decide ((qa : Int) ≤ (lo : Int) - 1) = false := by simp; omega
                have kk : (k : Int) < (qs.length : Int) := by omega
                have HBP : Hid (Lib.hasPrefix (t.extract qa t.size).data.toList b.data.toList = true) := by
                  unfold Hid
                  rw [Lib.extract_data, Lib.size_eq, List.take_of_length_le (by rw [List.length_drop]; omega)]
                  exact hbp
                have HBZ := Lib.hid hbz
                have hbb : b.size ≤ 400 := by omega
                clear hbs hbp hbz
                have mn : (min (qa : Int) (t.size : Int)) = (qa : Int) := by omega
                go_wp2_with fail
                refine (Tryd.strings_HasPrefix _ _ _).mono ?_
                rintro e w' ⟨rfl, hw⟩
                rw [hw, HBP.out]
                clear hw
                go_wp2_with fail
                refine (contains_none b _ (by omega) HBN.out).mono ?_
                rintro e w8 ⟨rfl, hb12⟩
                have d3 : w8.cell? ⟨b2, o2 + k, none⟩ = some (.int .i64 qa) := (hb12.cell (p := ⟨b2, o2 + k, none⟩) (Nat.lt_of_lt_of_le hbl2 hbr.size)).trans d2
                have hb13 := hbr.trans (hb12.mono hbr.size)
                clear d1 d2 hb12 hbr
                go_wp2
                go_roundw
                case rel => exact ⟨k + 1, qb + 1, by omega, by go_num, ret_val (by have := HBZ.out; omega), by omega, HR3.out, hb13⟩
                case measure => simp [intOf]; omega
              · go_wp2
                go_ret
                exact ⟨rfl, hb9.trans (hbr.mono hb9.size)⟩
end Go.Proofs.YtjlojnmbjdkpiaaDoor
