/- The walks of the reference's Bit, Choice and Choices. -/
import Derived.Test.YtoemcdcabamgiaaDoorMg13
namespace Go.Proofs.YtoemcdcabamgiaaDoor.WPlain
end Go.Proofs.YtoemcdcabamgiaaDoor.WPlain
namespace Go.Proofs.YtoemcdcabamgiaaDoor.QPlain
end Go.Proofs.YtoemcdcabamgiaaDoor.QPlain
namespace Go.Proofs.YtoemcdcabamgiaaDoor.RPlain
end Go.Proofs.YtoemcdcabamgiaaDoor.RPlain
namespace Go.Proofs.YtoemcdcabamgiaaDoor
open Go.RowKit WPlain QPlain RPlain

set_option maxRecDepth 100000 in
theorem refBit9_any (n k : Nat) (hn : n < 4294967296) (hk : k ≤ 65536) (w : World) : Calls Tryd.prog 69 #[.int .u32 (n : Int), .int .i64 (k : Int)] w fun e w' => e = .returned (.bool (n.testBit k)) ∧ w' = w := by
  have HFIN : Hid (n.testBit k = decide (n / 2 ^ k % 2 = 1)) := Nat.testBit_eq_decide_div_mod_eq
  go_enter Tryd.func69, Tryd.ntmps69
  go_wp2_with fail
  go_loopw [0, 5] (fun y x wr => ∃ i : Nat, i ≤ k ∧ x = .int .i64 i ∧ (∃ p : Nat, y = .int .u32 p ∧ p < 4294967296 ∧ Hid (p = n / 2 ^ i)) ∧ wr = w) (fun _ x _ => k - (intOf x).toNat)
  case atStart => exact ⟨0, by omega, rfl, ⟨n, rfl, hn, by unfold Hid; rw [Nat.pow_zero, Nat.div_one]⟩, rfl⟩
  case round =>
    obtain ⟨i, hi, rfl, ⟨p, rfl, hp, HP⟩, rfl⟩ := hrel
    by_cases hlt : i < k
    · have HP2 : Hid (p / 2 = n / 2 ^ (i + 1)) := by unfold Hid; rw [HP.out, Nat.div_div_eq_div_mul, Nat.pow_succ]
      clear HP
      go_wp2
      go_roundw
      case rel => exact ⟨i + 1, by omega, by go_num, ⟨p / 2, by go_num, by omega, HP2⟩, trivial⟩
      case measure => simp [intOf]; omega
    · obtain rfl : i = k := by omega
      rw [← HP.out] at HFIN
      clear HP
      go_wp2
      go_ret
      exact ⟨ret_bool (by rw [HFIN.out, Bool.eq_iff_iff]; simp; omega), rfl⟩
theorem choice_take {n : Nat} {l : List Tx} {k : Nat} (hk : k < l.length) : choiceG n 0 (l.take (k + 1)) = (choiceG n 0 (l.take k) && okBit l[k].s (n.testBit k)) := by
  rw [List.take_succ_eq_append_getElem hk, choiceG_snoc, List.length_take, Nat.min_eq_left (by omega), Nat.zero_add]
theorem choice_stop {n : Nat} {l : List Tx} {k : Nat} (hk : k < l.length) (h : okBit l[k].s (n.testBit k) = false) : choiceS l n = false := by
  unfold choiceS
  rw [Bool.and_eq_false_iff]
  left
  cases hc : choiceG n 0 l with
  | false => rfl
  | true =>
    have := choice_at hc hk
    rw [Nat.zero_add, h] at this
    exact absurd this (by decide)
set_option maxRecDepth 100000 in
set_option maxHeartbeats 1000000 in
theorem refChoice_any (v : Value) (l : List Tx) (n : Nat) (w : World) (hv : Txs w v l) (hl : l.length ≤ 65536) (hn : n < 4294967296) :
    Calls Tryd.prog 46 #[v, .int .u32 (n : Int)] w fun e w' => e = .returned (.bool (choiceS l n)) ∧ Below w.heap.size w w' := by
  have HV := Lib.hid hv
  have HB0 := Lib.hid (Below.refl w.heap.size w)
  obtain ⟨a, c, rfl⟩ := hv.len
  clear hv
  go_enter Tryd.func46, Tryd.ntmps46
  go_wp2_with fail
  go_loopw [9] (fun x wr => ∃ k : Nat, k ≤ l.length ∧ x = .int .i64 k ∧ Hid (choiceG n 0 (l.take k) = true) ∧ Hid (Below w.heap.size w wr)) (fun x _ => l.length - (intOf x).toNat)
  case atStart => exact ⟨0, by omega, rfl, rfl, HB0⟩
  case round =>
    clear HB0
    obtain ⟨k, hk, rfl, HC, HB⟩ := hrel
    by_cases hlt : k < l.length
    · have hT := HV.out.below HB.out (Nat.le_refl _)
      obtain ⟨b, o, c', he⟩ := hT.opened (by omega)
      simp only [Value.slice.injEq] at he
      obtain ⟨rfl, -, rfl⟩ := he
      obtain ⟨u, x0, x1, x2, x3, x4, q⟩ := hT.get k hlt
      obtain ⟨ua, uc, rfl, -⟩ := q.len
      have HB2 := Lib.hid (HB.out.alloc HB.out.size (.cells #[.int .i64 l[k].n, .int .i64 l[k].f, .int .i64 l[k].l, .int .i64 l[k].s, .slice ua l[k].o.length uc] 49))
      have hA := At.new wr #[.int .i64 l[k].n, .int .i64 l[k].f, .int .i64 l[k].l, .int .i64 l[k].s, .slice ua l[k].o.length uc] 49
      have HBT := Lib.hid (fun (W : World) => refBit9_any n k hn (by omega) W)
      have HTK := Lib.hid (choice_take (n := n) hlt)
      have HST := Lib.hid (choice_stop (n := n) hlt)
      generalize n.testBit k = bb at *
      generalize l[k] = X at *
      have y3 := hA.cell (i := 3) rfl
      have hok : okBit X.s bb = (if bb = true then decide (X.s = 1) || decide (X.s = 2) else !decide (X.s = 2)) := rfl
      clear hT q hA HB
      cases bb with
      | true =>
        by_cases h2 : X.s = 2
        · have HC2 : Hid (choiceG n 0 (l.take (k + 1)) = true) := by unfold Hid; rw [HTK.out, HC.out, hok, if_pos rfl]; simp [h2]
          have t2 : ((X.s : Int) != 2) = false := by simp [h2]
          clear hok h2 HTK HST HC
          go_wp2_with (go_at_call 69; refine (HBT.out _).mono ?_; rintro e w3 ⟨rfl, rfl⟩)
          all_goals go_roundw
          case rel => exact ⟨k + 1, by omega, by go_num, HC2, HB2⟩
          case measure => simp [intOf]; omega
        · by_cases h1 : X.s = 1
          · have HC2 : Hid (choiceG n 0 (l.take (k + 1)) = true) := by unfold Hid; rw [HTK.out, HC.out, hok, if_pos rfl]; simp [h1]
            have t2 : ((X.s : Int) != 2) = true := by simp [h2]
            have t1 : ((X.s : Int) != 1) = false := by simp [h1]
            clear hok h1 h2 HTK HST HC
            go_wp2_with (go_at_call 69; refine (HBT.out _).mono ?_; rintro e w3 ⟨rfl, rfl⟩)
            all_goals go_roundw
            case rel => exact ⟨k + 1, by omega, by go_num, HC2, HB2⟩
            case measure => simp [intOf]; omega
          · have HC2 : Hid (choiceS l n = false) := HST.out (by rw [hok, if_pos rfl]; simp [h1, h2])
            have t2 : ((X.s : Int) != 2) = true := by simp [h2]
            have t1 : ((X.s : Int) != 1) = true := by simp [h1]
            clear hok h1 h2 HTK HST HC
            go_wp2_with (go_at_call 69; refine (HBT.out _).mono ?_; rintro e w3 ⟨rfl, rfl⟩)
            go_ret
            exact ⟨ret_bool HC2.out.symm, HB2.out⟩
      | false =>
        by_cases h2 : X.s = 2
        · have HC2 : Hid (choiceS l n = false) := HST.out (by rw [hok, if_neg (by decide)]; simp [h2])
          have t2 : ((X.s : Int) == 2) = true := by simp [h2]
          clear hok h2 HTK HST HC
          go_wp2_with (go_at_call 69; refine (HBT.out _).mono ?_; rintro e w3 ⟨rfl, rfl⟩)
          go_ret
          exact ⟨ret_bool HC2.out.symm, HB2.out⟩
        · have HC2 : Hid (choiceG n 0 (l.take (k + 1)) = true) := by unfold Hid; rw [HTK.out, HC.out, hok, if_neg (by decide)]; simp [h2]
          have t2 : ((X.s : Int) == 2) = false := by simp [h2]
          clear hok h2 HTK HST HC
          go_wp2_with (go_at_call 69; refine (HBT.out _).mono ?_; rintro e w3 ⟨rfl, rfl⟩)
          all_goals go_roundw
          case rel => exact ⟨k + 1, by omega, by go_num, HC2, HB2⟩
          case measure => simp [intOf]; omega
    · obtain rfl : k = l.length := by omega
      have HF : Hid (choiceS l n = decide (n / 2 ^ l.length = 0)) := by
        unfold Hid choiceS
        have := HC.out
        rw [List.take_length] at this
        rw [this, Bool.true_and, Bool.eq_iff_iff, decide_eq_true_eq, decide_eq_true_eq, Nat.div_eq_zero_iff]
        have := Nat.two_pow_pos l.length
        omega
      clear HC
      obtain ⟨w9, hw9⟩ : ∃ w9 : World, w9 = wr := ⟨wr, rfl⟩
      subst hw9
      go_wp2_with fail
      go_loopw [1, 41] (fun y x wr => ∃ i : Nat, i ≤ l.length ∧ x = .int .i64 i ∧ (∃ p : Nat, y = .int .u32 p ∧ p < 4294967296 ∧ Hid (p = n / 2 ^ i)) ∧ wr = w9) (fun _ x _ => l.length - (intOf x).toNat)
      case atStart => exact ⟨0, by omega, rfl, ⟨n, rfl, hn, by unfold Hid; rw [Nat.pow_zero, Nat.div_one]⟩, rfl⟩
      case round =>
        obtain ⟨i, hi, rfl, ⟨p, rfl, hp, HP⟩, rfl⟩ := hrel
        by_cases hlt : i < l.length
        · have HP2 : Hid (p / 2 = n / 2 ^ (i + 1)) := by unfold Hid; rw [HP.out, Nat.div_div_eq_div_mul, Nat.pow_succ]
          clear HP
          go_wp2
          go_roundw
          case rel => exact ⟨i + 1, by omega, by go_num, ⟨p / 2, by go_num, by omega, HP2⟩, trivial⟩
          case measure => simp [intOf]; omega
        · obtain rfl : i = l.length := by omega
          rw [← HP.out] at HF
          clear HP
          go_wp2
          go_ret
          exact ⟨ret_bool (by rw [HF.out, Bool.eq_iff_iff]; simp), HB.out⟩
theorem choices_step (l : List Tx) (k : Nat) : (List.range (k + 1)).filter (choiceS l) = if choiceS l k = true then (List.range k).filter (choiceS l) ++ [k] else (List.range k).filter (choiceS l) := by
  rw [List.range_succ, List.filter_append]
  cases hc : choiceS l k <;> simp [hc]
set_option maxRecDepth 100000 in
set_option maxHeartbeats 1000000 in
theorem refChoices_any (v : Value) (l : List Tx) (w : World) (hv : Txs w v l) (hl : l.length ≤ 65536) :
    Calls Tryd.prog 24 #[v] w fun e w' => ∃ v', e = .returned v' ∧ Rd w' v' (u32s (choicesS l)) ∧ Below w.heap.size w w' := by
  obtain ⟨i0, hi0, hz0, hz1, hz2⟩ := info_parts infoU
  have HV := Lib.hid hv
  have HFE : Hid (choicesS l = (List.range 64).filter (choiceS l)) := rfl
  have HST := Lib.hid (choices_step l)
  have HB0 := Lib.hid ((Below.refl w.heap.size w).alloc (Nat.le_refl _) (.cells #[] 23))
  have HR0 : Hid ((w.alloc (.cells #[] 23)).ownsRow w.heap.size 23 1 (.slice (some ⟨w.heap.size, 0, none⟩) 0 0) ((List.range 0).filter (choiceS l)).length (u32s ((List.range 0).filter (choiceS l)))) := World.ownsRow_made (size := 1) (e := 23) (base := w.heap.size) w #[] 0 (Nat.le_refl _) (by unfold maxLen; omega) rfl
  obtain ⟨a, c, rfl⟩ := hv.len
  clear hv
  go_enter Tryd.func24, Tryd.ntmps24
  go_wp2_with fail
  go_loopw [3, 4] (fun y x wr => ∃ k : Nat, k ≤ 64 ∧ x = .int .u32 k ∧ Hid (wr.ownsRow w.heap.size 23 1 y ((List.range k).filter (choiceS l)).length (u32s ((List.range k).filter (choiceS l)))) ∧ Hid (Below w.heap.size w wr)) (fun _ x _ => 64 - (intOf x).toNat)
  case atStart => exact ⟨0, by omega, rfl, HR0, HB0⟩
  case round =>
    clear HR0 HB0
    obtain ⟨k, hk, rfl, HR, HB⟩ := hrel
    have hgl : ((List.range k).filter (choiceS l)).length ≤ 64 := by
      have := List.length_filter_le (choiceS l) (List.range k)
      rw [List.length_range] at this
      omega
    by_cases hlt : k < 64
    · have HC := Lib.hid (refChoice_any _ l k wr (HV.out.below HB.out (Nat.le_refl _)) hl (by omega))
      have HSK := Lib.hid (HST.out k)
      generalize (List.range k).filter (choiceS l) = M at *
      obtain ⟨ma, mc, rfl⟩ := row_slice HR.out
      cases hb : choiceS l k with
      | true =>
        have HS2 : Hid ((List.range (k + 1)).filter (choiceS l) = M ++ [k]) := by unfold Hid; rw [HSK.out, if_pos hb]
        rw [hb] at HC
        clear hb HSK
        go_wp2_with (first | (go_at_call 46; refine HC.out.mono ?_; rintro e w3 ⟨rfl, hb3⟩; have hr3 := row_belowT HR.out hb3; have hbb := HB.out.trans (hb3.mono HB.out.size)) | (at_builtin; go_must (refine wpList_append_own _ rfl _ _ 54 rfl w.heap.size 23 i0 (.int .u32 0) 1 4 Tryd.underlying54 hi0 hz0 hz1 hz2 rfl (by decide) _ _ _ rfl (hr3.alloc _) ⟨w3.heap.size, 0, none⟩ 1 1 [.int .u32 (k : Int)] rfl rfl ?c1 ?c2 ?c3 ?c4 ?c5 ?_)))
        case c1 => exact cell_one_at w3 _ _
        case c2 => exact one_int _ _
        case c3 => unfold maxLen; omega
        case c4 => omega
        case c5 => have := hbb.size; simp; omega
        intro v5 w5 hv5 hg5 _
        have HB5 : Hid (Below w.heap.size w w5) := (hbb.alloc hbb.size (.cells #[.int .u32 (k : Int)] 23)).grown hg5 (by have := hbb.size; simp; omega) (fun k' hk' => (hr3.lt k' hk').1)
        have HR5 : Hid (w5.ownsRow w.heap.size 23 1 v5 (M ++ [k]).length (u32s (M ++ [k]))) := by rw [← u32s_snoc, List.length_append]; exact hv5
        clear hv5 hg5 hr3 hb3 hbb HR HB HC
        go_wp2
        go_roundw
        case rel => exact ⟨k + 1, by omega, by go_num, by rw [HS2.out]; exact HR5, HB5⟩
        case measure => simp [intOf]; omega
      | false =>
        have HS2 : Hid ((List.range (k + 1)).filter (choiceS l) = M) := by unfold Hid; rw [HSK.out, if_neg (by rw [hb]; decide)]
        rw [hb] at HC
        clear hb HSK
        go_wp2_with (go_at_call 46; refine HC.out.mono ?_; rintro e w3 ⟨rfl, hb3⟩; have HR3 := Lib.hid (row_belowT HR.out hb3); have HB3 := Lib.hid (HB.out.trans (hb3.mono HB.out.size)); clear hb3)
        go_roundw
        case rel => exact ⟨k + 1, by omega, by go_num, by rw [HS2.out]; exact HR3, HB3⟩
        case measure => simp [intOf]; omega
    · obtain rfl : k = 64 := by omega
      rw [← HFE.out] at HR
      obtain ⟨ma, mc, rfl⟩ := row_slice HR.out
      go_wp2
      go_ret
      exact ⟨_, rfl, Rd.of_row HR.out, HB.out⟩
end Go.Proofs.YtoemcdcabamgiaaDoor
