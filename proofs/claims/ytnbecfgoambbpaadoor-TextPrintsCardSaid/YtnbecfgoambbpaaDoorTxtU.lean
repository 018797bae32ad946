/- The walk of the reference's Print. (Written by gen_txtU.py.) -/
import Derived.Test.YtnbecfgoambbpaaDoorTxtT
import Derived.Deep.RegionWith
import Derived.RegionTactic
import Derived.Deep.CutRange
import Derived.Deep.LoopGhost
namespace Go.Proofs.YtnbecfgoambbpaaDoor
open Go.RowKit WPlain

theorem refTextB (n : Int) (w : World) (h1 : -2147483648 ≤ n) (h2 : n ≤ 2147483647) :
    Calls Tryd.prog 29 #[.int .i64 n] w fun e w' => e = .returned (.string (itoaB n)) ∧ w = w' := refText_any n w h1 h2
def RefText (n : Int) : Prop := ∀ w, Calls Tryd.prog 29 #[.int .i64 n] w fun e w' => e = .returned (.string (itoaB n)) ∧ w = w'
theorem itoaB_size (n : Int) (h1 : -2147483648 ≤ n) (h2 : n ≤ 2147483647) : (itoaB n).size ≤ 11 := by rw [Lib.size_eq]; exact itoa_len n h1 h2
theorem kbytes_size (k : Nat) : (kbytes k).size ≤ 9 := by rw [Lib.size_eq]; exact kword_len k

set_option maxRecDepth 100000 in
set_option maxHeartbeats 3000000 in
theorem refPrint_any (v : Value) (h : List Ev) (w : World) (hv : Evs w v h) (hr : right h = true) :
    Calls Tryd.prog 15 #[v] w fun e w' => e = .returned (.string ⟨(printTxt h).toArray⟩) ∧ Below w.heap.size w w' := by
  simp only [right, Bool.and_eq_true, decide_eq_true_eq] at hr
  obtain ⟨⟨h60, hall⟩, _⟩ := hr
  have HALL : Hid (∀ e ∈ h, evOk e = true) := List.all_eq_true.1 hall
  have HV := Lib.hid hv
  obtain ⟨a, c, rfl⟩ := hv.len
  clear hall hv
  have hb := Below.refl w.heap.size w
  go_enter Tryd.func15, Tryd.ntmps15
  go_wp2_with fail
  go_loopg [3, 8] h.length (fun g y x wr => ∃ (k : Nat) (b : ByteArray), k ≤ h.length ∧ h.length - k ≤ g ∧ x = .int .i64 k ∧ y = .string b ∧ Hid (b.data.toList = printTxt (h.take k)) ∧ b.size ≤ k * 60 ∧ Below w.heap.size w wr)
  case atStart => exact ⟨0, ByteArray.empty, by omega, by omega, rfl, rfl, rfl, by simp, hb⟩
  case round =>
    clear hb
    obtain ⟨k, b, hk, hgg, rfl, rfl, HB, hbs, hb⟩ := hrel
    by_cases hlt : k < h.length
    · have hv2 := HV.out.below hb (Nat.le_refl _)
      have hbz := hb.size
      rcases hv2 with ⟨e0, _⟩ | ⟨l0, bb, o, c', he, hbl, hc⟩
      · rw [e0] at hlt; simp at hlt
      · obtain ⟨rfl, rfl⟩ : a = some ⟨bb, o, none⟩ ∧ c = c' := by simpa using he
        clear he
        obtain ⟨c0, c1, c2, c3⟩ := hc k hlt
        clear hc
        have hok := HALL.out h[k] (List.getElem_mem _)
        have hsn : h.take (k + 1) = h.take k ++ [h[k]] := List.take_succ_eq_append_getElem hlt
        have HSN : Hid (printTxt (h.take (k + 1)) = printTxt (h.take k) ++ evTxt h[k]) := by unfold Hid; rw [hsn, printTxt_snoc]
        clear hsn
        generalize h[k] = ev at *
        obtain ⟨ek, t, vv, x⟩ := ev
        simp only [evOk, inB, Bool.and_eq_true, decide_eq_true_eq] at hok
        obtain ⟨kk, rfl⟩ : ∃ kk : Nat, ek = (kk : Int) := ⟨ek.toNat, by omega⟩
        have hkk : kk < 10 := by omega
        have HW := Lib.hid (word_any kk hkk)
        have HT : Hid (RefText t) := fun w => refTextB t w (by omega) (by omega)
        have HVV : Hid (RefText vv) := fun w => refTextB vv w (by omega) (by omega)
        have HXX : Hid (RefText x) := fun w => refTextB x w (by omega) (by omega)
        have HVA := Lib.hid (variable_any kk hkk)
        have HVB := Lib.hid (value_any kk hkk)
        have hkb := kbytes_size kk
        have htb := itoaB_size t (by omega) (by omega)
        have hvb := itoaB_size vv (by omega) (by omega)
        have hxb := itoaB_size x (by omega) (by omega)
        have HKT : Hid (evTxt ⟨kk, t, vv, x⟩ = (kbytes kk).data.toList ++ [32] ++ (itoaB t).data.toList ++ (if hasV kk = true then [32] ++ (itoaB vv).data.toList else []) ++ (if hasX kk = true then [32] ++ (itoaB x).data.toList else []) ++ [10]) := rfl
        clear hok
        simp only [] at c0 c1 c2 c3
        have hE := At.new wr #[.int .i64 kk, .int .i64 t, .int .i64 vv, .int .i64 x] 44
        have hb2 := hb.alloc hb.size (.cells #[.int .i64 kk, .int .i64 t, .int .i64 vv, .int .i64 x] 44)
        have hn1 : (⟨#[10]⟩ : ByteArray).size = 1 := rfl
        have hn2 : (⟨#[32]⟩ : ByteArray).size = 1 := rfl
        have HN1 := Lib.hid hn1
        have HN2 := Lib.hid hn2
        clear hn1 hn2
        generalize kbytes kk = kb at *
        have q1 : ∀ w, (Op.stringOp .add b kb).run Tryd.prog w = .ok (.string (b ++ kb)) w := fun w => run_string_add_sum w _ _ (by omega)
        have q2 : ∀ w, (Op.stringOp .add (b ++ kb) ⟨#[32]⟩).run Tryd.prog w = .ok (.string (b ++ kb ++ ⟨#[32]⟩)) w := fun w => run_string_add_sum w _ _ (by rw [ByteArray.size_append, HN2.out]; omega)
        have q3 : ∀ w, (Op.stringOp .add (b ++ kb ++ ⟨#[32]⟩) (itoaB t)).run Tryd.prog w = .ok (.string (b ++ kb ++ ⟨#[32]⟩ ++ itoaB t)) w := fun w => run_string_add_sum w _ _ (by rw [ByteArray.size_append, HN2.out, ByteArray.size_append]; omega)
        have hs1 : ¬ 9223372036854775807 < b.size + kb.size := by omega
        have hs2 : ¬ 9223372036854775807 < b.size + kb.size + 1 := by omega
        have hs3 : ¬ 9223372036854775807 < b.size + kb.size + 1 + (itoaB t).size := by omega
        go_upto_region 5 with fail
        generalize hN : wr.heap.size = N at *
        generalize wr.alloc (.cells #[.int .i64 kk, .int .i64 t, .int .i64 vv, .int .i64 x] 44) = w1 at *
        have e0 : w1.cell? ⟨N, 0, none⟩ = some (.int .i64 kk) := hE.cell (i := 0) rfl
        have e1 : w1.cell? ⟨N, 1, none⟩ = some (.int .i64 t) := hE.cell (i := 1) rfl
        clear c0 c1 c2 c3 hN
        go_cut [3, 8] from 8 to 42 (fun y z wx => y = .string (b ++ kb ++ ⟨#[32]⟩ ++ itoaB t) ∧ z = .int .i64 k ∧ At wx N #[.int .i64 kk, .int .i64 t, .int .i64 vv, .int .i64 x] 44 ∧ Below w.heap.size w wx)
        case first =>
          go_region_with (first
            | ((with_reducible refine (HW.out _).mono ?_); rintro e w2 ⟨rfl, hb3⟩; have hE2 := hE.drew.below hb3 hE.lt; have hb4 := hb2.drew.trans (hb3.mono hb2.size); have e1' : w2.cell? ⟨N, 1, none⟩ = some (.int .i64 t) := hE2.cell (i := 1) rfl)
            | (refine (HT.out _).mono ?_; rintro e w9 ⟨rfl, rfl⟩))
          all_goals (try go_wp2_with fail)
          all_goals go_meet
          all_goals exact ⟨rfl, rfl, hE2, hb4⟩
        case rest =>
          obtain ⟨rfl, rfl, hE2, hb4⟩ := hcut
          have hpl : (b ++ kb ++ ⟨#[32]⟩ ++ itoaB t).size ≤ k * 60 + 21 := by rw [ByteArray.size_append, ByteArray.size_append, HN2.out, ByteArray.size_append]; omega
          have HPD : Hid ((b ++ kb ++ ⟨#[32]⟩ ++ itoaB t).data.toList = printTxt (h.take k) ++ (kb.data.toList ++ [32] ++ (itoaB t).data.toList)) := by
            unfold Hid
            rw [← HB.out]
            simp
          generalize b ++ kb ++ ⟨#[32]⟩ ++ itoaB t = pb at *
          clear q1 q2 q3 hs1 hs2 hs3 e0 e1 hE hb2 hb
          have e0 := hE2.cell (i := 0) rfl
          have e2 := hE2.cell (i := 2) rfl
          have e3 := hE2.cell (i := 3) rfl
          cases hbv : hasV kk <;> cases hbx : hasX kk
          · have HBV := Lib.hid hbv
            have HBX := Lib.hid hbx
            have HBE : Hid ((pb ++ ⟨#[10]⟩).data.toList = printTxt (h.take (k + 1))) := by
              have hp := HPD.out
              unfold Hid
              rw [HSN.out, HKT.out, hbv, hbx]
              simp [hp]
            have HBS : Hid ((pb ++ ⟨#[10]⟩).size ≤ (k + 1) * 60) := by
              unfold Hid
              simp only [ByteArray.size_append, HN1.out]
              omega
            clear hbv hbx HPD
            go_wp2_with fail
            refine (HVA.out _).mono ?_
            rintro e w3 ⟨rfl, rfl⟩
            rw [HBV.out]
            go_wp2_with fail
            refine (HVB.out _).mono ?_
            rintro e w3 ⟨rfl, rfl⟩
            rw [HBX.out]
            go_wp2
            go_roundg (h.length - (k + 1))
            case measure => omega
            case rel =>
              refine ⟨k + 1, _, by omega, by omega, ?_, rfl, ?_, ?_, ?_⟩
              · go_num
              · exact HBE
              · exact HBS.out
              · exact hb4
          · have HBV := Lib.hid hbv
            have HBX := Lib.hid hbx
            have HBE : Hid ((pb ++ ⟨#[32]⟩ ++ itoaB x ++ ⟨#[10]⟩).data.toList = printTxt (h.take (k + 1))) := by
              have hp := HPD.out
              unfold Hid
              rw [HSN.out, HKT.out, hbv, hbx]
              simp [hp]
            have HBS : Hid ((pb ++ ⟨#[32]⟩ ++ itoaB x ++ ⟨#[10]⟩).size ≤ (k + 1) * 60) := by
              unfold Hid
              simp only [ByteArray.size_append, HN1.out, HN2.out]
              omega
            clear hbv hbx HPD
            go_wp2_with fail
            refine (HVA.out _).mono ?_
            rintro e w3 ⟨rfl, rfl⟩
            rw [HBV.out]
            go_wp2_with fail
            refine (HVB.out _).mono ?_
            rintro e w3 ⟨rfl, rfl⟩
            rw [HBX.out]
            go_wp2_with fail
            refine (HXX.out _).mono ?_
            rintro e w3 ⟨rfl, rfl⟩
            go_wp2
            go_roundg (h.length - (k + 1))
            case measure => omega
            case rel =>
              refine ⟨k + 1, _, by omega, by omega, ?_, rfl, ?_, ?_, ?_⟩
              · go_num
              · exact HBE
              · exact HBS.out
              · exact hb4
          · have HBV := Lib.hid hbv
            have HBX := Lib.hid hbx
            have HBE : Hid ((pb ++ ⟨#[32]⟩ ++ itoaB vv ++ ⟨#[10]⟩).data.toList = printTxt (h.take (k + 1))) := by
              have hp := HPD.out
              unfold Hid
              rw [HSN.out, HKT.out, hbv, hbx]
              simp [hp]
            have HBS : Hid ((pb ++ ⟨#[32]⟩ ++ itoaB vv ++ ⟨#[10]⟩).size ≤ (k + 1) * 60) := by
              unfold Hid
              simp only [ByteArray.size_append, HN1.out, HN2.out]
              omega
            clear hbv hbx HPD
            go_wp2_with fail
            refine (HVA.out _).mono ?_
            rintro e w3 ⟨rfl, rfl⟩
            rw [HBV.out]
            go_wp2_with fail
            refine (HVV.out _).mono ?_
            rintro e w3 ⟨rfl, rfl⟩
            go_wp2_with fail
            refine (HVB.out _).mono ?_
            rintro e w3 ⟨rfl, rfl⟩
            rw [HBX.out]
            go_wp2
            go_roundg (h.length - (k + 1))
            case measure => omega
            case rel =>
              refine ⟨k + 1, _, by omega, by omega, ?_, rfl, ?_, ?_, ?_⟩
              · go_num
              · exact HBE
              · exact HBS.out
              · exact hb4
          · have HBV := Lib.hid hbv
            have HBX := Lib.hid hbx
            have HBE : Hid ((pb ++ ⟨#[32]⟩ ++ itoaB vv ++ ⟨#[32]⟩ ++ itoaB x ++ ⟨#[10]⟩).data.toList = printTxt (h.take (k + 1))) := by
              have hp := HPD.out
              unfold Hid
              rw [HSN.out, HKT.out, hbv, hbx]
              simp [hp]
            have HBS : Hid ((pb ++ ⟨#[32]⟩ ++ itoaB vv ++ ⟨#[32]⟩ ++ itoaB x ++ ⟨#[10]⟩).size ≤ (k + 1) * 60) := by
              unfold Hid
              simp only [ByteArray.size_append, HN1.out, HN2.out]
              omega
            clear hbv hbx HPD
            go_wp2_with fail
            refine (HVA.out _).mono ?_
            rintro e w3 ⟨rfl, rfl⟩
            rw [HBV.out]
            go_wp2_with fail
            refine (HVV.out _).mono ?_
            rintro e w3 ⟨rfl, rfl⟩
            go_wp2_with fail
            refine (HVB.out _).mono ?_
            rintro e w3 ⟨rfl, rfl⟩
            rw [HBX.out]
            go_wp2_with fail
            refine (HXX.out _).mono ?_
            rintro e w3 ⟨rfl, rfl⟩
            go_wp2
            go_roundg (h.length - (k + 1))
            case measure => omega
            case rel =>
              refine ⟨k + 1, _, by omega, by omega, ?_, rfl, ?_, ?_, ?_⟩
              · go_num
              · exact HBE
              · exact HBS.out
              · exact hb4
    · obtain rfl : k = h.length := by omega
      have HF : Hid (b = ⟨(printTxt h).toArray⟩) := by
        unfold Hid
        have h1 := HB.out
        rw [List.take_length] at h1
        rw [← h1]
      go_wp2
      go_ret
      exact ⟨by rw [← HF.out]; rfl, hb⟩
end Go.Proofs.YtnbecfgoambbpaaDoor
