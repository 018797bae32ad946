/- The walk of TextBack. (Written by gen_txtR.py.) -/
import Derived.Test.YtnbecfgoambbpaaDoorTxtO
import Derived.Test.YtnbecfgoambbpaaDoorTxtQ
import Derived.Test.YtnbecfgoambbpaaDoorTxtJ
import Derived.RegionTactic
import Derived.WalkLawsBesides
namespace Go.Proofs.YtnbecfgoambbpaaDoor
open Go.RowKit WPlain

theorem below_drew1 (w : World) : Below w.heap.size w w.drew := (Below.refl _ _).drew
theorem cut_size1 (s : ByteArray) (n : Nat) : (s.extract 0 n).size ≤ n := by simp [ByteArray.size_extract]; omega
theorem size_mk (l : List UInt8) : (⟨l.toArray⟩ : ByteArray).size = l.length := by rw [Lib.size_eq]
theorem print_len (h : List Ev) (hr : right h = true) : (printTxt h).length ≤ 3000 := by
  simp only [right, Bool.and_eq_true, decide_eq_true_eq] at hr
  have := printTxt_len h hr.1.2
  omega

set_option maxRecDepth 100000 in
set_option maxHeartbeats 4000000 in
theorem back_n0 (a : Option Addr) (n m c : Nat) (H : List Ev) (s b : ByteArray) (w : World) (HM : Hid (HasM w)) (HK : Hid (HasK w)) (_ : Hid (HasP w)) (hn : n ≤ c) (hs : s.size ≤ 9223372036854775807)
    (HAE : Hid ((min (n : Int) 65).toNat = m)) (HBE : Hid (s.extract 0 (min (s.size : Int) 3010).toNat = b)) (hb : b.size ≤ 3010) (HV : Hid (Evs w (.slice a m c) H)) (hl : H.length ≤ 65) (_ : (parse b.data.toList).1.length ≤ 60) (HR : Hid (right H = false)) (e2 : Int) (HE : Hid ((parse b.data.toList).2.2 = e2)) (te2 : ((e2 : Int) != 0) = true) (HF : Hid ((parse b.data.toList).1 = [])) :
    Calls Tryd.prog 5 #[.slice a n c, .string s] w fun e w' => e = .returned (.bool true) ∧ Below w.heap.size w w' := by
  go_enter Tryd.func5, Tryd.ntmps5
  go_wp2
  go_region
  go_wp2_with fail
  rw [HAE.out, HBE.out]
  have hb0 := below_drew1 w
  have HV0 := Lib.hid (HV.out.below hb0 (Nat.le_refl _))
  refine (print_no _ H _ (HK.out.later hb0 (Nat.le_refl _)) HV0.out (by omega) HR.out).mono ?_
  rintro e w1 ⟨rfl, hb1⟩
  have hb3 := hb0.trans (hb1.mono hb0.size)
  clear hb1 hb0
  go_wp2_with fail
  refine (parse_any b _ (by omega) (HM.out.later hb3 (Nat.le_refl _)) (HK.out.later hb3 (Nat.le_refl _))).mono ?_
  rintro e w4 ⟨v4, rfl, hv4, _, hb4⟩
  have hb5 := hb3.trans (hb4.mono hb3.size)
  rw [HE.out]
  clear hb3 hb4
  rw [HF.out] at hv4
  obtain ⟨xa, xc, rfl⟩ := hv4.len
  clear hv4
  go_wp2_with fail
  refine (alive_any _ (HM.out.later hb5 (Nat.le_refl _)) (HK.out.later hb5 (Nat.le_refl _))).mono ?_
  rintro e w9 ⟨rfl, hb9⟩
  have hbz := hb5.trans (hb9.mono hb5.size)
  clear hb9 hb5
  go_wp2
  go_ret
  exact ⟨rfl, hbz⟩

set_option maxRecDepth 100000 in
set_option maxHeartbeats 4000000 in
theorem back_n1 (a : Option Addr) (n m c : Nat) (H : List Ev) (s b : ByteArray) (w : World) (HM : Hid (HasM w)) (HK : Hid (HasK w)) (HP : Hid (HasP w)) (hn : n ≤ c) (hs : s.size ≤ 9223372036854775807)
    (HAE : Hid ((min (n : Int) 65).toNat = m)) (HBE : Hid (s.extract 0 (min (s.size : Int) 3010).toNat = b)) (hb : b.size ≤ 3010) (HV : Hid (Evs w (.slice a m c) H)) (hl : H.length ≤ 65) (hl2 : (parse b.data.toList).1.length ≤ 60) (HR : Hid (right H = false)) (HE : Hid ((parse b.data.toList).2.2 = 0)) (HRX : Hid (right (parse b.data.toList).1 = true)) :
    Calls Tryd.prog 5 #[.slice a n c, .string s] w fun e w' => e = .returned (.bool true) ∧ Below w.heap.size w w' := by
  go_enter Tryd.func5, Tryd.ntmps5
  go_wp2
  go_region
  go_wp2_with fail
  rw [HAE.out, HBE.out]
  have hb0 := below_drew1 w
  have HV0 := Lib.hid (HV.out.below hb0 (Nat.le_refl _))
  refine (print_no _ H _ (HK.out.later hb0 (Nat.le_refl _)) HV0.out (by omega) HR.out).mono ?_
  rintro e w1 ⟨rfl, hb1⟩
  have hb3 := hb0.trans (hb1.mono hb0.size)
  clear hb1 hb0
  go_wp2_with fail
  refine (parse_any b _ (by omega) (HM.out.later hb3 (Nat.le_refl _)) (HK.out.later hb3 (Nat.le_refl _))).mono ?_
  rintro e w4 ⟨v4, rfl, hv4, _, hb4⟩
  have hb5 := hb3.trans (hb4.mono hb3.size)
  rw [HE.out]
  clear hb3 hb4
  have HX := Lib.hid hv4
  clear hv4
  generalize (parse b.data.toList).1 = X at *
  go_wp2_with fail
  refine (print_yes _ X _ (HK.out.later hb5 (Nat.le_refl _)) (HP.out.later hb5 (Nat.le_refl _)) HX.out HRX.out).mono ?_
  rintro e w6 ⟨rfl, hb6⟩
  have hb7 := hb5.trans (hb6.mono hb5.size)
  have HX6 := Lib.hid (HX.out.below hb6 (Nat.le_refl _))
  have hqe := parse_print X HRX.out
  have HQE : Hid (parse (⟨(printTxt X).toArray⟩ : ByteArray).data.toList = (X, 0, 0)) := hqe
  have hqs : (⟨(printTxt X).toArray⟩ : ByteArray).size ≤ 3000 := print_len X HRX.out
  generalize (⟨(printTxt X).toArray⟩ : ByteArray) = qb at *
  clear hb6 hb5 hqe
  go_wp2_with fail
  refine (parse_any qb _ (by omega) (HM.out.later hb7 (Nat.le_refl _)) (HK.out.later hb7 (Nat.le_refl _))).mono ?_
  rintro e w8 ⟨v8, rfl, hv8, _, hb8⟩
  rw [HQE.out] at hv8 ⊢
  have HX8 := Lib.hid (HX6.out.below hb8 (Nat.le_refl _))
  have HY8 := Lib.hid hv8
  have hb9 := hb7.trans (hb8.mono hb7.size)
  clear hv8 hb7 hb8
  go_wp2_with fail
  refine (alive_any _ (HM.out.later hb9 (Nat.le_refl _)) (HK.out.later hb9 (Nat.le_refl _))).mono ?_
  rintro e wa ⟨rfl, hba⟩
  have HXa := Lib.hid (HX8.out.below hba (Nat.le_refl _))
  have HYa := Lib.hid (HY8.out.below hba (Nat.le_refl _))
  have hbb := hb9.trans (hba.mono hb9.size)
  clear hb9 hba
  go_wp2_with fail
  refine (right_any _ X _ (HK.out.later hbb (Nat.le_refl _)) HXa.out (by omega)).mono ?_
  rintro e wc ⟨rfl, hbc⟩
  have HXc := Lib.hid (HXa.out.below hbc (Nat.le_refl _))
  have HYc := Lib.hid (HYa.out.below hbc (Nat.le_refl _))
  have hbd := hbb.trans (hbc.mono hbb.size)
  rw [HRX.out]
  clear hbb hbc
  go_wp2_with fail
  refine (same_any _ _ X X _ HXc.out HYc.out (by omega) (by omega)).mono ?_
  rintro e we ⟨rfl, nd2, rfl⟩
  rw [decide_eq_true rfl]
  have hbz := below_drewN hbd nd2
  clear hbd
  generalize wc.drewN nd2 = wz at *
  go_wp2
  go_ret
  exact ⟨rfl, hbz⟩

set_option maxRecDepth 100000 in
set_option maxHeartbeats 4000000 in
theorem back_y0 (a : Option Addr) (n m c : Nat) (H : List Ev) (s b : ByteArray) (w : World) (HM : Hid (HasM w)) (HK : Hid (HasK w)) (HP : Hid (HasP w)) (hn : n ≤ c) (hs : s.size ≤ 9223372036854775807)
    (HAE : Hid ((min (n : Int) 65).toNat = m)) (HBE : Hid (s.extract 0 (min (s.size : Int) 3010).toNat = b)) (hb : b.size ≤ 3010) (HV : Hid (Evs w (.slice a m c) H)) (hl : H.length ≤ 65) (_ : (parse b.data.toList).1.length ≤ 60) (HR : Hid (right H = true)) (e2 : Int) (HE : Hid ((parse b.data.toList).2.2 = e2)) (te2 : ((e2 : Int) != 0) = true) (HF : Hid ((parse b.data.toList).1 = [])) :
    Calls Tryd.prog 5 #[.slice a n c, .string s] w fun e w' => e = .returned (.bool true) ∧ Below w.heap.size w w' := by
  go_enter Tryd.func5, Tryd.ntmps5
  go_wp2
  go_region
  go_wp2_with fail
  rw [HAE.out, HBE.out]
  have hb0 := below_drew1 w
  have HV0 := Lib.hid (HV.out.below hb0 (Nat.le_refl _))
  refine (print_yes _ H _ (HK.out.later hb0 (Nat.le_refl _)) (HP.out.later hb0 (Nat.le_refl _)) HV0.out HR.out).mono ?_
  rintro e w1 ⟨rfl, hb1⟩
  have hb2 := hb0.trans (hb1.mono hb0.size)
  have HV1 := Lib.hid (HV0.out.below hb1 (Nat.le_refl _))
  have hpl := print_len H HR.out
  have hpe := parse_print H HR.out
  have HPE : Hid (parse (⟨(printTxt H).toArray⟩ : ByteArray).data.toList = (H, 0, 0)) := hpe
  have hps : (⟨(printTxt H).toArray⟩ : ByteArray).size ≤ 3000 := hpl
  generalize (⟨(printTxt H).toArray⟩ : ByteArray) = pb at *
  clear hb1 hb0 hpl hpe
  go_wp2_with fail
  refine (parse_any pb _ (by omega) (HM.out.later hb2 (Nat.le_refl _)) (HK.out.later hb2 (Nat.le_refl _))).mono ?_
  rintro e w2 ⟨v2, rfl, hv2, _, hb2'⟩
  rw [HPE.out] at hv2 ⊢
  have HV2 := Lib.hid (HV1.out.below hb2' (Nat.le_refl _))
  have HW2 := Lib.hid hv2
  have hb3 := hb2.trans (hb2'.mono hb2.size)
  clear hv2 hb2 hb2'
  go_wp2_with fail
  refine (same_any _ _ H H _ HW2.out HV2.out (by omega) (by omega)).mono ?_
  rintro e w3 ⟨rfl, nd, rfl⟩
  rw [decide_eq_true rfl]
  have hb3 := below_drewN hb3 nd
  generalize w2.drewN nd = w1 at *
  go_wp2_with fail
  refine (parse_any b _ (by omega) (HM.out.later hb3 (Nat.le_refl _)) (HK.out.later hb3 (Nat.le_refl _))).mono ?_
  rintro e w4 ⟨v4, rfl, hv4, _, hb4⟩
  have hb5 := hb3.trans (hb4.mono hb3.size)
  rw [HE.out]
  clear hb3 hb4
  rw [HF.out] at hv4
  obtain ⟨xa, xc, rfl⟩ := hv4.len
  clear hv4
  go_wp2_with fail
  refine (alive_any _ (HM.out.later hb5 (Nat.le_refl _)) (HK.out.later hb5 (Nat.le_refl _))).mono ?_
  rintro e w9 ⟨rfl, hb9⟩
  have hbz := hb5.trans (hb9.mono hb5.size)
  clear hb9 hb5
  go_wp2
  go_ret
  exact ⟨rfl, hbz⟩

set_option maxRecDepth 100000 in
set_option maxHeartbeats 4000000 in
theorem back_y1 (a : Option Addr) (n m c : Nat) (H : List Ev) (s b : ByteArray) (w : World) (HM : Hid (HasM w)) (HK : Hid (HasK w)) (HP : Hid (HasP w)) (hn : n ≤ c) (hs : s.size ≤ 9223372036854775807)
    (HAE : Hid ((min (n : Int) 65).toNat = m)) (HBE : Hid (s.extract 0 (min (s.size : Int) 3010).toNat = b)) (hb : b.size ≤ 3010) (HV : Hid (Evs w (.slice a m c) H)) (hl : H.length ≤ 65) (hl2 : (parse b.data.toList).1.length ≤ 60) (HR : Hid (right H = true)) (HE : Hid ((parse b.data.toList).2.2 = 0)) (HRX : Hid (right (parse b.data.toList).1 = true)) :
    Calls Tryd.prog 5 #[.slice a n c, .string s] w fun e w' => e = .returned (.bool true) ∧ Below w.heap.size w w' := by
  go_enter Tryd.func5, Tryd.ntmps5
  go_wp2
  go_region
  go_wp2_with fail
  rw [HAE.out, HBE.out]
  have hb0 := below_drew1 w
  have HV0 := Lib.hid (HV.out.below hb0 (Nat.le_refl _))
  refine (print_yes _ H _ (HK.out.later hb0 (Nat.le_refl _)) (HP.out.later hb0 (Nat.le_refl _)) HV0.out HR.out).mono ?_
  rintro e w1 ⟨rfl, hb1⟩
  have hb2 := hb0.trans (hb1.mono hb0.size)
  have HV1 := Lib.hid (HV0.out.below hb1 (Nat.le_refl _))
  have hpl := print_len H HR.out
  have hpe := parse_print H HR.out
  have HPE : Hid (parse (⟨(printTxt H).toArray⟩ : ByteArray).data.toList = (H, 0, 0)) := hpe
  have hps : (⟨(printTxt H).toArray⟩ : ByteArray).size ≤ 3000 := hpl
  generalize (⟨(printTxt H).toArray⟩ : ByteArray) = pb at *
  clear hb1 hb0 hpl hpe
  go_wp2_with fail
  refine (parse_any pb _ (by omega) (HM.out.later hb2 (Nat.le_refl _)) (HK.out.later hb2 (Nat.le_refl _))).mono ?_
  rintro e w2 ⟨v2, rfl, hv2, _, hb2'⟩
  rw [HPE.out] at hv2 ⊢
  have HV2 := Lib.hid (HV1.out.below hb2' (Nat.le_refl _))
  have HW2 := Lib.hid hv2
  have hb3 := hb2.trans (hb2'.mono hb2.size)
  clear hv2 hb2 hb2'
  go_wp2_with fail
  refine (same_any _ _ H H _ HW2.out HV2.out (by omega) (by omega)).mono ?_
  rintro e w3 ⟨rfl, nd, rfl⟩
  rw [decide_eq_true rfl]
  have hb3 := below_drewN hb3 nd
  generalize w2.drewN nd = w1 at *
  go_wp2_with fail
  refine (parse_any b _ (by omega) (HM.out.later hb3 (Nat.le_refl _)) (HK.out.later hb3 (Nat.le_refl _))).mono ?_
  rintro e w4 ⟨v4, rfl, hv4, _, hb4⟩
  have hb5 := hb3.trans (hb4.mono hb3.size)
  rw [HE.out]
  clear hb3 hb4
  have HX := Lib.hid hv4
  clear hv4
  generalize (parse b.data.toList).1 = X at *
  go_wp2_with fail
  refine (print_yes _ X _ (HK.out.later hb5 (Nat.le_refl _)) (HP.out.later hb5 (Nat.le_refl _)) HX.out HRX.out).mono ?_
  rintro e w6 ⟨rfl, hb6⟩
  have hb7 := hb5.trans (hb6.mono hb5.size)
  have HX6 := Lib.hid (HX.out.below hb6 (Nat.le_refl _))
  have hqe := parse_print X HRX.out
  have HQE : Hid (parse (⟨(printTxt X).toArray⟩ : ByteArray).data.toList = (X, 0, 0)) := hqe
  have hqs : (⟨(printTxt X).toArray⟩ : ByteArray).size ≤ 3000 := print_len X HRX.out
  generalize (⟨(printTxt X).toArray⟩ : ByteArray) = qb at *
  clear hb6 hb5 hqe
  go_wp2_with fail
  refine (parse_any qb _ (by omega) (HM.out.later hb7 (Nat.le_refl _)) (HK.out.later hb7 (Nat.le_refl _))).mono ?_
  rintro e w8 ⟨v8, rfl, hv8, _, hb8⟩
  rw [HQE.out] at hv8 ⊢
  have HX8 := Lib.hid (HX6.out.below hb8 (Nat.le_refl _))
  have HY8 := Lib.hid hv8
  have hb9 := hb7.trans (hb8.mono hb7.size)
  clear hv8 hb7 hb8
  go_wp2_with fail
  refine (alive_any _ (HM.out.later hb9 (Nat.le_refl _)) (HK.out.later hb9 (Nat.le_refl _))).mono ?_
  rintro e wa ⟨rfl, hba⟩
  have HXa := Lib.hid (HX8.out.below hba (Nat.le_refl _))
  have HYa := Lib.hid (HY8.out.below hba (Nat.le_refl _))
  have hbb := hb9.trans (hba.mono hb9.size)
  clear hb9 hba
  go_wp2_with fail
  refine (right_any _ X _ (HK.out.later hbb (Nat.le_refl _)) HXa.out (by omega)).mono ?_
  rintro e wc ⟨rfl, hbc⟩
  have HXc := Lib.hid (HXa.out.below hbc (Nat.le_refl _))
  have HYc := Lib.hid (HYa.out.below hbc (Nat.le_refl _))
  have hbd := hbb.trans (hbc.mono hbb.size)
  rw [HRX.out]
  clear hbb hbc
  go_wp2_with fail
  refine (same_any _ _ X X _ HXc.out HYc.out (by omega) (by omega)).mono ?_
  rintro e we ⟨rfl, nd2, rfl⟩
  rw [decide_eq_true rfl]
  have hbz := below_drewN hbd nd2
  clear hbd
  generalize wc.drewN nd2 = wz at *
  go_wp2
  go_ret
  exact ⟨rfl, hbz⟩

theorem back_any (a : Option Addr) (n c : Nat) (H : List Ev) (s : ByteArray) (w : World) (hm : HasM w) (hK : HasK w) (hP : HasP w) (hn : n ≤ c) (hs : s.size ≤ 9223372036854775807) (hv : Evs w (.slice a (min (n : Int) 65).toNat c) H) :
    Calls Tryd.prog 5 #[.slice a n c, .string s] w fun e w' => e = .returned (.bool true) ∧ Below w.heap.size w w' := by
  obtain ⟨b, hb⟩ : ∃ b, s.extract 0 (min (s.size : Int) 3010).toNat = b := ⟨_, rfl⟩
  have hbl : b.size ≤ 3010 := by rw [← hb]; exact Nat.le_trans (cut_size1 _ _) (by omega)
  have hl : H.length ≤ 65 := by
    obtain ⟨a', c', he⟩ := hv.len
    simp only [Value.slice.injEq] at he
    omega
  have hl2 := parse_60 b.data.toList
  by_cases h2 : (parse b.data.toList).2.2 = 0
  · have hr2 := parse_right _ h2
    cases hr : right H with
    | false => exact back_n1 a n _ c H s b w hm hK hP hn hs rfl hb hbl hv hl hl2 hr h2 hr2
    | true => exact back_y1 a n _ c H s b w hm hK hP hn hs rfl hb hbl hv hl hl2 hr h2 hr2
  · have hf := parse_fail _ h2
    cases hr : right H with
    | false => exact back_n0 a n _ c H s b w hm hK hP hn hs rfl hb hbl hv hl hl2 hr _ rfl (by simpa using h2) hf
    | true => exact back_y0 a n _ c H s b w hm hK hP hn hs rfl hb hbl hv hl hl2 hr _ rfl (by simpa using h2) hf
end Go.Proofs.YtnbecfgoambbpaaDoor
