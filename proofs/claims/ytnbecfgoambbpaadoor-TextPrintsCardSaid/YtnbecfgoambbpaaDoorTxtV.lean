/- The walk of TextPrints. (Written by gen_txtV.py.) -/
import Derived.Test.YtnbecfgoambbpaaDoorTxtU
import Derived.Test.YtnbecfgoambbpaaDoorTxtO
import Derived.Test.YtnbecfgoambbpaaDoorTxtJ
import Derived.RegionTactic
import Derived.WalkLawsBesides
namespace Go.Proofs.YtnbecfgoambbpaaDoor
open Go.RowKit WPlain

theorem below_drew2 (w : World) : Below w.heap.size w w.drew := (Below.refl _ _).drew

set_option maxRecDepth 100000 in
set_option maxHeartbeats 4000000 in
theorem prints_nf (a1 a2 : Option Addr) (n1 m1 c1 n2 m2 c2 : Nat) (A B : List Ev) (w : World) (HM : Hid (HasM w)) (HK : Hid (HasK w)) (_ : Hid (HasP w)) (hn1 : n1 ≤ c1) (hn2 : n2 ≤ c2)
    (HAE : Hid ((min (n1 : Int) 65).toNat = m1)) (HBE : Hid ((min (n2 : Int) 65).toNat = m2)) (HVA : Hid (Evs w (.slice a1 m1 c1) A)) (HVB : Hid (Evs w (.slice a2 m2 c2) B)) (hl1 : A.length ≤ 65) (hl2 : B.length ≤ 65) (HR : Hid (decide (A = B) = false)) (HRA : Hid (right A = false)) :
    Calls Tryd.prog 4 #[.slice a1 n1 c1, .slice a2 n2 c2] w fun e w' => e = .returned (.bool true) ∧ Below w.heap.size w w' := by
  go_enter Tryd.func4, Tryd.ntmps4
  go_wp2
  go_region
  go_wp2_with fail
  rw [HAE.out, HBE.out]
  have hb0 := below_drew2 w
  have HA0 := Lib.hid (HVA.out.below hb0 (Nat.le_refl _))
  have HB0 := Lib.hid (HVB.out.below hb0 (Nat.le_refl _))
  refine (print_no _ A _ (HK.out.later hb0 (Nat.le_refl _)) HA0.out (by omega) HRA.out).mono ?_
  rintro e wn1 ⟨rfl, hbq⟩
  have HA1 := Lib.hid (HA0.out.below hbq (Nat.le_refl _))
  have HB1 := Lib.hid (HB0.out.below hbq (Nat.le_refl _))
  have hb1 := hb0.trans (hbq.mono hb0.size)
  clear hbq HA0 HB0 hb0
  go_wp2_with fail
  refine (right_any _ A _ (HK.out.later hb1 (Nat.le_refl _)) HA1.out (by omega)).mono ?_
  rintro e wn2 ⟨rfl, hbq⟩
  rw [HRA.out]
  have HA2 := Lib.hid (HA1.out.below hbq (Nat.le_refl _))
  have HB2 := Lib.hid (HB1.out.below hbq (Nat.le_refl _))
  have hb2 := hb1.trans (hbq.mono hb1.size)
  clear hbq HA1 HB1 hb1
  go_wp2_with fail
  refine (refRight_any _ A _ HA2.out (by omega)).mono ?_
  rintro e wn3 ⟨rfl, hbq⟩
  rw [HRA.out]
  have HA3 := Lib.hid (HA2.out.below hbq (Nat.le_refl _))
  have HB3 := Lib.hid (HB2.out.below hbq (Nat.le_refl _))
  have hb3 := hb2.trans (hbq.mono hb2.size)
  clear hbq HA2 HB2 hb2
  go_wp2_with fail
  refine (like_any _ _ A B _ HA3.out HB3.out (by omega) (by omega)).mono ?_
  rintro e wq ⟨rfl, nd, rfl⟩
  rw [HR.out]
  have hbq := below_drewN (Below.refl wn3.heap.size wn3) nd
  have HA4 := Lib.hid (HA3.out.below hbq (Nat.le_refl _))
  have HB4 := Lib.hid (HB3.out.below hbq (Nat.le_refl _))
  have hb4 := hb3.trans (hbq.mono hb3.size)
  clear hbq HA3 HB3 hb3
  generalize wn3.drewN nd = wn4 at *
  go_wp2_with fail
  refine (same_any _ _ A B _ HA4.out HB4.out (by omega) (by omega)).mono ?_
  rintro e wq ⟨rfl, nd, rfl⟩
  rw [HR.out]
  have hbq := below_drewN (Below.refl wn4.heap.size wn4) nd
  have HA5 := Lib.hid (HA4.out.below hbq (Nat.le_refl _))
  have HB5 := Lib.hid (HB4.out.below hbq (Nat.le_refl _))
  have hb5 := hb4.trans (hbq.mono hb4.size)
  clear hbq HA4 HB4 hb4
  generalize wn4.drewN nd = wn5 at *
  go_wp2_with fail
  refine (like_any _ _ A A _ HA5.out HA5.out (by omega) (by omega)).mono ?_
  rintro e wq ⟨rfl, nd, rfl⟩
  rw [decide_eq_true rfl]
  have hbq := below_drewN (Below.refl wn5.heap.size wn5) nd
  have HA6 := Lib.hid (HA5.out.below hbq (Nat.le_refl _))
  have HB6 := Lib.hid (HB5.out.below hbq (Nat.le_refl _))
  have hb6 := hb5.trans (hbq.mono hb5.size)
  clear hbq HA5 HB5 hb5
  generalize wn5.drewN nd = wn6 at *
  go_wp2_with fail
  refine (alive_any _ (HM.out.later hb6 (Nat.le_refl _)) (HK.out.later hb6 (Nat.le_refl _))).mono ?_
  rintro e wn7 ⟨rfl, hbq⟩
  have HA7 := Lib.hid (HA6.out.below hbq (Nat.le_refl _))
  have HB7 := Lib.hid (HB6.out.below hbq (Nat.le_refl _))
  have hb7 := hb6.trans (hbq.mono hb6.size)
  clear hbq HA6 HB6 hb6
  go_wp2_with fail
  refine (refRight_any _ A _ HA7.out (by omega)).mono ?_
  rintro e wn8 ⟨rfl, hbq⟩
  rw [HRA.out]
  have HA8 := Lib.hid (HA7.out.below hbq (Nat.le_refl _))
  have HB8 := Lib.hid (HB7.out.below hbq (Nat.le_refl _))
  have hb8 := hb7.trans (hbq.mono hb7.size)
  clear hbq HA7 HB7 hb7
  go_wp2
  go_ret
  exact ⟨rfl, hb8⟩

set_option maxRecDepth 100000 in
set_option maxHeartbeats 4000000 in
theorem prints_yf (a1 a2 : Option Addr) (n1 m1 c1 n2 m2 c2 : Nat) (A B : List Ev) (w : World) (HM : Hid (HasM w)) (HK : Hid (HasK w)) (HP : Hid (HasP w)) (hn1 : n1 ≤ c1) (hn2 : n2 ≤ c2)
    (HAE : Hid ((min (n1 : Int) 65).toNat = m1)) (HBE : Hid ((min (n2 : Int) 65).toNat = m2)) (HVA : Hid (Evs w (.slice a1 m1 c1) A)) (HVB : Hid (Evs w (.slice a2 m2 c2) B)) (hl1 : A.length ≤ 65) (hl2 : B.length ≤ 65) (HR : Hid (decide (A = B) = false)) (HRA : Hid (right A = true)) :
    Calls Tryd.prog 4 #[.slice a1 n1 c1, .slice a2 n2 c2] w fun e w' => e = .returned (.bool true) ∧ Below w.heap.size w w' := by
  go_enter Tryd.func4, Tryd.ntmps4
  go_wp2
  go_region
  go_wp2_with fail
  rw [HAE.out, HBE.out]
  have hb0 := below_drew2 w
  have HA0 := Lib.hid (HVA.out.below hb0 (Nat.le_refl _))
  have HB0 := Lib.hid (HVB.out.below hb0 (Nat.le_refl _))
  refine (print_yes _ A _ (HK.out.later hb0 (Nat.le_refl _)) (HP.out.later hb0 (Nat.le_refl _)) HA0.out HRA.out).mono ?_
  rintro e wn1 ⟨rfl, hbq⟩
  have HA1 := Lib.hid (HA0.out.below hbq (Nat.le_refl _))
  have HB1 := Lib.hid (HB0.out.below hbq (Nat.le_refl _))
  have hb1 := hb0.trans (hbq.mono hb0.size)
  clear hbq HA0 HB0 hb0
  go_wp2_with fail
  refine (right_any _ A _ (HK.out.later hb1 (Nat.le_refl _)) HA1.out (by omega)).mono ?_
  rintro e wn2 ⟨rfl, hbq⟩
  rw [HRA.out]
  have HA2 := Lib.hid (HA1.out.below hbq (Nat.le_refl _))
  have HB2 := Lib.hid (HB1.out.below hbq (Nat.le_refl _))
  have hb2 := hb1.trans (hbq.mono hb1.size)
  clear hbq HA1 HB1 hb1
  go_wp2_with fail
  refine (refRight_any _ A _ HA2.out (by omega)).mono ?_
  rintro e wn3 ⟨rfl, hbq⟩
  rw [HRA.out]
  have HA3 := Lib.hid (HA2.out.below hbq (Nat.le_refl _))
  have HB3 := Lib.hid (HB2.out.below hbq (Nat.le_refl _))
  have hb3 := hb2.trans (hbq.mono hb2.size)
  clear hbq HA2 HB2 hb2
  go_wp2_with fail
  refine (like_any _ _ A B _ HA3.out HB3.out (by omega) (by omega)).mono ?_
  rintro e wq ⟨rfl, nd, rfl⟩
  rw [HR.out]
  have hbq := below_drewN (Below.refl wn3.heap.size wn3) nd
  have HA4 := Lib.hid (HA3.out.below hbq (Nat.le_refl _))
  have HB4 := Lib.hid (HB3.out.below hbq (Nat.le_refl _))
  have hb4 := hb3.trans (hbq.mono hb3.size)
  clear hbq HA3 HB3 hb3
  generalize wn3.drewN nd = wn4 at *
  go_wp2_with fail
  refine (same_any _ _ A B _ HA4.out HB4.out (by omega) (by omega)).mono ?_
  rintro e wq ⟨rfl, nd, rfl⟩
  rw [HR.out]
  have hbq := below_drewN (Below.refl wn4.heap.size wn4) nd
  have HA5 := Lib.hid (HA4.out.below hbq (Nat.le_refl _))
  have HB5 := Lib.hid (HB4.out.below hbq (Nat.le_refl _))
  have hb5 := hb4.trans (hbq.mono hb4.size)
  clear hbq HA4 HB4 hb4
  generalize wn4.drewN nd = wn5 at *
  go_wp2_with fail
  refine (like_any _ _ A A _ HA5.out HA5.out (by omega) (by omega)).mono ?_
  rintro e wq ⟨rfl, nd, rfl⟩
  rw [decide_eq_true rfl]
  have hbq := below_drewN (Below.refl wn5.heap.size wn5) nd
  have HA6 := Lib.hid (HA5.out.below hbq (Nat.le_refl _))
  have HB6 := Lib.hid (HB5.out.below hbq (Nat.le_refl _))
  have hb6 := hb5.trans (hbq.mono hb5.size)
  clear hbq HA5 HB5 hb5
  generalize wn5.drewN nd = wn6 at *
  go_wp2_with fail
  refine (alive_any _ (HM.out.later hb6 (Nat.le_refl _)) (HK.out.later hb6 (Nat.le_refl _))).mono ?_
  rintro e wn7 ⟨rfl, hbq⟩
  have HA7 := Lib.hid (HA6.out.below hbq (Nat.le_refl _))
  have HB7 := Lib.hid (HB6.out.below hbq (Nat.le_refl _))
  have hb7 := hb6.trans (hbq.mono hb6.size)
  clear hbq HA6 HB6 hb6
  go_wp2_with fail
  refine (refRight_any _ A _ HA7.out (by omega)).mono ?_
  rintro e wn8 ⟨rfl, hbq⟩
  rw [HRA.out]
  have HA8 := Lib.hid (HA7.out.below hbq (Nat.le_refl _))
  have HB8 := Lib.hid (HB7.out.below hbq (Nat.le_refl _))
  have hb8 := hb7.trans (hbq.mono hb7.size)
  clear hbq HA7 HB7 hb7
  go_wp2_with fail
  refine (refPrint_any _ A _ HA8.out HRA.out).mono ?_
  rintro e wn9 ⟨rfl, hbq⟩
  have HA9 := Lib.hid (HA8.out.below hbq (Nat.le_refl _))
  have HB9 := Lib.hid (HB8.out.below hbq (Nat.le_refl _))
  have hb9 := hb8.trans (hbq.mono hb8.size)
  clear hbq HA8 HB8 hb8
  generalize (⟨(printTxt A).toArray⟩ : ByteArray) = pb at *
  go_wp2
  go_ret
  exact ⟨rfl, hb9⟩

set_option maxRecDepth 100000 in
set_option maxHeartbeats 4000000 in
theorem prints_nt (a1 a2 : Option Addr) (n1 m1 c1 n2 m2 c2 : Nat) (A B : List Ev) (w : World) (HM : Hid (HasM w)) (HK : Hid (HasK w)) (_ : Hid (HasP w)) (hn1 : n1 ≤ c1) (hn2 : n2 ≤ c2)
    (HAE : Hid ((min (n1 : Int) 65).toNat = m1)) (HBE : Hid ((min (n2 : Int) 65).toNat = m2)) (HVA : Hid (Evs w (.slice a1 m1 c1) A)) (HVB : Hid (Evs w (.slice a2 m2 c2) B)) (hl1 : A.length ≤ 65) (hl2 : B.length ≤ 65) (HR : Hid (decide (A = B) = true)) (HRA : Hid (right A = false)) :
    Calls Tryd.prog 4 #[.slice a1 n1 c1, .slice a2 n2 c2] w fun e w' => e = .returned (.bool true) ∧ Below w.heap.size w w' := by
  go_enter Tryd.func4, Tryd.ntmps4
  go_wp2
  go_region
  go_wp2_with fail
  rw [HAE.out, HBE.out]
  have hb0 := below_drew2 w
  have HA0 := Lib.hid (HVA.out.below hb0 (Nat.le_refl _))
  have HB0 := Lib.hid (HVB.out.below hb0 (Nat.le_refl _))
  refine (print_no _ A _ (HK.out.later hb0 (Nat.le_refl _)) HA0.out (by omega) HRA.out).mono ?_
  rintro e wn1 ⟨rfl, hbq⟩
  have HA1 := Lib.hid (HA0.out.below hbq (Nat.le_refl _))
  have HB1 := Lib.hid (HB0.out.below hbq (Nat.le_refl _))
  have hb1 := hb0.trans (hbq.mono hb0.size)
  clear hbq HA0 HB0 hb0
  go_wp2_with fail
  refine (right_any _ A _ (HK.out.later hb1 (Nat.le_refl _)) HA1.out (by omega)).mono ?_
  rintro e wn2 ⟨rfl, hbq⟩
  rw [HRA.out]
  have HA2 := Lib.hid (HA1.out.below hbq (Nat.le_refl _))
  have HB2 := Lib.hid (HB1.out.below hbq (Nat.le_refl _))
  have hb2 := hb1.trans (hbq.mono hb1.size)
  clear hbq HA1 HB1 hb1
  go_wp2_with fail
  refine (refRight_any _ A _ HA2.out (by omega)).mono ?_
  rintro e wn3 ⟨rfl, hbq⟩
  rw [HRA.out]
  have HA3 := Lib.hid (HA2.out.below hbq (Nat.le_refl _))
  have HB3 := Lib.hid (HB2.out.below hbq (Nat.le_refl _))
  have hb3 := hb2.trans (hbq.mono hb2.size)
  clear hbq HA2 HB2 hb2
  go_wp2_with fail
  refine (like_any _ _ A B _ HA3.out HB3.out (by omega) (by omega)).mono ?_
  rintro e wq ⟨rfl, nd, rfl⟩
  rw [HR.out]
  have hbq := below_drewN (Below.refl wn3.heap.size wn3) nd
  have HA4 := Lib.hid (HA3.out.below hbq (Nat.le_refl _))
  have HB4 := Lib.hid (HB3.out.below hbq (Nat.le_refl _))
  have hb4 := hb3.trans (hbq.mono hb3.size)
  clear hbq HA3 HB3 hb3
  generalize wn3.drewN nd = wn4 at *
  go_wp2_with fail
  refine (same_any _ _ A B _ HA4.out HB4.out (by omega) (by omega)).mono ?_
  rintro e wq ⟨rfl, nd, rfl⟩
  rw [HR.out]
  have hbq := below_drewN (Below.refl wn4.heap.size wn4) nd
  have HA5 := Lib.hid (HA4.out.below hbq (Nat.le_refl _))
  have HB5 := Lib.hid (HB4.out.below hbq (Nat.le_refl _))
  have hb5 := hb4.trans (hbq.mono hb4.size)
  clear hbq HA4 HB4 hb4
  generalize wn4.drewN nd = wn5 at *
  go_wp2_with fail
  refine (like_any _ _ A A _ HA5.out HA5.out (by omega) (by omega)).mono ?_
  rintro e wq ⟨rfl, nd, rfl⟩
  rw [decide_eq_true rfl]
  have hbq := below_drewN (Below.refl wn5.heap.size wn5) nd
  have HA6 := Lib.hid (HA5.out.below hbq (Nat.le_refl _))
  have HB6 := Lib.hid (HB5.out.below hbq (Nat.le_refl _))
  have hb6 := hb5.trans (hbq.mono hb5.size)
  clear hbq HA5 HB5 hb5
  generalize wn5.drewN nd = wn6 at *
  go_wp2_with fail
  refine (alive_any _ (HM.out.later hb6 (Nat.le_refl _)) (HK.out.later hb6 (Nat.le_refl _))).mono ?_
  rintro e wn7 ⟨rfl, hbq⟩
  have HA7 := Lib.hid (HA6.out.below hbq (Nat.le_refl _))
  have HB7 := Lib.hid (HB6.out.below hbq (Nat.le_refl _))
  have hb7 := hb6.trans (hbq.mono hb6.size)
  clear hbq HA6 HB6 hb6
  go_wp2_with fail
  refine (refRight_any _ A _ HA7.out (by omega)).mono ?_
  rintro e wn8 ⟨rfl, hbq⟩
  rw [HRA.out]
  have HA8 := Lib.hid (HA7.out.below hbq (Nat.le_refl _))
  have HB8 := Lib.hid (HB7.out.below hbq (Nat.le_refl _))
  have hb8 := hb7.trans (hbq.mono hb7.size)
  clear hbq HA7 HB7 hb7
  go_wp2
  go_ret
  exact ⟨rfl, hb8⟩

set_option maxRecDepth 100000 in
set_option maxHeartbeats 4000000 in
theorem prints_yt (a1 a2 : Option Addr) (n1 m1 c1 n2 m2 c2 : Nat) (A B : List Ev) (w : World) (HM : Hid (HasM w)) (HK : Hid (HasK w)) (HP : Hid (HasP w)) (hn1 : n1 ≤ c1) (hn2 : n2 ≤ c2)
    (HAE : Hid ((min (n1 : Int) 65).toNat = m1)) (HBE : Hid ((min (n2 : Int) 65).toNat = m2)) (HVA : Hid (Evs w (.slice a1 m1 c1) A)) (HVB : Hid (Evs w (.slice a2 m2 c2) B)) (hl1 : A.length ≤ 65) (hl2 : B.length ≤ 65) (HR : Hid (decide (A = B) = true)) (HRA : Hid (right A = true)) :
    Calls Tryd.prog 4 #[.slice a1 n1 c1, .slice a2 n2 c2] w fun e w' => e = .returned (.bool true) ∧ Below w.heap.size w w' := by
  go_enter Tryd.func4, Tryd.ntmps4
  go_wp2
  go_region
  go_wp2_with fail
  rw [HAE.out, HBE.out]
  have hb0 := below_drew2 w
  have HA0 := Lib.hid (HVA.out.below hb0 (Nat.le_refl _))
  have HB0 := Lib.hid (HVB.out.below hb0 (Nat.le_refl _))
  refine (print_yes _ A _ (HK.out.later hb0 (Nat.le_refl _)) (HP.out.later hb0 (Nat.le_refl _)) HA0.out HRA.out).mono ?_
  rintro e wn1 ⟨rfl, hbq⟩
  have HA1 := Lib.hid (HA0.out.below hbq (Nat.le_refl _))
  have HB1 := Lib.hid (HB0.out.below hbq (Nat.le_refl _))
  have hb1 := hb0.trans (hbq.mono hb0.size)
  clear hbq HA0 HB0 hb0
  go_wp2_with fail
  refine (right_any _ A _ (HK.out.later hb1 (Nat.le_refl _)) HA1.out (by omega)).mono ?_
  rintro e wn2 ⟨rfl, hbq⟩
  rw [HRA.out]
  have HA2 := Lib.hid (HA1.out.below hbq (Nat.le_refl _))
  have HB2 := Lib.hid (HB1.out.below hbq (Nat.le_refl _))
  have hb2 := hb1.trans (hbq.mono hb1.size)
  clear hbq HA1 HB1 hb1
  go_wp2_with fail
  refine (refRight_any _ A _ HA2.out (by omega)).mono ?_
  rintro e wn3 ⟨rfl, hbq⟩
  rw [HRA.out]
  have HA3 := Lib.hid (HA2.out.below hbq (Nat.le_refl _))
  have HB3 := Lib.hid (HB2.out.below hbq (Nat.le_refl _))
  have hb3 := hb2.trans (hbq.mono hb2.size)
  clear hbq HA2 HB2 hb2
  go_wp2_with fail
  refine (like_any _ _ A B _ HA3.out HB3.out (by omega) (by omega)).mono ?_
  rintro e wq ⟨rfl, nd, rfl⟩
  rw [HR.out]
  have hbq := below_drewN (Below.refl wn3.heap.size wn3) nd
  have HA4 := Lib.hid (HA3.out.below hbq (Nat.le_refl _))
  have HB4 := Lib.hid (HB3.out.below hbq (Nat.le_refl _))
  have hb4 := hb3.trans (hbq.mono hb3.size)
  clear hbq HA3 HB3 hb3
  generalize wn3.drewN nd = wn4 at *
  go_wp2_with fail
  refine (same_any _ _ A B _ HA4.out HB4.out (by omega) (by omega)).mono ?_
  rintro e wq ⟨rfl, nd, rfl⟩
  rw [HR.out]
  have hbq := below_drewN (Below.refl wn4.heap.size wn4) nd
  have HA5 := Lib.hid (HA4.out.below hbq (Nat.le_refl _))
  have HB5 := Lib.hid (HB4.out.below hbq (Nat.le_refl _))
  have hb5 := hb4.trans (hbq.mono hb4.size)
  clear hbq HA4 HB4 hb4
  generalize wn4.drewN nd = wn5 at *
  go_wp2_with fail
  refine (like_any _ _ A A _ HA5.out HA5.out (by omega) (by omega)).mono ?_
  rintro e wq ⟨rfl, nd, rfl⟩
  rw [decide_eq_true rfl]
  have hbq := below_drewN (Below.refl wn5.heap.size wn5) nd
  have HA6 := Lib.hid (HA5.out.below hbq (Nat.le_refl _))
  have HB6 := Lib.hid (HB5.out.below hbq (Nat.le_refl _))
  have hb6 := hb5.trans (hbq.mono hb5.size)
  clear hbq HA5 HB5 hb5
  generalize wn5.drewN nd = wn6 at *
  go_wp2_with fail
  refine (alive_any _ (HM.out.later hb6 (Nat.le_refl _)) (HK.out.later hb6 (Nat.le_refl _))).mono ?_
  rintro e wn7 ⟨rfl, hbq⟩
  have HA7 := Lib.hid (HA6.out.below hbq (Nat.le_refl _))
  have HB7 := Lib.hid (HB6.out.below hbq (Nat.le_refl _))
  have hb7 := hb6.trans (hbq.mono hb6.size)
  clear hbq HA6 HB6 hb6
  go_wp2_with fail
  refine (refRight_any _ A _ HA7.out (by omega)).mono ?_
  rintro e wn8 ⟨rfl, hbq⟩
  rw [HRA.out]
  have HA8 := Lib.hid (HA7.out.below hbq (Nat.le_refl _))
  have HB8 := Lib.hid (HB7.out.below hbq (Nat.le_refl _))
  have hb8 := hb7.trans (hbq.mono hb7.size)
  clear hbq HA7 HB7 hb7
  go_wp2_with fail
  refine (refPrint_any _ A _ HA8.out HRA.out).mono ?_
  rintro e wn9 ⟨rfl, hbq⟩
  have HA9 := Lib.hid (HA8.out.below hbq (Nat.le_refl _))
  have HB9 := Lib.hid (HB8.out.below hbq (Nat.le_refl _))
  have hb9 := hb8.trans (hbq.mono hb8.size)
  clear hbq HA8 HB8 hb8
  generalize (⟨(printTxt A).toArray⟩ : ByteArray) = pb at *
  go_wp2
  go_ret
  exact ⟨rfl, hb9⟩

theorem prints_any (a1 a2 : Option Addr) (n1 c1 n2 c2 : Nat) (A B : List Ev) (w : World) (hm : HasM w) (hK : HasK w) (hP : HasP w) (hn1 : n1 ≤ c1) (hn2 : n2 ≤ c2) (hv1 : Evs w (.slice a1 (min (n1 : Int) 65).toNat c1) A) (hv2 : Evs w (.slice a2 (min (n2 : Int) 65).toNat c2) B) :
    Calls Tryd.prog 4 #[.slice a1 n1 c1, .slice a2 n2 c2] w fun e w' => e = .returned (.bool true) ∧ Below w.heap.size w w' := by
  have l1 : A.length ≤ 65 := by
    obtain ⟨a', c', he⟩ := hv1.len
    simp only [Value.slice.injEq] at he
    omega
  have l2 : B.length ≤ 65 := by
    obtain ⟨a', c', he⟩ := hv2.len
    simp only [Value.slice.injEq] at he
    omega
  cases hr : right A <;> cases hd : decide (A = B)
  · exact prints_nf a1 a2 n1 _ c1 n2 _ c2 A B w hm hK hP hn1 hn2 rfl rfl hv1 hv2 l1 l2 hd hr
  · exact prints_nt a1 a2 n1 _ c1 n2 _ c2 A B w hm hK hP hn1 hn2 rfl rfl hv1 hv2 l1 l2 hd hr
  · exact prints_yf a1 a2 n1 _ c1 n2 _ c2 A B w hm hK hP hn1 hn2 rfl rfl hv1 hv2 l1 l2 hd hr
  · exact prints_yt a1 a2 n1 _ c1 n2 _ c2 A B w hm hK hP hn1 hn2 rfl rfl hv1 hv2 l1 l2 hd hr
end Go.Proofs.YtnbecfgoambbpaaDoor
