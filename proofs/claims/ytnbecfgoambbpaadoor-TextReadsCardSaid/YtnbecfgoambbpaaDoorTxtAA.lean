/- The walk of TextReads. -/
import Derived.Test.YtnbecfgoambbpaaDoorTxtK
import Derived.Test.YtnbecfgoambbpaaDoorTxtZ
import Derived.RegionTactic
import Derived.WalkLawsBesides
namespace Go.Proofs.YtnbecfgoambbpaaDoor
open Go.RowKit WPlain

set_option maxRecDepth 100000 in
set_option maxHeartbeats 2000000 in
theorem reads_walk (s b : ByteArray) (H : List Ev) (p : Nat) (q : Int) (w : World) (HM : Hid (HasM w)) (HK : Hid (HasK w)) (hs : s.size ≤ 9223372036854775807)
    (HBE : Hid (s.extract 0 (min (s.size : Int) 3010).toNat = b)) (hb : b.size ≤ 3010) (HL : Hid (H.length ≤ 60)) (HP : Hid (parse b.data.toList = (H, p, q))) :
    Calls Tryd.prog 3 #[.string s] w fun e w' => e = .returned (.bool true) ∧ Below w.heap.size w w' := by
  go_enter Tryd.func3, Tryd.ntmps3
  go_wp2_with fail
  rw [HBE.out]
  refine (parse_any b _ (by omega) HM.out HK.out).mono ?_
  rintro e w1 ⟨v1, rfl, hv1, hs1, hb1⟩
  rw [HP.out] at hv1 ⊢
  have HV1 := Lib.hid hv1
  clear hv1 hs1
  go_wp2_with fail
  refine (refParse_any b _ (by omega)).mono ?_
  rintro e w2 ⟨v2, rfl, hv2, hb2⟩
  rw [HP.out] at hv2 ⊢
  have hb3 := hb1.trans (hb2.mono hb1.size)
  have HV3 := Lib.hid (HV1.out.below hb2 (Nat.le_refl _))
  have HV2 := Lib.hid hv2
  have hz2 := hb3.size
  clear hb1 hb2 hv2
  obtain ⟨a2, c2, rfl⟩ := HV2.out.len
  have hR := (At.new w2 #[.slice none 0 0, .int .i64 0, .int .i64 0] 27)
  have hlt2 := hR.lt
  have r0 := hR.cell (i := 0) (v := .slice none 0 0) rfl
  have r1 := hR.cell (i := 1) (v := .int .i64 0) rfl
  have r2 := hR.cell (i := 2) (v := .int .i64 0) rfl
  have g0 := hR.free 0
  have g1 := hR.free 1
  have g2 := hR.free 2
  go_wp2_with fail
  clear hR hlt2 r0 r1 r2 g0 g1 g2
  have hW3 : ∃ w3, w2.alloc (.cells #[.slice a2 H.length c2, .int .i64 (p : Int), .int .i64 q] 27) = w3 := ⟨_, rfl⟩
  have hR3 := At.new w2 #[.slice a2 H.length c2, .int .i64 (p : Int), .int .i64 q] 27
  obtain ⟨w3, hw3⟩ := hW3
  have hbA : Below w2.heap.size w2 w3 := by
    rw [← hw3]
    exact (Below.refl w2.heap.size w2).alloc (Nat.le_refl _) _
  rw [hw3] at hR3 ⊢
  have hb4 := hb3.trans (hbA.mono hz2)
  have HV4 := Lib.hid (HV3.out.below hbA (Nat.le_refl _))
  have HV5 := Lib.hid (HV2.out.below hbA (Nat.le_refl _))
  clear hb3 hbA
  refine (alive_any _ (HM.out.later hb4 (Nat.le_refl _)) (HK.out.later hb4 (Nat.le_refl _))).mono ?_
  rintro e w4 ⟨rfl, hb5⟩
  have hR4 := hR3.below hb5 hR3.lt
  have hbz := hb4.trans (hb5.mono hb4.size)
  have HV6 := Lib.hid (HV4.out.below hb5 (Nat.le_refl _))
  have HV7 := Lib.hid (HV5.out.below hb5 (Nat.le_refl _))
  clear hb5 hb4 HV2 HV3 HV4 HV5 hR3 hw3
  have hlt4 := hR4.lt
  have r0 := hR4.cell (i := 0) (v := .slice a2 H.length c2) rfl
  have r1 := hR4.cell (i := 1) (v := .int .i64 (p : Int)) rfl
  have r2 := hR4.cell (i := 2) (v := .int .i64 q) rfl
  have g0 := hR4.free 0
  have g1 := hR4.free 1
  have g2 := hR4.free 2
  go_wp2_with fail
  have hl := HL.out
  refine (same_any _ _ _ _ _ HV6.out HV7.out (by omega) (by omega)).mono ?_
  rintro e w10 ⟨rfl, nd, rfl⟩
  go_wp2
  go_ret
  exact ⟨ret_bool (by simp), below_drewN hbz nd⟩

theorem reads_any (s : ByteArray) (w : World) (hm : HasM w) (hK : HasK w) (hs : s.size ≤ 9223372036854775807) :
    Calls Tryd.prog 3 #[.string s] w fun e w' => e = .returned (.bool true) ∧ Below w.heap.size w w' := by
  obtain ⟨b, hb⟩ : ∃ b, s.extract 0 (min (s.size : Int) 3010).toNat = b := ⟨_, rfl⟩
  have hbl : b.size ≤ 3010 := by rw [← hb]; exact Nat.le_trans (cut_size _ _) (by omega)
  have HL1 := parse_60 b.data.toList
  exact reads_walk s b (parse b.data.toList).1 (parse b.data.toList).2.1 (parse b.data.toList).2.2 w hm hK hs hb hbl HL1 rfl
end Go.Proofs.YtnbecfgoambbpaaDoor
