/- The walk of TextJoins. (Written by gen_txtK.py.) -/
import Derived.Test.YtnbecfgoambbpaaDoorTxtJ
import Derived.Test.YtnbecfgoambbpaaDoorTxtM
import Derived.Test.YtnbecfgoambbpaaDoorKitD
import Derived.RegionTactic
import Derived.WalkLawsBesides
namespace Go.Proofs.YtnbecfgoambbpaaDoor
open Go.RowKit WPlain

theorem below_drew (w : World) : Below w.heap.size w w.drew := (Below.refl _ _).drew
theorem cut_size (s : ByteArray) (n : Nat) : (s.extract 0 n).size ≤ n := by simp [ByteArray.size_extract]; omega
theorem str_join (a b : ByteArray) : (a ++ ⟨#[10]⟩ ++ b).data.toList = a.data.toList ++ 10 :: b.data.toList := by simp
theorem str_join_size (a b : ByteArray) : (a ++ ⟨#[10]⟩ ++ b).size = a.size + 1 + b.size := by rw [Lib.size_eq, str_join, Lib.size_eq a, Lib.size_eq b, List.length_append, List.length_cons]; omega

set_option maxRecDepth 100000 in
set_option maxHeartbeats 2000000 in
theorem joins_e1 (s t a b : ByteArray) (e1 e2 : Int) (w : World) (HM : Hid (HasM w)) (HK : Hid (HasK w)) (hs : s.size ≤ 9223372036854775807) (ht : t.size ≤ 9223372036854775807)
    (HAE : Hid (s.extract 0 (min (s.size : Int) 3010).toNat = a)) (HBE : Hid (t.extract 0 (min (t.size : Int) 3010).toNat = b)) (ha : a.size ≤ 3010) (hb : b.size ≤ 3010)
    (HL1 : Hid ((parse a.data.toList).1.length ≤ 60)) (HL2 : Hid ((parse b.data.toList).1.length ≤ 60)) (HE1 : Hid ((parse a.data.toList).2.2 = e1)) (HE2 : Hid ((parse b.data.toList).2.2 = e2)) (te1 : ((e1 : Int) != 0) = true) :
    Calls Tryd.prog 6 #[.string s, .string t] w fun e w' => e = .returned (.bool true) ∧ Below w.heap.size w w' := by
  go_enter Tryd.func6, Tryd.ntmps6
  go_wp2
  go_region
  go_wp2_with fail
  rw [HAE.out, HBE.out]
  refine (parse_any a _ (by omega) (HM.out.later (below_drew w) (Nat.le_refl _)) (HK.out.later (below_drew w) (Nat.le_refl _))).mono ?_
  rintro e w1 ⟨v1, rfl, hv1, hs1, hb1⟩
  have hb1 : Below w.heap.size w w1 := (below_drew w).trans hb1
  rw [HE1.out]
  go_wp2_with fail
  refine (parse_any b _ (by omega) (HM.out.later hb1 (Nat.le_refl _)) (HK.out.later hb1 (Nat.le_refl _))).mono ?_
  rintro e w2 ⟨v2, rfl, hv2, hs2, hb2⟩
  have hv1' := hv1.below hb2 (Nat.le_refl _)
  have hb2' := hb1.trans (hb2.mono hb1.size)
  rw [HE2.out]
  have HV1 := Lib.hid hv1'
  have HV2 := Lib.hid hv2
  have HS1 := Lib.hid hs1
  have HS2 := Lib.hid hs2
  clear hv1 hv2 hs1 hs2 hb1 hb2 hv1'
  have hown := World.ownsRow_made (size := 4) (e := 44) w2 #[] 0 (Nat.le_refl _) (by unfold maxLen; omega) rfl
  have HO := Lib.hid hown
  clear hown
  have hl1 := HL1.out
  have hl2 := HL2.out
  go_wp2_with (at_builtin; (refine wpList_append_src rfl _ _ rfl w2.heap.size _ 0 [] rfl HO.out v1 (parse a.data.toList).1 rfl (HV1.out.below ((Below.refl _ _).alloc (Nat.le_refl _) _) (Nat.le_refl _)) HS1.out (by omega) (by simp) ?_))
  intro v3 w3 ho3 hg3
  have hb3 : Below w2.heap.size w2 w3 := ((Below.refl w2.heap.size w2).alloc (Nat.le_refl _) _).grown hg3 (by simp) (fun k' hk' => (HO.out.lt k' hk').1)
  have hv2' := HV2.out.below hb3 (Nat.le_refl _)
  have HO3 := Lib.hid ho3
  have HV3 := Lib.hid hv2'
  have hz3 := hb3.size
  clear ho3 hg3 hv2'
  go_wp2_with (at_builtin; (refine wpList_append_src rfl _ _ rfl w2.heap.size _ (parse a.data.toList).1.length (evsCells (parse a.data.toList).1) rfl HO3.out v2 (parse b.data.toList).1 rfl HV3.out HS2.out (by omega) hz3 ?_))
  intro v4 w4 ho4 hg4
  have hb4 : Below w2.heap.size w2 w4 := hb3.grown hg4 hz3 (fun k' hk' => (HO3.out.lt k' hk').1)
  have hv4 : Evs w4 v4 ((parse a.data.toList).1 ++ (parse b.data.toList).1) := by
    apply Evs.of_row (B := w2.heap.size) (e := 44)
    rw [List.length_append]
    have hcat : evsCells ((parse a.data.toList).1 ++ (parse b.data.toList).1) = evsCells (parse a.data.toList).1 ++ evsCells (parse b.data.toList).1 := by simp [evsCells]
    rw [hcat]
    exact ho4
  have HV4 := Lib.hid hv4
  have hb5 := hb2'.trans (hb4.mono hb2'.size)
  clear ho4 hg4 hv4 hb3 hb4 hb2' hz3
  go_wp2_with fail
  refine (alive_any _ (HM.out.later hb5 (Nat.le_refl _)) (HK.out.later hb5 (Nat.le_refl _))).mono ?_
  rintro e w9 ⟨rfl, hb9⟩
  have hbz := hb5.trans (hb9.mono hb5.size)
  clear hb9
  go_wp2
  go_ret
  exact ⟨rfl, hbz⟩

set_option maxRecDepth 100000 in
set_option maxHeartbeats 2000000 in
theorem joins_e2 (s t a b : ByteArray) (e1 e2 : Int) (w : World) (HM : Hid (HasM w)) (HK : Hid (HasK w)) (hs : s.size ≤ 9223372036854775807) (ht : t.size ≤ 9223372036854775807)
    (HAE : Hid (s.extract 0 (min (s.size : Int) 3010).toNat = a)) (HBE : Hid (t.extract 0 (min (t.size : Int) 3010).toNat = b)) (ha : a.size ≤ 3010) (hb : b.size ≤ 3010)
    (HL1 : Hid ((parse a.data.toList).1.length ≤ 60)) (HL2 : Hid ((parse b.data.toList).1.length ≤ 60)) (HE1 : Hid ((parse a.data.toList).2.2 = e1)) (HE2 : Hid ((parse b.data.toList).2.2 = e2)) (te1 : ((e1 : Int) != 0) = false) (te2 : ((e2 : Int) != 0) = true) :
    Calls Tryd.prog 6 #[.string s, .string t] w fun e w' => e = .returned (.bool true) ∧ Below w.heap.size w w' := by
  go_enter Tryd.func6, Tryd.ntmps6
  go_wp2
  go_region
  go_wp2_with fail
  rw [HAE.out, HBE.out]
  refine (parse_any a _ (by omega) (HM.out.later (below_drew w) (Nat.le_refl _)) (HK.out.later (below_drew w) (Nat.le_refl _))).mono ?_
  rintro e w1 ⟨v1, rfl, hv1, hs1, hb1⟩
  have hb1 : Below w.heap.size w w1 := (below_drew w).trans hb1
  rw [HE1.out]
  go_wp2_with fail
  refine (parse_any b _ (by omega) (HM.out.later hb1 (Nat.le_refl _)) (HK.out.later hb1 (Nat.le_refl _))).mono ?_
  rintro e w2 ⟨v2, rfl, hv2, hs2, hb2⟩
  have hv1' := hv1.below hb2 (Nat.le_refl _)
  have hb2' := hb1.trans (hb2.mono hb1.size)
  rw [HE2.out]
  have HV1 := Lib.hid hv1'
  have HV2 := Lib.hid hv2
  have HS1 := Lib.hid hs1
  have HS2 := Lib.hid hs2
  clear hv1 hv2 hs1 hs2 hb1 hb2 hv1'
  have hown := World.ownsRow_made (size := 4) (e := 44) w2 #[] 0 (Nat.le_refl _) (by unfold maxLen; omega) rfl
  have HO := Lib.hid hown
  clear hown
  have hl1 := HL1.out
  have hl2 := HL2.out
  go_wp2_with (at_builtin; (refine wpList_append_src rfl _ _ rfl w2.heap.size _ 0 [] rfl HO.out v1 (parse a.data.toList).1 rfl (HV1.out.below ((Below.refl _ _).alloc (Nat.le_refl _) _) (Nat.le_refl _)) HS1.out (by omega) (by simp) ?_))
  intro v3 w3 ho3 hg3
  have hb3 : Below w2.heap.size w2 w3 := ((Below.refl w2.heap.size w2).alloc (Nat.le_refl _) _).grown hg3 (by simp) (fun k' hk' => (HO.out.lt k' hk').1)
  have hv2' := HV2.out.below hb3 (Nat.le_refl _)
  have HO3 := Lib.hid ho3
  have HV3 := Lib.hid hv2'
  have hz3 := hb3.size
  clear ho3 hg3 hv2'
  go_wp2_with (at_builtin; (refine wpList_append_src rfl _ _ rfl w2.heap.size _ (parse a.data.toList).1.length (evsCells (parse a.data.toList).1) rfl HO3.out v2 (parse b.data.toList).1 rfl HV3.out HS2.out (by omega) hz3 ?_))
  intro v4 w4 ho4 hg4
  have hb4 : Below w2.heap.size w2 w4 := hb3.grown hg4 hz3 (fun k' hk' => (HO3.out.lt k' hk').1)
  have hv4 : Evs w4 v4 ((parse a.data.toList).1 ++ (parse b.data.toList).1) := by
    apply Evs.of_row (B := w2.heap.size) (e := 44)
    rw [List.length_append]
    have hcat : evsCells ((parse a.data.toList).1 ++ (parse b.data.toList).1) = evsCells (parse a.data.toList).1 ++ evsCells (parse b.data.toList).1 := by simp [evsCells]
    rw [hcat]
    exact ho4
  have HV4 := Lib.hid hv4
  have hb5 := hb2'.trans (hb4.mono hb2'.size)
  clear ho4 hg4 hv4 hb3 hb4 hb2' hz3
  go_wp2_with fail
  refine (alive_any _ (HM.out.later hb5 (Nat.le_refl _)) (HK.out.later hb5 (Nat.le_refl _))).mono ?_
  rintro e w9 ⟨rfl, hb9⟩
  have hbz := hb5.trans (hb9.mono hb5.size)
  clear hb9
  go_wp2
  go_ret
  exact ⟨rfl, hbz⟩

set_option maxRecDepth 100000 in
set_option maxHeartbeats 2000000 in
theorem joins_r (s t a b : ByteArray) (e1 e2 : Int) (w : World) (HM : Hid (HasM w)) (HK : Hid (HasK w)) (hs : s.size ≤ 9223372036854775807) (ht : t.size ≤ 9223372036854775807)
    (HAE : Hid (s.extract 0 (min (s.size : Int) 3010).toNat = a)) (HBE : Hid (t.extract 0 (min (t.size : Int) 3010).toNat = b)) (ha : a.size ≤ 3010) (hb : b.size ≤ 3010)
    (HL1 : Hid ((parse a.data.toList).1.length ≤ 60)) (HL2 : Hid ((parse b.data.toList).1.length ≤ 60)) (HE1 : Hid ((parse a.data.toList).2.2 = e1)) (HE2 : Hid ((parse b.data.toList).2.2 = e2)) (te1 : ((e1 : Int) != 0) = false) (te2 : ((e2 : Int) != 0) = false) (HR : Hid (right ((parse a.data.toList).1 ++ (parse b.data.toList).1) = false)) :
    Calls Tryd.prog 6 #[.string s, .string t] w fun e w' => e = .returned (.bool true) ∧ Below w.heap.size w w' := by
  go_enter Tryd.func6, Tryd.ntmps6
  go_wp2
  go_region
  go_wp2_with fail
  rw [HAE.out, HBE.out]
  refine (parse_any a _ (by omega) (HM.out.later (below_drew w) (Nat.le_refl _)) (HK.out.later (below_drew w) (Nat.le_refl _))).mono ?_
  rintro e w1 ⟨v1, rfl, hv1, hs1, hb1⟩
  have hb1 : Below w.heap.size w w1 := (below_drew w).trans hb1
  rw [HE1.out]
  go_wp2_with fail
  refine (parse_any b _ (by omega) (HM.out.later hb1 (Nat.le_refl _)) (HK.out.later hb1 (Nat.le_refl _))).mono ?_
  rintro e w2 ⟨v2, rfl, hv2, hs2, hb2⟩
  have hv1' := hv1.below hb2 (Nat.le_refl _)
  have hb2' := hb1.trans (hb2.mono hb1.size)
  rw [HE2.out]
  have HV1 := Lib.hid hv1'
  have HV2 := Lib.hid hv2
  have HS1 := Lib.hid hs1
  have HS2 := Lib.hid hs2
  clear hv1 hv2 hs1 hs2 hb1 hb2 hv1'
  have hown := World.ownsRow_made (size := 4) (e := 44) w2 #[] 0 (Nat.le_refl _) (by unfold maxLen; omega) rfl
  have HO := Lib.hid hown
  clear hown
  have hl1 := HL1.out
  have hl2 := HL2.out
  go_wp2_with (at_builtin; (refine wpList_append_src rfl _ _ rfl w2.heap.size _ 0 [] rfl HO.out v1 (parse a.data.toList).1 rfl (HV1.out.below ((Below.refl _ _).alloc (Nat.le_refl _) _) (Nat.le_refl _)) HS1.out (by omega) (by simp) ?_))
  intro v3 w3 ho3 hg3
  have hb3 : Below w2.heap.size w2 w3 := ((Below.refl w2.heap.size w2).alloc (Nat.le_refl _) _).grown hg3 (by simp) (fun k' hk' => (HO.out.lt k' hk').1)
  have hv2' := HV2.out.below hb3 (Nat.le_refl _)
  have HO3 := Lib.hid ho3
  have HV3 := Lib.hid hv2'
  have hz3 := hb3.size
  clear ho3 hg3 hv2'
  go_wp2_with (at_builtin; (refine wpList_append_src rfl _ _ rfl w2.heap.size _ (parse a.data.toList).1.length (evsCells (parse a.data.toList).1) rfl HO3.out v2 (parse b.data.toList).1 rfl HV3.out HS2.out (by omega) hz3 ?_))
  intro v4 w4 ho4 hg4
  have hb4 : Below w2.heap.size w2 w4 := hb3.grown hg4 hz3 (fun k' hk' => (HO3.out.lt k' hk').1)
  have hv4 : Evs w4 v4 ((parse a.data.toList).1 ++ (parse b.data.toList).1) := by
    apply Evs.of_row (B := w2.heap.size) (e := 44)
    rw [List.length_append]
    have hcat : evsCells ((parse a.data.toList).1 ++ (parse b.data.toList).1) = evsCells (parse a.data.toList).1 ++ evsCells (parse b.data.toList).1 := by simp [evsCells]
    rw [hcat]
    exact ho4
  have HV4 := Lib.hid hv4
  have hb5 := hb2'.trans (hb4.mono hb2'.size)
  clear ho4 hg4 hv4 hb3 hb4 hb2' hz3
  go_wp2_with fail
  refine (right_any _ _ _ (HK.out.later hb5 (Nat.le_refl _)) HV4.out (by rw [List.length_append]; omega)).mono ?_
  rintro e w6 ⟨rfl, hb6⟩
  have HV6 := Lib.hid (HV4.out.below hb6 (Nat.le_refl _))
  have hb7 := hb5.trans (hb6.mono hb5.size)
  clear hb6 hb5
  rw [HR.out]
  go_wp2_with fail
  refine (alive_any _ (HM.out.later hb7 (Nat.le_refl _)) (HK.out.later hb7 (Nat.le_refl _))).mono ?_
  rintro e w9 ⟨rfl, hb9⟩
  have hbz := hb7.trans (hb9.mono hb7.size)
  clear hb9
  go_wp2
  go_ret
  exact ⟨rfl, hbz⟩

set_option maxRecDepth 100000 in
set_option maxHeartbeats 2000000 in
theorem joins_l (s t a b : ByteArray) (e1 e2 : Int) (w : World) (HM : Hid (HasM w)) (HK : Hid (HasK w)) (hs : s.size ≤ 9223372036854775807) (ht : t.size ≤ 9223372036854775807)
    (HAE : Hid (s.extract 0 (min (s.size : Int) 3010).toNat = a)) (HBE : Hid (t.extract 0 (min (t.size : Int) 3010).toNat = b)) (ha : a.size ≤ 3010) (hb : b.size ≤ 3010)
    (HL1 : Hid ((parse a.data.toList).1.length ≤ 60)) (HL2 : Hid ((parse b.data.toList).1.length ≤ 60)) (HE1 : Hid ((parse a.data.toList).2.2 = e1)) (HE2 : Hid ((parse b.data.toList).2.2 = e2)) (te1 : ((e1 : Int) != 0) = false) (te2 : ((e2 : Int) != 0) = false) (HR : Hid (right ((parse a.data.toList).1 ++ (parse b.data.toList).1) = true)) (hlen : (2999 : Int) < (a.size : Int) + (b.size : Int)) :
    Calls Tryd.prog 6 #[.string s, .string t] w fun e w' => e = .returned (.bool true) ∧ Below w.heap.size w w' := by
  go_enter Tryd.func6, Tryd.ntmps6
  go_wp2
  go_region
  go_wp2_with fail
  rw [HAE.out, HBE.out]
  refine (parse_any a _ (by omega) (HM.out.later (below_drew w) (Nat.le_refl _)) (HK.out.later (below_drew w) (Nat.le_refl _))).mono ?_
  rintro e w1 ⟨v1, rfl, hv1, hs1, hb1⟩
  have hb1 : Below w.heap.size w w1 := (below_drew w).trans hb1
  rw [HE1.out]
  go_wp2_with fail
  refine (parse_any b _ (by omega) (HM.out.later hb1 (Nat.le_refl _)) (HK.out.later hb1 (Nat.le_refl _))).mono ?_
  rintro e w2 ⟨v2, rfl, hv2, hs2, hb2⟩
  have hv1' := hv1.below hb2 (Nat.le_refl _)
  have hb2' := hb1.trans (hb2.mono hb1.size)
  rw [HE2.out]
  have HV1 := Lib.hid hv1'
  have HV2 := Lib.hid hv2
  have HS1 := Lib.hid hs1
  have HS2 := Lib.hid hs2
  clear hv1 hv2 hs1 hs2 hb1 hb2 hv1'
  have hown := World.ownsRow_made (size := 4) (e := 44) w2 #[] 0 (Nat.le_refl _) (by unfold maxLen; omega) rfl
  have HO := Lib.hid hown
  clear hown
  have hl1 := HL1.out
  have hl2 := HL2.out
  go_wp2_with (at_builtin; (refine wpList_append_src rfl _ _ rfl w2.heap.size _ 0 [] rfl HO.out v1 (parse a.data.toList).1 rfl (HV1.out.below ((Below.refl _ _).alloc (Nat.le_refl _) _) (Nat.le_refl _)) HS1.out (by omega) (by simp) ?_))
  intro v3 w3 ho3 hg3
  have hb3 : Below w2.heap.size w2 w3 := ((Below.refl w2.heap.size w2).alloc (Nat.le_refl _) _).grown hg3 (by simp) (fun k' hk' => (HO.out.lt k' hk').1)
  have hv2' := HV2.out.below hb3 (Nat.le_refl _)
  have HO3 := Lib.hid ho3
  have HV3 := Lib.hid hv2'
  have hz3 := hb3.size
  clear ho3 hg3 hv2'
  go_wp2_with (at_builtin; (refine wpList_append_src rfl _ _ rfl w2.heap.size _ (parse a.data.toList).1.length (evsCells (parse a.data.toList).1) rfl HO3.out v2 (parse b.data.toList).1 rfl HV3.out HS2.out (by omega) hz3 ?_))
  intro v4 w4 ho4 hg4
  have hb4 : Below w2.heap.size w2 w4 := hb3.grown hg4 hz3 (fun k' hk' => (HO3.out.lt k' hk').1)
  have hv4 : Evs w4 v4 ((parse a.data.toList).1 ++ (parse b.data.toList).1) := by
    apply Evs.of_row (B := w2.heap.size) (e := 44)
    rw [List.length_append]
    have hcat : evsCells ((parse a.data.toList).1 ++ (parse b.data.toList).1) = evsCells (parse a.data.toList).1 ++ evsCells (parse b.data.toList).1 := by simp [evsCells]
    rw [hcat]
    exact ho4
  have HV4 := Lib.hid hv4
  have hb5 := hb2'.trans (hb4.mono hb2'.size)
  clear ho4 hg4 hv4 hb3 hb4 hb2' hz3
  go_wp2_with fail
  refine (right_any _ _ _ (HK.out.later hb5 (Nat.le_refl _)) HV4.out (by rw [List.length_append]; omega)).mono ?_
  rintro e w6 ⟨rfl, hb6⟩
  have HV6 := Lib.hid (HV4.out.below hb6 (Nat.le_refl _))
  have hb7 := hb5.trans (hb6.mono hb5.size)
  clear hb6 hb5
  rw [HR.out]
  go_wp2_with fail
  refine (alive_any _ (HM.out.later hb7 (Nat.le_refl _)) (HK.out.later hb7 (Nat.le_refl _))).mono ?_
  rintro e w9 ⟨rfl, hb9⟩
  have hbz := hb7.trans (hb9.mono hb7.size)
  clear hb9
  go_wp2
  go_ret
  exact ⟨rfl, hbz⟩

set_option maxRecDepth 100000 in
set_option maxHeartbeats 2000000 in
theorem joins_ok (s t a b : ByteArray) (e1 e2 : Int) (w : World) (HM : Hid (HasM w)) (HK : Hid (HasK w)) (hs : s.size ≤ 9223372036854775807) (ht : t.size ≤ 9223372036854775807)
    (HAE : Hid (s.extract 0 (min (s.size : Int) 3010).toNat = a)) (HBE : Hid (t.extract 0 (min (t.size : Int) 3010).toNat = b)) (ha : a.size ≤ 3010) (hb : b.size ≤ 3010)
    (HL1 : Hid ((parse a.data.toList).1.length ≤ 60)) (HL2 : Hid ((parse b.data.toList).1.length ≤ 60)) (HE1 : Hid ((parse a.data.toList).2.2 = e1)) (HE2 : Hid ((parse b.data.toList).2.2 = e2)) (te1 : ((e1 : Int) != 0) = false) (te2 : ((e2 : Int) != 0) = false) (HR : Hid (right ((parse a.data.toList).1 ++ (parse b.data.toList).1) = true)) (hlen : (a.size : Int) + (b.size : Int) ≤ 2999) (HJ : Hid (parse (a ++ ⟨#[10]⟩ ++ b).data.toList = ((parse a.data.toList).1 ++ (parse b.data.toList).1, 0, 0))) :
    Calls Tryd.prog 6 #[.string s, .string t] w fun e w' => e = .returned (.bool true) ∧ Below w.heap.size w w' := by
  go_enter Tryd.func6, Tryd.ntmps6
  go_wp2
  go_region
  go_wp2_with fail
  rw [HAE.out, HBE.out]
  refine (parse_any a _ (by omega) (HM.out.later (below_drew w) (Nat.le_refl _)) (HK.out.later (below_drew w) (Nat.le_refl _))).mono ?_
  rintro e w1 ⟨v1, rfl, hv1, hs1, hb1⟩
  have hb1 : Below w.heap.size w w1 := (below_drew w).trans hb1
  rw [HE1.out]
  go_wp2_with fail
  refine (parse_any b _ (by omega) (HM.out.later hb1 (Nat.le_refl _)) (HK.out.later hb1 (Nat.le_refl _))).mono ?_
  rintro e w2 ⟨v2, rfl, hv2, hs2, hb2⟩
  have hv1' := hv1.below hb2 (Nat.le_refl _)
  have hb2' := hb1.trans (hb2.mono hb1.size)
  rw [HE2.out]
  have HV1 := Lib.hid hv1'
  have HV2 := Lib.hid hv2
  have HS1 := Lib.hid hs1
  have HS2 := Lib.hid hs2
  clear hv1 hv2 hs1 hs2 hb1 hb2 hv1'
  have hown := World.ownsRow_made (size := 4) (e := 44) w2 #[] 0 (Nat.le_refl _) (by unfold maxLen; omega) rfl
  have HO := Lib.hid hown
  clear hown
  have hl1 := HL1.out
  have hl2 := HL2.out
  go_wp2_with (at_builtin; (refine wpList_append_src rfl _ _ rfl w2.heap.size _ 0 [] rfl HO.out v1 (parse a.data.toList).1 rfl (HV1.out.below ((Below.refl _ _).alloc (Nat.le_refl _) _) (Nat.le_refl _)) HS1.out (by omega) (by simp) ?_))
  intro v3 w3 ho3 hg3
  have hb3 : Below w2.heap.size w2 w3 := ((Below.refl w2.heap.size w2).alloc (Nat.le_refl _) _).grown hg3 (by simp) (fun k' hk' => (HO.out.lt k' hk').1)
  have hv2' := HV2.out.below hb3 (Nat.le_refl _)
  have HO3 := Lib.hid ho3
  have HV3 := Lib.hid hv2'
  have hz3 := hb3.size
  clear ho3 hg3 hv2'
  go_wp2_with (at_builtin; (refine wpList_append_src rfl _ _ rfl w2.heap.size _ (parse a.data.toList).1.length (evsCells (parse a.data.toList).1) rfl HO3.out v2 (parse b.data.toList).1 rfl HV3.out HS2.out (by omega) hz3 ?_))
  intro v4 w4 ho4 hg4
  have hb4 : Below w2.heap.size w2 w4 := hb3.grown hg4 hz3 (fun k' hk' => (HO3.out.lt k' hk').1)
  have hv4 : Evs w4 v4 ((parse a.data.toList).1 ++ (parse b.data.toList).1) := by
    apply Evs.of_row (B := w2.heap.size) (e := 44)
    rw [List.length_append]
    have hcat : evsCells ((parse a.data.toList).1 ++ (parse b.data.toList).1) = evsCells (parse a.data.toList).1 ++ evsCells (parse b.data.toList).1 := by simp [evsCells]
    rw [hcat]
    exact ho4
  have HV4 := Lib.hid hv4
  have hb5 := hb2'.trans (hb4.mono hb2'.size)
  clear ho4 hg4 hv4 hb3 hb4 hb2' hz3
  go_wp2_with fail
  refine (right_any _ _ _ (HK.out.later hb5 (Nat.le_refl _)) HV4.out (by rw [List.length_append]; omega)).mono ?_
  rintro e w6 ⟨rfl, hb6⟩
  have HV6 := Lib.hid (HV4.out.below hb6 (Nat.le_refl _))
  have hb7 := hb5.trans (hb6.mono hb5.size)
  clear hb6 hb5
  rw [HR.out]
  have hjs : (a ++ ⟨#[10]⟩ ++ b).size ≤ 6021 := by rw [str_join_size]; omega
  go_wp2_with fail
  refine (parse_any _ _ (by omega) (HM.out.later hb7 (Nat.le_refl _)) (HK.out.later hb7 (Nat.le_refl _))).mono ?_
  rintro e w8 ⟨v8, rfl, hv8, _, hb8⟩
  rw [HJ.out] at hv8 ⊢
  have HV8 := Lib.hid hv8
  have HV9 := Lib.hid (HV6.out.below hb8 (Nat.le_refl _))
  have hb8' := hb7.trans (hb8.mono hb7.size)
  clear hv8 hb8 hb7
  go_wp2_with fail
  refine (alive_any _ (HM.out.later hb8' (Nat.le_refl _)) (HK.out.later hb8' (Nat.le_refl _))).mono ?_
  rintro e w9 ⟨rfl, hb9⟩
  have hbz := hb8'.trans (hb9.mono hb8'.size)
  have HVa := Lib.hid (HV8.out.below hb9 (Nat.le_refl _))
  have HVb := Lib.hid (HV9.out.below hb9 (Nat.le_refl _))
  clear hb9
  go_wp2_with fail
  refine (same_any _ _ _ _ _ HVa.out HVb.out (by rw [List.length_append]; omega) (by rw [List.length_append]; omega)).mono ?_
  rintro e w10 ⟨rfl, nd, rfl⟩
  go_wp2
  go_ret
  exact ⟨ret_bool (by simp), below_drewN hbz nd⟩

theorem joins_any (s t : ByteArray) (w : World) (hm : HasM w) (hK : HasK w) (hs : s.size ≤ 9223372036854775807) (ht : t.size ≤ 9223372036854775807) :
    Calls Tryd.prog 6 #[.string s, .string t] w fun e w' => e = .returned (.bool true) ∧ Below w.heap.size w w' := by
  obtain ⟨a, ha⟩ : ∃ a, s.extract 0 (min (s.size : Int) 3010).toNat = a := ⟨_, rfl⟩
  obtain ⟨b, hb⟩ : ∃ b, t.extract 0 (min (t.size : Int) 3010).toNat = b := ⟨_, rfl⟩
  have hal : a.size ≤ 3010 := by rw [← ha]; exact Nat.le_trans (cut_size _ _) (by omega)
  have hbl : b.size ≤ 3010 := by rw [← hb]; exact Nat.le_trans (cut_size _ _) (by omega)
  have HL1 := parse_60 a.data.toList
  have HL2 := parse_60 b.data.toList
  by_cases h1 : (parse a.data.toList).2.2 = 0
  · by_cases h2 : (parse b.data.toList).2.2 = 0
    · cases hr : right ((parse a.data.toList).1 ++ (parse b.data.toList).1) with
      | false => exact joins_r s t a b 0 0 w hm hK hs ht ha hb hal hbl HL1 HL2 h1 h2 rfl rfl hr
      | true =>
        by_cases hlen : (a.size : Int) + (b.size : Int) ≤ 2999
        · refine joins_ok s t a b 0 0 w hm hK hs ht ha hb hal hbl HL1 HL2 h1 h2 rfl rfl hr hlen ?_
          unfold Hid
          rw [str_join]
          exact parse_join _ _ h1 h2 hr (by rw [← Lib.size_eq, ← Lib.size_eq]; omega)
        · exact joins_l s t a b 0 0 w hm hK hs ht ha hb hal hbl HL1 HL2 h1 h2 rfl rfl hr (by omega)
    · exact joins_e2 s t a b 0 _ w hm hK hs ht ha hb hal hbl HL1 HL2 h1 rfl rfl (by simpa using h2)
  · exact joins_e1 s t a b _ _ w hm hK hs ht ha hb hal hbl HL1 HL2 rfl rfl (by simpa using h1)
end Go.Proofs.YtnbecfgoambbpaaDoor
