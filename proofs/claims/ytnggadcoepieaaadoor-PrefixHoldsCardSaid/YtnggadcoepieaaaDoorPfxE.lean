/- The walks of slices.swapRangeCmpFunc and slices.rotateCmpFunc at events. -/
import Derived.Test.YtnggadcoepieaaaDoorMg12
namespace Go.Proofs.YtnggadcoepieaaaDoor.WPlain
end Go.Proofs.YtnggadcoepieaaaDoor.WPlain
namespace Go.Proofs.YtnggadcoepieaaaDoor.QPlain
end Go.Proofs.YtnggadcoepieaaaDoor.QPlain
namespace Go.Proofs.YtnggadcoepieaaaDoor.RPlain
end Go.Proofs.YtnggadcoepieaaaDoor.RPlain
namespace Go.Proofs.YtnggadcoepieaaaDoor
open Go.RowKit WPlain QPlain RPlain

set_option maxRecDepth 100000 in
set_option maxHeartbeats 4000000 in
theorem swapRange_any (B g cap n a b m : Nat) (x u y v z : List Ev) (w : World) (HR : Hid (Row B g cap n w (x ++ (u ++ (y ++ (v ++ z)))))) (hx : x.length = a) (hb : a + u.length + y.length = b) (hu : u.length = m) (hv : v.length = m) (hl : n ≤ 65536) :
    Calls Tryd.prog 51 #[.slice (some ⟨g, 0, none⟩) n cap, .int .i64 a, .int .i64 b, .int .i64 m, ordV] w fun e w' =>
      e = .returned (.tuple #[]) ∧ Below B w w' ∧ Row B g cap n w' (x ++ (v ++ (y ++ (u ++ z)))) := by
  have HB0 := Lib.hid (Below.refl B w)
  have hbn : b + m ≤ n := by have := HR.out.1; simp at this; omega
  have ham : a + m ≤ b := by omega
  have HU := Lib.hid hu
  have HV := Lib.hid hv
  have HBB := Lib.hid hb
  have HX := Lib.hid hx
  unfold ordV
  clear hu hv hb hx
  go_enter Tryd.func51, Tryd.ntmps51
  go_wp2
  go_loopw [10] (fun k wr => ∃ (i : Nat) (u1 u2 v1 v2 : List Ev), k = .int .i64 i ∧ i ≤ m ∧ Hid (u = u1 ++ u2 ∧ v = v1 ++ v2 ∧ u1.length = i ∧ v1.length = i) ∧ Hid (Row B g cap n wr (x ++ (v1 ++ (u2 ++ (y ++ (u1 ++ (v2 ++ z))))))) ∧ Hid (Below B w wr)) (fun k _ => m - (intOf k).toNat)
  case atStart => exact ⟨0, [], u, [], v, rfl, by omega, ⟨rfl, rfl, rfl, rfl⟩, HR, HB0⟩
  case round =>
    clear HR HB0
    obtain ⟨i, u1, u2, v1, v2, rfl, him, HS, HR, HBw⟩ := hrel
    by_cases hlt : i < m
    · obtain ⟨c, u3, rfl⟩ : ∃ c u3, u2 = c :: u3 := by
        rcases u2 with _ | ⟨c, u3⟩
        · have h1 := HS.out.1; have h2 := HS.out.2.2.1; have h3 := HU.out; rw [h1] at h3; simp at h3; omega
        · exact ⟨c, u3, rfl⟩
      obtain ⟨d, v3, rfl⟩ : ∃ d v3, v2 = d :: v3 := by
        rcases v2 with _ | ⟨c, u3⟩
        · have h1 := HS.out.2.1; have h2 := HS.out.2.2.2; have h3 := HV.out; rw [h1] at h3; simp at h3; omega
        · exact ⟨c, u3, rfl⟩
      have l1 : a + i = (x ++ v1).length := by rw [List.length_append, HX.out, HS.out.2.2.2]
      have l2 : b + i = (x ++ v1).length + 1 + (u3 ++ (y ++ u1)).length := by
        have h1 := congrArg List.length HS.out.1; have h2 := HS.out.2.2.1; have h3 := HBB.out; have h4 := HU.out; have h5 := HX.out; have h6 := HS.out.2.2.2
        simp at *; omega
      have HR1 : Hid (Row B g cap n wr ((x ++ v1) ++ c :: ((u3 ++ (y ++ u1)) ++ d :: (v3 ++ z)))) := by simpa [Hid] using HR
      obtain ⟨c0, c1, c2, c3⟩ := HR1.out.at (i := a + i) l1
      obtain ⟨d0, d1, d2, d3⟩ := (show Row B g cap n wr (((x ++ v1) ++ c :: (u3 ++ (y ++ u1))) ++ d :: (v3 ++ z)) from by simpa using HR1.out).at (i := b + i) (by rw [l2]; simp; omega)
      have f0 : ∀ i, wr.frozen? ⟨g, i, none⟩ = false := fun i => by have := HR1.out.2.frozenAt i; simpa using this
      have HSW := Lib.hid (HR1.out.swap (i := a + i) (j := b + i) l1 l2)
      have HR4 : Hid (Row B g cap n (putE (putE wr g (a + i) d) g (b + i) c).drew (x ++ ((v1 ++ [d]) ++ (u3 ++ (y ++ ((u1 ++ [c]) ++ (v3 ++ z))))))) := by
        have := HSW.out.1.keep ((Below.refl _ _).drew)
        simpa [Hid] using this
      have HB4 : Hid (Below B w (putE (putE wr g (a + i) d) g (b + i) c).drew) := (HBw.out.trans HSW.out.2).drew
      have HS4 : Hid (u = (u1 ++ [c]) ++ u3 ∧ v = (v1 ++ [d]) ++ v3 ∧ (u1 ++ [c]).length = i + 1 ∧ (v1 ++ [d]).length = i + 1) := by
        refine ⟨by rw [HS.out.1]; simp, by rw [HS.out.2.1]; simp, by rw [List.length_append, HS.out.2.2.1]; rfl, by rw [List.length_append, HS.out.2.2.2]; rfl⟩
      have HL1 := Lib.hid l1
      have HL2 := Lib.hid l2
      have ea : ((a : Int) + (i : Int)).toNat = a + i := by omega
      have eb : ((b : Int) + (i : Int)).toNat = b + i := by omega
      have pa : (0 : Int) ≤ (a : Int) + (i : Int) := by omega
      have pb : (0 : Int) ≤ (b : Int) + (i : Int) := by omega
      have qa : (a : Int) + (i : Int) < (n : Int) := by omega
      have qb : (b : Int) + (i : Int) < (n : Int) := by omega
      have ra : IntKind.i64.wrap ((a : Int) + (i : Int)) = (a : Int) + (i : Int) := by rw [IntKind.wrap_i64]; omega
      have rb : IntKind.i64.wrap ((b : Int) + (i : Int)) = (b : Int) + (i : Int) := by rw [IntKind.wrap_i64]; omega
      clear l1 l2
      go_wp2_with fail
      go_big_region
      clear f0 c0 c1 c2 c3 d0 d1 d2 d3
      go_wp2
      go_roundw
      case rel => exact ⟨i + 1, u1 ++ [c], u3, v1 ++ [d], v3, by go_num, by omega, HS4, HR4, HB4⟩
      case measure => simp [intOf]; omega
    · go_wp2
      go_end0
      have h1 := HS.out
      have hu2 : u2 = [] := by have h3 := HU.out; rw [h1.1] at h3; simp at h3; exact List.length_eq_zero_iff.1 (by omega)
      have hv2 : v2 = [] := by have h3 := HV.out; rw [h1.2.1] at h3; simp at h3; exact List.length_eq_zero_iff.1 (by omega)
      refine ⟨rfl, HBw.out, ?_⟩
      have h4 := HR.out
      rw [h1.1, h1.2.1, hu2, hv2]
      rw [hu2, hv2] at h4
      simpa using h4
set_option maxRecDepth 100000 in
set_option maxHeartbeats 4000000 in
theorem rotate_any (B g cap n a m b : Nat) (x u v z : List Ev) (w : World) (HR : Hid (Row B g cap n w (x ++ (u ++ (v ++ z))))) (hx : x.length = a) (hm : a + u.length = m) (hb : m + v.length = b) (hu : 0 < u.length) (hv : 0 < v.length) (hl : n ≤ 65536) :
    Calls Tryd.prog 50 #[.slice (some ⟨g, 0, none⟩) n cap, .int .i64 a, .int .i64 m, .int .i64 b, ordV] w fun e w' =>
      e = .returned (.tuple #[]) ∧ Below B w w' ∧ Row B g cap n w' (x ++ (v ++ (u ++ z))) := by
  have HB0 := Lib.hid (Below.refl B w)
  have hbn : b ≤ n := by have := HR.out.1; simp at this; omega
  have hu1 : (m : Int) - (a : Int) = (u.length : Int) := by omega
  have hv1 : (b : Int) - (m : Int) = (v.length : Int) := by omega
  have hum : u.length ≤ m := by omega
  have hvm : v.length ≤ n := by omega
  have H0 : Hid (x.length + u.length = m ∧ 0 < u.length ∧ 0 < v.length ∧ m + v.length ≤ n) := ⟨by omega, hu, hv, by omega⟩
  unfold ordV
  clear hu hv hx hm hb
  go_enter Tryd.func50, Tryd.ntmps50
  go_wp2
  go_loopw [10, 11] (fun k1 k2 wr => ∃ (i j : Nat) (x1 u1 v1 z1 : List Ev), k1 = .int .i64 i ∧ k2 = .int .i64 j ∧ 0 < i ∧ 0 < j ∧ i ≤ m ∧ m + j ≤ n ∧ Hid (u1.length = i ∧ v1.length = j ∧ x1.length + i = m ∧ x1 ++ (v1 ++ (u1 ++ z1)) = x ++ (v ++ (u ++ z))) ∧ Hid (Row B g cap n wr (x1 ++ (u1 ++ (v1 ++ z1)))) ∧ Hid (Below B w wr)) (fun k1 k2 _ => (intOf k1).toNat + (intOf k2).toNat)
  case atStart => exact ⟨u.length, v.length, x, u, v, z, rfl, rfl, H0.out.2.1, H0.out.2.2.1, hum, H0.out.2.2.2, ⟨rfl, rfl, H0.out.1, rfl⟩, HR, HB0⟩
  case round =>
    clear HR HB0 hu1 hv1 hum hvm H0
    obtain ⟨i, j, x1, u1, v1, z1, rfl, rfl, hi, hj, him, hjm, HS, HR, HBw⟩ := hrel
    by_cases hij : i = j
    · subst hij
      have hz : ((i : Int) != (i : Int)) = false := by simp
      have hmi : (m : Int) - (i : Int) = ((m - i : Nat) : Int) := by omega
      have HC := swapRange_any B g cap n (m - i) m i x1 u1 [] v1 z1 wr HR (by have := HS.out; omega) (by have := HS.out; simp; omega) HS.out.1 HS.out.2.1 hl
      unfold ordV at HC
      go_wp2_with fail
      try rw [hmi]
      refine HC.mono ?_
      rintro e w2 ⟨rfl, hb2, hr2⟩
      go_wp2
      go_end0
      refine ⟨rfl, HBw.out.trans hb2, ?_⟩
      rw [← HS.out.2.2.2]
      simpa using hr2
    · have hz : ((i : Int) != (j : Int)) = true := by simp; omega
      by_cases hgt : j < i
      · obtain ⟨s1, s2, rfl, hs1⟩ : ∃ s1 s2, u1 = s1 ++ s2 ∧ s1.length = j := ⟨u1.take j, u1.drop j, (List.take_append_drop ..).symm, by rw [List.length_take]; have := HS.out.1; omega⟩
        have hs2 : j + s2.length = i := by have := HS.out.1; simp at this; omega
        have hmi : (m : Int) - (i : Int) = ((m - i : Nat) : Int) := by omega
        have HC := swapRange_any B g cap n (m - i) m j x1 s1 s2 v1 z1 wr (by simpa [Hid] using HR) (by have := HS.out; omega) (by omega) hs1 HS.out.2.1 hl
        unfold ordV at HC
        have HC2 := Lib.hid HC
        have HS2 : Hid (s2.length = i - j ∧ s1.length = j ∧ (x1 ++ v1).length + (i - j) = m ∧ (x1 ++ v1) ++ (s1 ++ (s2 ++ z1)) = x ++ (v ++ (u ++ z))) := by
          have h := HS.out
          refine ⟨by omega, hs1, by rw [List.length_append]; omega, ?_⟩
          rw [← h.2.2.2]; simp
        have hz2 : (i : Int) - (j : Int) = ((i - j : Nat) : Int) := by omega
        clear HC hs1 hs2 HS HR
        go_wp2_with fail
        try rw [hmi]
        refine HC2.out.mono ?_
        rintro e w2 ⟨rfl, hb2, hr2⟩
        have HB2 := Lib.hid (HBw.out.trans hb2)
        have HR2 : Hid (Row B g cap n w2 ((x1 ++ v1) ++ (s2 ++ (s1 ++ z1)))) := by simpa [Hid] using hr2
        clear hb2 hr2 HC2
        go_wp2
        go_roundw
        case rel => exact ⟨i - j, j, x1 ++ v1, s2, s1, z1, rfl, rfl, by omega, hj, by omega, hjm, HS2, HR2, HB2⟩
        case measure => simp [intOf]; omega
      · have hlt : i < j := by omega
        obtain ⟨s1, s2, rfl, hs1⟩ : ∃ s1 s2, v1 = s1 ++ s2 ∧ s1.length = j - i := ⟨v1.take (j - i), v1.drop (j - i), (List.take_append_drop ..).symm, by rw [List.length_take]; have := HS.out.2.1; omega⟩
        have hs2 : s2.length = i := by have := HS.out.2.1; simp at this; omega
        have hmi : (m : Int) - (i : Int) = ((m - i : Nat) : Int) := by omega
        have hmj : (m : Int) + (j : Int) - (i : Int) = ((m + j - i : Nat) : Int) := by omega
        have HC := swapRange_any B g cap n (m - i) (m + j - i) i x1 u1 s1 s2 z1 wr (by simpa [Hid] using HR) (by have := HS.out; omega) (by have := HS.out; omega) HS.out.1 hs2 hl
        unfold ordV at HC
        have HC2 := Lib.hid HC
        have HS2 : Hid (s2.length = i ∧ s1.length = j - i ∧ x1.length + i = m ∧ x1 ++ (s1 ++ (s2 ++ (u1 ++ z1))) = x ++ (v ++ (u ++ z))) := by
          have h := HS.out
          refine ⟨hs2, hs1, h.2.2.1, ?_⟩
          rw [← h.2.2.2]; simp
        have hz2 : (j : Int) - (i : Int) = ((j - i : Nat) : Int) := by omega
        clear HC hs1 hs2 HS HR
        go_wp2_with fail
        try rw [hmi, hmj]
        refine HC2.out.mono ?_
        rintro e w2 ⟨rfl, hb2, hr2⟩
        have HB2 := Lib.hid (HBw.out.trans hb2)
        have HR2 : Hid (Row B g cap n w2 (x1 ++ (s2 ++ (s1 ++ (u1 ++ z1))))) := by simpa [Hid] using hr2
        clear hb2 hr2 HC2
        go_wp2
        go_roundw
        case rel => exact ⟨i, j - i, x1, s2, s1, u1 ++ z1, rfl, rfl, hi, by omega, him, by omega, HS2, HR2, HB2⟩
        case measure => simp [intOf]; omega
end Go.Proofs.YtnggadcoepieaaaDoor
