/- The walks of slices.stableCmpFunc and slices.SortStableFunc at events. -/
import Derived.Test.YtnggadcoepieaaaDoorPfxI
import Derived.Test.YtnggadcoepieaaaDoorPfxD
import Derived.Test.YtnggadcoepieaaaDoorPfxH
namespace Go.Proofs.YtnggadcoepieaaaDoor.WPlain
end Go.Proofs.YtnggadcoepieaaaDoor.WPlain
namespace Go.Proofs.YtnggadcoepieaaaDoor.QPlain
end Go.Proofs.YtnggadcoepieaaaDoor.QPlain
namespace Go.Proofs.YtnggadcoepieaaaDoor.RPlain
end Go.Proofs.YtnggadcoepieaaaDoor.RPlain
namespace Go.Proofs.YtnggadcoepieaaaDoor
open Go.RowKit WPlain QPlain RPlain

set_option maxRecDepth 100000 in
set_option maxHeartbeats 4000000 in
theorem stable_any (B g cap n : Nat) (h : List Ev) (w : World) (HR : Hid (Row B g cap n w h)) (hl : n ≤ 65536) (hB : B ≤ w.heap.size) :
    Calls Tryd.prog 39 #[.slice (some ⟨g, 0, none⟩) n cap, .int .i64 n, ordV] w fun e w' =>
      e = .returned (.tuple #[]) ∧ Below B w w' ∧ ∃ H, Srt H ∧ Alk h H ∧ Row B g cap n w' H := by
  have HB0 := Lib.hid (Below.refl B w)
  have HB := Lib.hid hB
  have HN := Lib.hid HR.out.1
  unfold ordV
  clear hB
  go_enter Tryd.func39, Tryd.ntmps39
  go_wp2
  go_loopw [7, 8] (fun p q wr => ∃ (a : Nat) (X R : List Ev), p = .int .i64 a ∧ q = .int .i64 ((a : Int) + 20) ∧ a ≤ n ∧ Hid (X.length = a ∧ (∃ q, X.length = q * 20) ∧ Blk 20 X ∧ Alk h (X ++ R)) ∧ Hid (Row B g cap n wr (X ++ R)) ∧ Hid (Below B w wr)) (fun p _ _ => n - (intOf p).toNat)
  case atStart => exact ⟨0, [], h, rfl, by go_num, by omega, ⟨rfl, ⟨0, rfl⟩, blk_nil 20, Alk.refl _⟩, HR, HB0⟩
  case round =>
    clear HR HB0
    obtain ⟨a, X, R, rfl, rfl, han, HI, HR, HBw⟩ := hrel
    have hRl : a + R.length = n := by have h1 := HI.out.1; have h2 := HR.out.1; simp at h2; omega
    by_cases hlt : a + 20 ≤ n
    · have hltz : (a : Int) + 20 ≤ (n : Int) := by omega
      have HC := Lib.hid (insert_any B g cap n a (a + 20) X (R.take 20) (R.drop 20) wr (by rw [List.take_append_drop]; exact HR) HI.out.1 (by rw [List.length_take]; omega) hl (Nat.le_trans HB.out HBw.out.size))
      have hca : ((a + 20 : Nat) : Int) = (a : Int) + 20 := by omega
      rw [hca] at HC
      unfold ordV at HC
      clear hca hlt
      go_wp2_with fail
      refine HC.out.mono ?_
      rintro e w2 ⟨rfl, hb2, y, hy1, hy2, hr2⟩
      have HI2 : Hid ((X ++ y).length = a + 20 ∧ (∃ q, (X ++ y).length = q * 20) ∧ Blk 20 (X ++ y) ∧ Alk h ((X ++ y) ++ R.drop 20)) := by
        have h1 := HI.out
        obtain ⟨q, hq⟩ := h1.2.1
        have h2 := hy2.len
        rw [List.length_take] at h2
        refine ⟨by rw [List.length_append]; omega, ⟨q + 1, by rw [List.length_append]; omega⟩, blk_app (by omega) hq h1.2.2.1 hy1, h1.2.2.2.trans ?_⟩
        have h3 := ((Alk.refl X).app hy2).app (Alk.refl (R.drop 20))
        rw [List.append_assoc, List.take_append_drop] at h3
        exact h3
      have HR2 : Hid (Row B g cap n w2 ((X ++ y) ++ R.drop 20)) := by rw [List.append_assoc]; exact hr2
      have HB2 := Lib.hid (HBw.out.trans hb2)
      clear hb2 hr2 hy1 hy2 HC
      go_wp2
      go_roundw
      case rel => exact ⟨a + 20, X ++ y, R.drop 20, by go_num, by go_num, by omega, HI2, HR2, HB2⟩
      case measure => simp [intOf]; omega
    · have hltz : ¬ (a : Int) + 20 ≤ (n : Int) := by omega
      have HC := Lib.hid (insert_any B g cap n a n X R [] wr (by rw [List.append_nil]; exact HR) HI.out.1 hRl hl (Nat.le_trans HB.out HBw.out.size))
      unfold ordV at HC
      go_wp2_with fail
      refine HC.out.mono ?_
      rintro e w2 ⟨rfl, hb2, y, hy1, hy2, hr2⟩
      rw [List.append_nil] at hr2
      have HI2 : Hid (Blk 20 (X ++ y) ∧ Alk h (X ++ y)) := by
        have h1 := HI.out
        obtain ⟨q, hq⟩ := h1.2.1
        exact ⟨blk_app (by omega) hq h1.2.2.1 hy1, h1.2.2.2.trans ((Alk.refl X).app hy2)⟩
      have HR2 := Lib.hid hr2
      have HB2 := Lib.hid (HBw.out.trans hb2)
      clear hb2 hr2 hy1 hy2 HC HI HR HBw hltz hlt hRl
      obtain ⟨w9, hw9⟩ : ∃ w9 : World, w9 = w2 := ⟨w2, rfl⟩
      subst hw9
      go_wp2_with fail
      go_loopw [6] (fun p wr => ∃ (bs : Nat) (H : List Ev), p = .int .i64 bs ∧ 20 ≤ bs ∧ bs ≤ 140000 ∧ Hid (Blk bs H ∧ Alk h H) ∧ Hid (Row B g cap n wr H) ∧ Hid (Below B w wr)) (fun p _ => n - (intOf p).toNat)
      case atStart => exact ⟨20, X ++ y, by first | rfl | go_num, by omega, by omega, HI2, HR2, HB2⟩
      case round =>
        clear HI2 HR2 HB2
        obtain ⟨bs, H, rfl, hb1, hb2, HI, HR, HBw⟩ := hrel
        by_cases hlt : bs < n
        · have hltz : (bs : Int) < (n : Int) := by omega
          obtain ⟨w8, hw8⟩ : ∃ w8 : World, w8 = wr := ⟨wr, rfl⟩
          subst hw8
          go_wp2_with fail
          go_loopw [7, 8] (fun p q wr => ∃ (a c : Nat) (X R : List Ev), p = .int .i64 a ∧ q = .int .i64 c ∧ c ≤ a + 2 * bs ∧ a + 2 * bs ≤ c ∧ a ≤ n ∧ Hid (X.length = a ∧ (∃ q, X.length = q * (2 * bs)) ∧ Blk (2 * bs) X ∧ Blk bs R ∧ Alk h (X ++ R)) ∧ Hid (Row B g cap n wr (X ++ R)) ∧ Hid (Below B w wr)) (fun p _ _ => n - (intOf p).toNat)
          case atStart => exact ⟨0, 2 * bs, [], H, by first | rfl | go_num, by first | rfl | go_num, by omega, by omega, by omega, ⟨rfl, ⟨0, by simp⟩, blk_nil _, HI.out.1, HI.out.2⟩, HR, HBw⟩
          case round =>
            clear HI HR HBw
            obtain ⟨a, c, X, R, rfl, rfl, hc1, hc2, han, HI, HR, HBw⟩ := hrel
            have hRl : a + R.length = n := by have h1 := HI.out.1; have h2 := HR.out.1; simp at h2; omega
            by_cases hcn : c ≤ n
            · have hcz : (c : Int) ≤ (n : Int) := by omega
              obtain ⟨lu, lv, lz, hRe, hul, hvl, hsu, hsv, hbz⟩ := blk_two (by omega) HI.out.2.2.2.1 (show bs < R.length by omega)
              have HC := Lib.hid (merge_any _ B g cap n a (a + bs) c X lu lv lz wr (by rw [← hRe]; exact HR) HI.out.1 (by omega) (by omega) (Nat.le_refl _) (by omega) (by omega) hsu hsv hl (Nat.le_trans HB.out HBw.out.size))
              have HRE := Lib.hid hRe
              have HLL : Hid (lu.length = bs ∧ lv.length = bs ∧ Blk bs lz) := ⟨hul, by omega, hbz⟩
              have hca : ((a + bs : Nat) : Int) = (a : Int) + (bs : Int) := by omega
              rw [hca] at HC
              unfold ordV at HC
              clear hca hRe hul hvl hsu hsv hbz
              go_wp2_with fail
              refine HC.out.mono ?_
              rintro e w2 ⟨rfl, hb2, y2, hy1, hy2, hr2⟩
              have HI2 : Hid ((X ++ y2).length = c ∧ (∃ q, (X ++ y2).length = q * (2 * bs)) ∧ Blk (2 * bs) (X ++ y2) ∧ Blk bs lz ∧ Alk h ((X ++ y2) ++ lz)) := by
                have h1 := HI.out
                obtain ⟨q, hq⟩ := h1.2.1
                have h2 := hy2.len
                have h3 := HLL.out
                rw [List.length_append] at h2
                refine ⟨by rw [List.length_append]; omega, ⟨q + 1, by rw [List.length_append, hq, Nat.add_mul]; omega⟩, blk_app (by omega) hq h1.2.2.1 hy1, h3.2.2, h1.2.2.2.2.trans ?_⟩
                have h4 := ((Alk.refl X).app hy2).app (Alk.refl lz)
                rw [HRE.out]
                simpa using h4
              have HR2 : Hid (Row B g cap n w2 ((X ++ y2) ++ lz)) := by rw [List.append_assoc]; exact hr2
              have HB2 := Lib.hid (HBw.out.trans hb2)
              clear hb2 hr2 hy1 hy2 HC
              go_wp2
              go_roundw
              case rel => exact ⟨c, c + 2 * bs, X ++ y2, lz, rfl, by go_num, by omega, by omega, by omega, HI2, HR2, HB2⟩
              case measure => simp [intOf]; omega
            · have hcz : ¬ (c : Int) ≤ (n : Int) := by omega
              by_cases hmn : a + bs < n
              · have hmz : (a : Int) + (bs : Int) < (n : Int) := by omega
                obtain ⟨lu, lv, lz, hRe, hul, hvl, hsu, hsv, hbz⟩ := blk_two (by omega) HI.out.2.2.2.1 (show bs < R.length by omega)
                have hz0 : lz = [] := by have h1 := congrArg List.length hRe; simp at h1; exact List.length_eq_zero_iff.1 (by omega)
                subst hz0
                have HC := Lib.hid (merge_any _ B g cap n a (a + bs) n X lu lv [] wr (by rw [← hRe]; exact HR) HI.out.1 (by omega) (by omega) (Nat.le_refl _) (by omega) (by omega) hsu hsv hl (Nat.le_trans HB.out HBw.out.size))
                have HRE := Lib.hid hRe
                have hca : ((a + bs : Nat) : Int) = (a : Int) + (bs : Int) := by omega
                rw [hca] at HC
                unfold ordV at HC
                clear hca hRe hul hvl hsu hsv hbz
                go_wp2_with fail
                refine HC.out.mono ?_
                rintro e w2 ⟨rfl, hb2, y2, hy1, hy2, hr2⟩
                rw [List.append_nil] at hr2
                have HI2 : Hid (Blk (bs * 2) (X ++ y2) ∧ Alk h (X ++ y2)) := by
                  have h1 := HI.out
                  obtain ⟨q, hq⟩ := h1.2.1
                  rw [Nat.mul_comm bs 2]
                  refine ⟨blk_app (by omega) hq h1.2.2.1 hy1, h1.2.2.2.2.trans ?_⟩
                  have h4 := (Alk.refl X).app hy2
                  rw [HRE.out]
                  simpa using h4
                have HR2 := Lib.hid hr2
                have HB2 := Lib.hid (HBw.out.trans hb2)
                clear hb2 hr2 hy1 hy2 HC
                go_wp2
                go_roundw
                case rel => exact ⟨bs * 2, X ++ y2, by first | rfl | go_num, by omega, by omega, HI2, HR2, HB2⟩
                case measure => simp [intOf]; omega
              · have hmz : ¬ (a : Int) + (bs : Int) < (n : Int) := by omega
                have HI2 : Hid (Blk (bs * 2) (X ++ R) ∧ Alk h (X ++ R)) := by
                  have h1 := HI.out
                  obtain ⟨q, hq⟩ := h1.2.1
                  rw [Nat.mul_comm bs 2]
                  exact ⟨blk_app (by omega) hq h1.2.2.1 (blk_one h1.2.2.2.1 (by omega)), h1.2.2.2.2⟩
                go_wp2
                go_roundw
                case rel => exact ⟨bs * 2, X ++ R, by first | rfl | go_num, by omega, by omega, HI2, HR, HBw⟩
                case measure => simp [intOf]; omega
        · have hltz : ¬ (bs : Int) < (n : Int) := by omega
          have HS : Hid (Srt H) := blk_one HI.out.1 (by have := HR.out.1; omega)
          go_wp2
          go_end0
          exact ⟨rfl, HBw.out, H, HS.out, HI.out.2, HR.out⟩
theorem sortStable_any (B g cap n : Nat) (h : List Ev) (w : World) (HR : Hid (Row B g cap n w h)) (hl : n ≤ 65536) (hB : B ≤ w.heap.size) :
    Calls Tryd.prog 29 #[.slice (some ⟨g, 0, none⟩) n cap, ordV] w fun e w' =>
      e = .returned (.tuple #[]) ∧ Below B w w' ∧ ∃ H, Srt H ∧ Alk h H ∧ Row B g cap n w' H := by
  have HC := Lib.hid (stable_any B g cap n h w HR hl hB)
  unfold ordV at HC ⊢
  clear HR hB
  go_enter Tryd.func29, Tryd.ntmps29
  go_wp2_with fail
  refine HC.out.mono ?_
  rintro e w2 ⟨rfl, hb2, H, h1, h2, hr2⟩
  go_wp2
  go_end0
  exact ⟨rfl, hb2, H, h1, h2, hr2⟩
end Go.Proofs.YtnggadcoepieaaaDoor
