/- The walks of package prefix's Serial and Cut, and of the reference's Alike. -/
import Derived.Test.YtnggadcoepieaaaDoorPfxM
namespace Go.Proofs.YtnggadcoepieaaaDoor.WPlain
end Go.Proofs.YtnggadcoepieaaaDoor.WPlain
namespace Go.Proofs.YtnggadcoepieaaaDoor.QPlain
end Go.Proofs.YtnggadcoepieaaaDoor.QPlain
namespace Go.Proofs.YtnggadcoepieaaaDoor.RPlain
end Go.Proofs.YtnggadcoepieaaaDoor.RPlain
namespace Go.Proofs.YtnggadcoepieaaaDoor
open Go.RowKit WPlain QPlain RPlain

theorem txs_open {w : World} {v : Value} {l : List Tx} (h : Txs w v l) (h0 : 0 < l.length) : ∃ b o c, v = .slice (some ⟨b, o, none⟩) l.length c := by
  obtain ⟨ps, rfl, hr, _⟩ := h
  rcases hr with ⟨rfl, _⟩ | ⟨_, b, o, c, rfl, _⟩
  · simp at h0
  · exact ⟨b, o, c, by simp⟩
theorem serT_idx (l : List Tx) : serT l ↔ ∀ i (hi : i < l.length), 0 < i → (l[i - 1]'(by omega)).l ≤ (l[i]).f := by
  constructor
  · intro h i hi h0
    obtain ⟨j, rfl⟩ : ∃ j, i = j + 1 := ⟨i - 1, by omega⟩
    have h1 := h j hi
    simp only [Nat.add_sub_cancel]
    omega
  · intro h i hi
    have h1 := h (i + 1) hi (by omega)
    simp only [Nat.add_sub_cancel] at h1
    omega
set_option maxRecDepth 100000 in
set_option maxHeartbeats 2000000 in
theorem serial_any (v : Value) (h : List Ev) (w : World) (hK : HasK w) (hv : Evs w v h) (hl : h.length ≤ 65536) :
    Calls Tryd.prog 13 #[v] w fun e w' => ∃ r : Bool, e = .returned (.tuple #[.bool r, .int .i64 ((checkS h).2 : Nat)]) ∧ (r = true ↔ ((checkS h).2 = 0 ∧ serP h)) ∧ Below w.heap.size w w' := by
  have HT := Lib.hid (table_any v h w hK hv hl)
  have HTL : Hid ((tableS h).length ≤ 65536) := by rw [tableS_len]; exact Nat.le_trans (namesOf_len h) hl
  obtain ⟨a, c, rfl⟩ := hv.len
  clear hv hK
  by_cases h0 : (checkS h).2 = 0
  · rw [h0, if_pos rfl] at HT
    rw [h0]
    clear h0
    go_enter Tryd.func13, Tryd.ntmps13
    go_wp2_with fail
    refine HT.out.mono ?_
    rintro e w1 ⟨v1, rfl, hv1, hb1⟩
    have HB1 := Lib.hid hb1
    have HV1 := Lib.hid hv1
    have HBR := Lib.hid (Below.refl w1.heap.size w1)
    obtain ⟨a1, c1, rfl⟩ := hv1.len
    have hll := HTL.out
    have HSI := Lib.hid (serT_iff (h := h))
    generalize tableS h = l at *
    clear hv1 hb1 HT
    go_wp2_with fail
    go_loopw [6] (fun x wr => ∃ k : Nat, x = .int .i64 k ∧ 0 < k ∧ (k ≤ l.length ∨ k = 1) ∧ Hid (∀ i (hi : i < l.length), i < k → 0 < i → (l[i - 1]'(by omega)).l ≤ (l[i]).f) ∧ Hid (Below w1.heap.size w1 wr)) (fun x _ => l.length - (intOf x).toNat)
    case atStart => exact ⟨1, by first | rfl | go_num, by omega, by omega, (by intro i hi h1 h2; omega), HBR⟩
    case round =>
      clear HBR
      obtain ⟨k, rfl, hk0, hk1, HI, HB⟩ := hrel
      by_cases hlt : k < l.length
      · obtain ⟨kp, rfl⟩ : ∃ kp, k = kp + 1 := ⟨k - 1, by omega⟩
        have hv2 := HV1.out.below HB.out (Nat.le_refl _)
        obtain ⟨b, o, c', he⟩ := txs_open hv2 (by omega)
        obtain ⟨rfl, rfl⟩ : a1 = some ⟨b, o, none⟩ ∧ c1 = c' := by simpa using he
        clear he
        obtain ⟨ua, x0, x1, x2, x3, x4, qa⟩ := hv2.get (kp + 1) hlt
        obtain ⟨ub, y0, y1, y2, y3, y4, qb⟩ := hv2.get kp (by omega)
        clear hv2 x0 x2 x3 x4 qa y0 y1 y3 y4 qb
        have HG : Hid (∀ (hi : kp + 1 < l.length), (l[kp + 1]).f = (l[kp + 1]).f ∧ (l[kp + 1 - 1]'(by omega)).l = (l[kp]'(by omega)).l) := fun _ => ⟨rfl, rfl⟩
        obtain ⟨F, hF⟩ : ∃ F, (l[kp + 1]).f = F := ⟨_, rfl⟩
        obtain ⟨L, hL⟩ : ∃ L, (l[kp]'(by omega)).l = L := ⟨_, rfl⟩
        rw [hF] at x1
        rw [hL] at y2
        have HF := Lib.hid hF
        have HL := Lib.hid hL
        clear hF hL
        have qk : (kp : Int) < (l.length : Int) := by omega
        have qk1 : (kp : Int) + 1 < (l.length : Int) := by omega
        have qz : ((kp : Int) + 1).toNat = kp + 1 := by omega
        have q0 : (0 : Int) ≤ (kp : Int) + 1 := by omega
        have hwp : IntKind.i64.wrap (kp : Int) = (kp : Int) := by rw [IntKind.wrap_i64]; omega
        have HB3 : Hid (Below w1.heap.size w1 wr.drew) := HB.out.drew
        by_cases g : F < L
        · have tg : decide (F < L) = true := decide_eq_true g
          have HNO : Hid (¬ serP h) := by
            intro hs
            have := (serT_idx l).1 (HSI.out.2 hs) (kp + 1) hlt (by omega)
            rw [HF.out] at this
            simp only [Nat.add_sub_cancel] at this
            rw [HL.out] at this
            omega
          go_wp2_with fail
          go_big_region
          all_goals go_wp2
          go_ret2
          exact ⟨false, rfl, ⟨by simp, fun hs => absurd hs.2 HNO.out⟩, HB1.out.trans (HB3.out.mono HB1.out.size)⟩
        · have tg : decide (F < L) = false := decide_eq_false g
          have HI2 : Hid (∀ i (hi : i < l.length), i < kp + 1 + 1 → 0 < i → (l[i - 1]'(by omega)).l ≤ (l[i]).f) := by
            intro i hi h1 h2
            by_cases h3 : i = kp + 1
            · subst h3
              simp only [Nat.add_sub_cancel]
              rw [HF.out, HL.out]
              omega
            · exact HI.out i hi (by omega) h2
          clear g
          go_wp2_with fail
          go_big_region
          all_goals go_wp2
          go_roundw
          case rel => exact ⟨kp + 1 + 1, by go_num, by omega, by omega, HI2, HB3⟩
          case measure => simp [intOf]; omega
      · have HS : Hid (serP h) := HSI.out.1 ((serT_idx l).2 fun i hi h1 => HI.out i hi (by omega) h1)
        go_wp2
        go_ret2
        exact ⟨true, rfl, ⟨fun _ => ⟨by simp, HS.out⟩, fun _ => rfl⟩, HB1.out.trans (HB.out.mono HB1.out.size)⟩
  · rw [if_neg h0] at HT
    obtain ⟨er, her⟩ : ∃ er, (checkS h).2 = er := ⟨_, rfl⟩
    rw [her] at HT h0 ⊢
    have te : ((er : Int) != 0) = true := by simp; omega
    have H0 := Lib.hid h0
    clear her h0
    go_enter Tryd.func13, Tryd.ntmps13
    go_wp2_with fail
    refine HT.out.mono ?_
    rintro e w1 ⟨v1, rfl, hv1, hb1⟩
    have HB1 := Lib.hid hb1
    obtain ⟨a1, c1, rfl⟩ := hv1.len
    clear hv1 hb1 HT
    go_wp2
    go_ret2
    exact ⟨false, rfl, ⟨by simp, fun hs => absurd hs.1 H0.out⟩, HB1.out⟩
set_option maxRecDepth 100000 in
set_option maxHeartbeats 2000000 in
theorem refAlike_any (v1 v2 : Value) (a b : List Ev) (w : World) (hv1 : Evs w v1 a) (hl1 : a.length ≤ 65536) (hv2 : Evs w v2 b) (hl2 : b.length ≤ 65536) :
    Calls Tryd.prog 11 #[v1, v2] w fun e w' => e = .returned (.bool (alikeS a b)) ∧ Below w.heap.size w w' := by
  have HN := Lib.hid (refNames_any v1 a w hv1 hl1)
  have HV1 := Lib.hid hv1
  have HV2 := Lib.hid hv2
  have HNL := Lib.hid (namesOf_len a)
  obtain ⟨a1, c1, rfl⟩ := hv1.len
  obtain ⟨a2, c2, rfl⟩ := hv2.len
  clear hv1 hv2
  go_enter Tryd.func11, Tryd.ntmps11
  go_wp2_with fail
  refine HN.out.mono ?_
  rintro e w1 ⟨v3, rfl, hy, hb1⟩
  have HR := Lib.hid (Rd.of_row hy)
  have HB1 := Lib.hid hb1
  have HBR := Lib.hid (Below.refl w1.heap.size w1)
  obtain ⟨a3, c3, rfl⟩ := row_slice hy
  have hnl : (namesOf a).length ≤ 65536 := Nat.le_trans HNL.out hl1
  have HNA : Hid (namesOf a = namesOf a) := rfl
  obtain ⟨ns, hns⟩ : ∃ ns, namesOf a = ns := ⟨_, rfl⟩
  rw [hns] at HR hnl
  have HNS := Lib.hid hns
  rw [hns]
  clear hy hb1 HN HNA hns
  go_wp2_with fail
  go_loopw [10] (fun x wr => ∃ k : Nat, x = .int .i64 k ∧ k ≤ ns.length ∧ Hid (∀ i (hi : i < ns.length), i < k → ofT a ns[i] = ofT b ns[i]) ∧ Hid (Below w1.heap.size w1 wr)) (fun x _ => ns.length - (intOf x).toNat)
  case atStart => exact ⟨0, rfl, by omega, (by intro i hi h1; omega), HBR⟩
  case round =>
    clear HBR
    obtain ⟨k, rfl, hk, HI, HB⟩ := hrel
    by_cases hlt : k < ns.length
    · have hr2 := HR.out.below HB.out (Nat.le_refl _)
      obtain ⟨bb, o, c', he, hbl, hcs⟩ := hr2.opened (by simp [ints]; omega)
      obtain ⟨rfl, rfl⟩ : a3 = some ⟨bb, o, none⟩ ∧ c3 = c' := by simp [ints] at he; exact he
      have x0 := hcs k (.int .i64 ns[k]) (by simp [ints, hlt])
      clear he hcs hr2
      have HT : Hid (∃ hi : k < ns.length, ns[k] = ns[k]) := ⟨hlt, rfl⟩
      obtain ⟨t, ht⟩ : ∃ t, ns[k] = t := ⟨_, rfl⟩
      rw [ht] at x0
      have HTE := Lib.hid ht
      have HBW := Lib.hid (HB1.out.trans (HB.out.mono HB1.out.size))
      have HO1 := Lib.hid (refOfE_any _ a t wr (HV1.out.below HBW.out (Nat.le_refl _)) hl1)
      clear ht HT
      go_wp2_with fail
      refine HO1.out.mono ?_
      rintro e w2 ⟨v4, rfl, he4, -, hb2⟩
      have HE4 := Lib.hid he4
      have HB2 := Lib.hid (HBW.out.trans (hb2.mono HBW.out.size))
      have HB2l := Lib.hid (HB.out.trans (hb2.mono HB.out.size))
      have HO2 := Lib.hid (refOfE_any _ b t w2 (HV2.out.below HB2.out (Nat.le_refl _)) hl2)
      obtain ⟨a4, c4, rfl⟩ := he4.len
      clear he4 hb2 HO1 HBW HB
      go_wp2_with fail
      refine HO2.out.mono ?_
      rintro e w3 ⟨v5, rfl, he5, -, hb3⟩
      have HB3 := Lib.hid (HB2.out.trans (hb3.mono HB2.out.size))
      have HB3l := Lib.hid (HB2l.out.trans (hb3.mono HB2l.out.size))
      obtain ⟨a5, c5, rfl⟩ := he5.len
      have HSM := Lib.hid (same_any _ _ (ofT a t) (ofT b t) w3 (HE4.out.below hb3 (Nat.le_refl _)) he5 (Nat.le_trans (List.length_filter_le _ _) hl1) (Nat.le_trans (List.length_filter_le _ _) hl2))
      clear he5 hb3 HO2 HE4 HB2 HB2l
      by_cases g : ofT a t = ofT b t
      · have HI2 : Hid (∀ i (hi : i < ns.length), i < k + 1 → ofT a ns[i] = ofT b ns[i]) := by
          intro i hi h1
          by_cases h2 : i = k
          · subst h2; rw [HTE.out]; exact g
          · exact HI.out i hi (by omega)
        rw [decide_eq_true g] at HSM
        clear g
        go_wp2_with fail
        refine HSM.out.mono ?_
        rintro e w4 ⟨rfl, q, rfl⟩
        have HB4 := Lib.hid (below_drN HB3l.out q)
        go_wp2
        go_roundw
        case rel => exact ⟨k + 1, by go_num, by omega, HI2, HB4⟩
        case measure => simp [intOf]; omega
      · have HNO : Hid (alikeS a b = false) := by
          rw [Hid, ← Bool.not_eq_true, alike_iff]
          exact fun h => g (h t)
        rw [decide_eq_false g] at HSM
        clear g
        go_wp2_with fail
        refine HSM.out.mono ?_
        rintro e w4 ⟨rfl, q, rfl⟩
        have HB4 := Lib.hid (below_drN HB3.out q)
        go_wp2
        refine bodyPost_ret (v := .bool false) (by simp [results, Tryd.results11, go_sem]) rfl ⟨by rw [HNO.out], HB4.out⟩
    · have HAL : Hid (alikeS a b = decide ((a.length : Int) = (b.length : Int))) := by
        unfold Hid alikeS
        have h1 : ((namesOf a).all fun t => decide (ofT a t = ofT b t)) = true := by
          rw [List.all_eq_true]
          intro t ht
          rw [HNS.out] at ht
          obtain ⟨i, hi, rfl⟩ := List.mem_iff_getElem.1 ht
          exact decide_eq_true (HI.out i hi (by omega))
        rw [h1, Bool.true_and, decide_eq_decide]
        omega
      have HBW := Lib.hid (HB1.out.trans (HB.out.mono HB1.out.size))
      go_wp2
      go_ret
      refine ⟨?_, HBW.out⟩
      rw [HAL.out]
      first | rfl | (congr 2; rw [Bool.eq_iff_iff]; simp)
end Go.Proofs.YtnggadcoepieaaaDoor
