/- The reference's event, whole. -/
import Derived.Test.YtnbecfgoambbpaaDoorTxtX1
import Derived.Test.YtnbecfgoambbpaaDoorTxtX2
import Derived.Test.YtnbecfgoambbpaaDoorTxtX3
import Derived.Test.YtnbecfgoambbpaaDoorTxtX4
namespace Go.Proofs.YtnbecfgoambbpaaDoor
open Go.RowKit WPlain

/-- a line's value at the reference: its words and where they begin -/
def IsW (w : World) (v : Value) (L : Ln) : Prop := ∃ v1 v2, v = .agg #[v1, v2] ∧ Rd w v1 (L.ws.map fun l => .string ⟨l.toArray⟩) ∧ Rd w v2 (L.bs.map fun b : Nat => Value.int .i64 (b : Int))
theorem IsW.later {w w' : World} {B : Nat} {v : Value} {L : Ln} (h : IsW w v L) (hb : Below B w w') (hB : w.heap.size ≤ B) : IsW w' v L := by
  obtain ⟨v1, v2, rfl, h1, h2⟩ := h
  exact ⟨v1, v2, rfl, h1.below hb hB, h2.below hb hB⟩

theorem rnum_any (v : Value) (L : Ln) (i : Nat) (x0 x1 x2 x3 n0 lo hi : Int) (w : World) (hL : IsW w v L) (ho : LnOk L) (he : L.bs.length = L.ws.length) (hi0 : i ≤ 2147483648) :
    Calls Tryd.prog 40 #[v, .agg #[.int .i64 x0, .int .i64 x1, .int .i64 x2, .int .i64 x3, .int .i64 i, .int .i64 n0, .int .i64 0, .int .i64 0], .int .i64 lo, .int .i64 hi, .int .i64 L.en] w fun e w' =>
      e = .returned (.agg (if (numAt L i lo hi).2 = 0 then #[.int .i64 x0, .int .i64 x1, .int .i64 x2, .int .i64 x3, .int .i64 (i + 1 : Nat), .int .i64 (numAt L i lo hi).1, .int .i64 0, .int .i64 0] else #[.int .i64 0, .int .i64 0, .int .i64 0, .int .i64 0, .int .i64 0, .int .i64 0, .int .i64 (placeAt L i), .int .i64 (numAt L i lo hi).2])) ∧ Below w.heap.size w w' := by
  obtain ⟨v1, v2, rfl, h1, h2⟩ := hL
  unfold numAt placeAt
  by_cases hlt : i < L.ws.length
  · obtain ⟨b1, o1, c1, rfl, hb1, hc1⟩ := h1.opened (by rw [List.length_map]; omega)
    obtain ⟨b2, o2, c2, rfl, hb2, hc2⟩ := h2.opened (by rw [List.length_map]; omega)
    have k1 := hc1 i (.string ⟨L.ws[i].toArray⟩) (by rw [List.getElem?_map, List.getElem?_eq_getElem hlt]; rfl)
    have k2 := hc2 i (.int .i64 L.bs[i]) (by rw [List.getElem?_map, List.getElem?_eq_getElem (by omega)]; rfl)
    rw [List.getElem?_eq_getElem hlt, List.getElem?_eq_getElem (by omega : i < L.bs.length)]
    have hz := ho.2.2 L.ws[i] (List.getElem_mem _)
    have HI : ∀ w, Calls Tryd.prog 55 #[.string ⟨L.ws[i].toArray⟩] w fun e w' => e = .returned (.agg #[.int .i64 (intSpec L.ws[i]).1, .int .i64 (intSpec L.ws[i]).2]) ∧ Below w.heap.size w w' :=
      fun w => refInt_any ⟨L.ws[i].toArray⟩ w (by rw [Lib.size_eq]; exact Nat.le_trans hz (by omega))
    simp only [List.length_map, he, Option.getD_some]
    by_cases h0 : (intSpec L.ws[i]).2 = 0
    · by_cases hlo : (intSpec L.ws[i]).1 < lo
      · have hb : inB (intSpec L.ws[i]).1 lo hi = false := by simp [inB]; omega
        have hN : numOf (some L.ws[i]) lo hi = (0, 3) := by simp [numOf, h0, hb]
        rw [hN, if_neg (by decide)]
        exact rnum_lo b1 o1 L.ws.length c1 b2 o2 c2 i L.en x0 x1 x2 x3 n0 lo hi w _ _ _ _ hb1 k1 hb2 k2 hlt HI h0 hlo
      · by_cases hhi : hi < (intSpec L.ws[i]).1
        · have hb : inB (intSpec L.ws[i]).1 lo hi = false := by simp [inB]; omega
          have hN : numOf (some L.ws[i]) lo hi = (0, 3) := by simp [numOf, h0, hb]
          rw [hN, if_neg (by decide)]
          exact rnum_hi b1 o1 L.ws.length c1 b2 o2 c2 i L.en x0 x1 x2 x3 n0 lo hi w _ _ _ _ hb1 k1 hb2 k2 hlt HI h0 hlo hhi
        · have hb : inB (intSpec L.ws[i]).1 lo hi = true := by simp [inB]; omega
          have hN : numOf (some L.ws[i]) lo hi = ((intSpec L.ws[i]).1, 0) := by simp [numOf, h0, hb]
          rw [hN, if_pos rfl]
          exact rnum_ok b1 o1 L.ws.length c1 b2 o2 c2 i L.en x0 x1 x2 x3 n0 lo hi w _ _ _ _ hb1 k1 hb2 k2 hlt HI h0 hlo hhi hi0
    · have hN : numOf (some L.ws[i]) lo hi = (0, (intSpec L.ws[i]).2) := by simp [numOf, h0]
      rw [hN, if_neg h0]
      exact rnum_bad b1 o1 L.ws.length c1 b2 o2 c2 i L.en x0 x1 x2 x3 n0 lo hi w _ _ _ _ hb1 k1 hb2 k2 hlt HI h0
  · obtain ⟨a1, c1, rfl⟩ := h1.len
    obtain ⟨a2, c2, rfl⟩ := h2.len
    rw [List.getElem?_eq_none (by omega), List.getElem?_eq_none (by omega)]
    simp only [List.length_map, he, Option.getD_none]
    have hN : numOf none lo hi = (0, 4) := rfl
    rw [hN, if_neg (by decide)]
    exact rnum_end a1 a2 L.ws.length c1 c2 i L.en x0 x1 x2 x3 n0 lo hi w (by omega)
theorem rnum_yes (v : Value) (L : Ln) (i : Nat) (x0 x1 x2 x3 n0 lo hi : Int) (w : World) (hL : IsW w v L) (ho : LnOk L) (he : L.bs.length = L.ws.length) (hi0 : i ≤ 2147483648) (h : (numAt L i lo hi).2 = 0) :
    RNum v w #[.int .i64 x0, .int .i64 x1, .int .i64 x2, .int .i64 x3, .int .i64 i, .int .i64 n0, .int .i64 0, .int .i64 0] #[.int .i64 x0, .int .i64 x1, .int .i64 x2, .int .i64 x3, .int .i64 (i + 1 : Nat), .int .i64 (numAt L i lo hi).1, .int .i64 0, .int .i64 0] lo hi L.en := by
  intro w' hb
  have := rnum_any v L i x0 x1 x2 x3 n0 lo hi w' (hL.later hb (Nat.le_refl _)) ho he hi0
  rw [if_pos h] at this
  exact this
theorem rnum_no (v : Value) (L : Ln) (i : Nat) (x0 x1 x2 x3 n0 lo hi : Int) (w : World) (hL : IsW w v L) (ho : LnOk L) (he : L.bs.length = L.ws.length) (hi0 : i ≤ 2147483648) (h : ¬ (numAt L i lo hi).2 = 0) :
    RNum v w #[.int .i64 x0, .int .i64 x1, .int .i64 x2, .int .i64 x3, .int .i64 i, .int .i64 n0, .int .i64 0, .int .i64 0] #[.int .i64 0, .int .i64 0, .int .i64 0, .int .i64 0, .int .i64 0, .int .i64 0, .int .i64 (placeAt L i), .int .i64 (numAt L i lo hi).2] lo hi L.en := by
  intro w' hb
  have := rnum_any v L i x0 x1 x2 x3 n0 lo hi w' (hL.later hb (Nat.le_refl _)) ho he hi0
  rw [if_neg h] at this
  exact this
theorem rnum_on (v : Value) (x0 x1 x2 x3 i n0 at' er lo hi : Int) (en : Nat) (L : Ln) (w : World) (hL : IsW w v L) (h : ¬ er = 0) :
    RNum v w #[.int .i64 x0, .int .i64 x1, .int .i64 x2, .int .i64 x3, .int .i64 i, .int .i64 n0, .int .i64 at', .int .i64 er] #[.int .i64 x0, .int .i64 x1, .int .i64 x2, .int .i64 x3, .int .i64 i, .int .i64 n0, .int .i64 at', .int .i64 er] lo hi en := by
  intro w' _
  obtain ⟨v1, v2, rfl, _, _⟩ := hL
  exact rnum_err v1 v2 x0 x1 x2 x3 i n0 at' er lo hi en w' h
theorem rat_of {w : World} {b o : Nat} {L : Ln} (hb : b < w.heap.size) (hc : ∀ i u, (L.bs.map fun b : Nat => Value.int .i64 (b : Int))[i]? = some u → w.cell? ⟨b, o + i, none⟩ = some u) (j : Nat) (hj : j < L.bs.length) : RAt w b (o + j) (placeAt L j) := by
  intro w' hw
  refine ⟨Nat.lt_of_lt_of_le hb hw.size, (hw.cell (p := ⟨b, o + j, none⟩) hb).trans ?_⟩
  rw [hc j (.int .i64 L.bs[j]) (by rw [List.getElem?_map, List.getElem?_eq_getElem hj]; rfl)]
  unfold placeAt
  rw [List.getElem?_eq_getElem hj]
  rfl

theorem numAt_lt (L : Ln) (i : Nat) (lo hi : Int) (h : (numAt L i lo hi).2 = 0) : i < L.ws.length := by
  by_cases hl : i < L.ws.length
  · exact hl
  · exfalso
    have hN : numAt L i lo hi = (0, 4) := by unfold numAt; rw [List.getElem?_eq_none (by omega)]; rfl
    rw [hN] at h
    simp at h
set_option maxHeartbeats 1000000 in
theorem revent_any (v va : Value) (L : Ln) (h : List Ev) (w : World) (hL : IsW w v L) (ho : LnOk L) (he : L.bs.length = L.ws.length) (hm : 0 < L.ws.length) (hv : Evs w va h) (hl : h.length ≤ 65536) :
    Calls Tryd.prog 20 #[v, va, .int .i64 L.en] w fun e w' => (∃ i n : Int, e = .returned (.agg #[.int .i64 (evOf L h).1.k, .int .i64 (evOf L h).1.t, .int .i64 (evOf L h).1.v, .int .i64 (evOf L h).1.x, .int .i64 i, .int .i64 n, .int .i64 (evOf L h).2.1, .int .i64 (evOf L h).2.2])) ∧ Below w.heap.size w w' := by
  have HNm : RNames va w (namesOf h) := fun w' hb => refNames_any va h w' (hv.below hb (Nat.le_refl _)) hl
  have hns : (namesOf h).length ≤ 65536 := Nat.le_trans (namesOf_len h) hl
  have HKs : RKind ⟨(L.ws.headD []).toArray⟩ w (kindNum (L.ws.headD [])) := fun w' _ => kind2_any ⟨(L.ws.headD []).toArray⟩ w'
  have hkl := kindIx_le (L.ws.headD [])
  have hLL := hL
  have HE := Lib.hid he
  clear he
  obtain ⟨v1, v2, rfl, h1, h2⟩ := hL
  obtain ⟨b1, o1, c1, rfl, hb1, hc1⟩ := h1.opened (by rw [List.length_map]; exact hm)
  obtain ⟨b2, o2, c2, rfl, hb2, hc2⟩ := h2.opened (by rw [List.length_map, HE.out]; exact hm)
  have hc0 := hc1 0 (.string ⟨(L.ws.headD []).toArray⟩) (by rw [List.getElem?_map, List.getElem?_eq_getElem hm, headD_get _ hm]; rfl)
  have hp0 := hc2 0 (.int .i64 (placeAt L 0)) (by unfold placeAt; rw [List.getElem?_map, List.getElem?_eq_getElem (by rw [HE.out]; exact hm)]; rfl)
  have RA := fun j hj => rat_of hb2 hc2 j hj
  obtain ⟨av, cv, rfl⟩ := hv.len
  simp only [List.length_map, HE.out] at hLL ⊢
  have N1y := rnum_yes _ L 1 (kindIx (L.ws.headD []) : Int) 0 0 0 0 0 9999 w hLL ho HE.out (by omega)
  have N1n := rnum_no _ L 1 (kindIx (L.ws.headD []) : Int) 0 0 0 0 0 9999 w hLL ho HE.out (by omega)
  by_cases h60 : h.length = 60
  · have hE : evOf L h = (ev0, placeAt L 0, 5) := by unfold evOf; rw [if_pos h60]
    rw [hE]
    exact (rev_60 b1 o1 _ c1 b2 o2 c2 L.en av h.length cv w _ hb2 hp0 hm h60).mono fun e w' ⟨hq, hbl⟩ => ⟨⟨0, 0, hq⟩, hbl⟩
  · by_cases hk : kindIx (L.ws.headD []) = 10
    · have hE : evOf L h = (ev0, placeAt L 0, 2) := by unfold evOf; rw [if_neg h60, if_pos hk]
      have hkn : kindNum (L.ws.headD []) = -1 := by unfold kindNum; rw [if_pos hk]
      rw [hkn] at HKs
      rw [hE]
      exact (rev_kind b1 o1 _ c1 b2 o2 c2 L.en av h.length cv w _ hb1 hc0 hm _ (RA 0 (by rw [HE.out]; exact hm)) h60 HKs).mono fun e w' ⟨hq, hbl⟩ => ⟨⟨0, 0, hq⟩, hbl⟩
    · have hkn : kindNum (L.ws.headD []) = kindIx (L.ws.headD []) := by unfold kindNum; rw [if_neg hk]
      rw [hkn] at HKs
      have hk10 : kindIx (L.ws.headD []) < 10 := by omega
      have hEv : evOf L h = (if (numsOf L (kindIx (L.ws.headD [])) h).2.2 = 0 then (if (numsOf L (kindIx (L.ws.headD [])) h).2.1 < L.ws.length then (ev0, placeAt L (numsOf L (kindIx (L.ws.headD [])) h).2.1, 2) else ((numsOf L (kindIx (L.ws.headD [])) h).1, 0, 0)) else (ev0, placeAt L (numsOf L (kindIx (L.ws.headD [])) h).2.1, (numsOf L (kindIx (L.ws.headD [])) h).2.2)) := by
        unfold evOf; rw [if_neg h60, if_neg hk]
      rw [hEv]
      generalize kindIx (L.ws.headD []) = kk at *
      by_cases e1 : (numAt L 1 0 9999).2 = 0
      · have HN1 := N1y e1
        have l1 := numAt_lt L 1 0 9999 e1
        have e1n : ¬ (numAt L 1 0 9999).2 ≠ 0 := by simpa using e1
        clear N1y N1n
        cases htm : tooMany (numAt L 1 0 9999).1 h with
        | true =>
          have hN : numsOf L kk h = (ev0, 1, 5) := by unfold numsOf; rw [if_neg e1n, if_pos htm]
          rw [hN, if_neg (by decide)]
          exact (rev_tm b1 o1 _ c1 b2 o2 c2 L.en av h.length cv w _ hb1 hc0 hm h60 kk hk10 HKs (namesOf h) hns HNm _ HN1 htm _ (RA 1 (by rw [HE.out]; exact l1)) l1).mono fun e w' ⟨hq, hbl⟩ => ⟨⟨_, _, hq⟩, hbl⟩
        | false =>
          have htn : ¬ tooMany (numAt L 1 0 9999).1 h = true := by rw [htm]; simp
          cases hV : hasV kk with
          | true =>
            have N2y := rnum_yes _ L 2 kk (numAt L 1 0 9999).1 0 0 (numAt L 1 0 9999).1 0 7 w hLL ho HE.out (by omega)
            have N2n := rnum_no _ L 2 kk (numAt L 1 0 9999).1 0 0 (numAt L 1 0 9999).1 0 7 w hLL ho HE.out (by omega)
            by_cases e2 : (numAt L 2 0 7).2 = 0
            · have HN2 := N2y e2
              have l2 := numAt_lt L 2 0 7 e2
              have e2n : ¬ (numAt L 2 0 7).2 ≠ 0 := by simpa using e2
              clear N2y N2n
              cases hX : hasX kk with
              | true =>
                have N3y := rnum_yes _ L 3 kk (numAt L 1 0 9999).1 (numAt L 2 0 7).1 0 (numAt L 2 0 7).1 (-2147483648) 2147483647 w hLL ho HE.out (by omega)
                have N3n := rnum_no _ L 3 kk (numAt L 1 0 9999).1 (numAt L 2 0 7).1 0 (numAt L 2 0 7).1 (-2147483648) 2147483647 w hLL ho HE.out (by omega)
                by_cases e3 : (numAt L 3 (-2147483648) 2147483647).2 = 0
                · have hN : numsOf L kk h = (⟨kk, (numAt L 1 0 9999).1, (numAt L 2 0 7).1, (numAt L 3 (-2147483648) 2147483647).1⟩, 4, 0) := by unfold numsOf; rw [if_neg e1n, if_neg htn, if_pos hV, if_neg e2n, if_pos hX, if_neg (by simpa using e3)]
                  rw [hN, if_pos rfl]
                  by_cases hmo : 4 < L.ws.length
                  · rw [if_pos hmo]
                    exact (rev_tt_more b1 o1 _ c1 b2 o2 c2 L.en av h.length cv w _ hb1 hc0 hm h60 kk hk10 HKs (namesOf h) hns HNm _ HN1 htm hV hX _ HN2 _ (N3y e3) hmo _ (RA 4 (by rw [HE.out]; exact hmo))).mono fun e w' ⟨hq, hbl⟩ => ⟨⟨_, _, hq⟩, hbl⟩
                  · rw [if_neg hmo]
                    exact (rev_tt_ok b1 o1 _ c1 b2 o2 c2 L.en av h.length cv w _ hb1 hc0 hm h60 kk hk10 HKs (namesOf h) hns HNm _ HN1 htm hV hX _ HN2 _ (N3y e3) hmo).mono fun e w' ⟨hq, hbl⟩ => ⟨⟨_, _, hq⟩, hbl⟩
                · have hN : numsOf L kk h = (ev0, 3, (numAt L 3 (-2147483648) 2147483647).2) := by unfold numsOf; rw [if_neg e1n, if_neg htn, if_pos hV, if_neg e2n, if_pos hX, if_pos e3]
                  rw [hN, if_neg e3]
                  exact (rev_tt_er3 b1 o1 _ c1 b2 o2 c2 L.en av h.length cv w _ hb1 hc0 hm h60 kk hk10 HKs (namesOf h) hns HNm _ HN1 htm hV hX _ HN2 _ _ e3 (N3n e3)).mono fun e w' ⟨hq, hbl⟩ => ⟨⟨_, _, hq⟩, hbl⟩
              | false =>
                have hN : numsOf L kk h = (⟨kk, (numAt L 1 0 9999).1, (numAt L 2 0 7).1, 0⟩, 3, 0) := by unfold numsOf; rw [if_neg e1n, if_neg htn, if_pos hV, if_neg e2n, if_neg (by rw [hX]; simp)]
                rw [hN, if_pos rfl]
                by_cases hmo : 3 < L.ws.length
                · rw [if_pos hmo]
                  exact (rev_tf_more b1 o1 _ c1 b2 o2 c2 L.en av h.length cv w _ hb1 hc0 hm h60 kk hk10 HKs (namesOf h) hns HNm _ HN1 htm hV hX _ HN2 hmo _ (RA 3 (by rw [HE.out]; exact hmo))).mono fun e w' ⟨hq, hbl⟩ => ⟨⟨_, _, hq⟩, hbl⟩
                · rw [if_neg hmo]
                  exact (rev_tf_ok b1 o1 _ c1 b2 o2 c2 L.en av h.length cv w _ hb1 hc0 hm h60 kk hk10 HKs (namesOf h) hns HNm _ HN1 htm hV hX _ HN2 hmo).mono fun e w' ⟨hq, hbl⟩ => ⟨⟨_, _, hq⟩, hbl⟩
            · have HN2 := N2n e2
              have hN : numsOf L kk h = (ev0, 2, (numAt L 2 0 7).2) := by unfold numsOf; rw [if_neg e1n, if_neg htn, if_pos hV, if_pos e2]
              rw [hN, if_neg e2]
              cases hX : hasX kk with
              | true => exact (rev_tt_er2 b1 o1 _ c1 b2 o2 c2 L.en av h.length cv w _ hb1 hc0 hm h60 kk hk10 HKs (namesOf h) hns HNm _ HN1 htm hV hX _ _ e2 HN2 (rnum_on _ 0 0 0 0 0 0 (placeAt L 2) (numAt L 2 0 7).2 (-2147483648) 2147483647 L.en L w hLL e2)).mono fun e w' ⟨hq, hbl⟩ => ⟨⟨_, _, hq⟩, hbl⟩
              | false => exact (rev_tf_er b1 o1 _ c1 b2 o2 c2 L.en av h.length cv w _ hb1 hc0 hm h60 kk hk10 HKs (namesOf h) hns HNm _ HN1 htm hV hX _ _ e2 HN2).mono fun e w' ⟨hq, hbl⟩ => ⟨⟨_, _, hq⟩, hbl⟩
          | false =>
            have hVn : ¬ hasV kk = true := by rw [hV]; simp
            cases hX : hasX kk with
            | true =>
              have N3y := rnum_yes _ L 2 kk (numAt L 1 0 9999).1 0 0 (numAt L 1 0 9999).1 (-2147483648) 2147483647 w hLL ho HE.out (by omega)
              have N3n := rnum_no _ L 2 kk (numAt L 1 0 9999).1 0 0 (numAt L 1 0 9999).1 (-2147483648) 2147483647 w hLL ho HE.out (by omega)
              by_cases e3 : (numAt L 2 (-2147483648) 2147483647).2 = 0
              · have hN : numsOf L kk h = (⟨kk, (numAt L 1 0 9999).1, 0, (numAt L 2 (-2147483648) 2147483647).1⟩, 3, 0) := by unfold numsOf; rw [if_neg e1n, if_neg htn, if_neg hVn, if_pos hX, if_neg (by simpa using e3)]
                rw [hN, if_pos rfl]
                by_cases hmo : 3 < L.ws.length
                · rw [if_pos hmo]
                  exact (rev_ft_more b1 o1 _ c1 b2 o2 c2 L.en av h.length cv w _ hb1 hc0 hm h60 kk hk10 HKs (namesOf h) hns HNm _ HN1 htm hV hX _ (N3y e3) hmo _ (RA 3 (by rw [HE.out]; exact hmo))).mono fun e w' ⟨hq, hbl⟩ => ⟨⟨_, _, hq⟩, hbl⟩
                · rw [if_neg hmo]
                  exact (rev_ft_ok b1 o1 _ c1 b2 o2 c2 L.en av h.length cv w _ hb1 hc0 hm h60 kk hk10 HKs (namesOf h) hns HNm _ HN1 htm hV hX _ (N3y e3) hmo).mono fun e w' ⟨hq, hbl⟩ => ⟨⟨_, _, hq⟩, hbl⟩
              · have hN : numsOf L kk h = (ev0, 2, (numAt L 2 (-2147483648) 2147483647).2) := by unfold numsOf; rw [if_neg e1n, if_neg htn, if_neg hVn, if_pos hX, if_pos e3]
                rw [hN, if_neg e3]
                exact (rev_ft_er b1 o1 _ c1 b2 o2 c2 L.en av h.length cv w _ hb1 hc0 hm h60 kk hk10 HKs (namesOf h) hns HNm _ HN1 htm hV hX _ _ e3 (N3n e3)).mono fun e w' ⟨hq, hbl⟩ => ⟨⟨_, _, hq⟩, hbl⟩
            | false =>
              have hN : numsOf L kk h = (⟨kk, (numAt L 1 0 9999).1, 0, 0⟩, 2, 0) := by unfold numsOf; rw [if_neg e1n, if_neg htn, if_neg hVn, if_neg (by rw [hX]; simp)]
              rw [hN, if_pos rfl]
              by_cases hmo : 2 < L.ws.length
              · rw [if_pos hmo]
                exact (rev_ff_more b1 o1 _ c1 b2 o2 c2 L.en av h.length cv w _ hb1 hc0 hm h60 kk hk10 HKs (namesOf h) hns HNm _ HN1 htm hV hX hmo _ (RA 2 (by rw [HE.out]; exact hmo))).mono fun e w' ⟨hq, hbl⟩ => ⟨⟨_, _, hq⟩, hbl⟩
              · rw [if_neg hmo]
                exact (rev_ff_ok b1 o1 _ c1 b2 o2 c2 L.en av h.length cv w _ hb1 hc0 hm h60 kk hk10 HKs (namesOf h) hns HNm _ HN1 htm hV hX hmo).mono fun e w' ⟨hq, hbl⟩ => ⟨⟨_, _, hq⟩, hbl⟩
      · have hN : numsOf L kk h = (ev0, 1, (numAt L 1 0 9999).2) := by unfold numsOf; rw [if_pos e1]
        rw [hN, if_neg e1]
        have HN1 := N1n e1
        have ON := rnum_on _ 0 0 0 0 0 0 (placeAt L 1) (numAt L 1 0 9999).2 0 7 L.en L w hLL e1
        have OX := rnum_on _ 0 0 0 0 0 0 (placeAt L 1) (numAt L 1 0 9999).2 (-2147483648) 2147483647 L.en L w hLL e1
        cases hV : hasV kk <;> cases hX : hasX kk
        · exact (rev_e1_00 b1 o1 _ c1 b2 o2 c2 L.en av h.length cv w _ hb1 hc0 hm h60 kk hk10 HKs (namesOf h) hns HNm _ _ e1 HN1 hV hX).mono fun e w' ⟨hq, hbl⟩ => ⟨⟨_, _, hq⟩, hbl⟩
        · exact (rev_e1_01 b1 o1 _ c1 b2 o2 c2 L.en av h.length cv w _ hb1 hc0 hm h60 kk hk10 HKs (namesOf h) hns HNm _ _ e1 HN1 hV hX OX).mono fun e w' ⟨hq, hbl⟩ => ⟨⟨_, _, hq⟩, hbl⟩
        · exact (rev_e1_10 b1 o1 _ c1 b2 o2 c2 L.en av h.length cv w _ hb1 hc0 hm h60 kk hk10 HKs (namesOf h) hns HNm _ _ e1 HN1 hV hX ON).mono fun e w' ⟨hq, hbl⟩ => ⟨⟨_, _, hq⟩, hbl⟩
        · exact (rev_e1_11 b1 o1 _ c1 b2 o2 c2 L.en av h.length cv w _ hb1 hc0 hm h60 kk hk10 HKs (namesOf h) hns HNm _ _ e1 HN1 hV hX ON OX).mono fun e w' ⟨hq, hbl⟩ => ⟨⟨_, _, hq⟩, hbl⟩
end Go.Proofs.YtnbecfgoambbpaaDoor
