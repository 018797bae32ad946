/- The walk of the reference's Least. -/
import Derived.Test.YtclhbnfnmpabbaaCycF
import Derived.Test.YtclhbnfnmpabbaaExtO
namespace Go.Proofs.Ytclhbnfnmpabbaa.RPlain
end Go.Proofs.Ytclhbnfnmpabbaa.RPlain
namespace Go.Proofs.Ytclhbnfnmpabbaa.RPlain

/-- what comes of a row, up to a place: all that it does not have -/
def onN (r : List Nat) (k : Nat) : List (List Nat) := ((List.range k).filter fun x => !r.contains x).map fun x => r ++ [x]
theorem onN_snoc (r : List Nat) (k : Nat) : onN r (k + 1) = if r.contains k = true then onN r k else onN r k ++ [r ++ [k]] := by
  unfold onN
  rw [List.range_succ, List.filter_append, List.map_append]
  cases h : r.contains k <;> simp_all
/-- what comes of the first q rows -/
def allN (n : Nat) (L : List (List Nat)) (q : Nat) : List (List Nat) := (L.take q).flatMap fun r => onN r n
theorem allN_snoc {n : Nat} {L : List (List Nat)} {q : Nat} (h : q < L.length) : allN n L (q + 1) = allN n L q ++ onN L[q] n := by
  unfold allN
  rw [List.take_succ_eq_append_getElem h, List.flatMap_append]
  simp
theorem allN_ext (n s : Nat) : allN n (nodL n s) (nodL n s).length = nodL n (s + 1) := by
  unfold allN onN nodL
  rw [List.take_length, ext_snoc]
theorem onN_le (r : List Nat) {k m : Nat} (h : k ≤ m) : (onN r k).length ≤ (onN r m).length := by
  obtain ⟨d, rfl⟩ := Nat.le.dest h
  unfold onN
  rw [List.length_map, List.length_map, List.range_add, List.filter_append, List.length_append]
  omega
theorem allN_le (n : Nat) (L : List (List Nat)) (q : Nat) : (allN n L q).length ≤ (allN n L L.length).length := by
  unfold allN
  rw [List.take_length]
  conv => rhs; rw [← List.take_append_drop q L, List.flatMap_append, List.length_append]
  omega
theorem nodL_len {n : Nat} (hn : n ≤ 6) {s : Nat} (hs : s ≤ n) : (nodL n s).length ≤ 46656 := by
  have h1 := ext_len n (fun row k => !row.contains k) s []
  have h2 : n ^ s ≤ 6 ^ s := Nat.pow_le_pow_left hn _
  have h3 : 6 ^ s ≤ 6 ^ 6 := Nat.pow_le_pow_right (by decide) (by omega)
  unfold nodL
  omega
theorem nodL_bound {n : Nat} (hn : n ≤ 6) {s : Nat} (hs : s < n) {q : Nat} (hq : q < (nodL n s).length) {k : Nat} (hk : k ≤ n) : (allN n (nodL n s) q ++ onN (nodL n s)[q] k).length ≤ 46656 := by
  have h1 := nodL_len hn (s := s + 1) (by omega)
  have h2 := allN_le n (nodL n s) (q + 1)
  have h3 : (allN n (nodL n s) (nodL n s).length).length = (nodL n (s + 1)).length := congrArg List.length (allN_ext n s)
  rw [allN_snoc hq, List.length_append] at h2
  have h4 := onN_le (nodL n s)[q] hk
  rw [List.length_append]
  omega
theorem leastG_some {A : List Nat} {f s : Nat} {L : List (List Nat)} (hL : L = nodL A.length s) {q : Nat} (hq : q < L.length) (hno : ∀ j (hj : j < q), walkB A (L[j]'(Nat.lt_trans hj hq)) = false) (h : walkB A L[q] = true) : leastG A (f + 1) s = L[q] := by
  have h1 : L.find? (walkB A) = some L[q] := by
    rw [List.find?_eq_some_iff_getElem]
    exact ⟨h, q, hq, rfl, fun j hj => by rw [hno j hj]; rfl⟩
  rw [leastG, ← hL, h1]
theorem leastG_none {A : List Nat} {f s : Nat} {L : List (List Nat)} (hL : L = nodL A.length s) (hno : ∀ j (hj : j < L.length), walkB A L[j] = false) : leastG A (f + 1) s = leastG A f (s + 1) := by
  have h1 : L.find? (walkB A) = none := List.find?_eq_none.2 fun x hx => by
    obtain ⟨j, hj, rfl⟩ := List.mem_iff_getElem.1 hx
    rw [hno j hj]; decide
  rw [leastG, ← hL, h1]
end Go.Proofs.Ytclhbnfnmpabbaa.RPlain
namespace Go.Proofs.Ytclhbnfnmpabbaa
open Go.RowKit RPlain

set_option maxRecDepth 100000 in
set_option maxHeartbeats 8000000 in
theorem refLeastC_any (av : Value) (A : List Nat) (w : World) (hav : Rd w av (u32s A)) (hA : ∀ x ∈ A, x < 4294967296) (hal : A.length ≤ 6) :
    Calls Try.prog 10 #[av] w fun e w' => ∃ v, e = .returned v ∧ w'.ownsRow w.heap.size 3 1 v (leastS A).length (nats (leastS A)) ∧ Below w.heap.size w w' := by
  obtain ⟨i0, hi0, hz0, hz1, hz2⟩ := info_parts infoSl
  have HAV := Lib.hid hav
  have HA := Lib.hid hA
  obtain ⟨aa, ac, rfl⟩ := hav.len
  rw [u32s_len] at HAV ⊢
  have hsA : (w.alloc (.cells #[] 3)).heap.size = w.heap.size + 1 := by simp
  have hb0 : Below w.heap.size w ((w.alloc (.cells #[] 3)).alloc (.cells #[.slice (some ⟨w.heap.size, 0, none⟩) 0 0] 23)) := ((Below.refl _ w).alloc (Nat.le_refl _) _).alloc (by simp) _
  have hat : At ((w.alloc (.cells #[] 3)).alloc (.cells #[.slice (some ⟨w.heap.size, 0, none⟩) 0 0] 23)) (w.heap.size + 1) #[.slice (some ⟨w.heap.size, 0, none⟩) 0 0] 23 := by
    have := At.new (w.alloc (.cells #[] 3)) #[.slice (some ⟨w.heap.size, 0, none⟩) 0 0] 23
    rwa [hsA] at this
  have HO0 : Hid (∃ vs, ((w.alloc (.cells #[] 3)).alloc (.cells #[.slice (some ⟨w.heap.size, 0, none⟩) 0 0] 23)).ownsRow w.heap.size 23 1 (.slice (some ⟨w.heap.size + 1, 0, none⟩) 1 1) (nodL A.length 0).length vs ∧ RowsO w.heap.size ((w.alloc (.cells #[] 3)).alloc (.cells #[.slice (some ⟨w.heap.size, 0, none⟩) 0 0] 23)) vs (nodL A.length 0)) := by
    refine ⟨[.slice (some ⟨w.heap.size, 0, none⟩) 0 0], ⟨rfl, .inr ⟨w.heap.size + 1, 1, _, rfl, by omega, hat, Nat.le_refl _, by unfold maxLen; omega, rfl, rfl⟩⟩, rfl, fun i hi hi' => ?_⟩
    obtain rfl : i = 0 := by simp at hi'; exact hi'
    exact (own_nil_int (Nat.le_refl w.heap.size)).alloc _
  have HB0 := Lib.hid hb0
  have HLF := Lib.hid (fun (s : Nat) (hs : s ≤ A.length) => nodL_len hal hs)
  have HLM : Hid (∀ s r, r ∈ nodL A.length s → r.length = s ∧ (∀ k ∈ r, k < A.length) ∧ r.Nodup) := fun s r hr => nodL_mem.1 hr
  have HGB := Lib.hid (fun (s : Nat) (hs : s < A.length) (q : Nat) (hq : q < (nodL A.length s).length) (k : Nat) (hk : k ≤ A.length) => nodL_bound hal hs hq hk)
  have HGE : Hid (∀ s, allN A.length (nodL A.length s) (nodL A.length s).length = nodL A.length (s + 1)) := fun s => allN_ext A.length s
  have HLG : Hid (leastS A = leastG A (A.length - 0) (0 + 1)) := rfl
  clear hav hA hsA hb0 hat
  go_enter Try.func10, Try.ntmps10
  go_wp2_with fail
  go_loopw [3, 14] (fun y x wr => ∃ s : Nat, s ≤ A.length ∧ x = .int .i64 s ∧ Hid (∃ vs, wr.ownsRow w.heap.size 23 1 y (nodL A.length s).length vs ∧ RowsO w.heap.size wr vs (nodL A.length s)) ∧ Hid (leastS A = leastG A (A.length - s) (s + 1)) ∧ Hid (Below w.heap.size w wr)) (fun _ x _ => A.length - (intOf x).toNat)
  case atStart => exact ⟨0, by omega, rfl, HO0, HLG, HB0⟩
  case round =>
    clear HO0 HB0 HLG
    obtain ⟨s, hs, rfl, HO, HLG, HB⟩ := hrel
    by_cases hlt : s < A.length
    · have HGE1 := Lib.hid (HGE.out s)
      have HGB1 := Lib.hid (HGB.out s hlt)
      have hLl := HLF.out s hs
      have HLM1 := Lib.hid (HLM.out s)
      obtain ⟨vs, ho, hr⟩ := HO.out
      have hba : Below wr.heap.size wr (wr.alloc (.cells #[] 23)) := (Below.refl _ wr).alloc (Nat.le_refl _) _
      have HLV0 : Hid (LvlR w.heap.size wr.heap.size w u3 vs (nodL A.length s) (.slice (some ⟨wr.heap.size, 0, none⟩) 0 0) (allN A.length (nodL A.length s) 0) (wr.alloc (.cells #[] 23))) :=
        ⟨ho.kept (grownB11 hba) (by cases u3.ownBlock <;> simp), hr.below hba, ⟨[], own_nil_rows (Nat.le_refl _), ⟨rfl, fun i hi => by simp [allN] at hi⟩⟩, HB.out.trans (hba.mono HB.out.size), fun g hg => (ho.lt g hg).2, hba.size, HB.out.size⟩
      obtain ⟨ya, yc, hy3⟩ := row_slice ho
      subst hy3
      obtain ⟨B2, hB2⟩ : ∃ z, wr.heap.size = z := ⟨_, rfl⟩
      rw [hB2] at HLV0
      have HB2 := Lib.hid hB2
      clear HO HB ho hr hba hB2
      generalize nodL A.length s = Ls at *
      go_wp2_with fail
      go_loopw [4, 19] (fun z x wr2 => ∃ q : Nat, q ≤ Ls.length ∧ x = .int .i64 q ∧ Hid (LvlR w.heap.size B2 w (.slice ya Ls.length yc) vs Ls z (allN A.length Ls q) wr2)) (fun _ x _ => Ls.length - (intOf x).toNat)
      case atStart => exact ⟨0, by omega, rfl, by rw [HB2.out]; exact HLV0⟩
      case round =>
        clear HLV0
        obtain ⟨q, hq, rfl, HLV⟩ := hrel
        by_cases hlt2 : q < Ls.length
        · have hrd := Rd.of_row HLV.out.out
          obtain ⟨b, o, c', he, hb, hc⟩ := hrd.opened (by rw [HLV.out.rows.1]; omega)
          obtain ⟨ra, rc, hget, hown⟩ := HLV.out.rows.get hlt2
          have hcq := hc q _ hget
          simp only [Value.slice.injEq] at he
          obtain ⟨rfl, -, rfl⟩ := he
          obtain ⟨h6, hk6, hkp⟩ := HLM1.out _ (List.getElem_mem hlt2)
          have HGB2 := Lib.hid (fun k hk => HGB1.out q hlt2 k hk)
          have HGS := Lib.hid (allN_snoc (n := A.length) hlt2)
          have HAT := Lib.hid (fun (W : World) (z : Value) (acc : List (List Nat)) (h : LvlR w.heap.size B2 w (.slice (some ⟨b, o, none⟩) Ls.length yc) vs Ls z acc W) => h.rows.at_ hlt2 hget)
          have HLV3 : Hid (LvlR w.heap.size B2 w (.slice (some ⟨b, o, none⟩) Ls.length yc) vs Ls u4 (allN A.length Ls q ++ onN Ls[q] 0) wr) := by
            have h0 : allN A.length Ls q ++ onN Ls[q] 0 = allN A.length Ls q := by simp [onN]
            rw [h0]
            exact HLV.out
          have hrn6 : Ls[q].length ≤ 6 := by omega
          have hz4 : ∃ a n c, u4 = .slice a n c := by
            obtain ⟨us, hus, _⟩ := HLV.out.acc
            obtain ⟨a, c, h⟩ := row_slice hus
            exact ⟨_, _, _, h⟩
          clear hrd hb hc hget hown h6 hk6 hkp HLV HLM1 HGB1
          generalize Ls[q] = r at *
          obtain ⟨z4a, z4n, z4c, hz4⟩ := hz4
          subst hz4
          go_wp2_with fail
          go_loopw [4, 25] (fun z x wr3 => ∃ k : Nat, k ≤ A.length ∧ x = .int .i64 k ∧ Hid (LvlR w.heap.size B2 w (.slice (some ⟨b, o, none⟩) Ls.length yc) vs Ls z (allN A.length Ls q ++ onN r k) wr3)) (fun _ x _ => A.length - (intOf x).toNat)
          case atStart => exact ⟨0, by omega, rfl, HLV3⟩
          case round =>
            clear HLV3
            obtain ⟨k, hk, rfl, HLV⟩ := hrel
            by_cases hlt3 : k < A.length
            · have HGO := Lib.hid (onN_snoc r k)
              have hbd := HGB2.out k (by omega)
              have HRO := Lib.hid (HAT.out wr _ _ HLV.out)
              have hhn := hasN_any (.slice ra r.length rc) r k wr (Rd.of_row HRO.out) (by omega)
              have hz4 : ∃ a n c, u4 = .slice a n c := by
                obtain ⟨us, hus, _⟩ := HLV.out.acc
                obtain ⟨a, c, h⟩ := row_slice hus
                exact ⟨_, _, _, h⟩
              obtain ⟨z5a, z5n, z5c, hz4⟩ := hz4
              subst hz4
              cases hnx : r.contains k with
              | true =>
                rw [hnx] at hhn
                have HHN := Lib.hid hhn
                have HLF2 : Hid (LvlR w.heap.size B2 w (.slice (some ⟨b, o, none⟩) Ls.length yc) vs Ls (.slice z5a z5n z5c) (allN A.length Ls q ++ onN r (k + 1)) wr) := by
                  unfold Hid
                  rw [HGO.out, hnx, if_pos rfl]
                  exact HLV.out
                clear hnx hhn HLV HGO HRO
                go_wp2_with (go_at_call 27; refine HHN.out.mono ?_; rintro e w5 ⟨rfl, rfl⟩)
                go_roundw
                case rel => exact ⟨k + 1, by omega, by go_num, HLF2⟩
                case measure => simp [intOf]; omega
              | false =>
                rw [hnx] at hhn
                have HHN := Lib.hid hhn
                have HWI := Lib.hid (refWithC_any (.slice ra r.length rc) r k wr (Rd.of_row HRO.out) (SrcN.of_row HRO.out) (by omega))
                have HGO2 : Hid (allN A.length Ls q ++ onN r (k + 1) = allN A.length Ls q ++ onN r k ++ [r ++ [k]]) := by
                  unfold Hid
                  rw [HGO.out, hnx, if_neg (by decide), List.append_assoc]
                clear hnx hhn HRO HGO
                go_wp2_with (go_at_call 27; refine HHN.out.mono ?_; rintro e w5 ⟨rfl, rfl⟩)
                refine HWI.out.mono ?_
                rintro e w2 ⟨v2, rfl, g1, g2, g3⟩
                have hlw := HLV.out.below g3
                have hal2 := ((Below.refl w2.heap.size w2).alloc (Nat.le_refl _))
                obtain ⟨v2a, v2c, rfl⟩ := row_slice g1
                have HLA := Lib.hid (hlw.below (hal2 (.cells #[.slice v2a (r.length + 1) v2c] 23)))
                have hrk : (r ++ [k]).length = r.length + 1 := by simp
                have HOA := Lib.hid (own_less (g1.alloc (.cells #[.slice v2a (r.length + 1) v2c] 23)) HLV.out.bel.size)
                obtain ⟨us, hus, hrs⟩ := HLA.out.acc
                have HUS := Lib.hid hus
                have HRS := Lib.hid hrs
                have HTOP := Lib.hid HLA.out.top
                have HRK := Lib.hid hrk
                clear hus hrs hlw hal2 g1 g2 g3 HLV HWI hrk
                obtain ⟨acc, hac⟩ : ∃ z, allN A.length Ls q ++ onN r k = z := ⟨_, rfl⟩
                rw [hac] at HUS HRS HLA HGO2 hbd
                clear hac
                go_wp2_with (at_builtin; refine wpList_append_own _ rfl _ _ 52 rfl B2 23 i0 (.slice none 0 0) 1 24 Try.underlying52 hi0 hz0 hz1 hz2 rfl (by decide) (.slice z5a z5n z5c) acc.length us rfl HUS.out ⟨w2.heap.size, 0, none⟩ 1 1 [.slice v2a (r.length + 1) v2c] rfl rfl (cell_slice_at w2 _ _) (one_sl _ _ _) (by unfold maxLen; omega) (by omega) HTOP.out ?_; intro v4 w4 ho4 hg4 _)
                have hp := LvlR.push (r := r ++ [k]) HLA.out (by rw [HRK.out]; exact HOA.out) HUS.out HRS.out ho4 hg4
                rw [← HGO2.out] at hp
                have HP := Lib.hid hp
                clear hp ho4 hg4
                refine ⟨⟨k + 1, by omega, by go_num, HP⟩, ?_⟩
                simp [intOf]; omega
            · obtain rfl : k = A.length := by omega
              have HLV4 : Hid (LvlR w.heap.size B2 w (.slice (some ⟨b, o, none⟩) Ls.length yc) vs Ls u4 (allN A.length Ls (q + 1)) wr) := by
                unfold Hid
                rw [HGS.out]
                exact HLV.out
              have hz4 : ∃ a n c, u4 = .slice a n c := by
                obtain ⟨us, hus, _⟩ := HLV.out.acc
                obtain ⟨a, c, h⟩ := row_slice hus
                exact ⟨_, _, _, h⟩
              obtain ⟨z5a, z5n, z5c, hz4⟩ := hz4
              subst hz4
              clear HLV
              go_wp2_with fail
              go_roundw
              case rel => exact ⟨q + 1, by omega, by go_num, HLV4⟩
              case measure => simp [intOf]; omega
        · obtain rfl : q = Ls.length := by omega
          obtain ⟨us, hus, hrs⟩ := HLV.out.acc
          have h1 := own_less hus HLV.out.base
          rw [HGE1.out] at h1 hrs
          have HBF := Lib.hid HLV.out.bel
          have HL2 := Lib.hid (HLM.out (s + 1))
          have HLG2 : Hid (leastS A = leastG A (A.length - (s + 1) + 1) (s + 1)) := by
            rw [Hid, HLG.out]
            congr 1
            omega
          obtain ⟨L2, hL2⟩ : ∃ L, nodL A.length (s + 1) = L := ⟨_, rfl⟩
          have hll2 := HLF.out (s + 1) (by omega)
          rw [hL2] at h1 hrs HL2 hll2
          have HLE := Lib.hid hL2.symm
          have HO1 := Lib.hid h1
          have HR1 := Lib.hid hrs
          obtain ⟨za, zc, hz4⟩ := row_slice h1
          subst hz4
          clear hus h1 hrs HLV HLG hL2 HGE1 HGB1 HGE HGB HLF
          go_wp2_with fail
          obtain ⟨w9, hw9⟩ : ∃ w9 : World, w9 = wr := ⟨wr, rfl⟩
          subst hw9
          go_loopw [42] (fun x wr2 => ∃ j : Nat, j ≤ L2.length ∧ x = .int .i64 j ∧ Hid (∀ i (hi : i < L2.length), i < j → walkB A L2[i] = false) ∧ wr2 = w9) (fun x _ => L2.length - (intOf x).toNat)
          case atStart => exact ⟨0, by omega, rfl, fun i _ h => absurd h (Nat.not_lt_zero _), rfl⟩
          case round =>
            obtain ⟨j, hj, rfl, HNO, hwr⟩ := hrel
            obtain rfl : w9 = wr := hwr.symm
            by_cases hlt4 : j < L2.length
            · have hrd := Rd.of_row HO1.out
              obtain ⟨b, o, c', he, hb, hc⟩ := hrd.opened (by rw [HR1.out.1]; omega)
              obtain ⟨ra, rc, hget, hown⟩ := HR1.out.get hlt4
              have hcj := hc j _ hget
              simp only [Value.slice.injEq] at he
              obtain ⟨rfl, -, rfl⟩ := he
              obtain ⟨h6, hk6, _⟩ := HL2.out _ (List.getElem_mem hlt4)
              have HWK := Lib.hid (refWalkC_any (.slice aa A.length ac) (.slice ra L2[j].length rc) A L2[j] w9 (HAV.out.below HBF.out (Nat.le_refl _)) HA.out (Rd.of_row hown) (by omega) hk6 (by omega) (ownCap11 hown))
              have HOW := Lib.hid hown
              have HSM : Hid (walkB A L2[j] = true → leastS A = L2[j]) := fun h => by
                rw [HLG2.out]
                exact leastG_some HLE.out hlt4 (fun i hi => HNO.out i (by omega) hi) h
              have HNX : Hid (walkB A L2[j] = false → ∀ i (hi : i < L2.length), i < j + 1 → walkB A L2[i] = false) := fun h i hi hij => by
                by_cases he : i = j
                · subst he; exact h
                · exact HNO.out i hi (by omega)
              clear hrd hb hc hget hown h6 hk6
              obtain ⟨r, hr⟩ : ∃ r, L2[j] = r := ⟨_, rfl⟩
              rw [hr] at HWK HOW HSM HNX hcj
              clear hr
              cases hwb : walkB A r with
              | true =>
                rw [hwb] at HWK
                have HF := Lib.hid (HSM.out hwb)
                clear hwb HSM HNX HNO
                go_wp2_with (go_at_call 12; refine HWK.out.mono ?_; rintro e w5 ⟨rfl, hw5⟩; rw [hw5]; clear hw5)
                go_ret
                exact ⟨_, rfl, by rw [HF.out]; exact HOW.out, HBF.out⟩
              | false =>
                rw [hwb] at HWK
                have HN2 := Lib.hid (HNX.out hwb)
                clear hwb HSM HNX HNO
                go_wp2_with (go_at_call 12; refine HWK.out.mono ?_; rintro e w5 ⟨rfl, hw5⟩; rw [hw5]; clear hw5)
                go_roundw
                case rel => exact ⟨j + 1, by omega, by go_num, HN2, trivial⟩
                case measure => simp [intOf]; omega
            · obtain rfl : j = L2.length := by omega
              have HLG3 : Hid (leastS A = leastG A (A.length - (s + 1)) (s + 1 + 1)) := by
                rw [Hid, HLG2.out]
                exact leastG_none HLE.out fun i hi => HNO.out i hi hi
              have HO3 : Hid (∃ vs, w9.ownsRow w.heap.size 23 1 (.slice za L2.length zc) (nodL A.length (s + 1)).length vs ∧ RowsO w.heap.size w9 vs (nodL A.length (s + 1))) := by
                rw [← HLE.out]
                exact ⟨us, HO1.out, HR1.out⟩
              clear HNO HLG2 HO1 HR1 HL2
              go_wp2_with fail
              go_roundw
              case rel => exact ⟨s + 1, by omega, by go_num, HO3, HLG3, HBF⟩
              case measure => simp [intOf]; omega
    · obtain rfl : s = A.length := by omega
      have HF : Hid (leastS A = []) := by
        rw [Hid, HLG.out, Nat.sub_self]
        rfl
      have HBF := Lib.hid (HB.out.alloc HB.out.size (.cells #[] 3))
      have HON := Lib.hid (own_nil_int (w := wr) HB.out.size)
      obtain ⟨vs, ho, hr⟩ := HO.out
      obtain ⟨ya, yc, hy3⟩ := row_slice ho
      subst hy3
      clear HO HLG HGE HGB HLF HLM ho hr
      go_wp2
      go_ret
      exact ⟨_, rfl, by rw [HF.out]; exact HON.out, HBF.out⟩
end Go.Proofs.Ytclhbnfnmpabbaa
