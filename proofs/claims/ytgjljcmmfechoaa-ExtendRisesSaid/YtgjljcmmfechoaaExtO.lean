/- The walks of the reference's whole and All. -/
import Derived.Test.YtgjljcmmfechoaaExtN
namespace Go.Proofs.Ytgjljcmmfechoaa.RPlain
end Go.Proofs.Ytgjljcmmfechoaa.RPlain
namespace Go.Proofs.Ytgjljcmmfechoaa
open Go.RowKit RPlain

theorem cell_slice_at (w : World) (o : Value) (t : TypeId) : ∀ j u, [o][j]? = some u → (w.alloc (.cells #[o] t)).cell? ((⟨w.heap.size, 0, none⟩ : Addr).add j) = some u := cell_one_at w o t
theorem one_sl (a : Option Addr) (n c : Nat) : ∀ u ∈ [Value.slice a n c], u.oneCell' = true := by intro u hu; simp at hu; subst hu; rfl
theorem own_nil_rows {w : World} {B : Nat} (hB : B ≤ w.heap.size) : (w.alloc (.cells #[] 29)).ownsRow B 29 1 (.slice (some ⟨w.heap.size, 0, none⟩) 0 0) 0 [] :=
  World.ownsRow_made (e := 29) (size := 1) w #[] 0 hB (by unfold maxLen; omega) (by simp)
set_option maxRecDepth 100000 in
set_option maxHeartbeats 4000000 in
theorem refWhole_any (av y : Value) (A : List Nat) (L : List (List Nat)) (vs : List Value) (B : Nat) (w : World) (hav : Rd w av (u32s A)) (hA : ∀ x ∈ A, x < 4294967296) (hal : A.length ≤ 6)
    (hy : w.ownsRow B 29 1 y L.length vs) (hr : RowsO B w vs L) (hL : ∀ r ∈ L, r.length ≤ 6 ∧ (∀ k ∈ r, k < A.length) ∧ keepsR A r = true) (hll : L.length ≤ 46656) (hB : B ≤ w.heap.size) :
    Calls Try.prog 21 #[av, y] w fun e w' => ∃ v us, e = .returned v ∧ w'.ownsRow w.heap.size 29 1 v L.length us ∧ RowsO B w' us L ∧ Below w.heap.size w w' := by
  obtain ⟨i0, hi0, hz0, hz1, hz2⟩ := info_parts infoSl
  have HAV := Lib.hid hav
  have HA := Lib.hid hA
  have HL := Lib.hid hL
  obtain ⟨aa, ac, rfl⟩ := hav.len
  rw [u32s_len] at HAV ⊢
  have hba : Below w.heap.size w (w.alloc (.cells #[] 29)) := (Below.refl _ w).alloc (Nat.le_refl _) _
  have HLV : Hid (LvlR B w.heap.size w y vs L (.slice (some ⟨w.heap.size, 0, none⟩) 0 0) (L.take 0) (w.alloc (.cells #[] 29))) :=
    ⟨hy.kept (grownB11 hba) (by cases y.ownBlock <;> simp), hr.below hba, ⟨[], own_nil_rows (Nat.le_refl _), ⟨rfl, fun i hi => by simp at hi⟩⟩, (hba.mono hB), fun g hg => (hy.lt g hg).2, hba.size, hB⟩
  have HBW := Lib.hid hba
  obtain ⟨ya, yc, rfl⟩ := row_slice hy
  clear hav hA hL hba hr hy
  go_enter Try.func21, Try.ntmps21
  go_wp2_with fail
  go_loopw [5, 11] (fun z x wr => ∃ q : Nat, q ≤ L.length ∧ x = .int .i64 q ∧ Hid (LvlR B w.heap.size w (.slice ya L.length yc) vs L z (L.take q) wr) ∧ Hid (Below w.heap.size w wr)) (fun _ x _ => L.length - (intOf x).toNat)
  case atStart => exact ⟨0, by omega, rfl, HLV, HBW⟩
  case round =>
    clear HLV HBW
    obtain ⟨q, hq, rfl, HLV, HBW⟩ := hrel
    by_cases hlt : q < L.length
    · have hrd := Rd.of_row HLV.out.out
      obtain ⟨b, o, c', he, hb, hc⟩ := hrd.opened (by rw [HLV.out.rows.1]; omega)
      obtain ⟨ra, rc, hget, hown⟩ := HLV.out.rows.get hlt
      have hcq := hc q _ hget
      have hvl : vs.length = L.length := HLV.out.rows.1
      simp only [Value.slice.injEq] at he
      obtain ⟨rfl, -, rfl⟩ := he
      obtain ⟨h6, hk6, hkp⟩ := HL.out _ (List.getElem_mem hlt)
      have HKE := Lib.hid (refKeepsX_any (.slice aa A.length ac) (.slice ra L[q].length rc) A L[q] wr (HAV.out.below HBW.out (Nat.le_refl _)) (Rd.of_row hown) HA.out hk6 hal (by omega) (ownCap11 hown))
      rw [hkp] at HKE
      have HTK : Hid (L.take (q + 1) = L.take q ++ [L[q]]) := List.take_succ_eq_append_getElem hlt
      have hal2 := ((Below.refl wr.heap.size wr).alloc (Nat.le_refl _) (.cells #[.slice ra L[q].length rc] 29))
      have HLA := Lib.hid (HLV.out.below hal2)
      have HOA := Lib.hid (hown.alloc (.cells #[.slice ra L[q].length rc] 29))
      obtain ⟨us, hus, hrs⟩ := HLA.out.acc
      have HUS := Lib.hid hus
      have HRS := Lib.hid hrs
      obtain ⟨za, zc, hz5⟩ := row_slice hus
      subst hz5
      have hwt : wr.heap.size + 1 = (wr.alloc (.cells #[.slice ra L[q].length rc] 29)).heap.size := by simp
      have HTOP := Lib.hid HLA.out.top
      have hqt : (L.take q).length = q := by rw [List.length_take]; omega
      rw [hqt] at HUS
      have HB2 := Lib.hid (HBW.out.trans (hal2.mono HBW.out.size))
      clear hrd hb hc hget hown hus hrs hal2 hkp hk6 hwt
      generalize hrq : L[q] = r at *
      rw [hqt]
      go_wp2_with (first
        | (go_at_call 19; refine HKE.out.mono ?_; rintro e w5 ⟨rfl, hw5⟩; rw [hw5]; clear hw5)
        | (at_builtin; refine wpList_append_own _ rfl _ _ 23 rfl w.heap.size 29 i0 (.slice none 0 0) 1 24 Try.underlying23 hi0 hz0 hz1 hz2 rfl (by decide) (.slice za q zc) q us rfl HUS.out ⟨wr.heap.size, 0, none⟩ 1 1 [.slice ra r.length rc] rfl rfl (cell_slice_at wr _ _) (one_sl _ _ _) (by unfold maxLen; omega) (by omega) HTOP.out ?_; intro v2 w2 ho2 hg2 _))
      have hp := LvlR.push (r := r) HLA.out HOA.out (by rw [hqt]; exact HUS.out) HRS.out (by rw [hqt]; exact ho2) (by rw [hqt]; exact hg2)
      rw [← HTK.out] at hp
      refine ⟨⟨q + 1, by omega, by go_num, hp, HB2.out.grown hg2 HB2.out.size (fun x hx => (HUS.out.lt x hx).1)⟩, ?_⟩
      simp [intOf]; omega
    · obtain rfl : q = L.length := by omega
      obtain ⟨us, hus, hrs⟩ := HLV.out.acc
      rw [List.take_length] at hus hrs
      have HUS := Lib.hid hus
      have HRS := Lib.hid hrs
      obtain ⟨za, zc, hz5⟩ := row_slice hus
      subst hz5
      clear hus hrs HLV
      go_wp2
      go_ret
      exact ⟨_, us, rfl, HUS.out, HRS.out, HBW.out⟩
theorem RowsO.at_ {B : Nat} {w : World} {vs : List Value} {rows : List (List Nat)} (h : RowsO B w vs rows) {i : Nat} (hi : i < rows.length) {v : Value} (hv : vs[i]? = some v) : w.ownsRow B 3 1 v rows[i].length (nats rows[i]) := by
  have hi' : i < vs.length := by rw [h.1]; exact hi
  rw [List.getElem?_eq_getElem hi', Option.some.injEq] at hv
  rw [← hv]
  exact h.2 i hi hi'
theorem own_less {w : World} {B B' : Nat} {e : TypeId} {s : Nat} {v : Value} {n : Nat} {xs : List Value} (h : w.ownsRow B e s v n xs) (hB : B' ≤ B) : w.ownsRow B' e s v n xs := by
  refine ⟨h.1, ?_⟩
  rcases h.2 with h0 | ⟨g, cap, cur, h1, h2, h3⟩
  · exact .inl h0
  · exact .inr ⟨g, cap, cur, h1, Nat.le_trans hB h2, h3⟩
theorem keeps_on {A r : List Nat} (h : keepsR A r = true) (k : Nat) : keepsR A (r ++ [k]) = nxt A r k := by
  unfold keepsR at *
  rw [stepsP_snoc, h]; rfl
def lvlS (A : List Nat) (s : Nat) : List (List Nat) := extP A.length (nxt A) s []
theorem lvl_facts {A : List Nat} (hal : A.length ≤ 6) {s : Nat} (hs : s ≤ A.length) : (lvlS A s).length ≤ 46656 ∧ ∀ r ∈ lvlS A s, r.length ≤ 6 ∧ (∀ k ∈ r, k < A.length) ∧ keepsR A r = true := by
  constructor
  · have h1 := ext_len A.length (nxt A) s []
    have h2 : A.length ^ s ≤ 6 ^ s := Nat.pow_le_pow_left hal _
    have h3 : 6 ^ s ≤ 6 ^ 6 := Nat.pow_le_pow_right (by decide) (by omega)
    unfold lvlS
    omega
  · intro r hr
    obtain ⟨h1, h2, h3⟩ := ext_mem hr
    exact ⟨by omega, h2, h3⟩
theorem go_bound {A : List Nat} (hal : A.length ≤ 6) {s : Nat} (hs : s < A.length) {q : Nat} (hq : q < (lvlS A s).length) {k : Nat} (hk : k ≤ A.length) : (goAll A (lvlS A s) q ++ goOn A (lvlS A s)[q] k).length ≤ 46656 := by
  have h1 := (lvl_facts hal (s := s + 1) (by omega)).1
  have h2 := goAll_le A (lvlS A s) (q + 1)
  have h3 : (goAll A (lvlS A s) (lvlS A s).length).length = (lvlS A (s + 1)).length := congrArg List.length (goAll_ext A s)
  rw [goAll_snoc hq, List.length_append] at h2
  have h4 := goOn_le A (lvlS A s)[q] hk
  rw [List.length_append]
  omega
set_option maxRecDepth 100000 in
set_option maxHeartbeats 8000000 in
theorem refAllX_any (av : Value) (A : List Nat) (w : World) (hav : Rd w av (u32s A)) (hA : ∀ x ∈ A, x < 4294967296) (hal : A.length ≤ 6) :
    Calls Try.prog 10 #[av] w fun e w' => ∃ v vs, e = .returned v ∧ Rd w' v vs ∧ RowsO w.heap.size w' vs (allS A) ∧ Below w.heap.size w w' := by
  obtain ⟨i0, hi0, hz0, hz1, hz2⟩ := info_parts infoSl
  have HAV := Lib.hid hav
  have HA := Lib.hid hA
  obtain ⟨aa, ac, rfl⟩ := hav.len
  rw [u32s_len] at HAV ⊢
  have hsA : (w.alloc (.cells #[] 3)).heap.size = w.heap.size + 1 := by simp
  have hb0 : Below w.heap.size w ((w.alloc (.cells #[] 3)).alloc (.cells #[.slice (some ⟨w.heap.size, 0, none⟩) 0 0] 29)) := ((Below.refl _ w).alloc (Nat.le_refl _) _).alloc (by simp) _
  have hat : At ((w.alloc (.cells #[] 3)).alloc (.cells #[.slice (some ⟨w.heap.size, 0, none⟩) 0 0] 29)) (w.heap.size + 1) #[.slice (some ⟨w.heap.size, 0, none⟩) 0 0] 29 := by
    have := At.new (w.alloc (.cells #[] 3)) #[.slice (some ⟨w.heap.size, 0, none⟩) 0 0] 29
    rwa [hsA] at this
  have HO0 : Hid (∃ vs, ((w.alloc (.cells #[] 3)).alloc (.cells #[.slice (some ⟨w.heap.size, 0, none⟩) 0 0] 29)).ownsRow w.heap.size 29 1 (.slice (some ⟨w.heap.size + 1, 0, none⟩) 1 1) (lvlS A 0).length vs ∧ RowsO w.heap.size ((w.alloc (.cells #[] 3)).alloc (.cells #[.slice (some ⟨w.heap.size, 0, none⟩) 0 0] 29)) vs (lvlS A 0)) := by
    refine ⟨[.slice (some ⟨w.heap.size, 0, none⟩) 0 0], ⟨rfl, .inr ⟨w.heap.size + 1, 1, _, rfl, by omega, hat, Nat.le_refl _, by unfold maxLen; omega, rfl, rfl⟩⟩, rfl, fun i hi hi' => ?_⟩
    obtain rfl : i = 0 := by simp at hi'; exact hi'
    exact (own_nil_int (Nat.le_refl w.heap.size)).alloc _
  have HB0 := Lib.hid hb0
  have HFIN : Hid (lvlS A A.length = allS A) := rfl
  have HLF := Lib.hid (fun (s : Nat) (hs : s ≤ A.length) => lvl_facts hal hs)
  have HGB := Lib.hid (fun (s : Nat) (hs : s < A.length) (q : Nat) (hq : q < (lvlS A s).length) (k : Nat) (hk : k ≤ A.length) => go_bound hal hs hq hk)
  have HGE : Hid (∀ s, goAll A (lvlS A s) (lvlS A s).length = lvlS A (s + 1)) := fun s => goAll_ext A s
  clear hav hA hsA hb0 hat
  go_enter Try.func10, Try.ntmps10
  go_wp2_with fail
  go_loopw [3, 12] (fun y x wr => ∃ s : Nat, s ≤ A.length ∧ x = .int .i64 s ∧ Hid (∃ vs, wr.ownsRow w.heap.size 29 1 y (lvlS A s).length vs ∧ RowsO w.heap.size wr vs (lvlS A s)) ∧ Hid (Below w.heap.size w wr)) (fun _ x _ => A.length - (intOf x).toNat)
  case atStart => exact ⟨0, by omega, rfl, HO0, HB0⟩
  case round =>
    clear HO0 HB0
    obtain ⟨s, hs, rfl, HO, HB⟩ := hrel
    by_cases hlt : s < A.length
    · have HGE1 := Lib.hid (HGE.out s)
      have HGB1 := Lib.hid (HGB.out s hlt)
      have HLF1 := Lib.hid (HLF.out s hs)
      have hLl := HLF1.out.1
      obtain ⟨vs, ho, hr⟩ := HO.out
      have hba : Below wr.heap.size wr (wr.alloc (.cells #[] 29)) := (Below.refl _ wr).alloc (Nat.le_refl _) _
      have HLV0 : Hid (LvlR w.heap.size wr.heap.size w u3 vs (lvlS A s) (.slice (some ⟨wr.heap.size, 0, none⟩) 0 0) (goAll A (lvlS A s) 0) (wr.alloc (.cells #[] 29))) :=
        ⟨ho.kept (grownB11 hba) (by cases u3.ownBlock <;> simp), hr.below hba, ⟨[], own_nil_rows (Nat.le_refl _), ⟨rfl, fun i hi => by simp [goAll] at hi⟩⟩, HB.out.trans (hba.mono HB.out.size), fun g hg => (ho.lt g hg).2, hba.size, HB.out.size⟩
      obtain ⟨ya, yc, hy3⟩ := row_slice ho
      subst hy3
      obtain ⟨B2, hB2⟩ : ∃ z, wr.heap.size = z := ⟨_, rfl⟩
      rw [hB2] at HLV0
      have HB2 := Lib.hid hB2
      clear HO HB ho hr hba hB2
      generalize lvlS A s = Ls at *
      go_wp2_with fail
      go_loopw [4, 17] (fun z x wr2 => ∃ q : Nat, q ≤ Ls.length ∧ x = .int .i64 q ∧ Hid (LvlR w.heap.size B2 w (.slice ya Ls.length yc) vs Ls z (goAll A Ls q) wr2)) (fun _ x _ => Ls.length - (intOf x).toNat)
      case atStart => exact ⟨0, by omega, rfl, by rw [HB2.out]; exact HLV0⟩
      case round =>
        clear HLV0
        obtain ⟨q, hq, rfl, HLV⟩ := hrel
        by_cases hlt2 : q < Ls.length
        · have hrd := Rd.of_row HLV.out.out
          obtain ⟨b, o, c', he, hb, hc⟩ := hrd.opened (by rw [HLV.out.rows.1]; omega)
          obtain ⟨ra, rc, hget, hown⟩ := HLV.out.rows.get hlt2
          have hcq := hc q _ hget
          have hvl : vs.length = Ls.length := HLV.out.rows.1
          simp only [Value.slice.injEq] at he
          obtain ⟨rfl, -, rfl⟩ := he
          obtain ⟨h6, hk6, hkp⟩ := HLF1.out.2 _ (List.getElem_mem hlt2)
          have HGB2 := Lib.hid (fun k hk => HGB1.out q hlt2 k hk)
          have HGS := Lib.hid (goAll_snoc (A := A) hlt2)
          have HAT := Lib.hid (fun (W : World) (z : Value) (acc : List (List Nat)) (h : LvlR w.heap.size B2 w (.slice (some ⟨b, o, none⟩) Ls.length yc) vs Ls z acc W) => h.rows.at_ hlt2 hget)
          have HLV3 : Hid (LvlR w.heap.size B2 w (.slice (some ⟨b, o, none⟩) Ls.length yc) vs Ls u4 (goAll A Ls q ++ goOn A Ls[q] 0) wr) := by
            have h0 : goAll A Ls q ++ goOn A Ls[q] 0 = goAll A Ls q := by simp [goOn]
            rw [h0]
            exact HLV.out
          have hrn6 : Ls[q].length ≤ 6 := h6
          have HK6 := Lib.hid hk6
          have HKP := Lib.hid (fun k => keeps_on hkp k)
          have hz4 : ∃ a n c, u4 = .slice a n c := by
            obtain ⟨us, hus, _⟩ := HLV.out.acc
            obtain ⟨a, c, h⟩ := row_slice hus
            exact ⟨_, _, _, h⟩
          clear hrd hb hc hget hown hvl h6 hk6 hkp HLV HLF1 HGB1
          generalize Ls[q] = r at *
          obtain ⟨z4a, z4n, z4c, hz4⟩ := hz4
          subst hz4
          go_wp2_with fail
          go_loopw [4, 23] (fun z x wr3 => ∃ k : Nat, k ≤ A.length ∧ x = .int .i64 k ∧ Hid (LvlR w.heap.size B2 w (.slice (some ⟨b, o, none⟩) Ls.length yc) vs Ls z (goAll A Ls q ++ goOn A r k) wr3)) (fun _ x _ => A.length - (intOf x).toNat)
          case atStart => exact ⟨0, by omega, rfl, HLV3⟩
          case round =>
            clear HLV3
            obtain ⟨k, hk, rfl, HLV⟩ := hrel
            by_cases hlt3 : k < A.length
            · have HGO := Lib.hid (goOn_snoc A r k)
              have hbd := HGB2.out k (by omega)
              rw [List.length_append] at hbd
              have HRO := Lib.hid (HAT.out wr _ _ HLV.out)
              have HWI := Lib.hid (refWithN_any (.slice ra r.length rc) r k wr (Rd.of_row HRO.out) (SrcN.of_row HRO.out) (by omega))
              have hz4 : ∃ a n c, u4 = .slice a n c := by
                obtain ⟨us, hus, _⟩ := HLV.out.acc
                obtain ⟨a, c, h⟩ := row_slice hus
                exact ⟨_, _, _, h⟩
              obtain ⟨z5a, z5n, z5c, hz4⟩ := hz4
              subst hz4
              go_wp2_with fail
              refine HWI.out.mono ?_
              rintro e w1 ⟨v1, rfl, g1, g2, g3⟩
              have HLW := Lib.hid (HLV.out.below g3)
              have HKE := Lib.hid (refKeepsX_any (.slice aa A.length ac) v1 A (r ++ [k]) w1 (HAV.out.below HLW.out.bel (Nat.le_refl _)) (Rd.of_row g1) HA.out (fun x hx => by
                rcases List.mem_append.1 hx with hx | hx
                · exact HK6.out x hx
                · rw [List.mem_singleton.1 hx]; exact hlt3) hal (by simp; omega) (ownCap11 g1))
              rw [HKP.out] at HKE
              have HRO1 := Lib.hid (HAT.out w1 _ _ HLW.out)
              obtain ⟨v1a, v1c, rfl⟩ := row_slice g1
              clear g1 g2 g3 HWI HLV HRO
              cases hnx : nxt A r k with
              | false =>
                rw [hnx] at HKE
                have HLF : Hid (LvlR w.heap.size B2 w (.slice (some ⟨b, o, none⟩) Ls.length yc) vs Ls (.slice z5a z5n z5c) (goAll A Ls q ++ goOn A r (k + 1)) w1) := by
                  unfold Hid
                  rw [HGO.out, hnx, if_neg (by decide)]
                  exact HLW.out
                clear hnx HLW HGO
                go_wp2_with (go_at_call 19; refine HKE.out.mono ?_; rintro e w5 ⟨rfl, hw5⟩; rw [hw5]; clear hw5)
                go_roundw
                case rel => exact ⟨k + 1, by omega, by go_num, HLF⟩
                case measure => simp [intOf]; omega
              | true =>
                rw [hnx] at HKE
                have hhn := hasN_any (.slice ra r.length rc) r k w1 (Rd.of_row HRO1.out) (by omega)
                rw [nxt_not hnx] at hhn
                have HHN := Lib.hid hhn
                have HWI2 := Lib.hid (refWithN_any (.slice ra r.length rc) r k w1 (Rd.of_row HRO1.out) (SrcN.of_row HRO1.out) (by omega))
                have HGO2 : Hid (goAll A Ls q ++ goOn A r (k + 1) = goAll A Ls q ++ goOn A r k ++ [r ++ [k]]) := by
                  unfold Hid
                  rw [HGO.out, hnx, if_pos rfl, List.append_assoc]
                clear hnx hhn HRO1 HGO
                go_wp2_with (first
                  | (go_at_call 19; refine HKE.out.mono ?_; rintro e w5 ⟨rfl, hw5⟩; rw [hw5]; clear hw5)
                  | (go_at_call 17; refine HHN.out.mono ?_; rintro e w5 ⟨rfl, hw5⟩; rw [← hw5]; clear hw5))
                refine HWI2.out.mono ?_
                rintro e w2 ⟨v2, rfl, g1, g2, g3⟩
                have hlw := HLW.out.below g3
                have hal2 := ((Below.refl w2.heap.size w2).alloc (Nat.le_refl _))
                obtain ⟨v2a, v2c, rfl⟩ := row_slice g1
                have HLA := Lib.hid (hlw.below (hal2 (.cells #[.slice v2a (r.length + 1) v2c] 29)))
                have hrk : (r ++ [k]).length = r.length + 1 := by simp
                have HOA := Lib.hid (own_less (g1.alloc (.cells #[.slice v2a (r.length + 1) v2c] 29)) HLW.out.bel.size)
                rw [← hrk] at HOA
                obtain ⟨us, hus, hrs⟩ := HLA.out.acc
                have hacc : (goAll A Ls q ++ goOn A r k).length ≤ 46656 := by rw [List.length_append]; exact hbd
                have HUS := Lib.hid hus
                have HRS := Lib.hid hrs
                have HTOP := Lib.hid HLA.out.top
                rw [hrk] at HOA
                clear hus hrs hlw hal2 g1 g2 g3 HLW HWI2 hbd
                obtain ⟨acc, hac⟩ : ∃ z, goAll A Ls q ++ goOn A r k = z := ⟨_, rfl⟩
                rw [hac] at HUS HRS HLA HGO2 hacc
                clear hac
                go_wp2_with (at_builtin; refine wpList_append_own _ rfl _ _ 23 rfl B2 29 i0 (.slice none 0 0) 1 24 Try.underlying23 hi0 hz0 hz1 hz2 rfl (by decide) (.slice z5a z5n z5c) acc.length us rfl HUS.out ⟨w2.heap.size, 0, none⟩ 1 1 [.slice v2a (r.length + 1) v2c] rfl rfl (cell_slice_at w2 _ _) (one_sl _ _ _) (by unfold maxLen; omega) (by omega) HTOP.out ?_; intro v4 w4 ho4 hg4 _)
                have hp := LvlR.push (r := r ++ [k]) HLA.out (by rw [hrk]; exact HOA.out) HUS.out HRS.out ho4 hg4
                rw [← HGO2.out] at hp
                have HP := Lib.hid hp
                clear hp ho4 hg4 hrk
                go_wp2
                go_roundw
                case rel => exact ⟨k + 1, by omega, by go_num, HP⟩
                case measure => simp [intOf]; omega
            · obtain rfl : k = A.length := by omega
              have HLV4 : Hid (LvlR w.heap.size B2 w (.slice (some ⟨b, o, none⟩) Ls.length yc) vs Ls u4 (goAll A Ls (q + 1)) wr) := by
                unfold Hid
                rw [HGS.out]
                exact HLV.out
              have hz4 : ∃ a n c, u4 = .slice a n c := by
                obtain ⟨us, hus, _⟩ := HLV.out.acc
                obtain ⟨a, c, h⟩ := row_slice hus
                exact ⟨_, _, _, h⟩
              obtain ⟨z5a, z5n, z5c, hz4⟩ := hz4
              subst hz4
              clear HLV
              go_wp2_with fail
              go_roundw
              case rel => exact ⟨q + 1, by omega, by go_num, HLV4⟩
              case measure => simp [intOf]; omega
        · obtain rfl : q = Ls.length := by omega
          obtain ⟨us, hus, hrs⟩ := HLV.out.acc
          have HO2 : Hid (∃ vs, wr.ownsRow w.heap.size 29 1 u4 (lvlS A (s + 1)).length vs ∧ RowsO w.heap.size wr vs (lvlS A (s + 1))) := by
            have h1 := own_less hus HLV.out.base
            rw [HGE1.out] at h1 hrs
            exact ⟨us, h1, hrs⟩
          have HBF := Lib.hid HLV.out.bel
          obtain ⟨za, zc, hz4⟩ := row_slice hus
          subst hz4
          clear hus hrs HLV
          go_wp2_with fail
          go_roundw
          case rel => exact ⟨s + 1, by omega, by go_num, HO2, HBF⟩
          case measure => simp [intOf]; omega
    · obtain rfl : s = A.length := by omega
      obtain ⟨vs, ho, hr⟩ := HO.out
      have HWH := Lib.hid (refWhole_any (.slice aa A.length ac) u3 A (lvlS A A.length) vs w.heap.size wr (HAV.out.below HB.out (Nat.le_refl _)) HA.out hal ho hr (HLF.out A.length (Nat.le_refl _)).2 (HLF.out A.length (Nat.le_refl _)).1 HB.out.size)
      rw [HFIN.out] at HWH
      obtain ⟨ya, yc, hy3⟩ := row_slice ho
      subst hy3
      clear HO ho hr HLF HGB HGE
      generalize (lvlS A A.length).length = m at *
      go_wp2_with fail
      refine HWH.out.mono ?_
      rintro e w2 ⟨v, us, rfl, g1, g2, g3⟩
      have HG1 := Lib.hid (Rd.of_row g1)
      have HG2 := Lib.hid g2
      have HG3 := Lib.hid (HB.out.trans (g3.mono HB.out.size))
      obtain ⟨va, vc, rfl⟩ := row_slice g1
      clear g1 g2 g3
      go_wp2
      go_ret
      exact ⟨_, us, rfl, HG1.out, HG2.out, HG3.out⟩
end Go.Proofs.Ytgjljcmmfechoaa
