/- Merged: ExtO, UnqF. -/
import Derived.Test.YtmnblljenobofaaGreatDoorMg23
import Derived.Test.YtmnblljenobofaaGreatDoorMg15
/- The walks of the reference's whole and All. -/
namespace Go.Proofs.YtmnblljenobofaaGreatDoor.RPlain
end Go.Proofs.YtmnblljenobofaaGreatDoor.RPlain
namespace Go.Proofs.YtmnblljenobofaaGreatDoor
open Go.RowKit RPlain

theorem cell_slice_at (w : World) (o : Value) (t : TypeId) : ∀ j u, [o][j]? = some u → (w.alloc (.cells #[o] t)).cell? ((⟨w.heap.size, 0, none⟩ : Addr).add j) = some u := cell_one_at w o t
theorem one_sl (a : Option Addr) (n c : Nat) : ∀ u ∈ [Value.slice a n c], u.oneCell' = true := by intro u hu; simp at hu; subst hu; rfl
theorem own_nil_rows {w : World} {B : Nat} (hB : B ≤ w.heap.size) : (w.alloc (.cells #[] 24)).ownsRow B 24 1 (.slice (some ⟨w.heap.size, 0, none⟩) 0 0) 0 [] :=
  World.ownsRow_made (e := 24) (size := 1) w #[] 0 hB (by unfold maxLen; omega) (by simp)
set_option maxRecDepth 100000 in
set_option maxHeartbeats 4000000 in
theorem refWhole_any (av y : Value) (A : List Nat) (L : List (List Nat)) (vs : List Value) (B : Nat) (w : World) (hav : Rd w av (u32s A)) (hA : ∀ x ∈ A, x < 4294967296) (hal : A.length ≤ 6)
    (hy : w.ownsRow B 24 1 y L.length vs) (hr : RowsO B w vs L) (hL : ∀ r ∈ L, r.length ≤ 6 ∧ (∀ k ∈ r, k < A.length) ∧ keepsR A r = true) (hll : L.length ≤ 46656) (hB : B ≤ w.heap.size) :
    Calls Tryz.prog 51 #[av, y] w fun e w' => ∃ v us, e = .returned v ∧ w'.ownsRow w.heap.size 24 1 v L.length us ∧ RowsO B w' us L ∧ Below w.heap.size w w' := by
  obtain ⟨i0, hi0, hz0, hz1, hz2⟩ := info_parts infoSl
  have HAV := Lib.hid hav
  have HA := Lib.hid hA
  have HL := Lib.hid hL
  obtain ⟨aa, ac, rfl⟩ := hav.len
  rw [u32s_len] at HAV ⊢
  have hba : Below w.heap.size w (w.alloc (.cells #[] 24)) := (Below.refl _ w).alloc (Nat.le_refl _) _
  have HLV : Hid (LvlR B w.heap.size w y vs L (.slice (some ⟨w.heap.size, 0, none⟩) 0 0) (L.take 0) (w.alloc (.cells #[] 24))) :=
    ⟨hy.kept (grownB11 hba) (by cases y.ownBlock <;> simp), hr.below hba, ⟨[], own_nil_rows (Nat.le_refl _), ⟨rfl, fun i hi => by simp at hi⟩⟩, (hba.mono hB), fun g hg => (hy.lt g hg).2, hba.size, hB⟩
  have HBW := Lib.hid hba
  obtain ⟨ya, yc, rfl⟩ := row_slice hy
  clear hav hA hL hba hr hy
  go_enter Tryz.func51, Tryz.ntmps51
  go_wp2_with fail
  go_loopw [5, 11] (fun z x wr => ∃ q : Nat, q ≤ L.length ∧ x = .int .i64 q ∧ Hid (LvlR B w.heap.size w (.slice ya L.length yc) vs L z (L.take q) wr) ∧ Hid (Below w.heap.size w wr)) (fun _ x _ => L.length - (intOf x).toNat)
  case atStart => exact ⟨0, by omega, rfl, HLV, HBW⟩
  case round =>
    clear HLV HBW
    obtain ⟨q, hq, rfl, HLV, HBW⟩ := hrel
    by_cases hlt : q < L.length
    · have hrd := Rd.of_row HLV.out.out
      obtain ⟨b, o, c', he, hb, hc⟩ := hrd.opened (by rw [HLV.out.rows.1]; omega)
      obtain ⟨ra, rc, hget, hown⟩ := HLV.out.rows.get hlt
      have hcq := hc q _ hget
      have hvl : vs.length = L.length := HLV.out.rows.1
      simp only [Value.slice.injEq] at he
      obtain ⟨rfl, -, rfl⟩ := he
      obtain ⟨h6, hk6, hkp⟩ := HL.out _ (List.getElem_mem hlt)
      have HKE := Lib.hid (refKeepsX_any (.slice aa A.length ac) (.slice ra L[q].length rc) A L[q] wr (HAV.out.below HBW.out (Nat.le_refl _)) (Rd.of_row hown) HA.out hk6 hal (by omega) (ownCap11 hown))
      rw [hkp] at HKE
      have HTK : Hid (L.take (q + 1) = L.take q ++ [L[q]]) := List.take_succ_eq_append_getElem hlt
      have hal2 := ((Below.refl wr.heap.size wr).alloc (Nat.le_refl _) (.cells #[.slice ra L[q].length rc] 24))
      have HLA := Lib.hid (HLV.out.below hal2)
      have HOA := Lib.hid (hown.alloc (.cells #[.slice ra L[q].length rc] 24))
      obtain ⟨us, hus, hrs⟩ := HLA.out.acc
      have HUS := Lib.hid hus
      have HRS := Lib.hid hrs
      obtain ⟨za, zc, hz5⟩ := row_slice hus
      subst hz5
      have hwt : wr.heap.size + 1 = (wr.alloc (.cells #[.slice ra L[q].length rc] 24)).heap.size := by simp
      have HTOP := Lib.hid HLA.out.top
      have hqt : (L.take q).length = q := by rw [List.length_take]; omega
      rw [hqt] at HUS
      have HB2 := Lib.hid (HBW.out.trans (hal2.mono HBW.out.size))
      clear hrd hb hc hget hown hus hrs hal2 hkp hk6 hwt
      generalize hrq : L[q] = r at *
      rw [hqt]
      go_wp2_with (first
        | (go_at_call 49; refine HKE.out.mono ?_; rintro e w5 ⟨rfl, hw5⟩; rw [hw5]; clear hw5)
        | (at_builtin; refine wpList_append_own _ rfl _ _ 47 rfl w.heap.size 24 i0 (.slice none 0 0) 1 24 Tryz.underlying47 hi0 hz0 hz1 hz2 rfl (by decide) (.slice za q zc) q us rfl HUS.out ⟨wr.heap.size, 0, none⟩ 1 1 [.slice ra r.length rc] rfl rfl (cell_slice_at wr _ _) (one_sl _ _ _) (by unfold maxLen; omega) (by omega) HTOP.out ?_; intro v2 w2 ho2 hg2 _))
      have hp := LvlR.push (r := r) HLA.out HOA.out (by rw [hqt]; exact HUS.out) HRS.out (by rw [hqt]; exact ho2) (by rw [hqt]; exact hg2)
      rw [← HTK.out] at hp
      refine ⟨⟨q + 1, by omega, by go_num, hp, HB2.out.grown hg2 HB2.out.size (fun x hx => (HUS.out.lt x hx).1)⟩, ?_⟩
      simp [intOf]; omega
    · obtain rfl : q = L.length := by omega
      obtain ⟨us, hus, hrs⟩ := HLV.out.acc
      rw [List.take_length] at hus hrs
      have HUS := Lib.hid hus
      have HRS := Lib.hid hrs
      obtain ⟨za, zc, hz5⟩ := row_slice hus
      subst hz5
      clear hus hrs HLV
      go_wp2
      go_ret
      exact ⟨_, us, rfl, HUS.out, HRS.out, HBW.out⟩
theorem RowsO.at_ {B : Nat} {w : World} {vs : List Value} {rows : List (List Nat)} (h : RowsO B w vs rows) {i : Nat} (hi : i < rows.length) {v : Value} (hv : vs[i]? = some v) : w.ownsRow B 3 1 v rows[i].length (nats rows[i]) := by
  have hi' : i < vs.length := by rw [h.1]; exact hi
  rw [List.getElem?_eq_getElem hi', Option.some.injEq] at hv
  rw [← hv]
  exact h.2 i hi hi'
theorem own_less {w : World} {B B' : Nat} {e : TypeId} {s : Nat} {v : Value} {n : Nat} {xs : List Value} (h : w.ownsRow B e s v n xs) (hB : B' ≤ B) : w.ownsRow B' e s v n xs := by
  refine ⟨h.1, ?_⟩
  rcases h.2 with h0 | ⟨g, cap, cur, h1, h2, h3⟩
  · exact .inl h0
  · exact .inr ⟨g, cap, cur, h1, Nat.le_trans hB h2, h3⟩
theorem keeps_on {A r : List Nat} (h : keepsR A r = true) (k : Nat) : keepsR A (r ++ [k]) = nxt A r k := by
  unfold keepsR at *
  rw [stepsP_snoc, h]; rfl
def lvlS (A : List Nat) (s : Nat) : List (List Nat) := extP A.length (nxt A) s []
theorem lvl_facts {A : List Nat} (hal : A.length ≤ 6) {s : Nat} (hs : s ≤ A.length) : (lvlS A s).length ≤ 46656 ∧ ∀ r ∈ lvlS A s, r.length ≤ 6 ∧ (∀ k ∈ r, k < A.length) ∧ keepsR A r = true := by
  constructor
  · have h1 := ext_len A.length (nxt A) s []
    have h2 : A.length ^ s ≤ 6 ^ s := Nat.pow_le_pow_left hal _
    have h3 : 6 ^ s ≤ 6 ^ 6 := Nat.pow_le_pow_right (by decide) (by omega)
    unfold lvlS
    omega
  · intro r hr
    obtain ⟨h1, h2, h3⟩ := ext_mem hr
    exact ⟨by omega, h2, h3⟩
theorem go_bound {A : List Nat} (hal : A.length ≤ 6) {s : Nat} (hs : s < A.length) {q : Nat} (hq : q < (lvlS A s).length) {k : Nat} (hk : k ≤ A.length) : (goAll A (lvlS A s) q ++ goOn A (lvlS A s)[q] k).length ≤ 46656 := by
  have h1 := (lvl_facts hal (s := s + 1) (by omega)).1
  have h2 := goAll_le A (lvlS A s) (q + 1)
  have h3 : (goAll A (lvlS A s) (lvlS A s).length).length = (lvlS A (s + 1)).length := congrArg List.length (goAll_ext A s)
  rw [goAll_snoc hq, List.length_append] at h2
  have h4 := goOn_le A (lvlS A s)[q] hk
  rw [List.length_append]
  omega
set_option maxRecDepth 100000 in
set_option maxHeartbeats 8000000 in
theorem refAllX_any (av : Value) (A : List Nat) (w : World) (hav : Rd w av (u32s A)) (hA : ∀ x ∈ A, x < 4294967296) (hal : A.length ≤ 6) :
    Calls Tryz.prog 22 #[av] w fun e w' => ∃ v vs, e = .returned v ∧ Rd w' v vs ∧ RowsO w.heap.size w' vs (allS A) ∧ Below w.heap.size w w' := by
  obtain ⟨i0, hi0, hz0, hz1, hz2⟩ := info_parts infoSl
  have HAV := Lib.hid hav
  have HA := Lib.hid hA
  obtain ⟨aa, ac, rfl⟩ := hav.len
  rw [u32s_len] at HAV ⊢
  have hsA : (w.alloc (.cells #[] 3)).heap.size = w.heap.size + 1 := by simp
  have hb0 : Below w.heap.size w ((w.alloc (.cells #[] 3)).alloc (.cells #[.slice (some ⟨w.heap.size, 0, none⟩) 0 0] 24)) := ((Below.refl _ w).alloc (Nat.le_refl _) _).alloc (by simp) _
  have hat : At ((w.alloc (.cells #[] 3)).alloc (.cells #[.slice (some ⟨w.heap.size, 0, none⟩) 0 0] 24)) (w.heap.size + 1) #[.slice (some ⟨w.heap.size, 0, none⟩) 0 0] 24 := by
    have := At.new (w.alloc (.cells #[] 3)) #[.slice (some ⟨w.heap.size, 0, none⟩) 0 0] 24
    rwa [hsA] at this
  have HO0 : Hid (∃ vs, ((w.alloc (.cells #[] 3)).alloc (.cells #[.slice (some ⟨w.heap.size, 0, none⟩) 0 0] 24)).ownsRow w.heap.size 24 1 (.slice (some ⟨w.heap.size + 1, 0, none⟩) 1 1) (lvlS A 0).length vs ∧ RowsO w.heap.size ((w.alloc (.cells #[] 3)).alloc (.cells #[.slice (some ⟨w.heap.size, 0, none⟩) 0 0] 24)) vs (lvlS A 0)) := by
    refine ⟨[.slice (some ⟨w.heap.size, 0, none⟩) 0 0], ⟨rfl, .inr ⟨w.heap.size + 1, 1, _, rfl, by omega, hat, Nat.le_refl _, by unfold maxLen; omega, rfl, rfl⟩⟩, rfl, fun i hi hi' => ?_⟩
    obtain rfl : i = 0 := by simp at hi'; exact hi'
    exact (own_nil_int (Nat.le_refl w.heap.size)).alloc _
  have HB0 := Lib.hid hb0
  have HFIN : Hid (lvlS A A.length = allS A) := rfl
  have HLF := Lib.hid (fun (s : Nat) (hs : s ≤ A.length) => lvl_facts hal hs)
  have HGB := Lib.hid (fun (s : Nat) (hs : s < A.length) (q : Nat) (hq : q < (lvlS A s).length) (k : Nat) (hk : k ≤ A.length) => go_bound hal hs hq hk)
  have HGE : Hid (∀ s, goAll A (lvlS A s) (lvlS A s).length = lvlS A (s + 1)) := fun s => goAll_ext A s
  clear hav hA hsA hb0 hat
  go_enter Tryz.func22, Tryz.ntmps22
  go_wp2_with fail
  go_loopw [3, 12] (fun y x wr => ∃ s : Nat, s ≤ A.length ∧ x = .int .i64 s ∧ Hid (∃ vs, wr.ownsRow w.heap.size 24 1 y (lvlS A s).length vs ∧ RowsO w.heap.size wr vs (lvlS A s)) ∧ Hid (Below w.heap.size w wr)) (fun _ x _ => A.length - (intOf x).toNat)
  case atStart => exact ⟨0, by omega, rfl, HO0, HB0⟩
  case round =>
    clear HO0 HB0
    obtain ⟨s, hs, rfl, HO, HB⟩ := hrel
    by_cases hlt : s < A.length
    · have HGE1 := Lib.hid (HGE.out s)
      have HGB1 := Lib.hid (HGB.out s hlt)
      have HLF1 := Lib.hid (HLF.out s hs)
      have hLl := HLF1.out.1
      obtain ⟨vs, ho, hr⟩ := HO.out
      have hba : Below wr.heap.size wr (wr.alloc (.cells #[] 24)) := (Below.refl _ wr).alloc (Nat.le_refl _) _
      have HLV0 : Hid (LvlR w.heap.size wr.heap.size w u3 vs (lvlS A s) (.slice (some ⟨wr.heap.size, 0, none⟩) 0 0) (goAll A (lvlS A s) 0) (wr.alloc (.cells #[] 24))) :=
        ⟨ho.kept (grownB11 hba) (by cases u3.ownBlock <;> simp), hr.below hba, ⟨[], own_nil_rows (Nat.le_refl _), ⟨rfl, fun i hi => by simp [goAll] at hi⟩⟩, HB.out.trans (hba.mono HB.out.size), fun g hg => (ho.lt g hg).2, hba.size, HB.out.size⟩
      obtain ⟨ya, yc, hy3⟩ := row_slice ho
      subst hy3
      obtain ⟨B2, hB2⟩ : ∃ z, wr.heap.size = z := ⟨_, rfl⟩
      rw [hB2] at HLV0
      have HB2 := Lib.hid hB2
      clear HO HB ho hr hba hB2
      generalize lvlS A s = Ls at *
      go_wp2_with fail
      go_loopw [4, 17] (fun z x wr2 => ∃ q : Nat, q ≤ Ls.length ∧ x = .int .i64 q ∧ Hid (LvlR w.heap.size B2 w (.slice ya Ls.length yc) vs Ls z (goAll A Ls q) wr2)) (fun _ x _ => Ls.length - (intOf x).toNat)
      case atStart => exact ⟨0, by omega, rfl, by rw [HB2.out]; exact HLV0⟩
      case round =>
        clear HLV0
        obtain ⟨q, hq, rfl, HLV⟩ := hrel
        by_cases hlt2 : q < Ls.length
        · have hrd := Rd.of_row HLV.out.out
          obtain ⟨b, o, c', he, hb, hc⟩ := hrd.opened (by rw [HLV.out.rows.1]; omega)
          obtain ⟨ra, rc, hget, hown⟩ := HLV.out.rows.get hlt2
          have hcq := hc q _ hget
          have hvl : vs.length = Ls.length := HLV.out.rows.1
          simp only [Value.slice.injEq] at he
          obtain ⟨rfl, -, rfl⟩ := he
          obtain ⟨h6, hk6, hkp⟩ := HLF1.out.2 _ (List.getElem_mem hlt2)
          have HGB2 := Lib.hid (fun k hk => HGB1.out q hlt2 k hk)
          have HGS := Lib.hid (goAll_snoc (A := A) hlt2)
          have HAT := Lib.hid (fun (W : World) (z : Value) (acc : List (List Nat)) (h : LvlR w.heap.size B2 w (.slice (some ⟨b, o, none⟩) Ls.length yc) vs Ls z acc W) => h.rows.at_ hlt2 hget)
          have HLV3 : Hid (LvlR w.heap.size B2 w (.slice (some ⟨b, o, none⟩) Ls.length yc) vs Ls u4 (goAll A Ls q ++ goOn A Ls[q] 0) wr) := by
            have h0 : goAll A Ls q ++ goOn A Ls[q] 0 = goAll A Ls q := by simp [goOn]
            rw [h0]
            exact HLV.out
          have hrn6 : Ls[q].length ≤ 6 := h6
          have HK6 := Lib.hid hk6
          have HKP := Lib.hid (fun k => keeps_on hkp k)
          have hz4 : ∃ a n c, u4 = .slice a n c := by
            obtain ⟨us, hus, _⟩ := HLV.out.acc
            obtain ⟨a, c, h⟩ := row_slice hus
            exact ⟨_, _, _, h⟩
          clear hrd hb hc hget hown hvl h6 hk6 hkp HLV HLF1 HGB1
          generalize Ls[q] = r at *
          obtain ⟨z4a, z4n, z4c, hz4⟩ := hz4
          subst hz4
          go_wp2_with fail
          go_loopw [4, 23] (fun z x wr3 => ∃ k : Nat, k ≤ A.length ∧ x = .int .i64 k ∧ Hid (LvlR w.heap.size B2 w (.slice (some ⟨b, o, none⟩) Ls.length yc) vs Ls z (goAll A Ls q ++ goOn A r k) wr3)) (fun _ x _ => A.length - (intOf x).toNat)
          case atStart => exact ⟨0, by omega, rfl, HLV3⟩
          case round =>
            clear HLV3
            obtain ⟨k, hk, rfl, HLV⟩ := hrel
            by_cases hlt3 : k < A.length
            · have HGO := Lib.hid (goOn_snoc A r k)
              have hbd := HGB2.out k (by omega)
              rw [List.length_append] at hbd
              have HRO := Lib.hid (HAT.out wr _ _ HLV.out)
              have HWI := Lib.hid (refWithN_any (.slice ra r.length rc) r k wr (Rd.of_row HRO.out) (SrcN.of_row HRO.out) (by omega))
              have hz4 : ∃ a n c, u4 = .slice a n c := by
                obtain ⟨us, hus, _⟩ := HLV.out.acc
                obtain ⟨a, c, h⟩ := row_slice hus
                exact ⟨_, _, _, h⟩
              obtain ⟨z5a, z5n, z5c, hz4⟩ := hz4
              subst hz4
              go_wp2_with fail
              refine HWI.out.mono ?_
              rintro e w1 ⟨v1, rfl, g1, g2, g3⟩
              have HLW := Lib.hid (HLV.out.below g3)
              have HKE := Lib.hid (refKeepsX_any (.slice aa A.length ac) v1 A (r ++ [k]) w1 (HAV.out.below HLW.out.bel (Nat.le_refl _)) (Rd.of_row g1) HA.out (fun x hx => by
                rcases List.mem_append.1 hx with hx | hx
                · exact HK6.out x hx
                · rw [List.mem_singleton.1 hx]; exact hlt3) hal (by simp; omega) (ownCap11 g1))
              rw [HKP.out] at HKE
              have HRO1 := Lib.hid (HAT.out w1 _ _ HLW.out)
              obtain ⟨v1a, v1c, rfl⟩ := row_slice g1
              clear g1 g2 g3 HWI HLV HRO
              cases hnx : nxt A r k with
              | false =>
                rw [hnx] at HKE
                have HLF : Hid (LvlR w.heap.size B2 w (.slice (some ⟨b, o, none⟩) Ls.length yc) vs Ls (.slice z5a z5n z5c) (goAll A Ls q ++ goOn A r (k + 1)) w1) := by
                  unfold Hid
                  rw [HGO.out, hnx, if_neg (by decide)]
                  exact HLW.out
                clear hnx HLW HGO
                go_wp2_with (go_at_call 49; refine HKE.out.mono ?_; rintro e w5 ⟨rfl, hw5⟩; rw [hw5]; clear hw5)
                go_roundw
                case rel => exact ⟨k + 1, by omega, by go_num, HLF⟩
                case measure => simp [intOf]; omega
              | true =>
                rw [hnx] at HKE
                have hhn := hasN_any (.slice ra r.length rc) r k w1 (Rd.of_row HRO1.out) (by omega)
                rw [nxt_not hnx] at hhn
                have HHN := Lib.hid hhn
                have HWI2 := Lib.hid (refWithN_any (.slice ra r.length rc) r k w1 (Rd.of_row HRO1.out) (SrcN.of_row HRO1.out) (by omega))
                have HGO2 : Hid (goAll A Ls q ++ goOn A r (k + 1) = goAll A Ls q ++ goOn A r k ++ [r ++ [k]]) := by
                  unfold Hid
                  rw [HGO.out, hnx, if_pos rfl, List.append_assoc]
                clear hnx hhn HRO1 HGO
                go_wp2_with (first
                  | (go_at_call 49; refine HKE.out.mono ?_; rintro e w5 ⟨rfl, hw5⟩; rw [hw5]; clear hw5)
                  | (go_at_call 35; refine HHN.out.mono ?_; rintro e w5 ⟨rfl, hw5⟩; rw [← hw5]; clear hw5))
                refine HWI2.out.mono ?_
                rintro e w2 ⟨v2, rfl, g1, g2, g3⟩
                have hlw := HLW.out.below g3
                have hal2 := ((Below.refl w2.heap.size w2).alloc (Nat.le_refl _))
                obtain ⟨v2a, v2c, rfl⟩ := row_slice g1
                have HLA := Lib.hid (hlw.below (hal2 (.cells #[.slice v2a (r.length + 1) v2c] 24)))
                have hrk : (r ++ [k]).length = r.length + 1 := by simp
                have HOA := Lib.hid (own_less (g1.alloc (.cells #[.slice v2a (r.length + 1) v2c] 24)) HLW.out.bel.size)
                rw [← hrk] at HOA
                obtain ⟨us, hus, hrs⟩ := HLA.out.acc
                have hacc : (goAll A Ls q ++ goOn A r k).length ≤ 46656 := by rw [List.length_append]; exact hbd
                have HUS := Lib.hid hus
                have HRS := Lib.hid hrs
                have HTOP := Lib.hid HLA.out.top
                rw [hrk] at HOA
                clear hus hrs hlw hal2 g1 g2 g3 HLW HWI2 hbd
                obtain ⟨acc, hac⟩ : ∃ z, goAll A Ls q ++ goOn A r k = z := ⟨_, rfl⟩
                rw [hac] at HUS HRS HLA HGO2 hacc
                clear hac
                go_wp2_with (at_builtin; refine wpList_append_own _ rfl _ _ 47 rfl B2 24 i0 (.slice none 0 0) 1 24 Tryz.underlying47 hi0 hz0 hz1 hz2 rfl (by decide) (.slice z5a z5n z5c) acc.length us rfl HUS.out ⟨w2.heap.size, 0, none⟩ 1 1 [.slice v2a (r.length + 1) v2c] rfl rfl (cell_slice_at w2 _ _) (one_sl _ _ _) (by unfold maxLen; omega) (by omega) HTOP.out ?_; intro v4 w4 ho4 hg4 _)
                have hp := LvlR.push (r := r ++ [k]) HLA.out (by rw [hrk]; exact HOA.out) HUS.out HRS.out ho4 hg4
                rw [← HGO2.out] at hp
                have HP := Lib.hid hp
                clear hp ho4 hg4 hrk
                go_wp2
                go_roundw
                case rel => exact ⟨k + 1, by omega, by go_num, HP⟩
                case measure => simp [intOf]; omega
            · obtain rfl : k = A.length := by omega
              have HLV4 : Hid (LvlR w.heap.size B2 w (.slice (some ⟨b, o, none⟩) Ls.length yc) vs Ls u4 (goAll A Ls (q + 1)) wr) := by
                unfold Hid
                rw [HGS.out]
                exact HLV.out
              have hz4 : ∃ a n c, u4 = .slice a n c := by
                obtain ⟨us, hus, _⟩ := HLV.out.acc
                obtain ⟨a, c, h⟩ := row_slice hus
                exact ⟨_, _, _, h⟩
              obtain ⟨z5a, z5n, z5c, hz4⟩ := hz4
              subst hz4
              clear HLV
              go_wp2_with fail
              go_roundw
              case rel => exact ⟨q + 1, by omega, by go_num, HLV4⟩
              case measure => simp [intOf]; omega
        · obtain rfl : q = Ls.length := by omega
          obtain ⟨us, hus, hrs⟩ := HLV.out.acc
          have HO2 : Hid (∃ vs, wr.ownsRow w.heap.size 24 1 u4 (lvlS A (s + 1)).length vs ∧ RowsO w.heap.size wr vs (lvlS A (s + 1))) := by
            have h1 := own_less hus HLV.out.base
            rw [HGE1.out] at h1 hrs
            exact ⟨us, h1, hrs⟩
          have HBF := Lib.hid HLV.out.bel
          obtain ⟨za, zc, hz4⟩ := row_slice hus
          subst hz4
          clear hus hrs HLV
          go_wp2_with fail
          go_roundw
          case rel => exact ⟨s + 1, by omega, by go_num, HO2, HBF⟩
          case measure => simp [intOf]; omega
    · obtain rfl : s = A.length := by omega
      obtain ⟨vs, ho, hr⟩ := HO.out
      have HWH := Lib.hid (refWhole_any (.slice aa A.length ac) u3 A (lvlS A A.length) vs w.heap.size wr (HAV.out.below HB.out (Nat.le_refl _)) HA.out hal ho hr (HLF.out A.length (Nat.le_refl _)).2 (HLF.out A.length (Nat.le_refl _)).1 HB.out.size)
      rw [HFIN.out] at HWH
      obtain ⟨ya, yc, hy3⟩ := row_slice ho
      subst hy3
      clear HO ho hr HLF HGB HGE
      generalize (lvlS A A.length).length = m at *
      go_wp2_with fail
      refine HWH.out.mono ?_
      rintro e w2 ⟨v, us, rfl, g1, g2, g3⟩
      have HG1 := Lib.hid (Rd.of_row g1)
      have HG2 := Lib.hid g2
      have HG3 := Lib.hid (HB.out.trans (g3.mono HB.out.size))
      obtain ⟨va, vc, rfl⟩ := row_slice g1
      clear g1 g2 g3
      go_wp2
      go_ret
      exact ⟨_, us, rfl, HG1.out, HG2.out, HG3.out⟩
end Go.Proofs.YtmnblljenobofaaGreatDoor
/- The walks of package unique's sourcesOf and Sources. -/
namespace Go.Proofs.YtmnblljenobofaaGreatDoor.WPlain
end Go.Proofs.YtmnblljenobofaaGreatDoor.WPlain
namespace Go.Proofs.YtmnblljenobofaaGreatDoor.QPlain
end Go.Proofs.YtmnblljenobofaaGreatDoor.QPlain
namespace Go.Proofs.YtmnblljenobofaaGreatDoor.RPlain
end Go.Proofs.YtmnblljenobofaaGreatDoor.RPlain
namespace Go.Proofs.YtmnblljenobofaaGreatDoor.RPlain
open WPlain QPlain

/-- the source of an Op, by the table of writers -/
def srcR (S : Wrt) (t : Nat) (ops : List Rwo) (i : Nat) : Int := match ops[i]? with
  | some o => if o.w = true ∨ ownsB (ops.take i) o.v = true then (t : Int) else readW S t o
  | none => 0
def srcRow (S : Wrt) (t : Nat) (ops : List Rwo) (k : Nat) : List Int := (List.range k).map (srcR S t ops)
theorem srcRow_len (S : Wrt) (t : Nat) (ops : List Rwo) (k : Nat) : (srcRow S t ops k).length = k := by simp [srcRow]
theorem srcRow_snoc (S : Wrt) (t : Nat) (ops : List Rwo) (k : Nat) : srcRow S t ops (k + 1) = srcRow S t ops k ++ [srcR S t ops k] := by
  unfold srcRow
  rw [List.range_succ, List.map_append]
  rfl
theorem srcR_at {S : Wrt} {t : Nat} {ops : List Rwo} {k : Nat} (hk : k < ops.length) : srcR S t ops k = if ops[k].w = true ∨ ownsB (ops.take k) ops[k].v = true then (t : Int) else readW S t ops[k] := by
  unfold srcR
  rw [List.getElem?_eq_getElem hk]
theorem owns_take {ops : List Rwo} {k : Nat} (hk : k < ops.length) (v : Int) : ownsB (ops.take (k + 1)) v = (ownsB (ops.take k) v || (ops[k].w && decide (ops[k].v = v))) := by
  rw [List.take_succ_eq_append_getElem hk]
  unfold ownsB
  rw [List.any_append]
  simp
/-- all rows of sources, up to a transaction -/
def allR (l : List Tx) (k : Nat) : List (List Int) := (sourcesS l).take k
theorem sources_len (l : List Tx) : (sourcesS l).length = l.length := by simp [sourcesS]
theorem sources_at {l : List Tx} {S : Wrt} (h : Tells l S) {k : Nat} (hk : k < l.length) : (sourcesS l)[k]? = some (srcRow S k l[k].o l[k].o.length) := by
  have ho : opsAt l k = l[k].o := by unfold opsAt; rw [List.getElem?_eq_getElem hk]
  unfold sourcesS
  rw [List.getElem?_map, List.getElem?_range hk]
  simp only [Option.map_some, Option.some.injEq]
  rw [ho]
  unfold srcRow
  refine List.map_congr_left fun i hi => ?_
  have hil : i < l[k].o.length := List.mem_range.1 hi
  rw [srcR_at hil]
  have h1 := src_table h (t := k) (i := i) (o := l[k].o[i]) (by rw [ho]; exact List.getElem?_eq_getElem hil)
  rw [h1, ho]
theorem allR_snoc {l : List Tx} {S : Wrt} (h : Tells l S) {k : Nat} (hk : k < l.length) : allR l (k + 1) = allR l k ++ [srcRow S k l[k].o l[k].o.length] := by
  have h1 := sources_at h hk
  have hk2 : k < (sourcesS l).length := by rw [sources_len]; exact hk
  rw [List.getElem?_eq_getElem hk2, Option.some.injEq] at h1
  unfold allR
  rw [List.take_succ_eq_append_getElem hk2, h1]
theorem allR_all (l : List Tx) : allR l l.length = sourcesS l := by
  unfold allR
  rw [← sources_len l, List.take_length]
end Go.Proofs.YtmnblljenobofaaGreatDoor.RPlain
namespace Go.Proofs.YtmnblljenobofaaGreatDoor
open Go.RowKit WPlain QPlain RPlain

/-- the cells of an array of eight bools -/
def bools8 (f : Int → Bool) : Array Value := #[.bool (f 0), .bool (f 1), .bool (f 2), .bool (f 3), .bool (f 4), .bool (f 5), .bool (f 6), .bool (f 7)]
theorem bools8_at (f : Int → Bool) : ∀ v : Nat, v < 8 → (bools8 f)[v]? = some (.bool (f (v : Int)))
  | 0, _ | 1, _ | 2, _ | 3, _ | 4, _ | 5, _ | 6, _ | 7, _ => by simp [bools8]
  | n + 8, h => by omega
theorem bools8_set (f g : Int → Bool) : ∀ v : Nat, v < 8 → (∀ u : Int, g u = (f u || decide ((v : Int) = u))) → (bools8 f).setIfInBounds v (.bool true) = bools8 g
  | 0, _, h | 1, _, h | 2, _, h | 3, _, h | 4, _, h | 5, _, h | 6, _, h | 7, _, h => by simp [bools8, h]
  | n + 8, h, _ => by omega
set_option maxRecDepth 100000 in
set_option maxHeartbeats 4000000 in
theorem sourcesOf_any (t M k0 : Nat) (v : Value) (ops : List Rwo) (S : Wrt) (w : World) (hm : WMap w M k0 S) (ho : Opv w v ops) (hok : ∀ o ∈ ops, (0 ≤ o.v ∧ o.v ≤ 7) ∧ (Lit.int .i64 o.v).wf = true ∧ (Lit.int .i64 o.x).wf = true) (hk : ops.length ≤ 60) :
    Calls Tryz.prog 119 #[.int .i64 (t : Int), v, .map (some M)] w fun e w' => ∃ v', e = .returned v' ∧ w'.ownsRow w.heap.size 3 1 v' ops.length (ints (srcRow S t ops ops.length)) ∧ Below w.heap.size w w' := by
  obtain ⟨i0, hi0, hz0, hz1, hz2⟩ := info_parts info3
  obtain ⟨oa, oc, rfl, hoc⟩ := ho.len
  have HO := Lib.hid ho
  have HM := Lib.hid hm
  have HOK := Lib.hid hok
  have HSR := Lib.hid (fun (k : Nat) (hk : k < ops.length) => srcR_at (S := S) (t := t) hk)
  have HSN := Lib.hid (fun (k : Nat) => srcRow_snoc S t ops k)
  have HOT := Lib.hid (fun (k : Nat) (hk : k < ops.length) (v : Int) => owns_take hk v)
  have HA0 : Hid (At (w.alloc (.cells (bools8 fun _ => false) 160)) w.heap.size (bools8 (ownsB (ops.take 0))) 160) := At.new w _ _
  have HB0 := Lib.hid ((Below.refl w.heap.size w).alloc (Nat.le_refl _) (.cells (bools8 fun _ => false) 160))
  have HW0 : Hid ((w.alloc (.cells (bools8 fun _ => false) 160)).ownsRow w.heap.size 3 1 (.slice none 0 0) 0 (ints (srcRow S t ops 0))) := World.ownsRow_nil _ _ _ _
  clear ho hm hok
  unfold bools8 at HA0 HB0 HW0
  go_enter Tryz.func119, Tryz.ntmps119
  go_wp2_with fail
  go_loopw [8, 13] (fun z x wr => ∃ k : Nat, k ≤ ops.length ∧ x = .int .i64 k ∧ Hid (At wr w.heap.size (bools8 (ownsB (ops.take k))) 160) ∧ Hid (wr.ownsRow w.heap.size 3 1 z k (ints (srcRow S t ops k))) ∧ Hid (Below w.heap.size w wr)) (fun _ x _ => ops.length - (intOf x).toNat)
  case atStart => exact ⟨0, by omega, rfl, HA0, HW0, HB0⟩
  case round =>
    clear HA0 HW0 HB0
    obtain ⟨k, hkl, rfl, HA, HW, HB⟩ := hrel
    by_cases hlt : k < ops.length
    · obtain ⟨b, o, rfl, hbl, c0, c1, c2⟩ := Opv.at (HO.out.below HB.out (Nat.le_refl _)) k hlt
      have hwf := HOK.out _ (List.getElem_mem hlt)
      have hsr := HSR.out k hlt
      have hsn := HSN.out k
      have hot := HOT.out k hlt
      have HMW := Lib.hid (fun (W : World) (hW : Below w.heap.size w W) => HM.out.below hW)
      have hNW := HA.out.lt
      generalize ops[k] = O at *
      obtain ⟨ow, ov, ox⟩ := O
      dsimp only at *
      obtain ⟨j, rfl⟩ : ∃ j : Nat, ov = (j : Int) := ⟨ov.toNat, by omega⟩
      have hj8 : j < 8 := by omega
      have hj0 : (0 : Int) ≤ (j : Int) := by omega
      have hj1 : (j : Int) < 8 := by omega
      have HWF := Lib.hid hwf.2
      have HSN := Lib.hid hsn
      have HA2 := Lib.hid (HA.out.alloc (.cells #[.bool ow, .int .i64 (j : Int), .int .i64 ox] 82))
      have HB2 := Lib.hid (HB.out.alloc HB.out.size (.cells #[.bool ow, .int .i64 (j : Int), .int .i64 ox] 82))
      have HW2 := Lib.hid (HW.out.alloc (.cells #[.bool ow, .int .i64 (j : Int), .int .i64 ox] 82))
      have hfr := HA2.out.free j
      have hec := HA2.out.cell (bools8_at (ownsB (ops.take k)) j hj8)
      obtain ⟨za, zc, hz⟩ := row_slice HW.out
      subst hz
      have hlr : (ints (srcRow S t ops k)).length = k := by simp [ints, srcRow_len]
      have hkoc : (k : Int) ≤ (oc : Int) := by omega
      clear hwf hsn
      cases ow with
      | true =>
        have hs1 : srcR S t ops k = (t : Int) := by rw [hsr, if_pos (.inl rfl)]
        have hA3 := HA.out.set j (.bool true)
        rw [bools8_set (ownsB (ops.take k)) (ownsB (ops.take (k + 1))) j hj8 (fun u => by rw [hot u]; simp)] at hA3
        replace hA3 := hA3.alloc (.cells #[.bool true, .int .i64 (j : Int), .int .i64 ox] 82)
        have e0 := hA3.cell (bools8_at (ownsB (ops.take (k + 1))) j hj8)
        have hgj : ownsB (ops.take (k + 1)) (j : Int) = true := by rw [hot]; simp
        rw [hgj] at e0
        have hW3 := (own_only HW.out (Only.setCell (Only.refl (fun b => b = w.heap.size) wr) (p := ⟨w.heap.size, j, none⟩) (fun _ => rfl) (.bool true)) (fun b hb hc => by subst hc; exact row_not HW.out HA.out (by decide) hb)).alloc (.cells #[.bool true, .int .i64 (j : Int), .int .i64 ox] 82)
        have hB3 := (HB.out.setCell (p := ⟨w.heap.size, j, none⟩) (Nat.le_refl _) (.bool true)).alloc (by simpa [World.setCell] using HB.out.size) (.cells #[.bool true, .int .i64 (j : Int), .int .i64 ox] 82)
        have hE3 := At.new (wr.setCell ⟨w.heap.size, j, none⟩ (.bool true)) #[.bool true, .int .i64 (j : Int), .int .i64 ox] 82
        rw [show (wr.setCell ⟨w.heap.size, j, none⟩ (.bool true)).heap.size = wr.heap.size from by simp [World.setCell]] at hE3
        have e1 := hE3.cell (i := 1) (v := .int .i64 (j : Int)) rfl
        have HA3 := Lib.hid hA3
        have HW3 := Lib.hid hW3
        have HB3 := Lib.hid hB3
        rw [hs1] at HSN
        clear hs1 hsr hot hgj hA3 hW3 hB3 HA2 HW2 HB2 HMW hlr HA HB HW hE3
        go_upto_region 8 with fail
        generalize (wr.setCell ⟨w.heap.size, j, none⟩ (.bool true)).alloc (.cells #[.bool true, .int .i64 (j : Int), .int .i64 ox] 82) = w3 at *
        clear c0 c1 c2 hfr hec
        have HW4 := Lib.hid (HW3.out.alloc (.cells #[.int .i64 (t : Int)] 3))
        have HA4 := Lib.hid (HA3.out.alloc (.cells #[.int .i64 (t : Int)] 3))
        have HB4 := Lib.hid (HB3.out.alloc HB3.out.size (.cells #[.int .i64 (t : Int)] 3))
        go_wp2_with (at_builtin; refine wpList_append_own _ rfl _ _ 24 rfl w.heap.size 3 i0 (.int .i64 0) 1 8 Tryz.underlying24 hi0 hz0 hz1 hz2 rfl (by decide) (.slice za k zc) k (ints (srcRow S t ops k)) rfl HW4.out ⟨w3.heap.size, 0, none⟩ 1 1 [.int .i64 (t : Int)] rfl rfl (cell_one_at _ _ _) (one_int _ _) (by unfold maxLen; omega) (by omega) HB4.out.size ?_; intro v2 w4 ho2 hg2 _)
        have HA5 := Lib.hid (HA4.out.grown hg2 (fun hc => row_not HW4.out HA4.out (by decide) hc.symm))
        have HB5 := Lib.hid (HB4.out.grown hg2 HB4.out.size (fun x hx => (HW4.out.lt x hx).1))
        have HW5 : Hid (w4.ownsRow w.heap.size 3 1 v2 (k + 1) (ints (srcRow S t ops (k + 1)))) := by
          unfold Hid
          rw [HSN.out]
          simpa [ints] using ho2
        obtain ⟨v2a, v2c, hz⟩ := row_slice HW5.out
        subst hz
        clear ho2 hg2
        go_wp2
        go_roundw
        case rel => exact ⟨k + 1, by omega, by go_num, HA5, HW5, HB5⟩
        case measure => simp [intOf]; omega
      | false =>
        have hgj : ∀ u, ownsB (ops.take (k + 1)) u = ownsB (ops.take k) u := fun u => by rw [hot u]; simp
        have hff : ownsB (ops.take (k + 1)) = ownsB (ops.take k) := funext hgj
        have hE3 := At.new wr #[.bool false, .int .i64 (j : Int), .int .i64 ox] 82
        have e1 := hE3.cell (i := 1) (v := .int .i64 (j : Int)) rfl
        have HE3 := Lib.hid hE3
        have HA3 := Lib.hid HA2.out
        have HW3 := Lib.hid HW2.out
        have HB3 := Lib.hid HB2.out
        rw [← hff] at HA3
        clear hgj hff hot hlr HA HB HW HA2 HB2 HW2 hE3
        obtain ⟨r, hr⟩ : ∃ r, ownsB (ops.take k) (j : Int) = r := ⟨_, rfl⟩
        rw [hr] at hec hsr
        clear hr
        go_upto_region 8 with fail
        have e2 : (wr.alloc (.cells #[.bool false, .int .i64 (j : Int), .int .i64 ox] 82)).cell? ⟨wr.heap.size, 0, none⟩ = some (.bool false) := HE3.out.cell (i := 0) rfl
        have e3 : (wr.alloc (.cells #[.bool false, .int .i64 (j : Int), .int .i64 ox] 82)).cell? ⟨wr.heap.size, 2, none⟩ = some (.int .i64 ox) := HE3.out.cell (i := 2) rfl
        generalize wr.alloc (.cells #[.bool false, .int .i64 (j : Int), .int .i64 ox] 82) = w3 at *
        clear c0 c1 c2 hfr HE3
        cases r with
        | true =>
          have hs1 : srcR S t ops k = (t : Int) := by rw [hsr, if_pos (.inr rfl)]
          rw [hs1] at HSN
          clear hs1 hsr HMW
          have HW4 := Lib.hid (HW3.out.alloc (.cells #[.int .i64 (t : Int)] 3))
          have HA4 := Lib.hid (HA3.out.alloc (.cells #[.int .i64 (t : Int)] 3))
          have HB4 := Lib.hid (HB3.out.alloc HB3.out.size (.cells #[.int .i64 (t : Int)] 3))
          go_wp2_with (at_builtin; refine wpList_append_own _ rfl _ _ 24 rfl w.heap.size 3 i0 (.int .i64 0) 1 8 Tryz.underlying24 hi0 hz0 hz1 hz2 rfl (by decide) (.slice za k zc) k (ints (srcRow S t ops k)) rfl HW4.out ⟨w3.heap.size, 0, none⟩ 1 1 [.int .i64 (t : Int)] rfl rfl (cell_one_at _ _ _) (one_int _ _) (by unfold maxLen; omega) (by omega) HB4.out.size ?_; intro v2 w4 ho2 hg2 _)
          have HA5 := Lib.hid (HA4.out.grown hg2 (fun hc => row_not HW4.out HA4.out (by decide) hc.symm))
          have HB5 := Lib.hid (HB4.out.grown hg2 HB4.out.size (fun x hx => (HW4.out.lt x hx).1))
          have HW5 : Hid (w4.ownsRow w.heap.size 3 1 v2 (k + 1) (ints (srcRow S t ops (k + 1)))) := by
            unfold Hid
            rw [HSN.out]
            simpa [ints] using ho2
          obtain ⟨v2a, v2c, hz⟩ := row_slice HW5.out
          subst hz
          clear ho2 hg2
          go_wp2
          go_roundw
          case rel => exact ⟨k + 1, by omega, by go_num, HA5, HW5, HB5⟩
          case measure => simp [intOf]; omega
        | false =>
          have hs1 : srcR S t ops k = readW S t ⟨false, (j : Int), ox⟩ := by rw [hsr, if_neg (by simp)]
          rw [hs1] at HSN
          have HSO := Lib.hid (sourceOf_any t ⟨false, (j : Int), ox⟩ M k0 S w3 (HMW.out _ HB3.out) HWF.out.1 HWF.out.2)
          clear hs1 hsr HMW HWF
          generalize readW S t ⟨false, (j : Int), ox⟩ = y at *
          dsimp only at HSO
          go_wp2_with fail
          refine HSO.out.mono ?_
          rintro e w6 ⟨rfl, hb6⟩
          have HA6 := Lib.hid (HA3.out.below hb6 HA3.out.lt)
          have HW6 := Lib.hid (row_belowT HW3.out hb6)
          have HB6 := Lib.hid (HB3.out.trans (hb6.mono HB3.out.size))
          clear hb6 HA3 HW3 HB3 HSO e1 e2 e3 hec
          have HW4 := Lib.hid (HW6.out.alloc (.cells #[.int .i64 y] 3))
          have HA4 := Lib.hid (HA6.out.alloc (.cells #[.int .i64 y] 3))
          have HB4 := Lib.hid (HB6.out.alloc HB6.out.size (.cells #[.int .i64 y] 3))
          go_wp2_with (at_builtin; refine wpList_append_own _ rfl _ _ 24 rfl w.heap.size 3 i0 (.int .i64 0) 1 8 Tryz.underlying24 hi0 hz0 hz1 hz2 rfl (by decide) (.slice za k zc) k (ints (srcRow S t ops k)) rfl HW4.out ⟨w6.heap.size, 0, none⟩ 1 1 [.int .i64 y] rfl rfl (cell_one_at _ _ _) (one_int _ _) (by unfold maxLen; omega) (by omega) HB4.out.size ?_; intro v2 w4 ho2 hg2 _)
          have HA5 := Lib.hid (HA4.out.grown hg2 (fun hc => row_not HW4.out HA4.out (by decide) hc.symm))
          have HB5 := Lib.hid (HB4.out.grown hg2 HB4.out.size (fun x hx => (HW4.out.lt x hx).1))
          have HW5 : Hid (w4.ownsRow w.heap.size 3 1 v2 (k + 1) (ints (srcRow S t ops (k + 1)))) := by
            unfold Hid
            rw [HSN.out]
            simpa [ints] using ho2
          obtain ⟨v2a, v2c, hz⟩ := row_slice HW5.out
          subst hz
          clear ho2 hg2
          go_wp2
          go_roundw
          case rel => exact ⟨k + 1, by omega, by go_num, HA5, HW5, HB5⟩
          case measure => simp [intOf]; omega
    · obtain rfl : k = ops.length := by omega
      have HW5 := HW
      obtain ⟨za, zc, hz⟩ := row_slice HW.out
      subst hz
      clear HW
      go_wp2
      go_ret
      exact ⟨_, rfl, HW5.out, HB.out⟩
end Go.Proofs.YtmnblljenobofaaGreatDoor
