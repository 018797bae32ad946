/- The walk of TableGrows. -/
import Derived.Test.YtpbkieeheepelaaDoorTabR
import Derived.Test.YtpbkieeheepelaaDoorTabN
namespace Go.Proofs.YtpbkieeheepelaaDoor.WPlain
end Go.Proofs.YtpbkieeheepelaaDoor.WPlain
namespace Go.Proofs.YtpbkieeheepelaaDoor.QPlain
end Go.Proofs.YtpbkieeheepelaaDoor.QPlain
namespace Go.Proofs.YtpbkieeheepelaaDoor.RPlain
end Go.Proofs.YtpbkieeheepelaaDoor.RPlain
namespace Go.Proofs.YtpbkieeheepelaaDoor
open Go.RowKit WPlain QPlain RPlain

set_option maxRecDepth 100000 in
set_option maxHeartbeats 8000000 in
theorem grows_walk (a : Option Addr) (n m c : Nat) (h : List Ev) (k : Int) (K : Nat) (w : World) (hK : HasK w) (hn : n ≤ c) (HAE : Hid ((min (n : Int) 65).toNat = m)) (hmn : m ≤ n) (hv : Evs w (.slice a m c) h) (h1 : h.length = m) (hm1 : m ≤ 65)
    (HKE : Hid ((wrap64 (wrap64 (k.tmod ((m : Int) + 1) + (m : Int)) + 1)).tmod ((m : Int) + 1) = (K : Int))) (hKm : K ≤ m) :
    Calls Tryd.prog 5 #[.slice a n c, .int .i64 k] w fun e w' => e = .returned (.bool true) ∧ Below w.heap.size w w' := by
  have HK := Lib.hid hK
  have HT := Lib.hid (table_any _ h w hK hv (by omega))
  have HV := Lib.hid hv
  have HOS := Lib.hid (ops_small (h := h) (by omega))
  have HTL := Lib.hid (table_small (h := h) (by omega))
  have s1 : IntKind.i64.wrap ((m : Int) + 1) = ((m + 1 : Nat) : Int) := by rw [IntWalk.i64_in _ (by omega)]; omega
  have hm0 : ((m : Int) + 1 == 0) = false := by simp; omega
  have hm2 : (((m + 1 : Nat) : Int) == 0) = false := by simp; omega
  have hm3 : ¬ (((m + 1 : Nat) : Int) = 0) := by omega
  have hK0 : (0 : Int) ≤ (K : Int) := by omega
  have hKc : (K : Int) ≤ (c : Int) := by omega
  have HCK : Hid (Evs w (.slice a K c) (h.take K)) := evs_cutP hv K (by omega)
  clear hK hv
  by_cases h0 : (checkS h).2 = 0
  · have hck := check_cut h0 K (by omega)
    have HTK : Hid (∀ W, Below w.heap.size w W → Calls Tryd.prog 7 #[.slice a K c] W fun e w' => ∃ v', e = .returned (.tuple #[v', .int .i64 0]) ∧ Txs w' v' (tableS (h.take K)) ∧ Below W.heap.size W w') := fun W hW => by
      have h2 := table_any _ (h.take K) W (HK.out.later hW (Nat.le_refl _)) (HCK.out.below hW (Nat.le_refl _)) (by rw [List.length_take]; omega)
      rw [hck, if_pos rfl] at h2
      exact h2
    rw [h0, if_pos rfl] at HT
    have HCT := Lib.hid (names_cut h K)
    clear h0 hck HCK
    go_enter Tryd.func5, Tryd.ntmps5
    go_upto_region 2 with fail
    rw [HAE.out]
    go_upto_region 3 with fail
    rw [HKE.out]
    clear hm0 hm2 hm3 s1
    go_wp2_with fail
    refine HT.out.mono ?_
    rintro e w1 ⟨v1, rfl, hv1, hb1⟩
    have HB1 := Lib.hid hb1
    have HV1 := Lib.hid hv1
    have HBR := Lib.hid (Below.refl w1.heap.size w1)
    obtain ⟨a1, c1, rfl⟩ := hv1.len
    have hll := HTL.out
    clear hv1 hb1 HT
    go_wp2_with fail
    go_loopw [52] (fun x wr => ∃ i : Nat, i ≤ (tableS h).length ∧ x = .int .i64 i ∧ Hid (Below w1.heap.size w1 wr)) (fun x _ => (tableS h).length - (intOf x).toNat)
    case atStart => exact ⟨0, by omega, rfl, HBR⟩
    case round =>
      clear HBR
      obtain ⟨i, hi, rfl, HB⟩ := hrel
      by_cases hlt : i < (tableS h).length
      · have hlt2 : i < (namesOf h).length := by rw [tableS_len] at hlt; exact hlt
        have hv2 := HV1.out.below HB.out (Nat.le_refl _)
        obtain ⟨b, o, c', he⟩ := hv2.opened (by omega)
        obtain ⟨rfl, rfl⟩ : a1 = some ⟨b, o, none⟩ ∧ c1 = c' := by simpa using he
        clear he
        obtain ⟨u, x0, x1, x2, x3, x4, q⟩ := hv2.get i hlt
        have hX : (tableS h)[i] = txOf h (namesOf h)[i] := tableS_get hlt2
        have htm : (namesOf h)[i] ∈ namesOf h := List.getElem_mem hlt2
        rw [hX] at x0 x1 x2 x3 q
        have hfd := find_at hlt2
        have hfl := (fst_lst h _ htm).1
        have hbl := cell_lt x0
        have HPV : Hid (i = 0 ∨ ∃ (p : Nat) (F' : Int), i = p + 1 ∧ wr.cell? ⟨b, o + p * 5 + 1, none⟩ = some (.int .i64 F') ∧ F' < fstOf h (namesOf h)[i]) := by
          by_cases hi0 : i = 0
          · exact .inl hi0
          · obtain ⟨p, rfl⟩ : ∃ p, i = p + 1 := ⟨i - 1, by omega⟩
            obtain ⟨-, -, y1, -⟩ := hv2.get p (by omega)
            rw [tableS_get (by omega)] at y1
            exact .inr ⟨p, _, rfl, y1, rise_at hlt2 (Nat.lt_succ_self p)⟩
        generalize (namesOf h)[i] = t at *
        obtain ⟨ua, uc, rfl, huc⟩ := q.len
        replace x0 : wr.cell? ⟨b, o + i * 5, none⟩ = some (.int .i64 t) := x0
        replace x1 : wr.cell? ⟨b, o + i * 5 + 1, none⟩ = some (.int .i64 (fstOf h t)) := x1
        replace x2 : wr.cell? ⟨b, o + i * 5 + 2, none⟩ = some (.int .i64 (lstOf h t)) := x2
        replace x3 : wr.cell? ⟨b, o + i * 5 + 3, none⟩ = some (.int .i64 (txOf h t).s) := x3
        replace x4 : wr.cell? ⟨b, o + i * 5 + 4, none⟩ = some (.slice ua (opsOf h t).length uc) := x4
        have HCN : Hid ((opsOf h t).length = cnt (h.take h.length) t) := by unfold Hid; rw [List.take_length]; exact cnt_ops h t
        have HCQ : Hid (∀ j, cnt (h.take j) t ≤ 65) := fun j => Nat.le_trans (cnt_le _ _) (by rw [List.length_take]; omega)
        generalize fstOf h t = F at *
        generalize lstOf h t = L at *
        generalize (txOf h t).s = ss at *
        have hqq : (opsOf h t).length ≤ 65536 := Nat.le_trans (ops_le h t) (by omega)
        replace huc : (opsOf h t).length ≤ uc := huc
        obtain ⟨qn, hqn⟩ : ∃ qn, (opsOf h t).length = qn := ⟨_, rfl⟩
        rw [hqn] at x4 HCN hqq huc
        clear hqn q hX htm hv2
        have HBW := Lib.hid (HB1.out.trans (HB.out.mono HB1.out.size))
        have ba := (Below.refl wr.heap.size wr).alloc (Nat.le_refl _) (.cells #[.int .i64 t, .int .i64 F, .int .i64 L, .int .i64 ss, .slice ua qn uc] 39)
        have HB2 := Lib.hid (HBW.out.trans (ba.mono HBW.out.size))
        have HBl2 := Lib.hid (HB.out.trans (ba.mono HB.out.size))
        have HE := Lib.hid (At.new wr #[.int .i64 t, .int .i64 F, .int .i64 L, .int .i64 ss, .slice ua qn uc] 39)
        have HPW : Hid (i = 0 ∨ ∃ (p : Nat) (F' : Int), i = p + 1 ∧ (wr.alloc (.cells #[.int .i64 t, .int .i64 F, .int .i64 L, .int .i64 ss, .slice ua qn uc] 39)).cell? ⟨b, o + p * 5 + 1, none⟩ = some (.int .i64 F') ∧ F' < F) := by
          rcases HPV.out with h2 | ⟨p, F', h2, h3, h4⟩
          · exact .inl h2
          · exact .inr ⟨p, F', h2, (ba.cell (p := ⟨b, o + p * 5 + 1, none⟩) (cell_lt h3)).trans h3, h4⟩
        have HBB := Lib.hid (Below.refl (wr.alloc (.cells #[.int .i64 t, .int .i64 F, .int .i64 L, .int .i64 ss, .slice ua qn uc] 39)).heap.size (wr.alloc (.cells #[.int .i64 t, .int .i64 F, .int .i64 L, .int .i64 ss, .slice ua qn uc] 39)))
        clear ba HPV HB HBW
        go_upto_region 9 with fail
        generalize wr.alloc (.cells #[.int .i64 t, .int .i64 F, .int .i64 L, .int .i64 ss, .slice ua qn uc] 39) = w2 at *
        generalize wr.heap.size = N at *
        clear x0 x1 x2 x3 x4
        go_wp2_with fail
        go_loopw [9, 59] (fun y x wr => ∃ j : Nat, j ≤ h.length ∧ x = .int .i64 j ∧ y = .int .i64 (cnt (h.take j) t : Nat) ∧ Hid (Below w2.heap.size w2 wr)) (fun _ x _ => h.length - (intOf x).toNat)
        case atStart => exact ⟨0, by omega, rfl, rfl, HBB⟩
        case round =>
          clear HBB
          obtain ⟨j, hj, rfl, rfl, HBj⟩ := hrel
          have hcq := HCQ.out j
          by_cases hltj : j < h.length
          · have hcc := cnt_take hltj t
            have hvj := HV.out.below (HB2.out.trans (HBj.out.mono HB2.out.size)) (Nat.le_refl _)
            have hEj := HE.out.below HBj.out HE.out.lt
            have z0 := hEj.cell (i := 0) (v := .int .i64 t) rfl
            have hNl := hEj.lt
            rcases hvj with ⟨e0, _⟩ | ⟨l0, b', o', c', he, hbl', hc⟩
            · rw [e0] at hltj; simp at hltj
            · obtain ⟨rfl, rfl⟩ : a = some ⟨b', o', none⟩ ∧ c = c' := by
                simp only [Value.slice.injEq] at he
                exact ⟨he.1, he.2.2⟩
              clear he
              obtain ⟨c0, c1', c2, c3⟩ := hc j hltj
              clear hc
              generalize h[j] = ev at *
              generalize cnt (h.take j) t = cj at *
              have hE := At.new wr #[.int .i64 ev.k, .int .i64 ev.t, .int .i64 ev.v, .int .i64 ev.x] 41
              have e0 := hE.cell (i := 0) (v := .int .i64 ev.k) rfl
              have e1 := hE.cell (i := 1) (v := .int .i64 ev.t) rfl
              have HBj1 := Lib.hid (HBj.out.alloc HBj.out.size (.cells #[.int .i64 ev.k, .int .i64 ev.t, .int .i64 ev.v, .int .i64 ev.x] 41))
              clear hE hEj HBj
              by_cases het : ev.t = t
              · have tq : ((ev.t : Int) == t) = true := by simp [het]
                by_cases h3 : ev.k = 3
                · have t3 : ((ev.k : Int) == 3) = true := by simp [h3]
                  have HN2 : Hid (cnt (h.take (j + 1)) t = cj + 1) := by unfold Hid; rw [hcc]; unfold answers; simp [het, h3]
                  clear het h3 hcc
                  go_wp2
                  go_roundw
                  case rel => exact ⟨j + 1, by omega, by go_num, by rw [HN2.out]; go_num, HBj1⟩
                  case measure => simp [intOf]; omega
                · have t3 : ((ev.k : Int) == 3) = false := by simp [h3]
                  by_cases h5 : ev.k = 5
                  · have t5 : ((ev.k : Int) == 5) = true := by simp [h5]
                    have HN2 : Hid (cnt (h.take (j + 1)) t = cj + 1) := by unfold Hid; rw [hcc]; unfold answers; simp [het, h5]
                    clear het h3 h5 hcc
                    go_wp2
                    go_roundw
                    case rel => exact ⟨j + 1, by omega, by go_num, by rw [HN2.out]; go_num, HBj1⟩
                    case measure => simp [intOf]; omega
                  · have t5 : ((ev.k : Int) == 5) = false := by simp [h5]
                    have HN2 : Hid (cnt (h.take (j + 1)) t = cj) := by unfold Hid; rw [hcc]; unfold answers; simp [h3, h5]
                    clear het h3 h5 hcc
                    go_wp2
                    go_roundw
                    case rel => exact ⟨j + 1, by omega, by go_num, by rw [HN2.out], HBj1⟩
                    case measure => simp [intOf]; omega
              · have tq : ((ev.t : Int) == t) = false := by simp [het]
                have HN2 : Hid (cnt (h.take (j + 1)) t = cj) := by unfold Hid; rw [hcc]; unfold answers; simp [het]
                clear het hcc
                go_wp2
                go_roundw
                case rel => exact ⟨j + 1, by omega, by go_num, by rw [HN2.out], HBj1⟩
                case measure => simp [intOf]; omega
          · obtain rfl : j = h.length := by omega
            have hcn := HCN.out
            rw [← hcn]
            clear hcn hcq HCN HCQ
            have HV3 := Lib.hid (HV1.out.below (HBl2.out.trans (HBj.out.mono HBl2.out.size)) (Nat.le_refl _))
            have HFI := Lib.hid (find_any _ _ t wr HV3.out (by omega))
            rw [hfd] at HFI
            obtain ⟨w3, hw3⟩ : ∃ w3 : World, w3 = wr := ⟨wr, rfl⟩
            subst hw3
            clear hfd HV3
            have z0 := (HE.out.below HBj.out HE.out.lt).cell (i := 0) (v := .int .i64 t) rfl
            go_wp2_with fail
            clear z0
            refine HFI.out.mono ?_
            rintro e w4 ⟨rfl, hb4⟩
            have hB24 := HBj.out.trans (hb4.mono HBj.out.size)
            have hE4 := HE.out.below hB24 HE.out.lt
            have z1 := hE4.cell (i := 1) (v := .int .i64 F) rfl
            have z2 := hE4.cell (i := 2) (v := .int .i64 L) rfl
            have z4 := hE4.cell (i := 4) (v := .slice ua qn uc) rfl
            have HBl4 := Lib.hid (HBl2.out.trans (hB24.mono HBl2.out.size))
            have tfl : decide (L < F) = false := by simp; omega
            have tfl2 : ¬ (L < F) := by omega
            rcases HPW.out with hi0 | ⟨p, F', hip, hy, hF'⟩
            · subst hi0
              clear hB24 hE4 hb4 HFI HBj HPW
              go_wp2_with fail
              go_quiet (fail)
              go_wp2
              go_roundw
              case rel => exact ⟨1, by omega, by go_num, below_drN HBl4.out _⟩
              case measure => simp [intOf]; omega
            · have y1 := (hB24.cell (p := ⟨b, o + p * 5 + 1, none⟩) (cell_lt hy)).trans hy
              have sp : IntKind.i64.wrap ((i : Int) - 1) = (p : Int) := by rw [IntWalk.i64_in _ (by omega)]; omega
              have tff : decide (F ≤ F') = false := by simp; omega
              have tff2 : ¬ (F ≤ F') := by omega
              have hpi : p < (tableS h).length := by omega
              have hi0 : 0 < i := by omega
              have ti0 : decide ((0 : Int) < (i : Int)) = true := by simp; omega
              clear hB24 hE4 hb4 HFI HBj HPW hip hy
              go_wp2_with fail
              go_quiet (fail)
              go_wp2
              go_roundw
              case rel => exact ⟨i + 1, by omega, by go_num, below_drN HBl4.out _⟩
              case measure => simp [intOf]; omega
      · obtain rfl : i = (tableS h).length := by omega
        obtain ⟨w6, hw6⟩ : ∃ w6 : World, w6 = wr := ⟨wr, rfl⟩
        subst hw6
        have HBW := Lib.hid (HB1.out.trans (HB.out.mono HB1.out.size))
        have HV6 := Lib.hid (HV1.out.below HB.out (Nat.le_refl _))
        have hln := HCT.out.1
        have hgl : (tableS (h.take K)).length ≤ (tableS h).length := by rw [tableS_len, tableS_len]; exact hln
        have tgl : decide ((tableS h).length < (tableS (h.take K)).length) = false := by simp; omega
        have tgl2 : ¬ ((tableS h).length < (tableS (h.take K)).length) := by omega
        have HTX : Hid (∀ t ∈ namesOf (h.take K), fstOf h t = fstOf (h.take K) t ∧ lstOf (h.take K) t ≤ lstOf h t ∧ (opsOf (h.take K) t).length ≤ (opsOf h t).length ∧ (opsOf h t).take (opsOf (h.take K) t).length = opsOf (h.take K) t) := fun t ht => tx_cut h K t ht
        have hg65 : (h.take K).length ≤ 65 := by rw [List.length_take]; omega
        generalize h.take K = g at *
        clear hln HB HB1 HV1
        go_wp2_with fail
        refine (HTK.out _ HBW.out).mono ?_
        rintro e w7 ⟨v7, rfl, hv7, hb7⟩
        have HB7 := Lib.hid (HBW.out.trans (hb7.mono HBW.out.size))
        have HV7 := Lib.hid (HV6.out.below hb7 (Nat.le_refl _))
        have HW7 := Lib.hid hv7
        obtain ⟨a7, c7, rfl⟩ := hv7.len
        clear hv7 hb7 HTK HBW HV6
        go_wp2_with fail
        refine (aliveT_any _ (HK.out.later HB7.out (Nat.le_refl _))).mono ?_
        rintro e w8 ⟨rfl, hb8⟩
        have HB8 := Lib.hid (HB7.out.trans (hb8.mono HB7.out.size))
        have HV8 := Lib.hid (HV7.out.below hb8 (Nat.le_refl _))
        have HW8 := Lib.hid (HW7.out.below hb8 (Nat.le_refl _))
        have HBR := Lib.hid (Below.refl w8.heap.size w8)
        clear hb8 HB7 HV7 HW7 tgl tgl2
        go_wp2_with fail
        go_loopw [147] (fun x wr => ∃ i : Nat, i ≤ (tableS g).length ∧ x = .int .i64 i ∧ Hid (Below w8.heap.size w8 wr)) (fun x _ => (tableS g).length - (intOf x).toNat)
        case atStart => exact ⟨0, by omega, rfl, HBR⟩
        case round =>
          clear HBR
          obtain ⟨i, hi, rfl, HB⟩ := hrel
          have HBW := Lib.hid (HB8.out.trans (HB.out.mono HB8.out.size))
          by_cases hlt : i < (tableS g).length
          · have hlg : i < (namesOf g).length := by rw [tableS_len] at hlt; exact hlt
            have hlt2 : i < (tableS h).length := by omega
            have hlh : i < (namesOf h).length := by rw [tableS_len] at hlt2; exact hlt2
            have hv2 := HV8.out.below HB.out (Nat.le_refl _)
            have hg2 := HW8.out.below HB.out (Nat.le_refl _)
            obtain ⟨b, o, c', he⟩ := hv2.opened (by omega)
            obtain ⟨rfl, rfl⟩ : a1 = some ⟨b, o, none⟩ ∧ c1 = c' := by simpa using he
            clear he
            obtain ⟨b', o', c', he⟩ := hg2.opened (by omega)
            obtain ⟨rfl, rfl⟩ : a7 = some ⟨b', o', none⟩ ∧ c7 = c' := by simpa using he
            clear he
            obtain ⟨u, x0, x1, x2, x3, x4, q⟩ := hg2.get i hlt
            obtain ⟨v, y0, y1, y2, y3, y4, r⟩ := hv2.get i hlt2
            have hX : (tableS g)[i] = txOf g (namesOf g)[i] := tableS_get hlg
            have hY : (tableS h)[i] = txOf h (namesOf h)[i] := tableS_get hlh
            have hnn := HCT.out.2 i hlg hlh
            rw [← hnn] at hY
            have htx := HTX.out _ (List.getElem_mem hlg)
            rw [hX] at x0 x1 x2 x3 q
            rw [hY] at y0 y1 y2 y3 r
            have hbl1 := cell_lt x0
            have hbl2 := cell_lt y0
            generalize (namesOf g)[i] = t at *
            obtain ⟨ua, uc, rfl, huc⟩ := q.len
            obtain ⟨va, vc, rfl, hvc⟩ := r.len
            replace x0 : wr.cell? ⟨b', o' + i * 5, none⟩ = some (.int .i64 t) := x0
            replace x1 : wr.cell? ⟨b', o' + i * 5 + 1, none⟩ = some (.int .i64 (fstOf g t)) := x1
            replace x2 : wr.cell? ⟨b', o' + i * 5 + 2, none⟩ = some (.int .i64 (lstOf g t)) := x2
            replace x3 : wr.cell? ⟨b', o' + i * 5 + 3, none⟩ = some (.int .i64 (txOf g t).s) := x3
            replace x4 : wr.cell? ⟨b', o' + i * 5 + 4, none⟩ = some (.slice ua (opsOf g t).length uc) := x4
            replace y0 : wr.cell? ⟨b, o + i * 5, none⟩ = some (.int .i64 t) := y0
            replace y1 : wr.cell? ⟨b, o + i * 5 + 1, none⟩ = some (.int .i64 (fstOf h t)) := y1
            replace y2 : wr.cell? ⟨b, o + i * 5 + 2, none⟩ = some (.int .i64 (lstOf h t)) := y2
            replace y3 : wr.cell? ⟨b, o + i * 5 + 3, none⟩ = some (.int .i64 (txOf h t).s) := y3
            replace y4 : wr.cell? ⟨b, o + i * 5 + 4, none⟩ = some (.slice va (opsOf h t).length vc) := y4
            replace hvc : (opsOf h t).length ≤ vc := hvc
            replace q : Opv wr (.slice ua (opsOf g t).length uc) (opsOf g t) := q
            replace r : Opv wr (.slice va (opsOf h t).length vc) (opsOf h t) := r
            have hr := r.cut (opsOf g t).length htx.2.2.1
            rw [htx.2.2.2] at hr
            rw [htx.1] at y1
            have hll2 := htx.2.1
            have hol := htx.2.2.1
            have hqs : (opsOf g t).length ≤ 65536 := Nat.le_trans (ops_le g t) (by omega)
            clear htx hnn hX hY hg2 hv2
            generalize fstOf g t = F at *
            generalize lstOf g t = L at *
            generalize lstOf h t = L2 at *
            generalize (txOf g t).s = ss at *
            generalize (txOf h t).s = s2 at *
            obtain ⟨hn2, hhn2⟩ : ∃ hn2, (opsOf h t).length = hn2 := ⟨_, rfl⟩
            rw [hhn2] at y4 hvc hol
            clear r hhn2
            have bb := ((Below.refl wr.heap.size wr).alloc (Nat.le_refl _) (.cells #[.int .i64 t, .int .i64 F, .int .i64 L, .int .i64 ss, .slice ua (opsOf g t).length uc] 39)).alloc (by simp) (.cells #[.int .i64 t, .int .i64 F, .int .i64 L2, .int .i64 s2, .slice va hn2 vc] 39)
            have HBB := Lib.hid (HB.out.trans (bb.mono HB.out.size))
            have hE := (At.new wr #[.int .i64 t, .int .i64 F, .int .i64 L, .int .i64 ss, .slice ua (opsOf g t).length uc] 39).alloc (.cells #[.int .i64 t, .int .i64 F, .int .i64 L2, .int .i64 s2, .slice va hn2 vc] 39)
            have hE2 := At.new (wr.alloc (.cells #[.int .i64 t, .int .i64 F, .int .i64 L, .int .i64 ss, .slice ua (opsOf g t).length uc] 39)) #[.int .i64 t, .int .i64 F, .int .i64 L2, .int .i64 s2, .slice va hn2 vc] 39
            simp only [World.size_alloc] at hE2
            have HE := Lib.hid hE
            have HE2 := Lib.hid hE2
            have HQ := Lib.hid (q.below bb (Nat.le_refl _))
            have HR := Lib.hid (hr.below bb (Nat.le_refl _))
            clear bb hE hE2 q hr HB HBW
            go_upto_region 27 with fail
            generalize ((wr.alloc (.cells #[.int .i64 t, .int .i64 F, .int .i64 L, .int .i64 ss, .slice ua (opsOf g t).length uc] 39)).alloc (.cells #[.int .i64 t, .int .i64 F, .int .i64 L2, .int .i64 s2, .slice va hn2 vc] 39)) = w9 at *
            generalize wr.heap.size = N at *
            clear x0 x1 x2 x3 x4 y0 y1 y2 y3 y4
            have HSM : Hid (∀ m, Calls Tryd.prog 16 #[.slice ua (opsOf g t).length uc, .slice va (opsOf g t).length vc] (w9.drewN m) fun e w' => e = .returned (.bool true) ∧ ∃ z, w' = (w9.drewN m).drewN z) := fun m => by
              have h2 := opsSame_any _ _ (opsOf g t) (opsOf g t) _ (HQ.out.drewN m) (HR.out.drewN m) hqs hqs
              rw [decide_eq_true rfl] at h2
              exact h2
            clear HQ HR
            obtain ⟨qn, hqn⟩ : ∃ qn, (opsOf g t).length = qn := ⟨_, rfl⟩
            rw [hqn] at HSM HE hol hqs ⊢
            clear hqn
            have x0 := HE.out.cell (i := 0) (v := .int .i64 t) rfl
            have x1 := HE.out.cell (i := 1) (v := .int .i64 F) rfl
            have x2 := HE.out.cell (i := 2) (v := .int .i64 L) rfl
            have x4 := HE.out.cell (i := 4) (v := .slice ua qn uc) rfl
            have y0 := HE2.out.cell (i := 0) (v := .int .i64 t) rfl
            have y1 := HE2.out.cell (i := 1) (v := .int .i64 F) rfl
            have y2 := HE2.out.cell (i := 2) (v := .int .i64 L2) rfl
            have y4 := HE2.out.cell (i := 4) (v := .slice va hn2 vc) rfl
            have tL : decide (L2 < L) = false := by simp; omega
            have tL2 : ¬ (L2 < L) := by omega
            have tq : decide (hn2 < qn) = false := by simp; omega
            have tq2 : ¬ (hn2 < qn) := by omega
            have hq0 : (0 : Int) ≤ (qn : Int) := by omega
            have hqc : (qn : Int) ≤ (vc : Int) := by omega
            go_wp2_with fail
            go_quiet ((go_at_call 16; first | exact Calls.quiet_of (HSM.out _) | exact quiet_at (HSM.out _)))
            go_wp2
            go_roundw
            case rel => exact ⟨i + 1, by omega, by go_num, below_drN HBB.out _⟩
            case measure => simp [intOf]; omega
          · go_wp2
            go_ret
            exact ⟨rfl, HBW.out⟩
  · rw [if_neg h0] at HT
    obtain ⟨er, her⟩ : ∃ er, (checkS h).2 = er := ⟨_, rfl⟩
    rw [her] at HT h0
    have te : ((er : Int) != 0) = true := by simp; omega
    clear her h0
    go_enter Tryd.func5, Tryd.ntmps5
    go_upto_region 2 with fail
    rw [HAE.out]
    go_upto_region 3 with fail
    rw [HKE.out]
    clear hm0 hm2 hm3 s1
    go_wp2_with fail
    refine HT.out.mono ?_
    rintro e w1 ⟨v1, rfl, hv1, hb1⟩
    have HB1 := Lib.hid hb1
    obtain ⟨a1, c1, rfl⟩ := hv1.len
    clear hv1 hb1 HT
    go_wp2_with fail
    refine (aliveT_any _ (HK.out.later HB1.out (Nat.le_refl _))).mono ?_
    rintro e w3 ⟨rfl, hb3⟩
    have HB3 := Lib.hid (HB1.out.trans (hb3.mono HB1.out.size))
    go_wp2
    go_ret
    exact ⟨rfl, HB3.out⟩
theorem grows_any (a : Option Addr) (n c : Nat) (h : List Ev) (k : Int) (w : World) (hK : HasK w) (hn : n ≤ c) (hv : Evs w (.slice a (min (n : Int) 65).toNat c) h) :
    Calls Tryd.prog 5 #[.slice a n c, .int .i64 k] w fun e w' => e = .returned (.bool true) ∧ Below w.heap.size w w' := by
  obtain ⟨m, hm⟩ : ∃ m, (min (n : Int) 65).toNat = m := ⟨_, rfl⟩
  rw [hm] at hv
  have hlen : h.length = m := hv.length.symm
  have hp1 : k.tmod ((m : Int) + 1) < (m : Int) + 1 := Int.tmod_lt_of_pos _ (by omega)
  have hp2 : -((m : Int) + 1) < k.tmod ((m : Int) + 1) := Int.lt_tmod_of_pos _ (by omega)
  obtain ⟨K, hK1, hK2⟩ : ∃ K : Nat, (wrap64 (wrap64 (k.tmod ((m : Int) + 1) + (m : Int)) + 1)).tmod ((m : Int) + 1) = (K : Int) ∧ K ≤ m := by
    generalize k.tmod ((m : Int) + 1) = p at *
    rw [IntWalk.wrap64_in (p + m) (by omega), IntWalk.wrap64_in (p + m + 1) (by omega)]
    obtain ⟨q, hq⟩ : ∃ q : Nat, p + m + 1 = (q : Int) := ⟨(p + m + 1).toNat, by omega⟩
    refine ⟨q % (m + 1), ?_, ?_⟩
    · rw [hq]
      exact (Int.ofNat_tmod q (m + 1)).symm
    · have := Nat.mod_lt q (show 0 < m + 1 by omega)
      omega
  exact grows_walk a n m c h k K w hK hn hm (by omega) hv hlen (by omega) hK1 hK2
end Go.Proofs.YtpbkieeheepelaaDoor
