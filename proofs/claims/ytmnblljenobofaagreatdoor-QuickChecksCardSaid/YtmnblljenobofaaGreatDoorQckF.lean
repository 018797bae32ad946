/- The walk of recantref19's Check. -/
import Derived.Test.YtmnblljenobofaaGreatDoorMg26
import Derived.Test.YtmnblljenobofaaGreatDoorMg27
import Derived.Test.YtmnblljenobofaaGreatDoorMg13
import Derived.Test.YtmnblljenobofaaGreatDoorMg22
import Derived.Test.YtmnblljenobofaaGreatDoorMg24
import Derived.Test.YtmnblljenobofaaGreatDoorGphP
import Derived.Test.YtmnblljenobofaaGreatDoorMg29
namespace Go.Proofs.YtmnblljenobofaaGreatDoor.WPlain
end Go.Proofs.YtmnblljenobofaaGreatDoor.WPlain
namespace Go.Proofs.YtmnblljenobofaaGreatDoor.QPlain
end Go.Proofs.YtmnblljenobofaaGreatDoor.QPlain
namespace Go.Proofs.YtmnblljenobofaaGreatDoor.RPlain
end Go.Proofs.YtmnblljenobofaaGreatDoor.RPlain
namespace Go.Proofs.YtmnblljenobofaaGreatDoor
open Go.RowKit WPlain QPlain RPlain

theorem RowsN.of_own {B : Nat} {w : World} {v : Value} {vs : List Value} {rows : List (List Nat)} (h : Rd w v vs) (hr : RowsO B w vs rows) : RowsN w v rows := ⟨vs, h, hr.1, fun i hi hi' => Rd.of_row (hr.2 i hi hi')⟩
theorem headD_zero {L : List (List Nat)} (h : 0 < L.length) : L.headD [] = L[0] := by
  cases L with
  | nil => exact absurd h (by simp)
  | cons x r => rfl
theorem build_smallR {l : List Tx} (h6 : l.length ≤ 6) (c : Nat) (row : List Nat) : ∀ a ∈ buildS l c row, a < 4294967296 := fun a ha => by
  have h1 := build_lt a ha
  rw [build_len] at h1
  have h2 : 2 ^ l.length ≤ 2 ^ 6 := Nat.pow_le_pow_right (by decide) h6
  omega
set_option maxRecDepth 100000 in
set_option maxHeartbeats 8000000 in
theorem refCheckQ_any (v : Value) (l : List Tx) (B : Nat) (w : World) (hv : Txs w v l) (hf : Fine l) (hB : B ≤ 1000000) :
    Calls Tryz.prog 9 #[v, .int .i64 (B : Int)] w fun e w' => ∃ rv, e = .returned (fndV (quickS B l).1 (quickS B l).2.1 rv (quickS B l).2.2.2) ∧ Rd w' rv (nats (quickS B l).2.2.1) ∧ Below w.heap.size w w' := by
  have h6 := hf.six
  have h64 := pow_le_64 h6
  obtain ⟨N, hN⟩ : ∃ N, w.heap.size = N := ⟨_, rfl⟩
  have hrn := rows_few (L := afterS l) (by rw [afterS_len]; exact h6)
  have hcn := choices_count l
  have HAF := Lib.hid (fun (W : World) (hW : Below N w W) => refAfter_any v l W (hv.below hW (by omega)) h6)
  have HALA := Lib.hid (fun (av : Value) (W : World) (hR : Rd W av (u32s (afterS l))) => refAllX_any av (afterS l) W hR (fun x hx => by have := after_lt l h6 x hx; omega) (by rw [afterS_len]; exact h6))
  have HCH := Lib.hid (fun (W : World) (hW : Below N w W) => refChoices_any v l W (hv.below hW (by omega)) (by omega))
  have HCP : Hid (∀ c ∈ choicesS l, c < 4294967296) := fun c hc => by
    rw [choices_chL h6] at hc
    have := (mem_chL.1 hc).1
    omega
  have HRE := Lib.hid (fun (c : Nat) (hc : c < 4294967296) (W : World) (hW : Below N w W) => refReadable_any v l c W (hv.below hW (by omega)) hf hc)
  have HBU : Hid (∀ (c : Nat) (row : List Nat) (ra : Option Addr) (rc : Nat) (W : World), c < 4294967296 → row ∈ allS (afterS l) → Below N w W → Rd W (.slice ra row.length rc) (nats row) →
      Calls Tryz.prog 14 #[v, .int .u32 (c : Int), .slice ra row.length rc] W fun e w' => ∃ v', e = .returned v' ∧ Rd w' v' (u32s (buildS l c row)) ∧ Below W.heap.size W w') := fun c row ra rc W h1 h2 h3 h4 =>
    refBuild17_any v l c ra rc row W (hv.below h3 (by omega)) hf h1 (by rw [nats_intsS] at h4; exact h4) (by have := all_len h2; rw [afterS_len] at this; omega)
  have HMY := Lib.hid (fun (c : Nat) (row : List Nat) (av : Value) (W : World) (hR : Rd W av (u32s (buildS l c row))) => refMayX_any av (buildS l c row) W hR (build_smallR h6 c row) (by rw [build_len]; omega))
  have HAL := Lib.hid (fun (c : Nat) (row : List Nat) (av : Value) (W : World) (hR : Rd W av (u32s (buildS l c row))) => refAllX_any av (buildS l c row) W hR (build_smallR h6 c row) (by rw [build_len]; omega))
  have HHM := Lib.hid (fun c row => hit_may h6 c row)
  have HPOS : Hid (∀ c row, mayE (buildS l c row) = 0 → 0 < (allS (buildS l c row)).length) := fun c row hm => allS_some (mayE_zero.1 hm).2.2
  have HSK : Hid (∀ i (hi : i < (choicesS l).length) s, readS l (choicesS l)[i] = false → quickG B l ((choicesS l).drop i) s = quickG B l ((choicesS l).drop (i + 1)) s) := fun i hi s hr => by
    rw [List.drop_eq_getElem_cons hi]
    exact quick_skip hr
  have HNX : Hid (∀ i (hi : i < (choicesS l).length) s, readS l (choicesS l)[i] = true → quickG B l ((choicesS l).drop i) s = nxtQ B l ((choicesS l).drop (i + 1)) (rowsQ B l (choicesS l)[i] ((allS (afterS l)).drop 0) s)) := fun i hi s hr => by
    rw [List.drop_eq_getElem_cons hi, List.drop_zero]
    exact quick_step hr
  have HEND : Hid (∀ s, quickG B l ((choicesS l).drop (choicesS l).length) s = (1, 0, [], s)) := fun s => by rw [List.drop_length]; rfl
  obtain ⟨x0, hx0⟩ : ∃ x0, quickS B l = x0 := ⟨_, rfl⟩
  rw [hx0]
  have HZ0 : Hid (quickG B l ((choicesS l).drop 0) 0 = x0) := by rw [List.drop_zero]; exact hx0
  obtain ⟨ea, ec, rfl⟩ := hv.len
  clear hv hf hx0 h64
  generalize choicesS l = cs at *
  generalize afterS l = A at *
  generalize allS A = rows at *
  generalize readS l = p at *
  obtain ⟨w1, hw1⟩ : ∃ w1, w.alloc (.cells #[.int .i64 0, .int .u32 0, .slice none 0 0, .int .i64 0] 26) = w1 := ⟨_, rfl⟩
  have HB1 : Hid (Below N w w1) := by
    rw [← hw1, ← hN]
    exact (Below.refl _ w).alloc (Nat.le_refl _) _
  have HA1 : Hid (At w1 N (fnd 0 0 (.slice none 0 0) 0) 26) := by
    rw [← hw1, ← hN]
    exact At.new w _ _
  have HNN := Lib.hid hN
  have HH6 := Lib.hid h6
  clear h6
  generalize l.length = ln at *
  go_enter Tryz.func9, Tryz.ntmps9
  go_wp2_with fail
  refine (HAF.out _ HB1.out).mono ?_
  rintro e w2 ⟨v2, rfl, hv2, hb2⟩
  have HF := Lib.hid (HALA.out _ _ hv2)
  have HB2 := Lib.hid hb2
  obtain ⟨a2, c2, rfl⟩ := hv2.len
  clear hv2 hb2 HAF HALA
  generalize (u32s A).length = an at *
  go_wp2_with fail
  refine HF.out.mono ?_
  rintro e w3 ⟨v3, vs3, rfl, hv3, ho3, hb3⟩
  have HR3 := Lib.hid (RowsN.of_own hv3 ho3)
  have HB3 := Lib.hid (HB2.out.trans (hb3.mono HB2.out.size))
  have hBN3 : Below N w w3 := HB1.out.trans (HB3.out.mono (Nat.le_of_lt HA1.out.lt))
  have HC3 := Lib.hid (HCH.out _ hBN3)
  obtain ⟨a3, c3, rfl⟩ := HR3.out.len
  clear hv3 ho3 hb3 HB2 HF HCH hBN3
  go_wp2_with fail
  refine HC3.out.mono ?_
  rintro e w4 ⟨v4, rfl, hv4, hb4⟩
  have HR4 := Lib.hid (HR3.out.below hb4)
  have HB4 := Lib.hid (HB3.out.trans (hb4.mono HB3.out.size))
  have HV4 := Lib.hid hv4
  obtain ⟨a4, c4, rfl⟩ := hv4.len
  rw [u32s_len] at HV4 ⊢
  have HA4 := Lib.hid (HA1.out.below HB4.out HA1.out.lt)
  have HBN : Hid (∀ W, Below w4.heap.size w4 W → Below N w W) := fun W hW => HB1.out.trans ((HB4.out.trans (hW.mono HB4.out.size)).mono (Nat.le_of_lt HA1.out.lt))
  have HBS := Lib.hid (Below.refl w4.heap.size w4)
  clear hv4 hb4 HC3 HR3 HB3
  go_wp2_with fail
  go_loopw [5, 18] (fun y x wr => ∃ i s : Nat, i ≤ cs.length ∧ x = .int .i64 i ∧ y = .int .i64 s ∧ s ≤ B ∧ Hid (quickG B l (cs.drop i) s = x0) ∧ Hid (Below w4.heap.size w4 wr)) (fun _ x _ => cs.length - (intOf x).toNat)
  case atStart => exact ⟨0, 0, by omega, rfl, rfl, by omega, HZ0, HBS⟩
  case round =>
    clear HZ0 HBS
    obtain ⟨i, s, hi, rfl, rfl, hs, HT, HB⟩ := hrel
    by_cases hlt : i < cs.length
    · obtain ⟨b, o, pc, he, hbl, hcells⟩ := (HV4.out.below HB.out (Nat.le_refl _)).opened (by rw [u32s_len]; omega)
      rw [u32s_len] at he
      simp only [Value.slice.injEq] at he
      obtain ⟨rfl, -, rfl⟩ := he
      have hcj := hcells i _ (u32s_get hlt)
      have hc32 := HCP.out _ (List.getElem_mem hlt)
      have HSK2 := Lib.hid (fun hr => (HSK.out i hlt s hr).symm.trans HT.out)
      have HNX2 := Lib.hid (fun hr => (HNX.out i hlt s hr).symm.trans HT.out)
      clear hcells hbl HT
      generalize cs[i] = ci at *
      have HRX := Lib.hid (HRE.out ci hc32 wr (HBN.out wr HB.out))
      have HBU2 := Lib.hid (fun (row : List Nat) (ra : Option Addr) (rc : Nat) (W : World) => HBU.out ci row ra rc W hc32)
      cases hrd : p ci with
      | false =>
        rw [hrd] at HRX
        have HT2 := Lib.hid (HSK2.out hrd)
        clear HSK2 HNX2 hrd HBU2
        go_wp2_with fail
        refine HRX.out.mono ?_
        rintro e w5 ⟨rfl, hb5⟩
        have HB5 := Lib.hid (HB.out.trans (hb5.mono HB.out.size))
        clear hb5 HRX HB hcj
        go_wp2_with fail
        go_roundw
        case rel => exact ⟨i + 1, s, by omega, by go_num, rfl, hs, HT2, HB5⟩
        case measure => simp [intOf]; omega
      | true =>
        rw [hrd] at HRX
        have HT2 := Lib.hid (HNX2.out hrd)
        clear HSK2 HNX2 hrd
        go_wp2_with fail
        refine HRX.out.mono ?_
        rintro e w5 ⟨rfl, hb5⟩
        have HB5 := Lib.hid (HB.out.trans (hb5.mono HB.out.size))
        clear hb5 HRX HB hcj
        go_wp2_with fail
        go_loopw [5, 28] (fun y x wr => ∃ j s : Nat, j ≤ rows.length ∧ x = .int .i64 j ∧ y = .int .i64 s ∧ s ≤ B ∧ Hid (nxtQ B l (cs.drop (i + 1)) (rowsQ B l ci (rows.drop j) s) = x0) ∧ Hid (Below w4.heap.size w4 wr)) (fun _ x _ => rows.length - (intOf x).toNat)
        case atStart => exact ⟨0, s, by omega, rfl, rfl, hs, HT2, HB5⟩
        case round =>
          clear HT2 HB5 hs
          obtain ⟨j, s, hj, rfl, rfl, hs, HT, HB⟩ := hrel
          by_cases hlt2 : j < rows.length
          · obtain ⟨b2, o2, ra, rc, rfl, hbl2, hcj0, hrr⟩ := HR4.out.get j hlt2
            have hcj2 := (HB.out.cell (p := ⟨b2, o2 + j, none⟩) (by exact hbl2)).trans hcj0
            have hrow := List.getElem_mem hlt2
            have HF := Lib.hid (HBU2.out rows[j] ra rc wr hrow (HBN.out wr HB.out) (hrr.below HB.out (Nat.le_refl _)))
            have hdr := List.drop_eq_getElem_cons hlt2
            have HTX := HT.out
            rw [hdr] at HTX
            clear hdr hrow hrr hbl2 hcj0 HT
            generalize rows[j] = row at *
            by_cases hsB : s = B
            · subst hsB
              rw [rowsQ_full] at HTX
              subst HTX
              clear HF HBU2 HBU
              have HA6 := Lib.hid (HA4.out.below HB.out HA4.out.lt)
              have HB6 := Lib.hid (HBN.out wr HB.out)
              have q0 : wr.cell? ⟨N, 0, none⟩ = some (.int .i64 0) := HA6.out.cell rfl
              have q1 : wr.cell? ⟨N, 1, none⟩ = some (.int .u32 0) := HA6.out.cell rfl
              have q2 : wr.cell? ⟨N, 2, none⟩ = some (.slice none 0 0) := HA6.out.cell rfl
              have q3 : wr.cell? ⟨N, 3, none⟩ = some (.int .i64 0) := HA6.out.cell rfl
              have f0 : wr.frozen? ⟨N, 0, none⟩ = false := HA6.out.free 0
              have f1 : wr.frozen? ⟨N, 1, none⟩ = false := HA6.out.free 1
              have f2 : wr.frozen? ⟨N, 2, none⟩ = false := HA6.out.free 2
              have f3 : wr.frozen? ⟨N, 3, none⟩ = false := HA6.out.free 3
              go_wp2_with fail
              have HZ7 : Hid (At ((((wr.setCell ⟨N, 0, none⟩ (.int .i64 2)).setCell ⟨N, 1, none⟩ (.int .u32 0)).setCell ⟨N, 2, none⟩ (.slice none 0 0)).setCell ⟨N, 3, none⟩ (.int .i64 (s : Int))) N (fnd 2 0 (.slice none 0 0) s) 26) := fnd_set (v' := 2) (c' := 0) (s' := s) HA6.out
              have HO7 := Lib.hid (fnd_only wr N (.int .i64 2) (.int .u32 0) (.slice none 0 0) (.int .i64 (s : Int)))
              generalize (((wr.setCell ⟨N, 0, none⟩ (.int .i64 2)).setCell ⟨N, 1, none⟩ (.int .u32 0)).setCell ⟨N, 2, none⟩ (.slice none 0 0)).setCell ⟨N, 3, none⟩ (.int .i64 (s : Int)) = w7 at *
              clear q0 q1 q2 q3 f0 f1 f2 f3
              have q0 : w7.cell? ⟨N, 0, none⟩ = some (.int .i64 2) := HZ7.out.cell rfl
              have q1 : w7.cell? ⟨N, 1, none⟩ = some (.int .u32 0) := HZ7.out.cell rfl
              have q2 : w7.cell? ⟨N, 2, none⟩ = some (.slice none 0 0) := HZ7.out.cell rfl
              have q3 : w7.cell? ⟨N, 3, none⟩ = some (.int .i64 (s : Int)) := HZ7.out.cell rfl
              have HB7 : Hid (Below N w w7) := HB6.out.trans (HO7.out.below (Nat.le_of_lt HA6.out.lt) (fun k _ hk => Nat.le_of_eq hk.symm))
              try rw [Exit.noGoto_ret]
              refine bodyPost_ret (v := fndV 2 0 (.slice none 0 0) s) (by simp [results, Tryz.results9, go_sem, q0, q1, q2, q3]; rfl) rfl ?_
              exact ⟨_, rfl, .inl ⟨rfl, _, _, rfl⟩, by first | exact HB7.out | (rw [HNN.out]; exact HB7.out)⟩
            · have HTM := Lib.hid (fun hh => (rowsQ_miss (r := cs.drop (i + 1)) (t := rows.drop (j + 1)) hsB hh).symm.trans HTX)
              have HTH := Lib.hid (fun hh => (rowsQ_hit (r := cs.drop (i + 1)) (t := rows.drop (j + 1)) hsB hh).symm.trans HTX)
              have tsB : ((s : Int) == (B : Int)) = false := by rw [beq_eq_false_iff_ne]; omega
              have hs2 : s + 1 ≤ B := by omega
              have HM2 := Lib.hid (HMY.out ci row)
              have HL2 := Lib.hid (HAL.out ci row)
              have HHX := Lib.hid (HHM.out ci row)
              have HPX := Lib.hid (HPOS.out ci row)
              clear HTX hsB HBU2 HBU
              generalize hrl : row.length = rl at *
              generalize hE : buildS l ci row = E at *
              go_wp2_with fail
              refine HF.out.mono ?_
              rintro e w6 ⟨v6, rfl, hv6, hb6⟩
              have HV6 := Lib.hid hv6
              have HMX := Lib.hid (HM2.out _ _ hv6)
              have HB6 := Lib.hid (HB.out.trans (hb6.mono HB.out.size))
              obtain ⟨a6, c6, rfl⟩ := hv6.len
              clear hv6 hb6 HF HB HM2 hcj2
              generalize (u32s E).length = en at *
              rcases HHX.out with ⟨hh, hm⟩ | ⟨hh, hm⟩
              · have HTX := HTH.out hh
                subst HTX
                rw [hm] at HMX
                have HPY := Lib.hid (HPX.out hm)
                clear HTM HTH hh hm HHX HPX
                go_wp2_with fail
                refine HMX.out.mono ?_
                rintro e w8 ⟨rfl, hb8⟩
                have HLX := Lib.hid (HL2.out _ _ (HV6.out.below hb8 (Nat.le_refl _)))
                have HB8 := Lib.hid (HB6.out.trans (hb8.mono HB6.out.size))
                clear hb8 HMX HB6 HL2 HV6
                go_wp2_with fail
                refine HLX.out.mono ?_
                rintro e w9 ⟨v9, vs9, rfl, hv9, ho9, hb9⟩
                have hp9 := HPY.out
                obtain ⟨b9, o9, c9, he9, hbl9, hcs9⟩ := hv9.opened (by rw [ho9.1]; exact hp9)
                obtain ⟨ra9, rc9, hg9, hr9⟩ := ho9.get hp9
                have hc9 := hcs9 0 _ hg9
                have hhd : (allS E).headD [] = (allS E)[0] := headD_zero hp9
                rw [Nat.add_zero] at hc9
                obtain ⟨vn9, hvn9⟩ : ∃ z, vs9.length = z := ⟨_, rfl⟩
                have hvp : 0 < vn9 := by rw [← hvn9, ho9.1]; exact hp9
                obtain ⟨F, hF⟩ : ∃ F, (allS E)[0] = F := ⟨_, rfl⟩
                rw [hF] at hr9 hc9 hhd
                have HR9 := Lib.hid (RdX.of_row (X := fun k => k < w8.heap.size) hr9 (fun k hk => hk))
                have HB9 := Lib.hid (HB8.out.trans (hb9.mono HB8.out.size))
                have HLW : Hid (N < w8.heap.size) := (HA4.out.below HB8.out HA4.out.lt).lt
                subst he9
                rw [hvn9]
                generalize hrn9 : F.length = rn9 at *
                clear hv9 ho9 hg9 hF hr9 hb9 hcs9 HLX HB8 HPY hvn9 hp9
                have HA6 := Lib.hid (HA4.out.below HB9.out HA4.out.lt)
                have HB6 := Lib.hid (HBN.out w9 HB9.out)
                have HHD := Lib.hid hhd
                clear hhd HB9
                have q0 : w9.cell? ⟨N, 0, none⟩ = some (.int .i64 0) := HA6.out.cell rfl
                have q1 : w9.cell? ⟨N, 1, none⟩ = some (.int .u32 0) := HA6.out.cell rfl
                have q2 : w9.cell? ⟨N, 2, none⟩ = some (.slice none 0 0) := HA6.out.cell rfl
                have q3 : w9.cell? ⟨N, 3, none⟩ = some (.int .i64 0) := HA6.out.cell rfl
                have f0 : w9.frozen? ⟨N, 0, none⟩ = false := HA6.out.free 0
                have f1 : w9.frozen? ⟨N, 1, none⟩ = false := HA6.out.free 1
                have f2 : w9.frozen? ⟨N, 2, none⟩ = false := HA6.out.free 2
                have f3 : w9.frozen? ⟨N, 3, none⟩ = false := HA6.out.free 3
                go_wp2_with fail
                have HZ7 : Hid (At ((((w9.setCell ⟨N, 0, none⟩ (.int .i64 0)).setCell ⟨N, 1, none⟩ (.int .u32 (ci : Int))).setCell ⟨N, 2, none⟩ (.slice ra9 rn9 rc9)).setCell ⟨N, 3, none⟩ (.int .i64 ((s : Int) + 1))) N (fnd 0 ci (.slice ra9 rn9 rc9) (s + 1)) 26) := fnd_set (v' := 0) (c' := ci) (s' := (s + 1)) HA6.out
                have HO7 := Lib.hid (fnd_only w9 N (.int .i64 0) (.int .u32 (ci : Int)) (.slice ra9 rn9 rc9) (.int .i64 ((s : Int) + 1)))
                generalize (((w9.setCell ⟨N, 0, none⟩ (.int .i64 0)).setCell ⟨N, 1, none⟩ (.int .u32 (ci : Int))).setCell ⟨N, 2, none⟩ (.slice ra9 rn9 rc9)).setCell ⟨N, 3, none⟩ (.int .i64 ((s : Int) + 1)) = w7 at *
                clear q0 q1 q2 q3 f0 f1 f2 f3
                have q0 : w7.cell? ⟨N, 0, none⟩ = some (.int .i64 0) := HZ7.out.cell rfl
                have q1 : w7.cell? ⟨N, 1, none⟩ = some (.int .u32 (ci : Int)) := HZ7.out.cell rfl
                have q2 : w7.cell? ⟨N, 2, none⟩ = some (.slice ra9 rn9 rc9) := HZ7.out.cell rfl
                have q3 : w7.cell? ⟨N, 3, none⟩ = some (.int .i64 ((s : Int) + 1)) := HZ7.out.cell rfl
                have HB7 : Hid (Below N w w7) := HB6.out.trans (HO7.out.below (Nat.le_of_lt HA6.out.lt) (fun k _ hk => Nat.le_of_eq hk.symm))
                have HR7 : Hid (RdX (fun k => k < w8.heap.size) w7 (.slice ra9 rn9 rc9) (nats F)) := HR9.out.only HO7.out (fun k hk => by show k < _; have := HLW.out; omega)
                try rw [Exit.noGoto_ret]
                refine bodyPost_ret (v := fndV 0 ci (.slice ra9 rn9 rc9) (s + 1)) (by simp [results, Tryz.results9, go_sem, q0, q1, q2, q3]; rfl) rfl ?_
                exact ⟨_, rfl, (by first | (show Rd w7 _ (nats ((allS E).headD [])); rw [HHD.out]; exact HR7.out.rd) | (show Rd w7 _ (nats ((allS E).head?.getD [])); rw [← List.headD_eq_head?_getD, HHD.out]; exact HR7.out.rd)), by first | exact HB7.out | (rw [HNN.out]; exact HB7.out)⟩
              · have HTX := Lib.hid (HTM.out hh)
                rw [hm] at HMX
                clear HTM HTH hh hm HHX HPX HPOS HL2
                go_wp2_with fail
                refine HMX.out.mono ?_
                rintro e w8 ⟨rfl, hb8⟩
                have HB8 := Lib.hid (HB6.out.trans (hb8.mono HB6.out.size))
                clear hb8 HMX HB6
                go_wp2_with fail
                go_roundw
                case rel => exact ⟨j + 1, s + 1, by omega, by go_num, by go_num, hs2, HTX, HB8⟩
                case measure => simp [intOf]; omega
          · obtain rfl : j = rows.length := by omega
            have HTX := HT.out
            rw [List.drop_length, rowsQ_end] at HTX
            have HT3 := Lib.hid HTX
            clear HTX HT
            go_wp2_with fail
            go_roundw
            case rel => exact ⟨i + 1, s, by omega, by go_num, rfl, hs, HT3, HB⟩
            case measure => simp [intOf]; omega
    · obtain rfl : i = cs.length := by omega
      have HTX := HT.out
      rw [HEND.out] at HTX
      subst HTX
      clear HT
      have HA6 := Lib.hid (HA4.out.below HB.out HA4.out.lt)
      have HB6 := Lib.hid (HBN.out wr HB.out)
      have q0 : wr.cell? ⟨N, 0, none⟩ = some (.int .i64 0) := HA6.out.cell rfl
      have q1 : wr.cell? ⟨N, 1, none⟩ = some (.int .u32 0) := HA6.out.cell rfl
      have q2 : wr.cell? ⟨N, 2, none⟩ = some (.slice none 0 0) := HA6.out.cell rfl
      have q3 : wr.cell? ⟨N, 3, none⟩ = some (.int .i64 0) := HA6.out.cell rfl
      have f0 : wr.frozen? ⟨N, 0, none⟩ = false := HA6.out.free 0
      have f1 : wr.frozen? ⟨N, 1, none⟩ = false := HA6.out.free 1
      have f2 : wr.frozen? ⟨N, 2, none⟩ = false := HA6.out.free 2
      have f3 : wr.frozen? ⟨N, 3, none⟩ = false := HA6.out.free 3
      go_wp2_with fail
      have HZ7 : Hid (At ((((wr.setCell ⟨N, 0, none⟩ (.int .i64 1)).setCell ⟨N, 1, none⟩ (.int .u32 0)).setCell ⟨N, 2, none⟩ (.slice none 0 0)).setCell ⟨N, 3, none⟩ (.int .i64 (s : Int))) N (fnd 1 0 (.slice none 0 0) s) 26) := fnd_set (v' := 1) (c' := 0) (s' := s) HA6.out
      have HO7 := Lib.hid (fnd_only wr N (.int .i64 1) (.int .u32 0) (.slice none 0 0) (.int .i64 (s : Int)))
      generalize (((wr.setCell ⟨N, 0, none⟩ (.int .i64 1)).setCell ⟨N, 1, none⟩ (.int .u32 0)).setCell ⟨N, 2, none⟩ (.slice none 0 0)).setCell ⟨N, 3, none⟩ (.int .i64 (s : Int)) = w7 at *
      clear q0 q1 q2 q3 f0 f1 f2 f3
      have q0 : w7.cell? ⟨N, 0, none⟩ = some (.int .i64 1) := HZ7.out.cell rfl
      have q1 : w7.cell? ⟨N, 1, none⟩ = some (.int .u32 0) := HZ7.out.cell rfl
      have q2 : w7.cell? ⟨N, 2, none⟩ = some (.slice none 0 0) := HZ7.out.cell rfl
      have q3 : w7.cell? ⟨N, 3, none⟩ = some (.int .i64 (s : Int)) := HZ7.out.cell rfl
      have HB7 : Hid (Below N w w7) := HB6.out.trans (HO7.out.below (Nat.le_of_lt HA6.out.lt) (fun k _ hk => Nat.le_of_eq hk.symm))
      try rw [Exit.noGoto_ret]
      refine bodyPost_ret (v := fndV 1 0 (.slice none 0 0) s) (by simp [results, Tryz.results9, go_sem, q0, q1, q2, q3]; rfl) rfl ?_
      exact ⟨_, rfl, .inl ⟨rfl, _, _, rfl⟩, by first | exact HB7.out | (rw [HNN.out]; exact HB7.out)⟩
end Go.Proofs.YtmnblljenobofaaGreatDoor
