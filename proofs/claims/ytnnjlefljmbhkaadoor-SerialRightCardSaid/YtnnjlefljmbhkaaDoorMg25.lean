/- Merged: SrlS, SrlN. -/
import Derived.Test.YtnnjlefljmbhkaaDoorMg22
import Derived.Test.YtnnjlefljmbhkaaDoorMg10
import Derived.Test.YtnnjlefljmbhkaaDoorMg19
/- Plain words: what SerialRight asks of what is found. -/
namespace Go.Proofs.YtnnjlefljmbhkaaDoor.WPlain
end Go.Proofs.YtnnjlefljmbhkaaDoor.WPlain
namespace Go.Proofs.YtnnjlefljmbhkaaDoor.QPlain
end Go.Proofs.YtnnjlefljmbhkaaDoor.QPlain
namespace Go.Proofs.YtnnjlefljmbhkaaDoor.RPlain
open WPlain QPlain

theorem expl_full {l : List Tx} {C : Nat} {R : List Nat} (h : Expl l (2 ^ l.length - 1) C R) : R.length = l.length := (allS_mem.1 (expl_all.1 h).1).1.trans (afterS_len l)
theorem expl_keeps {l : List Tx} {C : Nat} {R : List Nat} (h : Expl l (2 ^ l.length - 1) C R) : keepsS l (R.map fun x : Nat => (x : Int)) = true := by
  rw [keeps_nat]
  refine (List.pairwise_and_iff.2 ⟨h.nodup, h.keeps⟩).imp fun {b a} hab => ⟨fun he => hab.1 he.symm, hab.2⟩
theorem row_there {l : List Tx} {R : List Nat} (h : ∀ k ∈ R, k < l.length) : thereS l (R.map fun x : Nat => (x : Int)) = true := (thereS_iff _ _).2 fun x hx => by
  obtain ⟨k, hk, rfl⟩ := List.mem_map.1 hx
  have := h k hk
  omega
/-- nothing found: no row of any choice explains -/
theorem none_expl {h : List Ev} {B : Nat} (h1 : (searchG B (tableS h) (fun _ => 2 ^ (tableS h).length - 1) (chL (tableS h)) 0).1 = 1) :
    ∀ c ∈ chL (tableS h), ∀ row ∈ allS (afterS (tableS h)), legalS (tableS h) c row ≠ row.length := by
  obtain ⟨_, _, _, _, _, _, h7, _⟩ := search_tells (B := B) (l := tableS h) (W := fun _ => 2 ^ (tableS h).length - 1) (self_table h) (chL (tableS h)) 0 (Nat.zero_le _)
  intro c hc row hr hl
  exact h7 h1 c hc row (expl_all.2 ⟨hr, hl⟩)
theorem all_row {l : List Tx} {row : List Nat} (h : row ∈ allS (afterS l)) : row.Nodup ∧ (∀ k ∈ row, k < l.length) ∧ row.length = l.length := by
  obtain ⟨h1, h2, h3⟩ := allS_mem.1 h
  rw [afterS_len] at h1 h2
  exact ⟨goes_nodup h3, h2, h1⟩
/-- what holds of a search's answer, whatever it is -/
theorem right_known {h : List Ev} (h0 : (checkS h).2 = 0) {B B' : Nat} (hB : B ≤ B') :
    let x := searchG B (tableS h) (fun _ => 2 ^ (tableS h).length - 1) (chL (tableS h)) 0
    (x.1 = 0 ∨ x.1 = 1 ∨ x.1 = 2) ∧ x.2.2.2 ≤ B ∧ (x.1 = 2 → x.2.2.2 = B ∧ B < 125184) ∧ (x.1 ≠ 0 → x.2.1 = 0 ∧ x.2.2.1 = []) ∧ (x.1 ≠ 2 → searchG B' (tableS h) (fun _ => 2 ^ (tableS h).length - 1) (chL (tableS h)) 0 = x) := by
  intro x
  obtain ⟨g1, g2, g3, g4, g5, _⟩ := search_tells (B := B) (l := tableS h) (W := fun _ => 2 ^ (tableS h).length - 1) (self_table h) (chL (tableS h)) 0 (Nat.zero_le _)
  refine ⟨g1, g3, fun h2 => ⟨(g4 h2).1, ?_⟩, g5, fun h2 => search_more hB _ _ (Nat.zero_le _) h2⟩
  rcases Nat.lt_or_ge B 125184 with hlt | hge
  · exact hlt
  · have := search_known (B := B) (l := tableS h) (W := fun _ => 2 ^ (tableS h).length - 1) (self_table h) (table_six h0) hge
    rw [choices_chL (table_six h0)] at this
    exact absurd h2 this
theorem rows_fewS {A : List Nat} (h : A.length ≤ 6) : (allS A).length ≤ 65536 := by
  have hz : ∀ a b, aft (List.replicate A.length 0) a b = false := fun a b => by
    unfold aft
    rw [List.getD_eq_getElem?_getD, List.getElem?_replicate]
    split <;> exact Nat.zero_testBit _
  have h1 := allS_more (L := List.replicate A.length 0) (L' := A) (by simp) (fun a b hab => by rw [hz] at hab; cases hab)
  rw [allS_fact hz, List.length_replicate] at h1
  have h2 : ∀ j, j < 7 → factN j ≤ 720 := by decide
  have := h2 A.length (by omega)
  omega
end Go.Proofs.YtnnjlefljmbhkaaDoor.RPlain
/- The walks of slices.Index and Contains at uint32, and of the law's explained where no row explains. -/
namespace Go.Proofs.YtnnjlefljmbhkaaDoor.WPlain
end Go.Proofs.YtnnjlefljmbhkaaDoor.WPlain
namespace Go.Proofs.YtnnjlefljmbhkaaDoor.QPlain
end Go.Proofs.YtnnjlefljmbhkaaDoor.QPlain
namespace Go.Proofs.YtnnjlefljmbhkaaDoor.RPlain
end Go.Proofs.YtnnjlefljmbhkaaDoor.RPlain
namespace Go.Proofs.YtnnjlefljmbhkaaDoor
open Go.RowKit WPlain QPlain RPlain

set_option maxRecDepth 100000 in
set_option maxHeartbeats 1000000 in
theorem indexU32_any (v : Value) (L : List Nat) (x : Nat) (w : World) (hv : Rd w v (u32s L)) (hl : L.length ≤ 65536) :
    Calls Tryd.prog 47 #[v, .int .u32 (x : Int)] w fun e w' => (∃ z : Int, e = .returned (.int .i64 z) ∧ decide (0 ≤ z) = L.contains x) ∧ w' = w := by
  have HV := Lib.hid hv
  obtain ⟨va, vc, rfl⟩ := hv.len
  rw [u32s_len] at HV ⊢
  clear hv
  go_enter Tryd.func47, Tryd.ntmps47
  go_wp2_with fail
  go_loopw [8] (fun y wr => ∃ k : Nat, k ≤ L.length ∧ y = .int .i64 k ∧ Hid ((L.take k).contains x = false) ∧ wr = w) (fun y _ => L.length - (intOf y).toNat)
  case atStart => exact ⟨0, by omega, rfl, rfl, rfl⟩
  case round =>
    obtain ⟨k, hk, rfl, HA, rfl⟩ := hrel
    by_cases hlt : k < L.length
    · have HT : Hid (L.take (k + 1) = L.take k ++ [L[k]]) := List.take_succ_eq_append_getElem hlt
      have HM : Hid (L[k] ∈ L) := List.getElem_mem hlt
      obtain ⟨b, o, c', he, hbl, hcs⟩ := HV.out.opened (by rw [u32s_len]; omega)
      simp only [Value.slice.injEq] at he
      obtain ⟨rfl, -, rfl⟩ := he
      have hck := hcs k _ (u32s_get hlt)
      clear hcs
      generalize L[k] = y at *
      by_cases hxy : x = y
      · have HA2 : Hid (L.contains x = true) := by unfold Hid; rw [List.contains_iff_mem, hxy]; exact HM.out
        have te : ((x : Int) == (y : Int)) = true := by rw [hxy]; simp
        clear hxy HT HM HA
        go_wp2_with fail
        go_ret
        exact ⟨⟨_, rfl, by rw [HA2.out]; exact decide_eq_true (by omega)⟩, rfl⟩
      · have HA2 : Hid ((L.take (k + 1)).contains x = false) := by
          unfold Hid
          rw [HT.out, ← Bool.not_eq_true, List.contains_iff_mem, List.mem_append, List.mem_singleton]
          rintro (h | h)
          · have := HA.out
            rw [← Bool.not_eq_true, List.contains_iff_mem] at this
            exact this h
          · exact hxy h
        have te : ((x : Int) == (y : Int)) = false := by rw [beq_eq_false_iff_ne]; omega
        clear hxy HT HM HA
        go_wp2_with fail
        go_roundw
        case rel => exact ⟨k + 1, by omega, by go_num, HA2, trivial⟩
        case measure => simp [intOf]; omega
    · obtain rfl : k = L.length := by omega
      have HA2 : Hid (L.contains x = false) := by have := HA.out; rwa [List.take_length] at this
      clear HA
      go_wp2_with fail
      go_ret
      exact ⟨⟨_, rfl, by rw [HA2.out]; rfl⟩, rfl⟩
theorem containsU32_any (v : Value) (L : List Nat) (x : Nat) (w : World) (hv : Rd w v (u32s L)) (hl : L.length ≤ 65536) :
    Calls Tryd.prog 21 #[v, .int .u32 (x : Int)] w fun e w' => e = .returned (.bool (L.contains x)) ∧ w' = w := by
  have HI := Lib.hid (indexU32_any v L x w hv hl)
  obtain ⟨va, vc, rfl⟩ := hv.len
  clear hv hl
  go_enter Tryd.func21, Tryd.ntmps21
  go_wp2_with fail
  refine HI.out.mono ?_
  rintro e w1 ⟨⟨z, rfl, hz⟩, rfl⟩
  go_wp2
  all_goals go_ret
  all_goals exact ⟨ret_bool (by first | exact hz | simp), rfl⟩
set_option maxRecDepth 100000 in
set_option maxHeartbeats 4000000 in
/-- where no row of any choice explains, that is what is told -/
theorem explained_none (v : Value) (h : List Ev) (w : World) (hK : HasK w) (hv : Evs w v h) (hl : h.length ≤ 65536) (h0 : (checkS h).2 = 0) (hno : ∀ c ∈ chL (tableS h), ∀ row ∈ allS (afterS (tableS h)), legalS (tableS h) c row ≠ row.length) :
    Calls Tryd.prog 22 #[v] w fun e w' => e = .returned (.tuple #[.bool false, .bool true]) ∧ Below w.heap.size w w' := by
  have h6 := table_six h0
  have h64 := pow_le_64 h6
  have HAF := Lib.hid (after_any v h w hK hv hl)
  have HCH := Lib.hid (fun (W : World) (hW : Below w.heap.size w W) => choices_any v h W (hK.later hW (Nat.le_refl _)) (hv.below hW (Nat.le_refl _)) hl)
  have HLG := Lib.hid (fun (W : World) (hW : Below w.heap.size w W) (rv : Value) (row : List Nat) (c : Nat) (hr : Rd W rv (nats row)) (hm : row ∈ allS (afterS (tableS h))) (hc : c < 4294967296) => legal_any v rv h (row.map fun x : Nat => (x : Int)) c W (hK.later hW (Nat.le_refl _)) (hv.below hW (Nat.le_refl _)) hl (by rw [← nats_intsS]; exact hr) (by have := (all_row hm).2.2; rw [List.length_map]; omega) hc)
  simp only [h0, if_true] at HAF HCH
  have HALL := Lib.hid (fun (a : Option Addr) (c : Nat) (W : World) (hr : Rd W (.slice a (afterS (tableS h)).length c) (u32s (afterS (tableS h)))) => all_any a c (afterS (tableS h)) W hr (fun x hx => by have := after_lt (tableS h) h6 x hx; omega) (by rw [afterS_len]; omega))
  have hmay := may_after h0
  simp only [hmay, if_true] at HALL
  have HCL : Hid (∀ c ∈ chL (tableS h), c < 4294967296) := fun c hc => by have := (mem_chL.1 hc).1; omega
  have HRL : Hid (∀ row ∈ allS (afterS (tableS h)), row.length ≤ 6) := fun row hr => by have := (all_row hr).2.2; show _ ≤ _; omega
  have HLEG : Hid (∀ c ∈ chL (tableS h), ∀ row ∈ allS (afterS (tableS h)), errL h (row.map fun x : Nat => (x : Int)) = 0 ∧ legR h (row.map fun x : Nat => (x : Int)) c ≠ row.length) := fun c hc row hr => by
    obtain ⟨g1, g2, _⟩ := all_row hr
    obtain ⟨e1, e2⟩ := legR_row h0 g2 g1 c
    refine ⟨e1, fun he => hno c hc row hr ?_⟩
    have := e2.1 he
    unfold okL at this
    exact of_decide_eq_true this
  have HCN : Hid ((chL (tableS h)).length ≤ 65536) := by have h1 := choices_count (tableS h); rw [choices_chL h6] at h1; show _ ≤ _; omega
  have HRN : Hid ((allS (afterS (tableS h))).length ≤ 65536) := rows_fewS (by rw [afterS_len]; exact h6)
  obtain ⟨cs, hcs⟩ : ∃ cs, chL (tableS h) = cs := ⟨_, rfl⟩
  obtain ⟨A, hA⟩ : ∃ A, afterS (tableS h) = A := ⟨_, rfl⟩
  obtain ⟨rows, hrows⟩ : ∃ rows, allS A = rows := ⟨_, rfl⟩
  simp only [hcs, hA, hrows] at HAF HCH HLG HALL HCL HRL HLEG HCN HRN
  obtain ⟨va, vc, rfl⟩ := hv.len
  clear hK hv hno hmay h0 hcs hrows hA h64
  go_enter Tryd.func22, Tryd.ntmps22
  go_wp2_with fail
  refine HAF.out.mono ?_
  rintro e w1 ⟨v1, rfl, hr1, hb1⟩
  have HB1 := Lib.hid hb1
  have HR1 := Lib.hid hr1
  obtain ⟨a1, c1, rfl⟩ := hr1.len
  rw [u32s_len] at HR1 ⊢
  clear hr1 hb1 HAF
  go_wp2_with fail
  refine (HCH.out w1 HB1.out).mono ?_
  rintro e w2 ⟨v2, rfl, hr2, hb2⟩
  have HB2 := Lib.hid (HB1.out.trans (hb2.mono HB1.out.size))
  have HR2 := Lib.hid hr2
  have HA2 := Lib.hid (HR1.out.below hb2 (Nat.le_refl _))
  obtain ⟨a2, c2, rfl⟩ := hr2.len
  rw [u32s_len] at HR2 ⊢
  clear hr2 hb2 HCH HB1 HR1
  go_wp2_with fail
  refine (HALL.out _ _ w2 HA2.out).mono ?_
  rintro e w3 ⟨v3, vs, rfl, hr3, ⟨X3, hx3⟩, hb3⟩
  have HB3 := Lib.hid (HB2.out.trans (hb3.mono HB2.out.size))
  have HR3 := Lib.hid hr3
  have HX3 := Lib.hid hx3
  have HC3 := Lib.hid (HR2.out.below hb3 (Nat.le_refl _))
  have hvl : vs.length = rows.length := hx3.1
  obtain ⟨a3, c3, rfl⟩ := hr3.len
  rw [hvl]
  rw [hvl] at HR3
  clear hr3 hx3 hb3 HALL HB2 HA2 HR2
  have hrow6 : rows.length ≤ 65536 := by
    have := HRN.out
    omega
  have hcs6 : cs.length ≤ 65536 := HCN.out
  go_wp2_with fail
  go_loopw [43] (fun x wr => ∃ i : Nat, i ≤ cs.length ∧ x = .int .i64 i ∧ Hid (Below w3.heap.size w3 wr)) (fun x _ => cs.length - (intOf x).toNat)
  case atStart => exact ⟨0, by omega, rfl, Below.refl _ _⟩
  case round =>
    obtain ⟨i, hi, rfl, HO⟩ := hrel
    by_cases hli : i < cs.length
    · obtain ⟨b2, o2, d2, he, hbl2, hcl2⟩ := (HC3.out.below HO.out (Nat.le_refl _)).opened (by rw [u32s_len]; omega)
      rw [u32s_len] at he
      simp only [Value.slice.injEq] at he
      obtain ⟨rfl, -, rfl⟩ := he
      have hci := hcl2 i _ (u32s_get hli)
      have hmc := List.getElem_mem hli
      have hc32 := HCL.out _ hmc
      have HLC := Lib.hid (HLEG.out _ hmc)
      clear hcl2 hmc hbl2
      generalize cs[i] = ci at *
      obtain ⟨w9, hw9⟩ : ∃ w9 : World, w9 = wr := ⟨wr, rfl⟩
      subst hw9
      go_wp2_with fail
      go_loopw [49] (fun x wr => ∃ j : Nat, j ≤ rows.length ∧ x = .int .i64 j ∧ Hid (Below w3.heap.size w3 wr)) (fun x _ => rows.length - (intOf x).toNat)
      case atStart => exact ⟨0, by omega, rfl, HO⟩
      case round =>
        clear HO hci
        obtain ⟨j, hj, rfl, HI⟩ := hrel
        by_cases hlj : j < rows.length
        · have hvj : j < vs.length := by omega
          obtain ⟨b3, o3, d3, he3, hbl3, hcl3⟩ := (HR3.out.below HI.out (Nat.le_refl _)).opened (by omega)
          rw [hvl] at he3
          simp only [Value.slice.injEq] at he3
          obtain ⟨rfl, -, rfl⟩ := he3
          have hcj := hcl3 j _ (List.getElem?_eq_getElem hvj)
          have hrd := (HX3.out.2 j hlj hvj).rd
          have hmr := List.getElem_mem hlj
          have hr6 := HRL.out _ hmr
          obtain ⟨e1, e2⟩ := HLC.out _ hmr
          have hrw := hrd.below HI.out (Nat.le_refl _)
          have HCALL := Lib.hid (HLG.out wr (HB3.out.trans (HI.out.mono HB3.out.size)) vs[j] rows[j] ci hrw hmr hc32)
          rw [e1] at HCALL
          obtain ⟨ra, rc, hve⟩ := hrd.len
          rw [nats_len] at hve
          rw [hve] at hcj HCALL
          clear hcl3 hbl3 hrd hmr hrw hve hvj e1
          generalize rows[j] = row at *
          generalize legR h (row.map fun x : Nat => (x : Int)) ci = z at *
          have tz : ((z : Int) == (row.length : Int)) = false := by rw [beq_eq_false_iff_ne]; omega
          generalize row.length = rl at *
          clear e2
          go_wp2_with fail
          refine HCALL.out.mono ?_
          rintro e w5 ⟨rfl, hb5⟩
          have HB5 := Lib.hid (HI.out.trans (hb5.mono HI.out.size))
          clear hb5 HCALL
          go_wp2_with fail
          go_roundw
          case rel => exact ⟨j + 1, by omega, by go_num, HB5⟩
          case measure => simp [intOf]; omega
        · obtain rfl : j = rows.length := by omega
          go_wp2_with fail
          go_roundw
          case rel => exact ⟨i + 1, by omega, by go_num, HI⟩
          case measure => simp [intOf]; omega
    · obtain rfl : i = cs.length := by omega
      have HBF := Lib.hid (HB3.out.trans (HO.out.mono HB3.out.size))
      go_wp2_with fail
      go_ret2
      exact ⟨rfl, HBF.out⟩
end Go.Proofs.YtnnjlefljmbhkaaDoor
