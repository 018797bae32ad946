/- Merged: LegD, LegE. -/
import Derived.Test.YtegpelpnbkdgcaaDoorLegC
/- The walks of package legal's tableOf, Legal, Memory. -/
namespace Go.Proofs.YtegpelpnbkdgcaaDoor.WPlain
end Go.Proofs.YtegpelpnbkdgcaaDoor.WPlain
namespace Go.Proofs.YtegpelpnbkdgcaaDoor.QPlain
end Go.Proofs.YtegpelpnbkdgcaaDoor.QPlain
namespace Go.Proofs.YtegpelpnbkdgcaaDoor.RPlain
end Go.Proofs.YtegpelpnbkdgcaaDoor.RPlain
namespace Go.Proofs.YtegpelpnbkdgcaaDoor
open Go.RowKit WPlain QPlain RPlain

theorem isNoneL_any (x : Int) (n : Nat) (N : Nat) (a : Option Addr) (c : Nat) (w : World) (hc : w.cell? ⟨N, 0, none⟩ = some (.slice a n c)) :
    Calls Tryd.prog 72 #[.int .i64 x, .pointer (some ⟨N, 0, none⟩)] w fun e w' => e = .returned (.bool (noneB n x)) ∧ w' = w := by
  go_enter Tryd.func72, Tryd.ntmps72
  go_wp2
  all_goals go_ret
  all_goals exact ⟨by unfold noneB; simp [*], rfl⟩
set_option maxRecDepth 100000 in
set_option maxHeartbeats 1000000 in
theorem indexNL_any (v : Value) (row : List Int) (n N : Nat) (a : Option Addr) (c : Nat) (w : World) (hv : Rd w v (ints row)) (hl : row.length ≤ 65536) (hc : w.cell? ⟨N, 0, none⟩ = some (.slice a n c)) :
    Calls Tryd.prog 83 #[v, .func (.func 72) #[] #[.pointer (some ⟨N, 0, none⟩)]] w fun e w' => (∃ z : Int, e = .returned (.int .i64 z) ∧ decide (0 ≤ z) = row.any (noneB n)) ∧ w' = w := by
  have HV := Lib.hid hv
  have HCL := Lib.hid (fun x => isNoneL_any x n N a c w hc)
  obtain ⟨va, vc, rfl⟩ := hv.len
  rw [ints_len] at HV ⊢
  clear hv hc
  go_enter Tryd.func83, Tryd.ntmps83
  go_wp2_with fail
  go_loopw [8] (fun x wr => ∃ k : Nat, k ≤ row.length ∧ x = .int .i64 k ∧ Hid ((row.take k).any (noneB n) = false) ∧ wr = w) (fun x _ => row.length - (intOf x).toNat)
  case atStart => exact ⟨0, by omega, rfl, rfl, rfl⟩
  case round =>
    obtain ⟨k, hk, rfl, HA, rfl⟩ := hrel
    by_cases hlt : k < row.length
    · have HT : Hid (row.take (k + 1) = row.take k ++ [row[k]]) := List.take_succ_eq_append_getElem hlt
      have HM : Hid (row[k] ∈ row) := List.getElem_mem hlt
      obtain ⟨b, o, c', he, hbl, hcs⟩ := HV.out.opened (by rw [ints_len]; omega)
      simp only [Value.slice.injEq] at he
      obtain ⟨rfl, -, rfl⟩ := he
      have hck := hcs k (.int .i64 row[k]) (by unfold ints; rw [List.getElem?_map, List.getElem?_eq_getElem hlt]; rfl)
      clear hcs
      generalize row[k] = y at *
      cases hnb : noneB n y with
      | false =>
        have HC2 := Lib.hid (HCL.out y)
        rw [hnb] at HC2
        have HA2 : Hid ((row.take (k + 1)).any (noneB n) = false) := by
          unfold Hid
          rw [HT.out, List.any_append, HA.out]
          simp [hnb]
        clear hnb HT HM HA
        go_wp2_with (go_at_call 72; refine HC2.out.mono ?_; rintro e w3 ⟨rfl, rfl⟩)
        go_roundw
        case rel => exact ⟨k + 1, by omega, by go_num, HA2, trivial⟩
        case measure => simp [intOf]; omega
      | true =>
        have HC2 := Lib.hid (HCL.out y)
        rw [hnb] at HC2
        have HA2 : Hid (row.any (noneB n) = true) := List.any_eq_true.2 ⟨y, HM.out, hnb⟩
        clear hnb HT HM HA
        go_wp2_with (go_at_call 72; refine HC2.out.mono ?_; rintro e w3 ⟨rfl, rfl⟩)
        go_ret
        exact ⟨⟨_, rfl, by rw [HA2.out]; exact decide_eq_true (by omega)⟩, rfl⟩
    · obtain rfl : k = row.length := by omega
      have HA2 : Hid (row.any (noneB n) = false) := by have := HA.out; rwa [List.take_length] at this
      clear HA
      go_wp2
      go_ret
      exact ⟨⟨_, rfl, by rw [HA2.out]; rfl⟩, rfl⟩
theorem containsNL_any (v : Value) (row : List Int) (n N : Nat) (a : Option Addr) (c : Nat) (w : World) (hv : Rd w v (ints row)) (hl : row.length ≤ 65536) (hc : w.cell? ⟨N, 0, none⟩ = some (.slice a n c)) :
    Calls Tryd.prog 54 #[v, .func (.func 72) #[] #[.pointer (some ⟨N, 0, none⟩)]] w fun e w' => e = .returned (.bool (row.any (noneB n))) ∧ w' = w := by
  have HI := Lib.hid (indexNL_any v row n N a c w hv hl hc)
  clear hv hl hc
  go_enter Tryd.func54, Tryd.ntmps54
  go_wp2_with fail
  refine HI.out.mono ?_
  rintro e w1 ⟨⟨z, rfl, hz⟩, rfl⟩
  go_wp2
  all_goals go_ret
  all_goals exact ⟨ret_bool (by rw [← hz]), rfl⟩
theorem ints_castL (rn : List Nat) (k : Nat) (hk : k < rn.length) : (ints (rn.map (fun x : Nat => (x : Int))))[k]? = some (.int .i64 (rn[k] : Int)) := by
  unfold ints
  rw [List.getElem?_map, List.getElem?_map, List.getElem?_eq_getElem hk]
  rfl
set_option maxRecDepth 100000 in
set_option maxHeartbeats 1000000 in
theorem tableOf_any (v rv : Value) (h : List Ev) (row : List Int) (w : World) (hK : HasK w) (hv : Evs w v h) (hl : h.length ≤ 65536) (hr : Rd w rv (ints row)) (hrl : row.length ≤ 65536) :
    Calls Tryd.prog 45 #[v, rv] w fun e w' => ∃ v', e = .returned (.tuple #[v', .int .i64 ((errL h row : Nat) : Int)]) ∧ Txs w' v' (if errL h row = 0 then tableS h else []) ∧ Below w.heap.size w w' := by
  have HT := Lib.hid (table_any v h w hK hv hl)
  have HR := Lib.hid hr
  unfold errL
  by_cases h0 : (checkS h).2 = 0
  · simp only [if_pos h0] at HT ⊢
    rw [h0] at HT
    have h6 := table_six h0
    have hnt := none_there (tableS h) row
    cases ht : thereS (tableS h) row with
    | true =>
      rw [ht] at hnt
      obtain ⟨rn, rfl, hrn⟩ := row_nats ht
      simp only [if_true]
      have hnc := nodup_cast rn
      simp only [hnc]
      clear h0 hv hK hr ht hnc
      generalize tableS h = l at *
      rw [List.length_map] at hrl
      have HLT : Hid (∀ b ∈ rn, b < l.length) := hrn
      have HNX := Lib.hid (fun (k : Nat) (hk : k < rn.length) h1 h2 => nodup_next (l := rn) (k := k) hk h1 h2)
      have HNO := Lib.hid (fun (k : Nat) (hk : k < rn.length) h1 => nodup_not (l := rn) (k := k) hk h1)
      have HAT := Lib.hid (fun (k : Nat) (hk : k < rn.length) => ints_castL rn k hk)
      have HTE := Lib.hid (fun (k : Nat) (hk : k < rn.length) => List.take_succ_eq_append_getElem hk)
      have HAL : Hid (∀ k, aheadN (rn.take k) < 4294967296) := fun k => pow_32 h6 (aheadN_lt fun p hp => hrn p (List.mem_of_mem_take hp))
      clear hrn
      obtain ⟨er, her⟩ : ∃ er : Nat, (if rn.Nodup then 0 else 1) = er := ⟨_, rfl⟩
      have HE0 : Hid (rn.Nodup → er = 0) := fun h => by rw [← her, if_pos h]
      have HE1 : Hid (¬ rn.Nodup → er = 1) := fun h => by rw [← her, if_neg h]
      rw [her]
      clear her
      go_enter Tryd.func45, Tryd.ntmps45
      go_wp2_with fail
      refine HT.out.mono ?_
      rintro e w1 ⟨v1, rfl, hv1, hb1⟩
      have HV1 := Lib.hid hv1
      have HB1 := Lib.hid hb1
      obtain ⟨a1, c1, rfl⟩ := hv1.len
      clear hv1 hb1 HT
      have hba := (Below.refl w1.heap.size w1).alloc (Nat.le_refl _) (.cells #[.slice a1 l.length c1] 33)
      have hnew := (At.new w1 #[.slice a1 l.length c1] 33).cell (i := 0) rfl
      have HR2 := Lib.hid ((HR.out.below HB1.out (Nat.le_refl _)).below hba (Nat.le_refl _))
      have HCN := Lib.hid (containsNL_any rv _ l.length w1.heap.size a1 c1 (w1.alloc (.cells #[.slice a1 l.length c1] 33)) HR2.out (by rw [List.length_map]; exact hrl) hnew)
      rw [hnt] at HCN
      have HV2 := Lib.hid (HV1.out.below hba (Nat.le_refl _))
      have HB2 := Lib.hid (HB1.out.alloc HB1.out.size (.cells #[.slice a1 l.length c1] 33))
      clear hba hnt HR
      go_wp2_with fail
      refine HCN.out.mono ?_
      rintro e w2 ⟨rfl, rfl⟩
      generalize w1.alloc (.cells #[.slice a1 l.length c1] 33) = w3 at *
      have hrlen := HR2.out.len
      obtain ⟨ra, rc, rfl⟩ := hrlen
      have hil : (ints (rn.map (fun x : Nat => (x : Int)))).length = rn.length := by simp [ints]
      rw [hil] at HR2 ⊢
      clear HCN hil
      go_wp2_with fail
      go_loopw [9, 26] (fun y x wr => ∃ k : Nat, k ≤ rn.length ∧ x = .int .i64 k ∧ y = .int .u32 ((aheadN (rn.take k) : Nat) : Int) ∧ Hid ((rn.take k).Nodup) ∧ wr = w3) (fun _ x _ => rn.length - (intOf x).toNat)
      case atStart => exact ⟨0, by omega, rfl, rfl, by unfold Hid; simp, rfl⟩
      case round =>
        obtain ⟨k, hk, rfl, rfl, HN, rfl⟩ := hrel
        by_cases hlt : k < rn.length
        · obtain ⟨b, o, c', he, hbl, hcs⟩ := HR2.out.opened (by simp [ints]; omega)
          simp only [Value.slice.injEq] at he
          obtain ⟨rfl, -, rfl⟩ := he
          have hck := hcs k _ (HAT.out k hlt)
          have hpl := HLT.out _ (List.getElem_mem hlt)
          have HNX2 := Lib.hid (HNX.out k hlt HN.out)
          have HNO2 := Lib.hid (HNO.out k hlt)
          have hkb := bitL_any rn[k] (by omega)
          have hlt3 : 2 ^ rn[k] < 4294967296 := two_32 h6 hpl
          have hlt2 := HAL.out k
          have hand := u32_and_nat (aheadN (rn.take k)) (2 ^ rn[k]) hlt2 hlt3
          have hor := u32_or_nat (aheadN (rn.take k)) (2 ^ rn[k]) hlt2 hlt3
          have hin := ahead_in (rn.take k) rn[k]
          have hsn := aheadN_snoc (rn.take k) rn[k]
          rw [← HTE.out k hlt] at hsn
          rw [← hsn] at hor
          clear hcs hlt2 hlt3 hsn
          generalize rn[k] = p at *
          generalize aheadN (rn.take k) = A at *
          obtain ⟨A2, hA2⟩ : ∃ A2, aheadN (rn.take (k + 1)) = A2 := ⟨_, rfl⟩
          rw [hA2] at hor
          have HA2 := Lib.hid hA2
          clear hA2
          generalize 2 ^ p = pw at *
          obtain ⟨z, hz⟩ : ∃ z : Nat, A &&& pw = z := ⟨_, rfl⟩
          rw [hz] at hand hin
          clear hz
          by_cases hm : p ∈ rn.take k
          · have tq : ((z : Int) != 0) = true := by simp; exact fun hc => hin.1 hc hm
            obtain rfl : er = 1 := HE1.out (HNO2.out hm)
            clear hin hm
            go_wp2_with (go_at_call 73; refine (hkb _).mono ?_; rintro e w2 ⟨rfl, rfl⟩)
            refine bodyPost_ret (v := .tuple #[.slice none 0 0, .int .i64 1]) (by simp [results, Tryd.results45, go_sem]) rfl ⟨_, rfl, Txs.nil _ _ _, HB2.out⟩
          · have tq : ((z : Int) != 0) = false := by simp; exact hin.2 hm
            have HN2 := Lib.hid (HNX2.out hm)
            clear hin hm
            go_wp2_with (go_at_call 73; refine (hkb _).mono ?_; rintro e w2 ⟨rfl, rfl⟩)
            go_roundw
            case rel => exact ⟨k + 1, by omega, by go_num, by rw [HA2.out], HN2, trivial⟩
            case measure => simp [intOf]; omega
        · obtain rfl : k = rn.length := by omega
          obtain rfl : er = 0 := HE0.out (by have := HN.out; rwa [List.take_length] at this)
          go_wp2
          refine bodyPost_ret (v := .tuple #[.slice a1 l.length c1, .int .i64 0]) (by simp [results, Tryd.results45, go_sem]) rfl ⟨_, rfl, HV2.out, HB2.out⟩
    | false =>
      rw [ht] at hnt
      simp only [Bool.false_eq_true, if_false]
      clear h0 hv hK hr ht
      generalize tableS h = l at *
      go_enter Tryd.func45, Tryd.ntmps45
      go_wp2_with fail
      refine HT.out.mono ?_
      rintro e w1 ⟨v1, rfl, hv1, hb1⟩
      have HV1 := Lib.hid hv1
      have HB1 := Lib.hid hb1
      obtain ⟨a1, c1, rfl⟩ := hv1.len
      clear hv1 hb1 HT
      have hba := (Below.refl w1.heap.size w1).alloc (Nat.le_refl _) (.cells #[.slice a1 l.length c1] 33)
      have hnew := (At.new w1 #[.slice a1 l.length c1] 33).cell (i := 0) rfl
      have HCN := Lib.hid (containsNL_any rv row l.length w1.heap.size a1 c1 (w1.alloc (.cells #[.slice a1 l.length c1] 33)) ((HR.out.below HB1.out (Nat.le_refl _)).below hba (Nat.le_refl _)) hrl hnew)
      rw [hnt] at HCN
      have HB2 := Lib.hid (HB1.out.alloc HB1.out.size (.cells #[.slice a1 l.length c1] 33))
      clear hba hnt
      go_wp2_with fail
      refine HCN.out.mono ?_
      rintro e w2 ⟨rfl, rfl⟩
      go_wp2
      refine bodyPost_ret (v := .tuple #[.slice none 0 0, .int .i64 7]) (by simp [results, Tryd.results45, go_sem]) rfl ⟨_, rfl, Txs.nil _ _ _, HB2.out⟩
  · simp only [if_neg h0] at HT ⊢
    obtain ⟨er, her⟩ : ∃ er, (checkS h).2 = er := ⟨_, rfl⟩
    rw [her] at HT h0 ⊢
    have te : ((er : Int) != 0) = true := by simp; omega
    clear her hK hv hl hr
    go_enter Tryd.func45, Tryd.ntmps45
    go_wp2_with fail
    refine HT.out.mono ?_
    rintro e w1 ⟨v1, rfl, hv1, hb1⟩
    obtain ⟨a1, c1, rfl⟩ := hv1.len
    go_wp2
    refine bodyPost_ret (v := .tuple #[.slice none 0 0, .int .i64 er]) (by simp [results, Tryd.results45, go_sem]) rfl ⟨_, rfl, Txs.nil _ _ _, hb1.alloc hb1.size _⟩
end Go.Proofs.YtegpelpnbkdgcaaDoor
/- The walks of package legal's Legal, Memory and Own. -/
namespace Go.Proofs.YtegpelpnbkdgcaaDoor.WPlain
end Go.Proofs.YtegpelpnbkdgcaaDoor.WPlain
namespace Go.Proofs.YtegpelpnbkdgcaaDoor.QPlain
end Go.Proofs.YtegpelpnbkdgcaaDoor.QPlain
namespace Go.Proofs.YtegpelpnbkdgcaaDoor.RPlain
end Go.Proofs.YtegpelpnbkdgcaaDoor.RPlain
namespace Go.Proofs.YtegpelpnbkdgcaaDoor.RPlain
open WPlain QPlain

def natsR (row : List Int) : List Nat := row.map Int.toNat
theorem natsR_cast (rn : List Nat) : natsR (rn.map (fun x : Nat => (x : Int))) = rn := by
  unfold natsR
  rw [List.map_map]
  exact (List.map_congr_left (fun x _ => by simp)).trans (List.map_id _)
/-- what Legal answers; the memory that Memory does -/
def legR (h : List Ev) (row : List Int) (n : Nat) : Nat := if errL h row = 0 then legalS (tableS h) n (natsR row) else 0
end Go.Proofs.YtegpelpnbkdgcaaDoor.RPlain
namespace Go.Proofs.YtegpelpnbkdgcaaDoor
open Go.RowKit WPlain QPlain RPlain

theorem ops_table {h : List Ev} (h0 : (checkS h).2 = 0) : ∀ i (hi : i < (tableS h).length), okOps (tableS h)[i].o ∧ (tableS h)[i].o.length ≤ 60 := fun _ hi => table_ops h0 _ (List.getElem_mem hi)
set_option maxRecDepth 100000 in
set_option maxHeartbeats 2000000 in
theorem legal_any (v rv : Value) (h : List Ev) (row : List Int) (n : Nat) (w : World) (hK : HasK w) (hv : Evs w v h) (hl : h.length ≤ 65536) (hr : Rd w rv (ints row)) (hrl : row.length ≤ 65536) (hn : n < 4294967296) :
    Calls Tryd.prog 17 #[v, rv, .int .u32 (n : Int)] w fun e w' => e = .returned (.tuple #[.int .i64 ((legR h row n : Nat) : Int), .int .i64 ((errL h row : Nat) : Int)]) ∧ Below w.heap.size w w' := by
  have HT := Lib.hid (tableOf_any v rv h row w hK hv hl hr hrl)
  have HR := Lib.hid hr
  unfold legR
  by_cases h0 : errL h row = 0
  · obtain ⟨rn, rfl, hrn, hnd, h66⟩ := errL_nil h0
    obtain ⟨hc0, -, -⟩ := errL_zero h0
    have HOK := Lib.hid (ops_table hc0)
    have h6 := table_six hc0
    rw [h0] at HT ⊢
    simp only [if_true] at HT ⊢
    rw [natsR_cast]
    clear h0 hc0 hnd hK hv hr hrl
    generalize tableS h = l at *
    have HLT : Hid (∀ b ∈ rn, b < l.length) := hrn
    have HNX := Lib.hid (fun (k : Nat) (hk : k < rn.length) h1 h2 => legal_next (l := l) (c := n) (M := zeroM) hk h1 h2)
    have HNO := Lib.hid (fun (k : Nat) (hk : k < rn.length) h1 h2 => legal_stop (l := l) (c := n) (M := zeroM) hk h1 h2)
    obtain ⟨res, hres⟩ : ∃ res, legalS l n rn = res := ⟨_, rfl⟩
    rw [hres]
    have HRES : Hid (legalG l n zeroM rn = res) := hres
    clear hres hrn
    obtain ⟨ra, rc, rfl⟩ := HR.out.len
    have hil : (ints (rn.map (fun x : Nat => (x : Int)))).length = rn.length := by simp [ints]
    rw [hil] at HR HT ⊢
    clear hil
    go_enter Tryd.func17, Tryd.ntmps17
    go_wp2_with fail
    refine HT.out.mono ?_
    rintro e w1 ⟨v1, rfl, hv1, hb1⟩
    have HV1 := Lib.hid hv1
    have HB1 := Lib.hid hb1
    obtain ⟨a1, c1, rfl⟩ := hv1.len
    clear hv1 hb1 HT
    have HA0 := Lib.hid (At.new w1 (memC zeroM) 85)
    have HB0 := Lib.hid ((Below.refl w1.heap.size w1).alloc (Nat.le_refl _) (.cells (memC zeroM) 85))
    have hz0 : memC zeroM = #[.int .i64 0, .int .i64 0, .int .i64 0, .int .i64 0, .int .i64 0, .int .i64 0, .int .i64 0, .int .i64 0] := rfl
    rw [hz0] at HA0 HB0
    clear hz0
    go_wp2_with fail
    go_loopw [25] (fun x wr => ∃ k : Nat, k ≤ rn.length ∧ x = .int .i64 k ∧ Hid (legalG l n zeroM (rn.take k) = k) ∧ Hid (At wr w1.heap.size (memC (behindS l n zeroM (rn.take k))) 85) ∧ Hid (Below w1.heap.size w1 wr)) (fun x _ => rn.length - (intOf x).toNat)
    case atStart => exact ⟨0, by omega, rfl, rfl, HA0, HB0⟩
    case round =>
      clear HA0 HB0
      obtain ⟨k, hk, rfl, HG, HA, HB⟩ := hrel
      by_cases hlt : k < rn.length
      · obtain ⟨b, o, c', he, hbl, hcs⟩ := (HR.out.below (HB1.out.trans (HB.out.mono HB1.out.size)) (Nat.le_refl _)).opened (by simp [ints]; omega)
        simp only [Value.slice.injEq] at he
        obtain ⟨rfl, -, rfl⟩ := he
        have hck := hcs k _ (ints_castL rn k hlt)
        have hpl := HLT.out _ (List.getElem_mem hlt)
        have HT2 := Lib.hid (HV1.out.below HB.out (Nat.le_refl _))
        obtain ⟨b2, o2, c2, he2⟩ := HT2.out.opened (by omega)
        simp only [Value.slice.injEq] at he2
        obtain ⟨rfl, -, rfl⟩ := he2
        obtain ⟨ov, x0, x1, x2, x3, x4, q⟩ := HT2.out.get rn[k] hpl
        obtain ⟨ua, uc, rfl, -⟩ := q.len
        obtain ⟨hok, hol⟩ := HOK.out _ hpl
        have HBT := Lib.hid (behind_take (l := l) (c := n) (M := zeroM) hlt)
        have hao : opsAt l rn[k] = l[rn[k]].o := opsAtL_get hpl
        have HNX2 := Lib.hid (HNX.out k hlt HG.out)
        have HNO2 := Lib.hid (HNO.out k hlt HG.out)
        have hle := own_le l[rn[k]].o (behindS l n zeroM (rn.take k))
        rw [hao] at HNX2 HNO2
        have HFW := Lib.hid (fun (W : World) (hW : Below wr.heap.size wr W) => firstWrong_any _ l[rn[k]].o (behindS l n zeroM (rn.take k)) W (q.below hW (Nat.le_refl _)) hok (by omega))
        have HLF := Lib.hid (fun (W : World) (hT : Txs W (.slice (some ⟨b2, o2, none⟩) l.length c1) l) => left_any _ l (behindS l n zeroM (rn.take k)) rn[k] n W hT hpl h6 hn hok (by omega))
        clear hao q hok
        generalize l[rn[k]].o = ops at *
        generalize rn[k] = p at *
        generalize behindS l n zeroM (rn.take k) = MM at *
        obtain ⟨M3, hM3⟩ : ∃ M3, stepM l n MM p = M3 := ⟨_, rfl⟩
        rw [hM3] at HBT HLF
        clear hM3 x0 x1 x2 x3 hcs
        unfold memC at HFW HLF
        generalize ownS MM ops = ow at *
        by_cases how : ow = ops.length
        · have HG2 := Lib.hid (HNX2.out how)
          subst how
          clear HNX2 HNO2 hle
          have m0 := HA.out.cell (i := 0) (v := .int .i64 (MM 0)) rfl
          have m1 := HA.out.cell (i := 1) (v := .int .i64 (MM 1)) rfl
          have m2 := HA.out.cell (i := 2) (v := .int .i64 (MM 2)) rfl
          have m3 := HA.out.cell (i := 3) (v := .int .i64 (MM 3)) rfl
          have m4 := HA.out.cell (i := 4) (v := .int .i64 (MM 4)) rfl
          have m5 := HA.out.cell (i := 5) (v := .int .i64 (MM 5)) rfl
          have m6 := HA.out.cell (i := 6) (v := .int .i64 (MM 6)) rfl
          have m7 := HA.out.cell (i := 7) (v := .int .i64 (MM 7)) rfl
          go_wp2_with (first | (go_at_call 46; refine (HFW.out _ (Below.refl _ _)).mono ?_; rintro e w3 ⟨rfl, hb3⟩; have HA3 := Lib.hid (HA.out.below hb3 HA.out.lt); have HB3 := Lib.hid (HB.out.trans (hb3.mono HB.out.size)); have HT3 := Lib.hid (HT2.out.below hb3 (Nat.le_refl _)); have y4 := (hb3.cell (p := ⟨b2, o2 + p * 5 + 4, none⟩) (cell_lt x4)).trans x4; have n0 := HA3.out.cell (i := 0) (v := .int .i64 (MM 0)) rfl; have n1 := HA3.out.cell (i := 1) (v := .int .i64 (MM 1)) rfl; have n2 := HA3.out.cell (i := 2) (v := .int .i64 (MM 2)) rfl; have n3 := HA3.out.cell (i := 3) (v := .int .i64 (MM 3)) rfl; have n4 := HA3.out.cell (i := 4) (v := .int .i64 (MM 4)) rfl; have n5 := HA3.out.cell (i := 5) (v := .int .i64 (MM 5)) rfl; have n6 := HA3.out.cell (i := 6) (v := .int .i64 (MM 6)) rfl; have n7 := HA3.out.cell (i := 7) (v := .int .i64 (MM 7)) rfl; clear hb3) | (go_at_call 47; refine (HLF.out _ HT3.out).mono ?_; rintro e w4 ⟨rfl, hb4⟩; have HA4 := Lib.hid (HA3.out.below hb4 HA3.out.lt); have HB4 := Lib.hid (HB3.out.trans (hb4.mono HB3.out.size)); have k0 := HA4.out.cell (i := 0) (v := .int .i64 (MM 0)) rfl; have k1 := HA4.out.cell (i := 1) (v := .int .i64 (MM 1)) rfl; have k2 := HA4.out.cell (i := 2) (v := .int .i64 (MM 2)) rfl; have k3 := HA4.out.cell (i := 3) (v := .int .i64 (MM 3)) rfl; have k4 := HA4.out.cell (i := 4) (v := .int .i64 (MM 4)) rfl; have k5 := HA4.out.cell (i := 5) (v := .int .i64 (MM 5)) rfl; have k6 := HA4.out.cell (i := 6) (v := .int .i64 (MM 6)) rfl; have k7 := HA4.out.cell (i := 7) (v := .int .i64 (MM 7)) rfl; have f0 := HA4.out.free 0; have f1 := HA4.out.free 1; have f2 := HA4.out.free 2; have f3 := HA4.out.free 3; have f4 := HA4.out.free 4; have f5 := HA4.out.free 5; have f6 := HA4.out.free 6; have f7 := HA4.out.free 7; clear hb4))
          have HA5 : Hid (At ((((((((w4.setCell ⟨w1.heap.size, 0, none⟩ (.int .i64 (M3 0))).setCell ⟨w1.heap.size, 1, none⟩ (.int .i64 (M3 1))).setCell ⟨w1.heap.size, 2, none⟩ (.int .i64 (M3 2))).setCell ⟨w1.heap.size, 3, none⟩ (.int .i64 (M3 3))).setCell ⟨w1.heap.size, 4, none⟩ (.int .i64 (M3 4))).setCell ⟨w1.heap.size, 5, none⟩ (.int .i64 (M3 5))).setCell ⟨w1.heap.size, 6, none⟩ (.int .i64 (M3 6))).setCell ⟨w1.heap.size, 7, none⟩ (.int .i64 (M3 7))) w1.heap.size (memC (behindS l n zeroM (rn.take (k + 1)))) 85) := by rw [HBT.out, ← memC_set MM M3]; exact ((((((((HA4.out.set 0 (.int .i64 (M3 0))).set 1 (.int .i64 (M3 1))).set 2 (.int .i64 (M3 2))).set 3 (.int .i64 (M3 3))).set 4 (.int .i64 (M3 4))).set 5 (.int .i64 (M3 5))).set 6 (.int .i64 (M3 6))).set 7 (.int .i64 (M3 7)))
          have HB5 : Hid (Below w1.heap.size w1 ((((((((w4.setCell ⟨w1.heap.size, 0, none⟩ (.int .i64 (M3 0))).setCell ⟨w1.heap.size, 1, none⟩ (.int .i64 (M3 1))).setCell ⟨w1.heap.size, 2, none⟩ (.int .i64 (M3 2))).setCell ⟨w1.heap.size, 3, none⟩ (.int .i64 (M3 3))).setCell ⟨w1.heap.size, 4, none⟩ (.int .i64 (M3 4))).setCell ⟨w1.heap.size, 5, none⟩ (.int .i64 (M3 5))).setCell ⟨w1.heap.size, 6, none⟩ (.int .i64 (M3 6))).setCell ⟨w1.heap.size, 7, none⟩ (.int .i64 (M3 7)))) := ((((((((HB4.out.setCell (p := ⟨w1.heap.size, 0, none⟩) (Nat.le_refl _) (.int .i64 (M3 0))).setCell (p := ⟨w1.heap.size, 1, none⟩) (Nat.le_refl _) (.int .i64 (M3 1))).setCell (p := ⟨w1.heap.size, 2, none⟩) (Nat.le_refl _) (.int .i64 (M3 2))).setCell (p := ⟨w1.heap.size, 3, none⟩) (Nat.le_refl _) (.int .i64 (M3 3))).setCell (p := ⟨w1.heap.size, 4, none⟩) (Nat.le_refl _) (.int .i64 (M3 4))).setCell (p := ⟨w1.heap.size, 5, none⟩) (Nat.le_refl _) (.int .i64 (M3 5))).setCell (p := ⟨w1.heap.size, 6, none⟩) (Nat.le_refl _) (.int .i64 (M3 6))).setCell (p := ⟨w1.heap.size, 7, none⟩) (Nat.le_refl _) (.int .i64 (M3 7)))
          go_roundw
          case rel => exact ⟨k + 1, by omega, by go_num, HG2.out, HA5.out, HB5.out⟩
          case measure => simp [intOf]; omega
        · have hres := HNO2.out how
          rw [HRES.out] at hres
          subst hres
          have how2 : ow < ops.length := by omega
          clear HNX2 HNO2 hle how HBT HLF
          have m0 := HA.out.cell (i := 0) (v := .int .i64 (MM 0)) rfl
          have m1 := HA.out.cell (i := 1) (v := .int .i64 (MM 1)) rfl
          have m2 := HA.out.cell (i := 2) (v := .int .i64 (MM 2)) rfl
          have m3 := HA.out.cell (i := 3) (v := .int .i64 (MM 3)) rfl
          have m4 := HA.out.cell (i := 4) (v := .int .i64 (MM 4)) rfl
          have m5 := HA.out.cell (i := 5) (v := .int .i64 (MM 5)) rfl
          have m6 := HA.out.cell (i := 6) (v := .int .i64 (MM 6)) rfl
          have m7 := HA.out.cell (i := 7) (v := .int .i64 (MM 7)) rfl
          go_wp2_with (go_at_call 46; refine (HFW.out _ (Below.refl _ _)).mono ?_; rintro e w3 ⟨rfl, hb3⟩; have HA3 := Lib.hid (HA.out.below hb3 HA.out.lt); have HB3 := Lib.hid (HB.out.trans (hb3.mono HB.out.size)); have HT3 := Lib.hid (HT2.out.below hb3 (Nat.le_refl _)); have y4 := (hb3.cell (p := ⟨b2, o2 + p * 5 + 4, none⟩) (cell_lt x4)).trans x4; have n0 := HA3.out.cell (i := 0) (v := .int .i64 (MM 0)) rfl; have n1 := HA3.out.cell (i := 1) (v := .int .i64 (MM 1)) rfl; have n2 := HA3.out.cell (i := 2) (v := .int .i64 (MM 2)) rfl; have n3 := HA3.out.cell (i := 3) (v := .int .i64 (MM 3)) rfl; have n4 := HA3.out.cell (i := 4) (v := .int .i64 (MM 4)) rfl; have n5 := HA3.out.cell (i := 5) (v := .int .i64 (MM 5)) rfl; have n6 := HA3.out.cell (i := 6) (v := .int .i64 (MM 6)) rfl; have n7 := HA3.out.cell (i := 7) (v := .int .i64 (MM 7)) rfl; clear hb3)
          refine bodyPost_ret (v := .tuple #[.int .i64 (res : Int), .int .i64 0]) (by simp [results, Tryd.results17, go_sem]) rfl ⟨rfl, HB1.out.trans (HB3.out.mono HB1.out.size)⟩
      · obtain rfl : k = rn.length := by omega
        have hres : rn.length = res := by have := HG.out; rw [List.take_length, HRES.out] at this; exact this.symm
        subst hres
        go_wp2
        refine bodyPost_ret (v := .tuple #[.int .i64 (rn.length : Int), .int .i64 0]) (by simp [results, Tryd.results17, go_sem]) rfl ⟨rfl, HB1.out.trans (HB.out.mono HB1.out.size)⟩
  · simp only [if_neg h0] at HT ⊢
    obtain ⟨er, her⟩ : ∃ er, errL h row = er := ⟨_, rfl⟩
    rw [her] at HT h0 ⊢
    have te : ((er : Int) != 0) = true := by simp; omega
    clear her hK hv hl hr
    go_enter Tryd.func17, Tryd.ntmps17
    go_wp2_with fail
    refine HT.out.mono ?_
    rintro e w1 ⟨v1, rfl, hv1, hb1⟩
    obtain ⟨a1, c1, rfl⟩ := hv1.len
    go_wp2
    refine bodyPost_ret (v := .tuple #[.int .i64 0, .int .i64 er]) (by simp [results, Tryd.results17, go_sem]) rfl ⟨rfl, hb1⟩
end Go.Proofs.YtegpelpnbkdgcaaDoor
