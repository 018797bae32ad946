/- The walks of package legal's tableOf, Legal, Memory. -/
import Derived.Test.YtmnblljenobofaaDoorLegC
namespace Go.Proofs.YtmnblljenobofaaDoor.WPlain
end Go.Proofs.YtmnblljenobofaaDoor.WPlain
namespace Go.Proofs.YtmnblljenobofaaDoor.QPlain
end Go.Proofs.YtmnblljenobofaaDoor.QPlain
namespace Go.Proofs.YtmnblljenobofaaDoor.RPlain
end Go.Proofs.YtmnblljenobofaaDoor.RPlain
namespace Go.Proofs.YtmnblljenobofaaDoor
open Go.RowKit WPlain QPlain RPlain

theorem isNoneL_any (x : Int) (n : Nat) (N : Nat) (a : Option Addr) (c : Nat) (w : World) (hc : w.cell? ⟨N, 0, none⟩ = some (.slice a n c)) :
    Calls Tryd.prog 41 #[.int .i64 x, .pointer (some ⟨N, 0, none⟩)] w fun e w' => e = .returned (.bool (noneB n x)) ∧ w' = w := by
  go_enter Tryd.func41, Tryd.ntmps41
  go_wp2
  all_goals go_ret
  all_goals exact ⟨by unfold noneB; simp [*], rfl⟩
set_option maxRecDepth 100000 in
set_option maxHeartbeats 1000000 in
theorem indexNL_any (v : Value) (row : List Int) (n N : Nat) (a : Option Addr) (c : Nat) (w : World) (hv : Rd w v (ints row)) (hl : row.length ≤ 65536) (hc : w.cell? ⟨N, 0, none⟩ = some (.slice a n c)) :
    Calls Tryd.prog 60 #[v, .func (.func 41) #[] #[.pointer (some ⟨N, 0, none⟩)]] w fun e w' => (∃ z : Int, e = .returned (.int .i64 z) ∧ decide (0 ≤ z) = row.any (noneB n)) ∧ w' = w := by
  have HV := Lib.hid hv
  have HCL := Lib.hid (fun x => isNoneL_any x n N a c w hc)
  obtain ⟨va, vc, rfl⟩ := hv.len
  rw [ints_len] at HV ⊢
  clear hv hc
  go_enter Tryd.func60, Tryd.ntmps60
  go_wp2_with fail
  go_loopw [8] (fun x wr => ∃ k : Nat, k ≤ row.length ∧ x = .int .i64 k ∧ Hid ((row.take k).any (noneB n) = false) ∧ wr = w) (fun x _ => row.length - (intOf x).toNat)
  case atStart => exact ⟨0, by omega, rfl, rfl, rfl⟩
  case round =>
    obtain ⟨k, hk, rfl, HA, rfl⟩ := hrel
    by_cases hlt : k < row.length
    · have HT : Hid (row.take (k + 1) = row.take k ++ [row[k]]) := List.take_succ_eq_append_getElem hlt
      have HM : Hid (row[k] ∈ row) := List.getElem_mem hlt
      obtain ⟨b, o, c', he, hbl, hcs⟩ := HV.out.opened (by rw [ints_len]; omega)
      simp only [Value.slice.injEq] at he
      obtain ⟨rfl, -, rfl⟩ := he
      have hck := hcs k (.int .i64 row[k]) (by unfold ints; rw [List.getElem?_map, List.getElem?_eq_getElem hlt]; rfl)
      clear hcs
      generalize row[k] = y at *
      cases hnb : noneB n y with
      | false =>
        have HC2 := Lib.hid (HCL.out y)
        rw [hnb] at HC2
        have HA2 : Hid ((row.take (k + 1)).any (noneB n) = false) := by
          unfold Hid
          rw [HT.out, List.any_append, HA.out]
          simp [hnb]
        clear hnb HT HM HA
        go_wp2_with (go_at_call 41; refine HC2.out.mono ?_; rintro e w3 ⟨rfl, rfl⟩)
        go_roundw
        case rel => exact ⟨k + 1, by omega, by go_num, HA2, trivial⟩
        case measure => simp [intOf]; omega
      | true =>
        have HC2 := Lib.hid (HCL.out y)
        rw [hnb] at HC2
        have HA2 : Hid (row.any (noneB n) = true) := List.any_eq_true.2 ⟨y, HM.out, hnb⟩
        clear hnb HT HM HA
        go_wp2_with (go_at_call 41; refine HC2.out.mono ?_; rintro e w3 ⟨rfl, rfl⟩)
        go_ret
        exact ⟨⟨_, rfl, by rw [HA2.out]; exact decide_eq_true (by omega)⟩, rfl⟩
    · obtain rfl : k = row.length := by omega
      have HA2 : Hid (row.any (noneB n) = false) := by have := HA.out; rwa [List.take_length] at this
      clear HA
      go_wp2
      go_ret
      exact ⟨⟨_, rfl, by rw [HA2.out]; rfl⟩, rfl⟩
theorem containsNL_any (v : Value) (row : List Int) (n N : Nat) (a : Option Addr) (c : Nat) (w : World) (hv : Rd w v (ints row)) (hl : row.length ≤ 65536) (hc : w.cell? ⟨N, 0, none⟩ = some (.slice a n c)) :
    Calls Tryd.prog 40 #[v, .func (.func 41) #[] #[.pointer (some ⟨N, 0, none⟩)]] w fun e w' => e = .returned (.bool (row.any (noneB n))) ∧ w' = w := by
  have HI := Lib.hid (indexNL_any v row n N a c w hv hl hc)
  clear hv hl hc
  go_enter Tryd.func40, Tryd.ntmps40
  go_wp2_with fail
  refine HI.out.mono ?_
  rintro e w1 ⟨⟨z, rfl, hz⟩, rfl⟩
  go_wp2
  all_goals go_ret
  all_goals exact ⟨ret_bool (by rw [← hz]), rfl⟩
theorem ints_castL (rn : List Nat) (k : Nat) (hk : k < rn.length) : (ints (rn.map (fun x : Nat => (x : Int))))[k]? = some (.int .i64 (rn[k] : Int)) := by
  unfold ints
  rw [List.getElem?_map, List.getElem?_map, List.getElem?_eq_getElem hk]
  rfl
set_option maxRecDepth 100000 in
set_option maxHeartbeats 1000000 in
theorem tableOf_any (v rv : Value) (h : List Ev) (row : List Int) (w : World) (hK : HasK w) (hv : Evs w v h) (hl : h.length ≤ 65536) (hr : Rd w rv (ints row)) (hrl : row.length ≤ 65536) :
    Calls Tryd.prog 24 #[v, rv] w fun e w' => ∃ v', e = .returned (.tuple #[v', .int .i64 ((errL h row : Nat) : Int)]) ∧ Txs w' v' (if errL h row = 0 then tableS h else []) ∧ Below w.heap.size w w' := by
  have HT := Lib.hid (table_any v h w hK hv hl)
  have HR := Lib.hid hr
  unfold errL
  by_cases h0 : (checkS h).2 = 0
  · simp only [if_pos h0] at HT ⊢
    rw [h0] at HT
    have h6 := table_six h0
    have hnt := none_there (tableS h) row
    cases ht : thereS (tableS h) row with
    | true =>
      rw [ht] at hnt
      obtain ⟨rn, rfl, hrn⟩ := row_nats ht
      simp only [if_true]
      have hnc := nodup_cast rn
      simp only [hnc]
      clear h0 hv hK hr ht hnc
      generalize tableS h = l at *
      rw [List.length_map] at hrl
      have HLT : Hid (∀ b ∈ rn, b < l.length) := hrn
      have HNX := Lib.hid (fun (k : Nat) (hk : k < rn.length) h1 h2 => nodup_next (l := rn) (k := k) hk h1 h2)
      have HNO := Lib.hid (fun (k : Nat) (hk : k < rn.length) h1 => nodup_not (l := rn) (k := k) hk h1)
      have HAT := Lib.hid (fun (k : Nat) (hk : k < rn.length) => ints_castL rn k hk)
      have HTE := Lib.hid (fun (k : Nat) (hk : k < rn.length) => List.take_succ_eq_append_getElem hk)
      have HAL : Hid (∀ k, aheadN (rn.take k) < 4294967296) := fun k => pow_32 h6 (aheadN_lt fun p hp => hrn p (List.mem_of_mem_take hp))
      clear hrn
      obtain ⟨er, her⟩ : ∃ er : Nat, (if rn.Nodup then 0 else 1) = er := ⟨_, rfl⟩
      have HE0 : Hid (rn.Nodup → er = 0) := fun h => by rw [← her, if_pos h]
      have HE1 : Hid (¬ rn.Nodup → er = 1) := fun h => by rw [← her, if_neg h]
      rw [her]
      clear her
      go_enter Tryd.func24, Tryd.ntmps24
      go_wp2_with fail
      refine HT.out.mono ?_
      rintro e w1 ⟨v1, rfl, hv1, hb1⟩
      have HV1 := Lib.hid hv1
      have HB1 := Lib.hid hb1
      obtain ⟨a1, c1, rfl⟩ := hv1.len
      clear hv1 hb1 HT
      have hba := (Below.refl w1.heap.size w1).alloc (Nat.le_refl _) (.cells #[.slice a1 l.length c1] 52)
      have hnew := (At.new w1 #[.slice a1 l.length c1] 52).cell (i := 0) rfl
      have HR2 := Lib.hid ((HR.out.below HB1.out (Nat.le_refl _)).below hba (Nat.le_refl _))
      have HCN := Lib.hid (containsNL_any rv _ l.length w1.heap.size a1 c1 (w1.alloc (.cells #[.slice a1 l.length c1] 52)) HR2.out (by rw [List.length_map]; exact hrl) hnew)
      rw [hnt] at HCN
      have HV2 := Lib.hid (HV1.out.below hba (Nat.le_refl _))
      have HB2 := Lib.hid (HB1.out.alloc HB1.out.size (.cells #[.slice a1 l.length c1] 52))
      clear hba hnt HR
      go_wp2_with fail
      refine HCN.out.mono ?_
      rintro e w2 ⟨rfl, rfl⟩
      generalize w1.alloc (.cells #[.slice a1 l.length c1] 52) = w3 at *
      have hrlen := HR2.out.len
      obtain ⟨ra, rc, rfl⟩ := hrlen
      have hil : (ints (rn.map (fun x : Nat => (x : Int)))).length = rn.length := by simp [ints]
      rw [hil] at HR2 ⊢
      clear HCN hil
      go_wp2_with fail
      go_loopw [9, 26] (fun y x wr => ∃ k : Nat, k ≤ rn.length ∧ x = .int .i64 k ∧ y = .int .u32 ((aheadN (rn.take k) : Nat) : Int) ∧ Hid ((rn.take k).Nodup) ∧ wr = w3) (fun _ x _ => rn.length - (intOf x).toNat)
      case atStart => exact ⟨0, by omega, rfl, rfl, by unfold Hid; simp, rfl⟩
      case round =>
        obtain ⟨k, hk, rfl, rfl, HN, rfl⟩ := hrel
        by_cases hlt : k < rn.length
        · obtain ⟨b, o, c', he, hbl, hcs⟩ := HR2.out.opened (by simp [ints]; omega)
          simp only [Value.slice.injEq] at he
          obtain ⟨rfl, -, rfl⟩ := he
          have hck := hcs k _ (HAT.out k hlt)
          have hpl := HLT.out _ (List.getElem_mem hlt)
          have HNX2 := Lib.hid (HNX.out k hlt HN.out)
          have HNO2 := Lib.hid (HNO.out k hlt)
          have hkb := bitL_any rn[k] (by omega)
          have hlt3 : 2 ^ rn[k] < 4294967296 := two_32 h6 hpl
          have hlt2 := HAL.out k
          have hand := u32_and_nat (aheadN (rn.take k)) (2 ^ rn[k]) hlt2 hlt3
          have hor := u32_or_nat (aheadN (rn.take k)) (2 ^ rn[k]) hlt2 hlt3
          have hin := ahead_in (rn.take k) rn[k]
          have hsn := aheadN_snoc (rn.take k) rn[k]
          rw [← HTE.out k hlt] at hsn
          rw [← hsn] at hor
          clear hcs hlt2 hlt3 hsn
          generalize rn[k] = p at *
          generalize aheadN (rn.take k) = A at *
          obtain ⟨A2, hA2⟩ : ∃ A2, aheadN (rn.take (k + 1)) = A2 := ⟨_, rfl⟩
          rw [hA2] at hor
          have HA2 := Lib.hid hA2
          clear hA2
          generalize 2 ^ p = pw at *
          obtain ⟨z, hz⟩ : ∃ z : Nat, A &&& pw = z := ⟨_, rfl⟩
          rw [hz] at hand hin
          clear hz
          by_cases hm : p ∈ rn.take k
          · have tq : ((z : Int) != 0) = true := by simp; exact fun hc => hin.1 hc hm
            obtain rfl : er = 1 := HE1.out (HNO2.out hm)
            clear hin hm
            go_wp2_with (go_at_call 42; refine (hkb _).mono ?_; rintro e w2 ⟨rfl, rfl⟩)
            refine bodyPost_ret (v := .tuple #[.slice none 0 0, .int .i64 1]) (by simp [results, Tryd.results24, go_sem]) rfl ⟨_, rfl, Txs.nil _ _ _, HB2.out⟩
          · have tq : ((z : Int) != 0) = false := by simp; exact hin.2 hm
            have HN2 := Lib.hid (HNX2.out hm)
            clear hin hm
            go_wp2_with (go_at_call 42; refine (hkb _).mono ?_; rintro e w2 ⟨rfl, rfl⟩)
            go_roundw
            case rel => exact ⟨k + 1, by omega, by go_num, by rw [HA2.out], HN2, trivial⟩
            case measure => simp [intOf]; omega
        · obtain rfl : k = rn.length := by omega
          obtain rfl : er = 0 := HE0.out (by have := HN.out; rwa [List.take_length] at this)
          go_wp2
          refine bodyPost_ret (v := .tuple #[.slice a1 l.length c1, .int .i64 0]) (by simp [results, Tryd.results24, go_sem]) rfl ⟨_, rfl, HV2.out, HB2.out⟩
    | false =>
      rw [ht] at hnt
      simp only [Bool.false_eq_true, if_false]
      clear h0 hv hK hr ht
      generalize tableS h = l at *
      go_enter Tryd.func24, Tryd.ntmps24
      go_wp2_with fail
      refine HT.out.mono ?_
      rintro e w1 ⟨v1, rfl, hv1, hb1⟩
      have HV1 := Lib.hid hv1
      have HB1 := Lib.hid hb1
      obtain ⟨a1, c1, rfl⟩ := hv1.len
      clear hv1 hb1 HT
      have hba := (Below.refl w1.heap.size w1).alloc (Nat.le_refl _) (.cells #[.slice a1 l.length c1] 52)
      have hnew := (At.new w1 #[.slice a1 l.length c1] 52).cell (i := 0) rfl
      have HCN := Lib.hid (containsNL_any rv row l.length w1.heap.size a1 c1 (w1.alloc (.cells #[.slice a1 l.length c1] 52)) ((HR.out.below HB1.out (Nat.le_refl _)).below hba (Nat.le_refl _)) hrl hnew)
      rw [hnt] at HCN
      have HB2 := Lib.hid (HB1.out.alloc HB1.out.size (.cells #[.slice a1 l.length c1] 52))
      clear hba hnt
      go_wp2_with fail
      refine HCN.out.mono ?_
      rintro e w2 ⟨rfl, rfl⟩
      go_wp2
      refine bodyPost_ret (v := .tuple #[.slice none 0 0, .int .i64 7]) (by simp [results, Tryd.results24, go_sem]) rfl ⟨_, rfl, Txs.nil _ _ _, HB2.out⟩
  · simp only [if_neg h0] at HT ⊢
    obtain ⟨er, her⟩ : ∃ er, (checkS h).2 = er := ⟨_, rfl⟩
    rw [her] at HT h0 ⊢
    have te : ((er : Int) != 0) = true := by simp; omega
    clear her hK hv hl hr
    go_enter Tryd.func24, Tryd.ntmps24
    go_wp2_with fail
    refine HT.out.mono ?_
    rintro e w1 ⟨v1, rfl, hv1, hb1⟩
    obtain ⟨a1, c1, rfl⟩ := hv1.len
    go_wp2
    refine bodyPost_ret (v := .tuple #[.slice none 0 0, .int .i64 er]) (by simp [results, Tryd.results24, go_sem]) rfl ⟨_, rfl, Txs.nil _ _ _, hb1.alloc hb1.size _⟩
end Go.Proofs.YtmnblljenobofaaDoor
