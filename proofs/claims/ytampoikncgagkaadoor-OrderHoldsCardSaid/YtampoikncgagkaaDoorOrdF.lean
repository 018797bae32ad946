/- The walks of package order's afterOf, Before and Keeps. -/
import Derived.Test.YtampoikncgagkaaDoorOrdE
import Derived.BigQuiet
namespace Go.Proofs.YtampoikncgagkaaDoor.WPlain
end Go.Proofs.YtampoikncgagkaaDoor.WPlain
namespace Go.Proofs.YtampoikncgagkaaDoor.QPlain
end Go.Proofs.YtampoikncgagkaaDoor.QPlain
namespace Go.Proofs.YtampoikncgagkaaDoor.RPlain
end Go.Proofs.YtampoikncgagkaaDoor.RPlain
namespace Go.Proofs.YtampoikncgagkaaDoor
open Go.RowKit WPlain QPlain RPlain

/-- is there no transaction of a place? -/
def noneB (n : Nat) (x : Int) : Bool := decide (x < 0) || decide ((n : Int) ≤ x)
theorem none_there (l : List Tx) (row : List Int) : row.any (noneB l.length) = !(thereS l row) := by
  unfold thereS
  rw [List.not_all_eq_any_not]
  refine congrArg (fun p => row.any p) (funext fun x => ?_)
  unfold noneB
  by_cases h1 : x < 0
  · simp [h1]
  · by_cases h2 : (l.length : Int) ≤ x
    · simp [h1, h2]
    · simp [h1, h2]; omega
theorem isNone_any (x : Int) (n : Nat) (N : Nat) (a : Option Addr) (c : Nat) (w : World) (hc : w.cell? ⟨N, 0, none⟩ = some (.slice a n c)) :
    Calls Tryd.prog 31 #[.int .i64 x, .pointer (some ⟨N, 0, none⟩)] w fun e w' => e = .returned (.bool (noneB n x)) ∧ w' = w := by
  go_enter Tryd.func31, Tryd.ntmps31
  go_wp2
  all_goals go_ret
  all_goals exact ⟨by unfold noneB; simp [*], rfl⟩
set_option maxRecDepth 100000 in
set_option maxHeartbeats 1000000 in
theorem indexN_any (v : Value) (row : List Int) (n N : Nat) (a : Option Addr) (c : Nat) (w : World) (hv : Rd w v (ints row)) (hl : row.length ≤ 65536) (hc : w.cell? ⟨N, 0, none⟩ = some (.slice a n c)) :
    Calls Tryd.prog 41 #[v, .func (.func 31) #[] #[.pointer (some ⟨N, 0, none⟩)]] w fun e w' => (∃ z : Int, e = .returned (.int .i64 z) ∧ decide (0 ≤ z) = row.any (noneB n)) ∧ w' = w := by
  have HV := Lib.hid hv
  have HCL := Lib.hid (fun x => isNone_any x n N a c w hc)
  obtain ⟨va, vc, rfl⟩ := hv.len
  rw [ints_len] at HV ⊢
  clear hv hc
  go_enter Tryd.func41, Tryd.ntmps41
  go_wp2_with fail
  go_loopw [8] (fun x wr => ∃ k : Nat, k ≤ row.length ∧ x = .int .i64 k ∧ Hid ((row.take k).any (noneB n) = false) ∧ wr = w) (fun x _ => row.length - (intOf x).toNat)
  case atStart => exact ⟨0, by omega, rfl, rfl, rfl⟩
  case round =>
    obtain ⟨k, hk, rfl, HA, rfl⟩ := hrel
    by_cases hlt : k < row.length
    · have HT : Hid (row.take (k + 1) = row.take k ++ [row[k]]) := List.take_succ_eq_append_getElem hlt
      have HM : Hid (row[k] ∈ row) := List.getElem_mem hlt
      obtain ⟨b, o, c', he, hbl, hcs⟩ := HV.out.opened (by rw [ints_len]; omega)
      simp only [Value.slice.injEq] at he
      obtain ⟨rfl, -, rfl⟩ := he
      have hck := hcs k (.int .i64 row[k]) (by unfold ints; rw [List.getElem?_map, List.getElem?_eq_getElem hlt]; rfl)
      clear hcs
      generalize row[k] = y at *
      cases hnb : noneB n y with
      | false =>
        have HC2 := Lib.hid (HCL.out y)
        rw [hnb] at HC2
        have HA2 : Hid ((row.take (k + 1)).any (noneB n) = false) := by
          unfold Hid
          rw [HT.out, List.any_append, HA.out]
          simp [hnb]
        clear hnb HT HM HA
        go_wp2_with (go_at_call 31; refine HC2.out.mono ?_; rintro e w3 ⟨rfl, rfl⟩)
        go_roundw
        case rel => exact ⟨k + 1, by omega, by go_num, HA2, trivial⟩
        case measure => simp [intOf]; omega
      | true =>
        have HC2 := Lib.hid (HCL.out y)
        rw [hnb] at HC2
        have HA2 : Hid (row.any (noneB n) = true) := List.any_eq_true.2 ⟨y, HM.out, hnb⟩
        clear hnb HT HM HA
        go_wp2_with (go_at_call 31; refine HC2.out.mono ?_; rintro e w3 ⟨rfl, rfl⟩)
        go_ret
        exact ⟨⟨_, rfl, by rw [HA2.out]; exact decide_eq_true (by omega)⟩, rfl⟩
    · obtain rfl : k = row.length := by omega
      have HA2 : Hid (row.any (noneB n) = false) := by have := HA.out; rwa [List.take_length] at this
      clear HA
      go_wp2
      go_ret
      exact ⟨⟨_, rfl, by rw [HA2.out]; rfl⟩, rfl⟩
theorem containsN_any (v : Value) (row : List Int) (n N : Nat) (a : Option Addr) (c : Nat) (w : World) (hv : Rd w v (ints row)) (hl : row.length ≤ 65536) (hc : w.cell? ⟨N, 0, none⟩ = some (.slice a n c)) :
    Calls Tryd.prog 32 #[v, .func (.func 31) #[] #[.pointer (some ⟨N, 0, none⟩)]] w fun e w' => e = .returned (.bool (row.any (noneB n))) ∧ w' = w := by
  have HI := Lib.hid (indexN_any v row n N a c w hv hl hc)
  clear hv hl hc
  go_enter Tryd.func32, Tryd.ntmps32
  go_wp2_with fail
  refine HI.out.mono ?_
  rintro e w1 ⟨⟨z, rfl, hz⟩, rfl⟩
  go_wp2
  all_goals go_ret
  all_goals exact ⟨ret_bool (by rw [← hz]), rfl⟩
/-- the error of places of events -/
def errP (h : List Ev) (row : List Int) : Nat := if (checkS h).2 = 0 then (if thereS (tableS h) row = true then 0 else 7) else (checkS h).2
set_option maxRecDepth 100000 in
theorem afterOf_any (v rv : Value) (h : List Ev) (row : List Int) (w : World) (hK : HasK w) (hv : Evs w v h) (hl : h.length ≤ 65536) (hr : Rd w rv (ints row)) (hrl : row.length ≤ 65536) :
    Calls Tryd.prog 23 #[v, rv] w fun e w' => ∃ v', e = .returned (.tuple #[v', .int .i64 ((errP h row : Nat) : Int)]) ∧ Rd w' v' (if errP h row = 0 then u32s (afterS (tableS h)) else []) ∧ Below w.heap.size w w' := by
  have HT := Lib.hid (after_any v h w hK hv hl)
  have HR := Lib.hid hr
  unfold errP
  by_cases h0 : (checkS h).2 = 0
  · simp only [if_pos h0] at HT ⊢
    rw [h0] at HT
    have hnt := none_there (tableS h) row
    have hal : (u32s (afterS (tableS h))).length = (tableS h).length := by simp [u32s, afterS]
    generalize u32s (afterS (tableS h)) = L at *
    cases ht : thereS (tableS h) row with
    | true =>
      rw [ht] at hnt
      simp only [if_true]
      clear h0 hv hK hr ht
      generalize tableS h = l at *
      go_enter Tryd.func23, Tryd.ntmps23
      go_wp2_with fail
      refine HT.out.mono ?_
      rintro e w1 ⟨v1, rfl, hv1, hb1⟩
      have HV1 := Lib.hid hv1
      have HB1 := Lib.hid hb1
      obtain ⟨a1, c1, rfl⟩ := hv1.len
      rw [hal] at HV1 ⊢
      clear hv1 hb1 HT
      have hba := (Below.refl w1.heap.size w1).alloc (Nat.le_refl _) (.cells #[.slice a1 l.length c1] 24)
      have hnew := (At.new w1 #[.slice a1 l.length c1] 24).cell (i := 0) rfl
      have HCN := Lib.hid (containsN_any rv row l.length w1.heap.size a1 c1 (w1.alloc (.cells #[.slice a1 l.length c1] 24)) ((HR.out.below HB1.out (Nat.le_refl _)).below hba (Nat.le_refl _)) hrl hnew)
      rw [hnt] at HCN
      have HV2 := Lib.hid (HV1.out.below hba (Nat.le_refl _))
      have HB2 := Lib.hid (HB1.out.alloc HB1.out.size (.cells #[.slice a1 l.length c1] 24))
      clear hba hnt
      go_wp2_with fail
      refine HCN.out.mono ?_
      rintro e w2 ⟨rfl, rfl⟩
      go_wp2
      refine bodyPost_ret (v := .tuple #[.slice a1 l.length c1, .int .i64 0]) (by simp [results, Tryd.results23, go_sem]) rfl ⟨_, rfl, HV2.out, HB2.out⟩
    | false =>
      rw [ht] at hnt
      simp only [Bool.false_eq_true, if_false]
      clear h0 hv hK hr ht
      generalize tableS h = l at *
      go_enter Tryd.func23, Tryd.ntmps23
      go_wp2_with fail
      refine HT.out.mono ?_
      rintro e w1 ⟨v1, rfl, hv1, hb1⟩
      have HV1 := Lib.hid hv1
      have HB1 := Lib.hid hb1
      obtain ⟨a1, c1, rfl⟩ := hv1.len
      rw [hal] at HV1 ⊢
      clear hv1 hb1 HT
      have hba := (Below.refl w1.heap.size w1).alloc (Nat.le_refl _) (.cells #[.slice a1 l.length c1] 24)
      have hnew := (At.new w1 #[.slice a1 l.length c1] 24).cell (i := 0) rfl
      have HCN := Lib.hid (containsN_any rv row l.length w1.heap.size a1 c1 (w1.alloc (.cells #[.slice a1 l.length c1] 24)) ((HR.out.below HB1.out (Nat.le_refl _)).below hba (Nat.le_refl _)) hrl hnew)
      rw [hnt] at HCN
      have HB2 := Lib.hid (HB1.out.alloc HB1.out.size (.cells #[.slice a1 l.length c1] 24))
      clear hba hnt
      go_wp2_with fail
      refine HCN.out.mono ?_
      rintro e w2 ⟨rfl, rfl⟩
      go_wp2
      refine bodyPost_ret (v := .tuple #[.slice none 0 0, .int .i64 7]) (by simp [results, Tryd.results23, go_sem]) rfl ⟨_, rfl, .inl ⟨rfl, _, _, rfl⟩, HB2.out⟩
  · simp only [if_neg h0] at HT ⊢
    obtain ⟨er, her⟩ : ∃ er, (checkS h).2 = er := ⟨_, rfl⟩
    rw [her] at HT h0 ⊢
    have te : ((er : Int) != 0) = true := by simp; omega
    clear her hK hv hl hr
    go_enter Tryd.func23, Tryd.ntmps23
    go_wp2_with fail
    refine HT.out.mono ?_
    rintro e w1 ⟨v1, rfl, hv1, hb1⟩
    obtain ⟨a1, c1, rfl⟩ := hv1.len
    go_wp2
    refine bodyPost_ret (v := .tuple #[.slice none 0 0, .int .i64 er]) (by simp [results, Tryd.results23, go_sem]) rfl ⟨_, rfl, .inl ⟨rfl, _, _, rfl⟩, hb1.alloc hb1.size _⟩
end Go.Proofs.YtampoikncgagkaaDoor
