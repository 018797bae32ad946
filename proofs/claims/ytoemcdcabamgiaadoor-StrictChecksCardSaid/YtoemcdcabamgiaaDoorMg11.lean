/- Merged: OrdF, OrdG. -/
import Derived.Test.YtoemcdcabamgiaaDoorOrdE
import Derived.BigQuiet
/- The walks of package order's afterOf, Before and Keeps. -/
namespace Go.Proofs.YtoemcdcabamgiaaDoor.WPlain
end Go.Proofs.YtoemcdcabamgiaaDoor.WPlain
namespace Go.Proofs.YtoemcdcabamgiaaDoor.QPlain
end Go.Proofs.YtoemcdcabamgiaaDoor.QPlain
namespace Go.Proofs.YtoemcdcabamgiaaDoor.RPlain
end Go.Proofs.YtoemcdcabamgiaaDoor.RPlain
namespace Go.Proofs.YtoemcdcabamgiaaDoor
open Go.RowKit WPlain QPlain RPlain

/-- is there no transaction of a place? -/
def noneB (n : Nat) (x : Int) : Bool := decide (x < 0) || decide ((n : Int) ≤ x)
theorem none_there (l : List Tx) (row : List Int) : row.any (noneB l.length) = !(thereS l row) := by
  unfold thereS
  rw [List.not_all_eq_any_not]
  refine congrArg (fun p => row.any p) (funext fun x => ?_)
  unfold noneB
  by_cases h1 : x < 0
  · simp [h1]
  · by_cases h2 : (l.length : Int) ≤ x
    · simp [h1, h2]
    · simp [h1, h2]; omega
theorem isNone_any (x : Int) (n : Nat) (N : Nat) (a : Option Addr) (c : Nat) (w : World) (hc : w.cell? ⟨N, 0, none⟩ = some (.slice a n c)) :
    Calls Tryd.prog 61 #[.int .i64 x, .pointer (some ⟨N, 0, none⟩)] w fun e w' => e = .returned (.bool (noneB n x)) ∧ w' = w := by
  go_enter Tryd.func61, Tryd.ntmps61
  go_wp2
  all_goals go_ret
  all_goals exact ⟨by unfold noneB; simp [*], rfl⟩
set_option maxRecDepth 100000 in
set_option maxHeartbeats 1000000 in
theorem indexN_any (v : Value) (row : List Int) (n N : Nat) (a : Option Addr) (c : Nat) (w : World) (hv : Rd w v (ints row)) (hl : row.length ≤ 65536) (hc : w.cell? ⟨N, 0, none⟩ = some (.slice a n c)) :
    Calls Tryd.prog 84 #[v, .func (.func 61) #[] #[.pointer (some ⟨N, 0, none⟩)]] w fun e w' => (∃ z : Int, e = .returned (.int .i64 z) ∧ decide (0 ≤ z) = row.any (noneB n)) ∧ w' = w := by
  have HV := Lib.hid hv
  have HCL := Lib.hid (fun x => isNone_any x n N a c w hc)
  obtain ⟨va, vc, rfl⟩ := hv.len
  rw [ints_len] at HV ⊢
  clear hv hc
  go_enter Tryd.func84, Tryd.ntmps84
  go_wp2_with fail
  go_loopw [8] (fun x wr => ∃ k : Nat, k ≤ row.length ∧ x = .int .i64 k ∧ Hid ((row.take k).any (noneB n) = false) ∧ wr = w) (fun x _ => row.length - (intOf x).toNat)
  case atStart => exact ⟨0, by omega, rfl, rfl, rfl⟩
  case round =>
    obtain ⟨k, hk, rfl, HA, rfl⟩ := hrel
    by_cases hlt : k < row.length
    · have HT : Hid (row.take (k + 1) = row.take k ++ [row[k]]) := List.take_succ_eq_append_getElem hlt
      have HM : Hid (row[k] ∈ row) := List.getElem_mem hlt
      obtain ⟨b, o, c', he, hbl, hcs⟩ := HV.out.opened (by rw [ints_len]; omega)
      simp only [Value.slice.injEq] at he
      obtain ⟨rfl, -, rfl⟩ := he
      have hck := hcs k (.int .i64 row[k]) (by unfold ints; rw [List.getElem?_map, List.getElem?_eq_getElem hlt]; rfl)
      clear hcs
      generalize row[k] = y at *
      cases hnb : noneB n y with
      | false =>
        have HC2 := Lib.hid (HCL.out y)
        rw [hnb] at HC2
        have HA2 : Hid ((row.take (k + 1)).any (noneB n) = false) := by
          unfold Hid
          rw [HT.out, List.any_append, HA.out]
          simp [hnb]
        clear hnb HT HM HA
        go_wp2_with (go_at_call 61; refine HC2.out.mono ?_; rintro e w3 ⟨rfl, rfl⟩)
        go_roundw
        case rel => exact ⟨k + 1, by omega, by go_num, HA2, trivial⟩
        case measure => simp [intOf]; omega
      | true =>
        have HC2 := Lib.hid (HCL.out y)
        rw [hnb] at HC2
        have HA2 : Hid (row.any (noneB n) = true) := List.any_eq_true.2 ⟨y, HM.out, hnb⟩
        clear hnb HT HM HA
        go_wp2_with (go_at_call 61; refine HC2.out.mono ?_; rintro e w3 ⟨rfl, rfl⟩)
        go_ret
        exact ⟨⟨_, rfl, by rw [HA2.out]; exact decide_eq_true (by omega)⟩, rfl⟩
    · obtain rfl : k = row.length := by omega
      have HA2 : Hid (row.any (noneB n) = false) := by have := HA.out; rwa [List.take_length] at this
      clear HA
      go_wp2
      go_ret
      exact ⟨⟨_, rfl, by rw [HA2.out]; rfl⟩, rfl⟩
theorem containsN_any (v : Value) (row : List Int) (n N : Nat) (a : Option Addr) (c : Nat) (w : World) (hv : Rd w v (ints row)) (hl : row.length ≤ 65536) (hc : w.cell? ⟨N, 0, none⟩ = some (.slice a n c)) :
    Calls Tryd.prog 62 #[v, .func (.func 61) #[] #[.pointer (some ⟨N, 0, none⟩)]] w fun e w' => e = .returned (.bool (row.any (noneB n))) ∧ w' = w := by
  have HI := Lib.hid (indexN_any v row n N a c w hv hl hc)
  clear hv hl hc
  go_enter Tryd.func62, Tryd.ntmps62
  go_wp2_with fail
  refine HI.out.mono ?_
  rintro e w1 ⟨⟨z, rfl, hz⟩, rfl⟩
  go_wp2
  all_goals go_ret
  all_goals exact ⟨ret_bool (by rw [← hz]), rfl⟩
/-- the error of places of events -/
def errP (h : List Ev) (row : List Int) : Nat := if (checkS h).2 = 0 then (if thereS (tableS h) row = true then 0 else 7) else (checkS h).2
set_option maxRecDepth 100000 in
theorem afterOf_any (v rv : Value) (h : List Ev) (row : List Int) (w : World) (hK : HasK w) (hv : Evs w v h) (hl : h.length ≤ 65536) (hr : Rd w rv (ints row)) (hrl : row.length ≤ 65536) :
    Calls Tryd.prog 32 #[v, rv] w fun e w' => ∃ v', e = .returned (.tuple #[v', .int .i64 ((errP h row : Nat) : Int)]) ∧ Rd w' v' (if errP h row = 0 then u32s (afterS (tableS h)) else []) ∧ Below w.heap.size w w' := by
  have HT := Lib.hid (after_any v h w hK hv hl)
  have HR := Lib.hid hr
  unfold errP
  by_cases h0 : (checkS h).2 = 0
  · simp only [if_pos h0] at HT ⊢
    rw [h0] at HT
    have hnt := none_there (tableS h) row
    have hal : (u32s (afterS (tableS h))).length = (tableS h).length := by simp [u32s, afterS]
    generalize u32s (afterS (tableS h)) = L at *
    cases ht : thereS (tableS h) row with
    | true =>
      rw [ht] at hnt
      simp only [if_true]
      clear h0 hv hK hr ht
      generalize tableS h = l at *
      go_enter Tryd.func32, Tryd.ntmps32
      go_wp2_with fail
      refine HT.out.mono ?_
      rintro e w1 ⟨v1, rfl, hv1, hb1⟩
      have HV1 := Lib.hid hv1
      have HB1 := Lib.hid hb1
      obtain ⟨a1, c1, rfl⟩ := hv1.len
      rw [hal] at HV1 ⊢
      clear hv1 hb1 HT
      have hba := (Below.refl w1.heap.size w1).alloc (Nat.le_refl _) (.cells #[.slice a1 l.length c1] 54)
      have hnew := (At.new w1 #[.slice a1 l.length c1] 54).cell (i := 0) rfl
      have HCN := Lib.hid (containsN_any rv row l.length w1.heap.size a1 c1 (w1.alloc (.cells #[.slice a1 l.length c1] 54)) ((HR.out.below HB1.out (Nat.le_refl _)).below hba (Nat.le_refl _)) hrl hnew)
      rw [hnt] at HCN
      have HV2 := Lib.hid (HV1.out.below hba (Nat.le_refl _))
      have HB2 := Lib.hid (HB1.out.alloc HB1.out.size (.cells #[.slice a1 l.length c1] 54))
      clear hba hnt
      go_wp2_with fail
      refine HCN.out.mono ?_
      rintro e w2 ⟨rfl, rfl⟩
      go_wp2
      refine bodyPost_ret (v := .tuple #[.slice a1 l.length c1, .int .i64 0]) (by simp [results, Tryd.results32, go_sem]) rfl ⟨_, rfl, HV2.out, HB2.out⟩
    | false =>
      rw [ht] at hnt
      simp only [Bool.false_eq_true, if_false]
      clear h0 hv hK hr ht
      generalize tableS h = l at *
      go_enter Tryd.func32, Tryd.ntmps32
      go_wp2_with fail
      refine HT.out.mono ?_
      rintro e w1 ⟨v1, rfl, hv1, hb1⟩
      have HV1 := Lib.hid hv1
      have HB1 := Lib.hid hb1
      obtain ⟨a1, c1, rfl⟩ := hv1.len
      rw [hal] at HV1 ⊢
      clear hv1 hb1 HT
      have hba := (Below.refl w1.heap.size w1).alloc (Nat.le_refl _) (.cells #[.slice a1 l.length c1] 54)
      have hnew := (At.new w1 #[.slice a1 l.length c1] 54).cell (i := 0) rfl
      have HCN := Lib.hid (containsN_any rv row l.length w1.heap.size a1 c1 (w1.alloc (.cells #[.slice a1 l.length c1] 54)) ((HR.out.below HB1.out (Nat.le_refl _)).below hba (Nat.le_refl _)) hrl hnew)
      rw [hnt] at HCN
      have HB2 := Lib.hid (HB1.out.alloc HB1.out.size (.cells #[.slice a1 l.length c1] 54))
      clear hba hnt
      go_wp2_with fail
      refine HCN.out.mono ?_
      rintro e w2 ⟨rfl, rfl⟩
      go_wp2
      refine bodyPost_ret (v := .tuple #[.slice none 0 0, .int .i64 7]) (by simp [results, Tryd.results32, go_sem]) rfl ⟨_, rfl, .inl ⟨rfl, _, _, rfl⟩, HB2.out⟩
  · simp only [if_neg h0] at HT ⊢
    obtain ⟨er, her⟩ : ∃ er, (checkS h).2 = er := ⟨_, rfl⟩
    rw [her] at HT h0 ⊢
    have te : ((er : Int) != 0) = true := by simp; omega
    clear her hK hv hl hr
    go_enter Tryd.func32, Tryd.ntmps32
    go_wp2_with fail
    refine HT.out.mono ?_
    rintro e w1 ⟨v1, rfl, hv1, hb1⟩
    obtain ⟨a1, c1, rfl⟩ := hv1.len
    go_wp2
    refine bodyPost_ret (v := .tuple #[.slice none 0 0, .int .i64 er]) (by simp [results, Tryd.results32, go_sem]) rfl ⟨_, rfl, .inl ⟨rfl, _, _, rfl⟩, hb1.alloc hb1.size _⟩
end Go.Proofs.YtoemcdcabamgiaaDoor
/- The walks of package order's Before and Keeps. -/
namespace Go.Proofs.YtoemcdcabamgiaaDoor.WPlain
end Go.Proofs.YtoemcdcabamgiaaDoor.WPlain
namespace Go.Proofs.YtoemcdcabamgiaaDoor.QPlain
end Go.Proofs.YtoemcdcabamgiaaDoor.QPlain
namespace Go.Proofs.YtoemcdcabamgiaaDoor.RPlain
end Go.Proofs.YtoemcdcabamgiaaDoor.RPlain
namespace Go.Proofs.YtoemcdcabamgiaaDoor.RPlain
open WPlain QPlain

/-- places that are there are numbers -/
theorem row_nats {l : List Tx} {row : List Int} (h : thereS l row = true) : ∃ rn : List Nat, row = rn.map (fun x : Nat => (x : Int)) ∧ ∀ b ∈ rn, b < l.length := by
  have h1 := (thereS_iff l row).1 h
  refine ⟨row.map Int.toNat, ?_, ?_⟩
  · refine List.ext_getElem (by simp) fun i h2 h3 => ?_
    have := (h1 row[i] (List.getElem_mem h2)).1
    simp
    omega
  · intro b hb
    obtain ⟨x, hx, rfl⟩ := List.mem_map.1 hb
    have := h1 x hx
    omega
theorem take_getElem_mem {α : Type} {l : List α} {k : Nat} {b : α} (h : b ∈ l.take k) : ∃ (j : Nat) (hj : j < l.length), j < k ∧ l[j] = b := by
  obtain ⟨j, hj, rfl⟩ := List.mem_take_iff_getElem.1 h
  exact ⟨j, by omega, by omega, rfl⟩
theorem clash_next {l : List Tx} {rn : List Nat} (hr : ∀ b ∈ rn, b < l.length) {k : Nat} (hk : k < rn.length) (h : okTo l (rn.map (fun x : Nat => (x : Int))) k)
    (hp : rn[k] < l.length) (hz : aheadN (rn.take k) &&& (2 ^ rn[k] ||| afterN l l[rn[k]]) = 0) : okTo l (rn.map (fun x : Nat => (x : Int))) (k + 1) := by
  refine okTo_next (by simpa using hk) h fun b hb => ?_
  have h1 := (clash_iff l (rn.take k) (fun b hb => hr b (List.mem_of_mem_take hb)) hp).1 hz rn[b] (List.mem_take_iff_getElem.2 ⟨b, by omega, rfl⟩)
  simpa using h1
theorem clash_not {l : List Tx} {rn : List Nat} (hr : ∀ b ∈ rn, b < l.length) {k : Nat} (hk : k < rn.length)
    (hp : rn[k] < l.length) (hz : aheadN (rn.take k) &&& (2 ^ rn[k] ||| afterN l l[rn[k]]) ≠ 0) : keepsS l (rn.map (fun x : Nat => (x : Int))) = false := by
  by_cases hall : ∀ b ∈ rn.take k, badP l (rn[k] : Int) (b : Int) = false
  · exact absurd ((clash_iff l (rn.take k) (fun b hb => hr b (List.mem_of_mem_take hb)) hp).2 hall) hz
  · simp only [Classical.not_forall] at hall
    obtain ⟨b, hb, hbad⟩ := hall
    obtain ⟨j, hj, hjk, rfl⟩ := take_getElem_mem hb
    refine keeps_not (i := k) (j := j) (by simpa using hk) hjk ?_
    simpa using hbad
theorem pow_32 {n x : Nat} (hn : n ≤ 6) (hx : x < 2 ^ n) : x < 4294967296 :=
  Nat.lt_of_lt_of_le hx (Nat.pow_le_pow_right (n := 2) (i := n) (j := 32) (by decide) (by omega))
theorem two_32 {n k : Nat} (hn : n ≤ 6) (hk : k < n) : 2 ^ k < 4294967296 := Nat.pow_lt_pow_right (a := 2) (m := k) (n := 32) (by decide) (by omega)
end Go.Proofs.YtoemcdcabamgiaaDoor.RPlain
namespace Go.Proofs.YtoemcdcabamgiaaDoor
open Go.RowKit WPlain QPlain RPlain

/-- what Before answers; what Keeps does -/
def befS (h : List Ev) (i k : Int) : Bool := if errP h [i, k] = 0 then bfrAt (tableS h) i.toNat k.toNat else false
def kepS (h : List Ev) (row : List Int) : Bool := if errP h row = 0 then keepsS (tableS h) row else false
theorem errP_zero {h : List Ev} {row : List Int} (h0 : errP h row = 0) : (checkS h).2 = 0 ∧ thereS (tableS h) row = true := by
  unfold errP at h0
  by_cases h1 : (checkS h).2 = 0
  · rw [if_pos h1] at h0
    refine ⟨h1, ?_⟩
    cases ht : thereS (tableS h) row with
    | true => rfl
    | false => rw [ht] at h0; simp at h0
  · rw [if_neg h1] at h0
    exact absurd h0 h1
theorem bit_all (k : Nat) (hk : k < 32) : Hid (∀ w, Calls Tryd.prog 33 #[.int .i64 (k : Int)] w fun e w' => e = .returned (.int .u32 ((2 ^ k : Nat) : Int)) ∧ w' = w) := fun w => bit_any k hk w
set_option maxRecDepth 100000 in
set_option maxHeartbeats 2000000 in
theorem keeps_any (v rv : Value) (h : List Ev) (row : List Int) (w : World) (hK : HasK w) (hv : Evs w v h) (hl : h.length ≤ 65536) (hr : Rd w rv (ints row)) (hrl : row.length ≤ 65536) :
    Calls Tryd.prog 13 #[v, rv] w fun e w' => e = .returned (.tuple #[.bool (kepS h row), .int .i64 ((errP h row : Nat) : Int)]) ∧ Below w.heap.size w w' := by
  have HA := Lib.hid (afterOf_any v rv h row w hK hv hl hr hrl)
  have HR := Lib.hid hr
  clear hK hv hl hr
  unfold kepS
  by_cases h0 : errP h row = 0
  · simp only [if_pos h0] at HA ⊢
    rw [h0] at HA ⊢
    obtain ⟨hc, ht⟩ := errP_zero h0
    have hsix := table_six hc
    obtain ⟨rn, rfl, hrn⟩ := row_nats ht
    have HRN := Lib.hid hrn
    rw [List.length_map] at hrl
    clear ht hc h0 hrn
    generalize tableS h = l at *
    have hal : (u32s (afterS l)).length = l.length := by simp [u32s, afterS]
    have HAG : Hid (∀ i (hi : i < l.length), (u32s (afterS l))[i]? = some (.int .u32 (afterN l l[i] : Nat))) := fun i hi => by
      unfold u32s afterS
      simp [hi]
    generalize u32s (afterS l) = L at *
    obtain ⟨ra, rc, rfl⟩ := HR.out.len
    rw [ints_len, List.length_map] at *
    go_enter Tryd.func13, Tryd.ntmps13
    go_wp2_with fail
    refine HA.out.mono ?_
    rintro e w1 ⟨v1, rfl, hv1, hb1⟩
    have HB1 := Lib.hid hb1
    have HV1 := Lib.hid hv1
    have HR1 := Lib.hid (HR.out.below hb1 (Nat.le_refl _))
    obtain ⟨a1, c1, rfl⟩ := hv1.len
    rw [hal] at HV1 ⊢
    clear hv1 hb1 HA HR
    go_wp2_with fail
    go_loopw [8, 22] (fun q x wr => ∃ k : Nat, k ≤ rn.length ∧ x = .int .i64 k ∧ q = .int .u32 (aheadN (rn.take k) : Nat) ∧ Hid (okTo l (rn.map (fun x : Nat => (x : Int))) k) ∧ ∃ z, wr = w1.drewN z) (fun _ x _ => rn.length - (intOf x).toNat)
    case atStart => exact ⟨0, by omega, rfl, rfl, okTo_zero _ _, 0, rfl⟩
    case round =>
      obtain ⟨k, hk, rfl, rfl, HO, z, rfl⟩ := hrel
      by_cases hlt : k < rn.length
      · have hpl := HRN.out rn[k] (List.getElem_mem hlt)
        have HTK : Hid (aheadN (rn.take (k + 1)) = aheadN (rn.take k) ||| 2 ^ rn[k]) := by
          unfold Hid
          rw [List.take_succ_eq_append_getElem hlt, aheadN_snoc]
        have hA1 := pow_32 hsix (aheadN_lt (row := rn.take k) (n := l.length) (fun p hp => HRN.out p (List.mem_of_mem_take hp)))
        have hA2 := pow_32 hsix (afterN_lt l l[rn[k]])
        have hA3 := two_32 hsix hpl
        have hor := u32_or_nat _ _ hA3 hA2
        have hor2 := u32_or_nat _ _ hA1 hA3
        have hA4 : 2 ^ rn[k] ||| afterN l l[rn[k]] < 4294967296 := Nat.or_lt_two_pow (n := 32) hA3 hA2
        have hand := u32_and_nat _ _ hA1 hA4
        have HBT := bit_all rn[k] (by omega)
        have HN1 := Lib.hid (fun hz => clash_next HRN.out hlt HO.out hpl hz)
        have HN2 := Lib.hid (fun hz => clash_not HRN.out hlt hpl hz)
        obtain ⟨b, o, c', he, hbl, hcs⟩ := HR1.out.opened (by rw [ints_len, List.length_map]; omega)
        simp only [Value.slice.injEq] at he
        obtain ⟨rfl, -, rfl⟩ := he
        have hck : (w1.drewN z).cell? ⟨b, o + k, none⟩ = some (.int .i64 (rn[k] : Int)) := hcs k _ (by unfold ints; rw [List.getElem?_map, List.getElem?_map, List.getElem?_eq_getElem hlt]; rfl)
        obtain ⟨b2, o2, c2, he2, hbl2, hcs2⟩ := HV1.out.opened (by omega)
        simp only [Value.slice.injEq] at he2
        obtain ⟨rfl, -, rfl⟩ := he2
        have hcp : (w1.drewN z).cell? ⟨b2, o2 + rn[k], none⟩ = some (.int .u32 (afterN l l[rn[k]] : Nat)) := hcs2 _ _ (HAG.out _ hpl)
        clear hcs hcs2 HRN HAG
        generalize afterN l l[rn[k]] = af at *
        generalize aheadN (rn.take k) = ah at *
        generalize rn[k] = p at *
        obtain ⟨pw, hpw⟩ : ∃ pw, 2 ^ p = pw := ⟨_, rfl⟩
        rw [hpw] at hA3 hor hor2 hand HBT HN1 HN2 HTK hA4
        clear hpw hA1 hA2 hA3 hA4
        generalize pw ||| af = oa at *
        generalize ah ||| pw = ap at *
        generalize ah &&& oa = cl at *
        obtain ⟨wz, hwz⟩ : ∃ wz, w1.drewN z = wz := ⟨_, rfl⟩
        rw [hwz] at hck hcp ⊢
        have HWZ := Lib.hid hwz
        clear hwz
        by_cases hz : cl = 0
        · have HO2 := Lib.hid (HN1.out hz)
          subst hz
          clear HN1 HN2 HO
          go_wp2_with fail
          go_quiet ((go_at_call 33; exact Calls.quiet_of_same (HBT.out _)))
          go_wp2_with (go_at_call 33; refine (HBT.out _).mono ?_; rintro e w3 ⟨rfl, rfl⟩)
          go_roundw
          case rel => exact ⟨k + 1, by omega, by go_num, by rw [HTK.out], HO2, _, by rw [← HWZ.out]; exact World.drewN_drewN _ _ _⟩
          case measure => simp [intOf]; omega
        · have HF := Lib.hid (HN2.out hz)
          have hcl : ((cl : Int) != 0) = true := by simp; omega
          clear HN1 HN2 HO hz
          go_wp2_with fail
          go_quiet ((go_at_call 33; exact Calls.quiet_of_same (HBT.out _)))
          go_wp2
          refine bodyPost_ret (v := .tuple #[.bool false, .int .i64 0]) (by simp [results, Tryd.results13, go_sem]) rfl ⟨by rw [HF.out]; rfl, by rw [← HWZ.out]; exact below_drN (below_drN HB1.out _) _⟩
      · obtain rfl : k = rn.length := by omega
        have HF : Hid (keepsS l (rn.map (fun x : Nat => (x : Int))) = true) := okTo_all (by rw [List.length_map]; exact HO.out)
        go_wp2
        refine bodyPost_ret (v := .tuple #[.bool true, .int .i64 0]) (by simp [results, Tryd.results13, go_sem]) rfl ⟨by rw [HF.out]; rfl, below_drN HB1.out _⟩
  · simp only [if_neg h0] at HA ⊢
    obtain ⟨er, her⟩ : ∃ er, errP h row = er := ⟨_, rfl⟩
    rw [her] at HA h0 ⊢
    have te : ((er : Int) != 0) = true := by simp; omega
    clear her h0
    go_enter Tryd.func13, Tryd.ntmps13
    go_wp2_with fail
    refine HA.out.mono ?_
    rintro e w1 ⟨v1, rfl, hv1, hb1⟩
    have HB1 := Lib.hid hb1
    obtain ⟨a1, c1, rfl⟩ := hv1.len
    go_wp2
    refine bodyPost_ret (v := .tuple #[.bool false, .int .i64 er]) (by simp [results, Tryd.results13, go_sem]) rfl ⟨rfl, HB1.out⟩
end Go.Proofs.YtoemcdcabamgiaaDoor
