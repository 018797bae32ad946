/- Merged: OrdF, OrdG, LegB. -/
import Derived.Test.YtmnblljenobofaaDoorOrdE
import Derived.Test.YtmnblljenobofaaDoorMg1
import Derived.BigQuiet
/- The walks of package order's afterOf, Before and Keeps. -/
namespace Go.Proofs.YtmnblljenobofaaDoor.WPlain
end Go.Proofs.YtmnblljenobofaaDoor.WPlain
namespace Go.Proofs.YtmnblljenobofaaDoor.QPlain
end Go.Proofs.YtmnblljenobofaaDoor.QPlain
namespace Go.Proofs.YtmnblljenobofaaDoor.RPlain
end Go.Proofs.YtmnblljenobofaaDoor.RPlain
namespace Go.Proofs.YtmnblljenobofaaDoor
open Go.RowKit WPlain QPlain RPlain

/-- is there no transaction of a place? -/
def noneB (n : Nat) (x : Int) : Bool := decide (x < 0) || decide ((n : Int) ≤ x)
theorem none_there (l : List Tx) (row : List Int) : row.any (noneB l.length) = !(thereS l row) := by
  unfold thereS
  rw [List.not_all_eq_any_not]
  refine congrArg (fun p => row.any p) (funext fun x => ?_)
  unfold noneB
  by_cases h1 : x < 0
  · simp [h1]
  · by_cases h2 : (l.length : Int) ≤ x
    · simp [h1, h2]
    · simp [h1, h2]; omega
theorem isNone_any (x : Int) (n : Nat) (N : Nat) (a : Option Addr) (c : Nat) (w : World) (hc : w.cell? ⟨N, 0, none⟩ = some (.slice a n c)) :
    Calls Tryd.prog 39 #[.int .i64 x, .pointer (some ⟨N, 0, none⟩)] w fun e w' => e = .returned (.bool (noneB n x)) ∧ w' = w := by
  go_enter Tryd.func39, Tryd.ntmps39
  go_wp2
  all_goals go_ret
  all_goals exact ⟨by unfold noneB; simp [*], rfl⟩
set_option maxRecDepth 100000 in
set_option maxHeartbeats 1000000 in
theorem indexN_any (v : Value) (row : List Int) (n N : Nat) (a : Option Addr) (c : Nat) (w : World) (hv : Rd w v (ints row)) (hl : row.length ≤ 65536) (hc : w.cell? ⟨N, 0, none⟩ = some (.slice a n c)) :
    Calls Tryd.prog 60 #[v, .func (.func 39) #[] #[.pointer (some ⟨N, 0, none⟩)]] w fun e w' => (∃ z : Int, e = .returned (.int .i64 z) ∧ decide (0 ≤ z) = row.any (noneB n)) ∧ w' = w := by
  have HV := Lib.hid hv
  have HCL := Lib.hid (fun x => isNone_any x n N a c w hc)
  obtain ⟨va, vc, rfl⟩ := hv.len
  rw [ints_len] at HV ⊢
  clear hv hc
  go_enter Tryd.func60, Tryd.ntmps60
  go_wp2_with fail
  go_loopw [8] (fun x wr => ∃ k : Nat, k ≤ row.length ∧ x = .int .i64 k ∧ Hid ((row.take k).any (noneB n) = false) ∧ wr = w) (fun x _ => row.length - (intOf x).toNat)
  case atStart => exact ⟨0, by omega, rfl, rfl, rfl⟩
  case round =>
    obtain ⟨k, hk, rfl, HA, rfl⟩ := hrel
    by_cases hlt : k < row.length
    · have HT : Hid (row.take (k + 1) = row.take k ++ [row[k]]) := List.take_succ_eq_append_getElem hlt
      have HM : Hid (row[k] ∈ row) := List.getElem_mem hlt
      obtain ⟨b, o, c', he, hbl, hcs⟩ := HV.out.opened (by rw [ints_len]; omega)
      simp only [Value.slice.injEq] at he
      obtain ⟨rfl, -, rfl⟩ := he
      have hck := hcs k (.int .i64 row[k]) (by unfold ints; rw [List.getElem?_map, List.getElem?_eq_getElem hlt]; rfl)
      clear hcs
      generalize row[k] = y at *
      cases hnb : noneB n y with
      | false =>
        have HC2 := Lib.hid (HCL.out y)
        rw [hnb] at HC2
        have HA2 : Hid ((row.take (k + 1)).any (noneB n) = false) := by
          unfold Hid
          rw [HT.out, List.any_append, HA.out]
          simp [hnb]
        clear hnb HT HM HA
        go_wp2_with (go_at_call 39; refine HC2.out.mono ?_; rintro e w3 ⟨rfl, rfl⟩)
        go_roundw
        case rel => exact ⟨k + 1, by omega, by go_num, HA2, trivial⟩
        case measure => simp [intOf]; omega
      | true =>
        have HC2 := Lib.hid (HCL.out y)
        rw [hnb] at HC2
        have HA2 : Hid (row.any (noneB n) = true) := List.any_eq_true.2 ⟨y, HM.out, hnb⟩
        clear hnb HT HM HA
        go_wp2_with (go_at_call 39; refine HC2.out.mono ?_; rintro e w3 ⟨rfl, rfl⟩)
        go_ret
        exact ⟨⟨_, rfl, by rw [HA2.out]; exact decide_eq_true (by omega)⟩, rfl⟩
    · obtain rfl : k = row.length := by omega
      have HA2 : Hid (row.any (noneB n) = false) := by have := HA.out; rwa [List.take_length] at this
      clear HA
      go_wp2
      go_ret
      exact ⟨⟨_, rfl, by rw [HA2.out]; rfl⟩, rfl⟩
theorem containsN_any (v : Value) (row : List Int) (n N : Nat) (a : Option Addr) (c : Nat) (w : World) (hv : Rd w v (ints row)) (hl : row.length ≤ 65536) (hc : w.cell? ⟨N, 0, none⟩ = some (.slice a n c)) :
    Calls Tryd.prog 40 #[v, .func (.func 39) #[] #[.pointer (some ⟨N, 0, none⟩)]] w fun e w' => e = .returned (.bool (row.any (noneB n))) ∧ w' = w := by
  have HI := Lib.hid (indexN_any v row n N a c w hv hl hc)
  clear hv hl hc
  go_enter Tryd.func40, Tryd.ntmps40
  go_wp2_with fail
  refine HI.out.mono ?_
  rintro e w1 ⟨⟨z, rfl, hz⟩, rfl⟩
  go_wp2
  all_goals go_ret
  all_goals exact ⟨ret_bool (by rw [← hz]), rfl⟩
/-- the error of places of events -/
def errP (h : List Ev) (row : List Int) : Nat := if (checkS h).2 = 0 then (if thereS (tableS h) row = true then 0 else 7) else (checkS h).2
set_option maxRecDepth 100000 in
theorem afterOf_any (v rv : Value) (h : List Ev) (row : List Int) (w : World) (hK : HasK w) (hv : Evs w v h) (hl : h.length ≤ 65536) (hr : Rd w rv (ints row)) (hrl : row.length ≤ 65536) :
    Calls Tryd.prog 22 #[v, rv] w fun e w' => ∃ v', e = .returned (.tuple #[v', .int .i64 ((errP h row : Nat) : Int)]) ∧ Rd w' v' (if errP h row = 0 then u32s (afterS (tableS h)) else []) ∧ Below w.heap.size w w' := by
  have HT := Lib.hid (after_any v h w hK hv hl)
  have HR := Lib.hid hr
  unfold errP
  by_cases h0 : (checkS h).2 = 0
  · simp only [if_pos h0] at HT ⊢
    rw [h0] at HT
    have hnt := none_there (tableS h) row
    have hal : (u32s (afterS (tableS h))).length = (tableS h).length := by simp [u32s, afterS]
    generalize u32s (afterS (tableS h)) = L at *
    cases ht : thereS (tableS h) row with
    | true =>
      rw [ht] at hnt
      simp only [if_true]
      clear h0 hv hK hr ht
      generalize tableS h = l at *
      go_enter Tryd.func22, Tryd.ntmps22
      go_wp2_with fail
      refine HT.out.mono ?_
      rintro e w1 ⟨v1, rfl, hv1, hb1⟩
      have HV1 := Lib.hid hv1
      have HB1 := Lib.hid hb1
      obtain ⟨a1, c1, rfl⟩ := hv1.len
      rw [hal] at HV1 ⊢
      clear hv1 hb1 HT
      have hba := (Below.refl w1.heap.size w1).alloc (Nat.le_refl _) (.cells #[.slice a1 l.length c1] 31)
      have hnew := (At.new w1 #[.slice a1 l.length c1] 31).cell (i := 0) rfl
      have HCN := Lib.hid (containsN_any rv row l.length w1.heap.size a1 c1 (w1.alloc (.cells #[.slice a1 l.length c1] 31)) ((HR.out.below HB1.out (Nat.le_refl _)).below hba (Nat.le_refl _)) hrl hnew)
      rw [hnt] at HCN
      have HV2 := Lib.hid (HV1.out.below hba (Nat.le_refl _))
      have HB2 := Lib.hid (HB1.out.alloc HB1.out.size (.cells #[.slice a1 l.length c1] 31))
      clear hba hnt
      go_wp2_with fail
      refine HCN.out.mono ?_
      rintro e w2 ⟨rfl, rfl⟩
      go_wp2
      refine bodyPost_ret (v := .tuple #[.slice a1 l.length c1, .int .i64 0]) (by simp [results, Tryd.results22, go_sem]) rfl ⟨_, rfl, HV2.out, HB2.out⟩
    | false =>
      rw [ht] at hnt
      simp only [Bool.false_eq_true, if_false]
      clear h0 hv hK hr ht
      generalize tableS h = l at *
      go_enter Tryd.func22, Tryd.ntmps22
      go_wp2_with fail
      refine HT.out.mono ?_
      rintro e w1 ⟨v1, rfl, hv1, hb1⟩
      have HV1 := Lib.hid hv1
      have HB1 := Lib.hid hb1
      obtain ⟨a1, c1, rfl⟩ := hv1.len
      rw [hal] at HV1 ⊢
      clear hv1 hb1 HT
      have hba := (Below.refl w1.heap.size w1).alloc (Nat.le_refl _) (.cells #[.slice a1 l.length c1] 31)
      have hnew := (At.new w1 #[.slice a1 l.length c1] 31).cell (i := 0) rfl
      have HCN := Lib.hid (containsN_any rv row l.length w1.heap.size a1 c1 (w1.alloc (.cells #[.slice a1 l.length c1] 31)) ((HR.out.below HB1.out (Nat.le_refl _)).below hba (Nat.le_refl _)) hrl hnew)
      rw [hnt] at HCN
      have HB2 := Lib.hid (HB1.out.alloc HB1.out.size (.cells #[.slice a1 l.length c1] 31))
      clear hba hnt
      go_wp2_with fail
      refine HCN.out.mono ?_
      rintro e w2 ⟨rfl, rfl⟩
      go_wp2
      refine bodyPost_ret (v := .tuple #[.slice none 0 0, .int .i64 7]) (by simp [results, Tryd.results22, go_sem]) rfl ⟨_, rfl, .inl ⟨rfl, _, _, rfl⟩, HB2.out⟩
  · simp only [if_neg h0] at HT ⊢
    obtain ⟨er, her⟩ : ∃ er, (checkS h).2 = er := ⟨_, rfl⟩
    rw [her] at HT h0 ⊢
    have te : ((er : Int) != 0) = true := by simp; omega
    clear her hK hv hl hr
    go_enter Tryd.func22, Tryd.ntmps22
    go_wp2_with fail
    refine HT.out.mono ?_
    rintro e w1 ⟨v1, rfl, hv1, hb1⟩
    obtain ⟨a1, c1, rfl⟩ := hv1.len
    go_wp2
    refine bodyPost_ret (v := .tuple #[.slice none 0 0, .int .i64 er]) (by simp [results, Tryd.results22, go_sem]) rfl ⟨_, rfl, .inl ⟨rfl, _, _, rfl⟩, hb1.alloc hb1.size _⟩
end Go.Proofs.YtmnblljenobofaaDoor
/- The walks of package order's Before and Keeps. -/
namespace Go.Proofs.YtmnblljenobofaaDoor.WPlain
end Go.Proofs.YtmnblljenobofaaDoor.WPlain
namespace Go.Proofs.YtmnblljenobofaaDoor.QPlain
end Go.Proofs.YtmnblljenobofaaDoor.QPlain
namespace Go.Proofs.YtmnblljenobofaaDoor.RPlain
end Go.Proofs.YtmnblljenobofaaDoor.RPlain
namespace Go.Proofs.YtmnblljenobofaaDoor.RPlain
open WPlain QPlain

/-- places that are there are numbers -/
theorem row_nats {l : List Tx} {row : List Int} (h : thereS l row = true) : ∃ rn : List Nat, row = rn.map (fun x : Nat => (x : Int)) ∧ ∀ b ∈ rn, b < l.length := by
  have h1 := (thereS_iff l row).1 h
  refine ⟨row.map Int.toNat, ?_, ?_⟩
  · refine List.ext_getElem (by simp) fun i h2 h3 => ?_
    have := (h1 row[i] (List.getElem_mem h2)).1
    simp
    omega
  · intro b hb
    obtain ⟨x, hx, rfl⟩ := List.mem_map.1 hb
    have := h1 x hx
    omega
theorem take_getElem_mem {α : Type} {l : List α} {k : Nat} {b : α} (h : b ∈ l.take k) : ∃ (j : Nat) (hj : j < l.length), j < k ∧ l[j] = b := by
  obtain ⟨j, hj, rfl⟩ := List.mem_take_iff_getElem.1 h
  exact ⟨j, by omega, by omega, rfl⟩
theorem clash_next {l : List Tx} {rn : List Nat} (hr : ∀ b ∈ rn, b < l.length) {k : Nat} (hk : k < rn.length) (h : okTo l (rn.map (fun x : Nat => (x : Int))) k)
    (hp : rn[k] < l.length) (hz : aheadN (rn.take k) &&& (2 ^ rn[k] ||| afterN l l[rn[k]]) = 0) : okTo l (rn.map (fun x : Nat => (x : Int))) (k + 1) := by
  refine okTo_next (by simpa using hk) h fun b hb => ?_
  have h1 := (clash_iff l (rn.take k) (fun b hb => hr b (List.mem_of_mem_take hb)) hp).1 hz rn[b] (List.mem_take_iff_getElem.2 ⟨b, by omega, rfl⟩)
  simpa using h1
theorem clash_not {l : List Tx} {rn : List Nat} (hr : ∀ b ∈ rn, b < l.length) {k : Nat} (hk : k < rn.length)
    (hp : rn[k] < l.length) (hz : aheadN (rn.take k) &&& (2 ^ rn[k] ||| afterN l l[rn[k]]) ≠ 0) : keepsS l (rn.map (fun x : Nat => (x : Int))) = false := by
  by_cases hall : ∀ b ∈ rn.take k, badP l (rn[k] : Int) (b : Int) = false
  · exact absurd ((clash_iff l (rn.take k) (fun b hb => hr b (List.mem_of_mem_take hb)) hp).2 hall) hz
  · simp only [Classical.not_forall] at hall
    obtain ⟨b, hb, hbad⟩ := hall
    obtain ⟨j, hj, hjk, rfl⟩ := take_getElem_mem hb
    refine keeps_not (i := k) (j := j) (by simpa using hk) hjk ?_
    simpa using hbad
theorem pow_32 {n x : Nat} (hn : n ≤ 6) (hx : x < 2 ^ n) : x < 4294967296 :=
  Nat.lt_of_lt_of_le hx (Nat.pow_le_pow_right (n := 2) (i := n) (j := 32) (by decide) (by omega))
theorem two_32 {n k : Nat} (hn : n ≤ 6) (hk : k < n) : 2 ^ k < 4294967296 := Nat.pow_lt_pow_right (a := 2) (m := k) (n := 32) (by decide) (by omega)
end Go.Proofs.YtmnblljenobofaaDoor.RPlain
namespace Go.Proofs.YtmnblljenobofaaDoor
open Go.RowKit WPlain QPlain RPlain

def kepS (h : List Ev) (row : List Int) : Bool := if errP h row = 0 then keepsS (tableS h) row else false
theorem errP_zero {h : List Ev} {row : List Int} (h0 : errP h row = 0) : (checkS h).2 = 0 ∧ thereS (tableS h) row = true := by
  unfold errP at h0
  by_cases h1 : (checkS h).2 = 0
  · rw [if_pos h1] at h0
    refine ⟨h1, ?_⟩
    cases ht : thereS (tableS h) row with
    | true => rfl
    | false => rw [ht] at h0; simp at h0
  · rw [if_neg h1] at h0
    exact absurd h0 h1
theorem bit_all (k : Nat) (hk : k < 32) : Hid (∀ w, Calls Tryd.prog 23 #[.int .i64 (k : Int)] w fun e w' => e = .returned (.int .u32 ((2 ^ k : Nat) : Int)) ∧ w' = w) := fun w => bit_any k hk w
set_option maxRecDepth 100000 in
set_option maxHeartbeats 2000000 in
theorem keeps_any (v rv : Value) (h : List Ev) (row : List Int) (w : World) (hK : HasK w) (hv : Evs w v h) (hl : h.length ≤ 65536) (hr : Rd w rv (ints row)) (hrl : row.length ≤ 65536) :
    Calls Tryd.prog 8 #[v, rv] w fun e w' => e = .returned (.tuple #[.bool (kepS h row), .int .i64 ((errP h row : Nat) : Int)]) ∧ Below w.heap.size w w' := by
  have HA := Lib.hid (afterOf_any v rv h row w hK hv hl hr hrl)
  have HR := Lib.hid hr
  clear hK hv hl hr
  unfold kepS
  by_cases h0 : errP h row = 0
  · simp only [if_pos h0] at HA ⊢
    rw [h0] at HA ⊢
    obtain ⟨hc, ht⟩ := errP_zero h0
    have hsix := table_six hc
    obtain ⟨rn, rfl, hrn⟩ := row_nats ht
    have HRN := Lib.hid hrn
    rw [List.length_map] at hrl
    clear ht hc h0 hrn
    generalize tableS h = l at *
    have hal : (u32s (afterS l)).length = l.length := by simp [u32s, afterS]
    have HAG : Hid (∀ i (hi : i < l.length), (u32s (afterS l))[i]? = some (.int .u32 (afterN l l[i] : Nat))) := fun i hi => by
      unfold u32s afterS
      simp [hi]
    generalize u32s (afterS l) = L at *
    obtain ⟨ra, rc, rfl⟩ := HR.out.len
    rw [ints_len, List.length_map] at *
    go_enter Tryd.func8, Tryd.ntmps8
    go_wp2_with fail
    refine HA.out.mono ?_
    rintro e w1 ⟨v1, rfl, hv1, hb1⟩
    have HB1 := Lib.hid hb1
    have HV1 := Lib.hid hv1
    have HR1 := Lib.hid (HR.out.below hb1 (Nat.le_refl _))
    obtain ⟨a1, c1, rfl⟩ := hv1.len
    rw [hal] at HV1 ⊢
    clear hv1 hb1 HA HR
    go_wp2_with fail
    go_loopw [8, 22] (fun q x wr => ∃ k : Nat, k ≤ rn.length ∧ x = .int .i64 k ∧ q = .int .u32 (aheadN (rn.take k) : Nat) ∧ Hid (okTo l (rn.map (fun x : Nat => (x : Int))) k) ∧ ∃ z, wr = w1.drewN z) (fun _ x _ => rn.length - (intOf x).toNat)
    case atStart => exact ⟨0, by omega, rfl, rfl, okTo_zero _ _, 0, rfl⟩
    case round =>
      obtain ⟨k, hk, rfl, rfl, HO, z, rfl⟩ := hrel
      by_cases hlt : k < rn.length
      · have hpl := HRN.out rn[k] (List.getElem_mem hlt)
        have HTK : Hid (aheadN (rn.take (k + 1)) = aheadN (rn.take k) ||| 2 ^ rn[k]) := by
          unfold Hid
          rw [List.take_succ_eq_append_getElem hlt, aheadN_snoc]
        have hA1 := pow_32 hsix (aheadN_lt (row := rn.take k) (n := l.length) (fun p hp => HRN.out p (List.mem_of_mem_take hp)))
        have hA2 := pow_32 hsix (afterN_lt l l[rn[k]])
        have hA3 := two_32 hsix hpl
        have hor := u32_or_nat _ _ hA3 hA2
        have hor2 := u32_or_nat _ _ hA1 hA3
        have hA4 : 2 ^ rn[k] ||| afterN l l[rn[k]] < 4294967296 := Nat.or_lt_two_pow (n := 32) hA3 hA2
        have hand := u32_and_nat _ _ hA1 hA4
        have HBT := bit_all rn[k] (by omega)
        have HN1 := Lib.hid (fun hz => clash_next HRN.out hlt HO.out hpl hz)
        have HN2 := Lib.hid (fun hz => clash_not HRN.out hlt hpl hz)
        obtain ⟨b, o, c', he, hbl, hcs⟩ := HR1.out.opened (by rw [ints_len, List.length_map]; omega)
        simp only [Value.slice.injEq] at he
        obtain ⟨rfl, -, rfl⟩ := he
        have hck : (w1.drewN z).cell? ⟨b, o + k, none⟩ = some (.int .i64 (rn[k] : Int)) := hcs k _ (by unfold ints; rw [List.getElem?_map, List.getElem?_map, List.getElem?_eq_getElem hlt]; rfl)
        obtain ⟨b2, o2, c2, he2, hbl2, hcs2⟩ := HV1.out.opened (by omega)
        simp only [Value.slice.injEq] at he2
        obtain ⟨rfl, -, rfl⟩ := he2
        have hcp : (w1.drewN z).cell? ⟨b2, o2 + rn[k], none⟩ = some (.int .u32 (afterN l l[rn[k]] : Nat)) := hcs2 _ _ (HAG.out _ hpl)
        clear hcs hcs2 HRN HAG
        generalize afterN l l[rn[k]] = af at *
        generalize aheadN (rn.take k) = ah at *
        generalize rn[k] = p at *
        obtain ⟨pw, hpw⟩ : ∃ pw, 2 ^ p = pw := ⟨_, rfl⟩
        rw [hpw] at hA3 hor hor2 hand HBT HN1 HN2 HTK hA4
        clear hpw hA1 hA2 hA3 hA4
        generalize pw ||| af = oa at *
        generalize ah ||| pw = ap at *
        generalize ah &&& oa = cl at *
        obtain ⟨wz, hwz⟩ : ∃ wz, w1.drewN z = wz := ⟨_, rfl⟩
        rw [hwz] at hck hcp ⊢
        have HWZ := Lib.hid hwz
        clear hwz
        by_cases hz : cl = 0
        · have HO2 := Lib.hid (HN1.out hz)
          subst hz
          clear HN1 HN2 HO
          go_wp2_with fail
          go_quiet ((go_at_call 23; exact Calls.quiet_of_same (HBT.out _)))
          go_wp2_with (go_at_call 23; refine (HBT.out _).mono ?_; rintro e w3 ⟨rfl, rfl⟩)
          go_roundw
          case rel => exact ⟨k + 1, by omega, by go_num, by rw [HTK.out], HO2, _, by rw [← HWZ.out]; exact World.drewN_drewN _ _ _⟩
          case measure => simp [intOf]; omega
        · have HF := Lib.hid (HN2.out hz)
          have hcl : ((cl : Int) != 0) = true := by simp; omega
          clear HN1 HN2 HO hz
          go_wp2_with fail
          go_quiet ((go_at_call 23; exact Calls.quiet_of_same (HBT.out _)))
          go_wp2
          refine bodyPost_ret (v := .tuple #[.bool false, .int .i64 0]) (by simp [results, Tryd.results8, go_sem]) rfl ⟨by rw [HF.out]; rfl, by rw [← HWZ.out]; exact below_drN (below_drN HB1.out _) _⟩
      · obtain rfl : k = rn.length := by omega
        have HF : Hid (keepsS l (rn.map (fun x : Nat => (x : Int))) = true) := okTo_all (by rw [List.length_map]; exact HO.out)
        go_wp2
        refine bodyPost_ret (v := .tuple #[.bool true, .int .i64 0]) (by simp [results, Tryd.results8, go_sem]) rfl ⟨by rw [HF.out]; rfl, below_drN HB1.out _⟩
  · simp only [if_neg h0] at HA ⊢
    obtain ⟨er, her⟩ : ∃ er, errP h row = er := ⟨_, rfl⟩
    rw [her] at HA h0 ⊢
    have te : ((er : Int) != 0) = true := by simp; omega
    clear her h0
    go_enter Tryd.func8, Tryd.ntmps8
    go_wp2_with fail
    refine HA.out.mono ?_
    rintro e w1 ⟨v1, rfl, hv1, hb1⟩
    have HB1 := Lib.hid hb1
    obtain ⟨a1, c1, rfl⟩ := hv1.len
    go_wp2
    refine bodyPost_ret (v := .tuple #[.bool false, .int .i64 er]) (by simp [results, Tryd.results8, go_sem]) rfl ⟨rfl, HB1.out⟩
end Go.Proofs.YtmnblljenobofaaDoor
/- Plain words: rows whose places are there once; a row's bits; eight values. -/
namespace Go.Proofs.YtmnblljenobofaaDoor.WPlain
end Go.Proofs.YtmnblljenobofaaDoor.WPlain
namespace Go.Proofs.YtmnblljenobofaaDoor.QPlain
end Go.Proofs.YtmnblljenobofaaDoor.QPlain
namespace Go.Proofs.YtmnblljenobofaaDoor.RPlain
end Go.Proofs.YtmnblljenobofaaDoor.RPlain
namespace Go.Proofs.YtmnblljenobofaaDoor.RPlain
open WPlain QPlain

/-- the error of a row of events -/
def errL (h : List Ev) (row : List Int) : Nat := if (checkS h).2 = 0 then (if thereS (tableS h) row = true then (if row.Nodup then 0 else 1) else 7) else (checkS h).2
theorem errL_zero {h : List Ev} {row : List Int} (h0 : errL h row = 0) : (checkS h).2 = 0 ∧ thereS (tableS h) row = true ∧ row.Nodup := by
  unfold errL at h0
  by_cases h1 : (checkS h).2 = 0
  · rw [if_pos h1] at h0
    cases ht : thereS (tableS h) row with
    | true =>
      rw [ht, if_pos rfl] at h0
      by_cases hn : row.Nodup
      · exact ⟨h1, rfl, hn⟩
      · rw [if_neg hn] at h0; exact absurd h0 (by decide)
    | false => rw [ht] at h0; simp at h0
  · rw [if_neg h1] at h0; exact absurd h0 h1
theorem nodup_cast (rn : List Nat) : (rn.map (fun x : Nat => (x : Int))).Nodup ↔ rn.Nodup := by
  unfold List.Nodup
  rw [List.pairwise_map]
  constructor
  · exact fun h => h.imp fun {a b} hab => by omega
  · exact fun h => h.imp fun {a b} hab => by omega
theorem nodupL_le : ∀ (l1 l2 : List Nat), l1.Nodup → (∀ x ∈ l1, x ∈ l2) → l1.length ≤ l2.length := by
  intro l1
  induction l1 with
  | nil => intro _ _ _; simp
  | cons x r ih =>
    intro l2 hn hs
    obtain ⟨hx, hr⟩ := List.nodup_cons.1 hn
    have h1 := ih (l2.erase x) hr (fun y hy => (List.mem_erase_of_ne (show y ≠ x from fun hc => hx (by rw [← hc]; exact hy))).2 (hs y (List.mem_cons_of_mem _ hy)))
    have hm := hs x (List.mem_cons_self ..)
    have h2 := List.length_erase_of_mem hm
    have h3 := List.length_pos_of_mem hm
    rw [List.length_cons]
    omega
theorem errL_nil {h : List Ev} {row : List Int} (h0 : errL h row = 0) : ∃ rn : List Nat, row = rn.map (fun x : Nat => (x : Int)) ∧ (∀ b ∈ rn, b < (tableS h).length) ∧ rn.Nodup ∧ rn.length ≤ 6 := by
  obtain ⟨h1, h2, h3⟩ := errL_zero h0
  obtain ⟨rn, rfl, hr⟩ := row_nats h2
  have hn : rn.Nodup := (nodup_cast rn).1 h3
  refine ⟨rn, rfl, hr, hn, ?_⟩
  have h6 := table_six h1
  have h7 : rn.length ≤ (List.range (tableS h).length).length := nodupL_le rn _ hn fun b hb => List.mem_range.2 (hr b hb)
  rw [List.length_range] at h7
  omega
theorem nodup_next {α : Type} {l : List α} {k : Nat} (hk : k < l.length) (h : (l.take k).Nodup) (hn : l[k] ∉ l.take k) : (l.take (k + 1)).Nodup := by
  rw [List.take_succ_eq_append_getElem hk]
  refine List.nodup_append.2 ⟨h, by simp, fun a ha b hb => ?_⟩
  rw [List.mem_singleton.1 hb]
  rintro rfl
  exact hn ha
theorem nodup_not {α : Type} {l : List α} {k : Nat} (hk : k < l.length) (hm : l[k] ∈ l.take k) : ¬ l.Nodup := by
  intro h
  rw [← List.take_append_drop k l, List.drop_eq_getElem_cons hk] at h
  exact (List.nodup_append.1 h).2.2 _ hm _ (List.mem_cons_self ..) rfl
/-- bits of any number -/
theorem and_powL (n p : Nat) : n &&& 2 ^ p = 0 ↔ n.testBit p = false := by
  constructor
  · intro h
    have h1 : (n &&& 2 ^ p).testBit p = false := by rw [h]; exact Nat.zero_testBit p
    rw [Nat.testBit_and, Nat.testBit_two_pow_self, Bool.and_true] at h1
    exact h1
  · intro h
    refine Nat.eq_of_testBit_eq fun j => ?_
    rw [Nat.testBit_and, Nat.zero_testBit, Nat.testBit_two_pow]
    by_cases hj : p = j
    · subst hj; rw [h]; rfl
    · simp [hj]
theorem ahead_in (rn : List Nat) (p : Nat) : aheadN rn &&& 2 ^ p = 0 ↔ p ∉ rn := by
  rw [and_powL, ← aheadN_bit, Bool.not_eq_true]
/-- what an Op makes of a memory -/
def stepO (M : Int → Int) (o : Rwo) : Int → Int := if o.w = true then putM M o.v o.x else M
theorem with_take {M : Int → Int} {ops : List Rwo} {k : Nat} (hk : k < ops.length) : withM M (ops.take (k + 1)) = stepO (withM M (ops.take k)) ops[k] := by
  rw [List.take_succ_eq_append_getElem hk, withM_app]
  rfl
def okOps (ops : List Rwo) : Prop := ∀ o ∈ ops, 0 ≤ o.v ∧ o.v ≤ 7
theorem askedE_any (h : List Ev) (t : Int) {p : Ev → Prop} (h0 : p ⟨0, 0, 0, 0⟩) (h1 : ∀ e ∈ h, p e) : p (askedOf h t) := by
  revert h1
  refine rev_ind (p := fun h => (∀ e ∈ h, p e) → p (askedOf h t)) ?_ ?_ h
  · intro _; exact h0
  · intro g e ih h1
    rw [askedOf_snoc]
    split
    · exact h1 e (by simp)
    · exact ih fun x hx => h1 x (List.mem_append_left _ hx)
theorem ops_any (h : List Ev) (t : Int) (h1 : ∀ e ∈ h, 0 ≤ e.v ∧ e.v ≤ 7) : okOps (opsOf h t) := by
  revert h1
  refine rev_ind (p := fun h => (∀ e ∈ h, 0 ≤ e.v ∧ e.v ≤ 7) → okOps (opsOf h t)) ?_ ?_ h
  · intro _ o ho; simp [opsOf] at ho
  · intro g e ih h1 o ho
    rw [opsOf_snoc] at ho
    have hg : ∀ e ∈ g, 0 ≤ e.v ∧ e.v ≤ 7 := fun x hx => h1 x (List.mem_append_left _ hx)
    rcases List.mem_append.1 ho with ho | ho
    · exact ih hg o ho
    · have ha := askedE_any g t (p := fun e => 0 ≤ e.v ∧ e.v ≤ 7) ⟨by decide, by decide⟩ hg
      split at ho
      · unfold opStep at ho
        split at ho
        · rw [List.mem_singleton.1 ho]; exact ha
        · split at ho
          · rw [List.mem_singleton.1 ho]; exact ha
          · cases ho
      · cases ho
theorem table_ops {h : List Ev} (h0 : (checkS h).2 = 0) : ∀ X ∈ tableS h, okOps X.o ∧ X.o.length ≤ 60 := by
  intro X hX
  obtain ⟨t, _, rfl⟩ := List.mem_map.1 hX
  have hr := (check_agree h0).1
  have h60 := (right_evs hr).1
  refine ⟨ops_any h t fun e he => ?_, ?_⟩
  · simp only [right, Bool.and_eq_true, decide_eq_true_eq, List.all_eq_true] at hr
    have := hr.1.2 e he
    simp only [evOk, inB, Bool.and_eq_true, decide_eq_true_eq] at this
    omega
  · show (opsOf h t).length ≤ 60
    rw [ops_len]
    exact Nat.le_trans (List.length_filter_le _ _) h60
theorem opsAtL_get {l : List Tx} {i : Nat} (hi : i < l.length) : opsAt l i = l[i].o := by
  unfold opsAt
  rw [List.getElem?_eq_getElem hi]
theorem legal_next {l : List Tx} {c : Nat} {M : Int → Int} {rn : List Nat} {k : Nat} (hk : k < rn.length) (h : legalG l c M (rn.take k) = k) (ho : ownS (behindS l c M (rn.take k)) (opsAt l rn[k]) = (opsAt l rn[k]).length) : legalG l c M (rn.take (k + 1)) = k + 1 := by
  have hl : (rn.take k).length = k := by rw [List.length_take]; omega
  rw [List.take_succ_eq_append_getElem hk, legal_app, hl, if_pos h, legalG, if_pos ho, legalG]
theorem legal_stop {l : List Tx} {c : Nat} {M : Int → Int} {rn : List Nat} {k : Nat} (hk : k < rn.length) (h : legalG l c M (rn.take k) = k) (ho : ¬ ownS (behindS l c M (rn.take k)) (opsAt l rn[k]) = (opsAt l rn[k]).length) : legalG l c M rn = k := by
  have hl : (rn.take k).length = k := by rw [List.length_take]; omega
  have h1 := legal_app l c (rn.take k) (rn.drop k) M
  rw [List.take_append_drop, hl, if_pos h, List.drop_eq_getElem_cons hk, legalG, if_neg ho, Nat.add_zero] at h1
  exact h1
theorem behind_take {l : List Tx} {c : Nat} {M : Int → Int} {rn : List Nat} {k : Nat} (hk : k < rn.length) : behindS l c M (rn.take (k + 1)) = stepM l c (behindS l c M (rn.take k)) rn[k] := by
  rw [List.take_succ_eq_append_getElem hk, behind_app]
  rfl
end Go.Proofs.YtmnblljenobofaaDoor.RPlain
namespace Go.Proofs.YtmnblljenobofaaDoor
open Go.RowKit WPlain QPlain RPlain

/-- a memory's cells -/
def memC (M : Int → Int) : Array Value := #[.int .i64 (M 0), .int .i64 (M 1), .int .i64 (M 2), .int .i64 (M 3), .int .i64 (M 4), .int .i64 (M 5), .int .i64 (M 6), .int .i64 (M 7)]
end Go.Proofs.YtmnblljenobofaaDoor
