/- The walks of package order's Before and Keeps. -/
import Derived.Test.YtampoikncgagkaaDoorOrdF
import Derived.BigQuiet
namespace Go.Proofs.YtampoikncgagkaaDoor.WPlain
end Go.Proofs.YtampoikncgagkaaDoor.WPlain
namespace Go.Proofs.YtampoikncgagkaaDoor.QPlain
end Go.Proofs.YtampoikncgagkaaDoor.QPlain
namespace Go.Proofs.YtampoikncgagkaaDoor.RPlain
end Go.Proofs.YtampoikncgagkaaDoor.RPlain
namespace Go.Proofs.YtampoikncgagkaaDoor.RPlain
open WPlain QPlain

/-- places that are there are numbers -/
theorem row_nats {l : List Tx} {row : List Int} (h : thereS l row = true) : ∃ rn : List Nat, row = rn.map (fun x : Nat => (x : Int)) ∧ ∀ b ∈ rn, b < l.length := by
  have h1 := (thereS_iff l row).1 h
  refine ⟨row.map Int.toNat, ?_, ?_⟩
  · refine List.ext_getElem (by simp) fun i h2 h3 => ?_
    have := (h1 row[i] (List.getElem_mem h2)).1
    simp
    omega
  · intro b hb
    obtain ⟨x, hx, rfl⟩ := List.mem_map.1 hb
    have := h1 x hx
    omega
theorem take_getElem_mem {α : Type} {l : List α} {k : Nat} {b : α} (h : b ∈ l.take k) : ∃ (j : Nat) (hj : j < l.length), j < k ∧ l[j] = b := by
  obtain ⟨j, hj, rfl⟩ := List.mem_take_iff_getElem.1 h
  exact ⟨j, by omega, by omega, rfl⟩
theorem clash_next {l : List Tx} {rn : List Nat} (hr : ∀ b ∈ rn, b < l.length) {k : Nat} (hk : k < rn.length) (h : okTo l (rn.map (fun x : Nat => (x : Int))) k)
    (hp : rn[k] < l.length) (hz : aheadN (rn.take k) &&& (2 ^ rn[k] ||| afterN l l[rn[k]]) = 0) : okTo l (rn.map (fun x : Nat => (x : Int))) (k + 1) := by
  refine okTo_next (by simpa using hk) h fun b hb => ?_
  have h1 := (clash_iff l (rn.take k) (fun b hb => hr b (List.mem_of_mem_take hb)) hp).1 hz rn[b] (List.mem_take_iff_getElem.2 ⟨b, by omega, rfl⟩)
  simpa using h1
theorem clash_not {l : List Tx} {rn : List Nat} (hr : ∀ b ∈ rn, b < l.length) {k : Nat} (hk : k < rn.length)
    (hp : rn[k] < l.length) (hz : aheadN (rn.take k) &&& (2 ^ rn[k] ||| afterN l l[rn[k]]) ≠ 0) : keepsS l (rn.map (fun x : Nat => (x : Int))) = false := by
  by_cases hall : ∀ b ∈ rn.take k, badP l (rn[k] : Int) (b : Int) = false
  · exact absurd ((clash_iff l (rn.take k) (fun b hb => hr b (List.mem_of_mem_take hb)) hp).2 hall) hz
  · simp only [Classical.not_forall] at hall
    obtain ⟨b, hb, hbad⟩ := hall
    obtain ⟨j, hj, hjk, rfl⟩ := take_getElem_mem hb
    refine keeps_not (i := k) (j := j) (by simpa using hk) hjk ?_
    simpa using hbad
theorem pow_32 {n x : Nat} (hn : n ≤ 6) (hx : x < 2 ^ n) : x < 4294967296 :=
  Nat.lt_of_lt_of_le hx (Nat.pow_le_pow_right (n := 2) (i := n) (j := 32) (by decide) (by omega))
theorem two_32 {n k : Nat} (hn : n ≤ 6) (hk : k < n) : 2 ^ k < 4294967296 := Nat.pow_lt_pow_right (a := 2) (m := k) (n := 32) (by decide) (by omega)
end Go.Proofs.YtampoikncgagkaaDoor.RPlain
namespace Go.Proofs.YtampoikncgagkaaDoor
open Go.RowKit WPlain QPlain RPlain

/-- what Before answers; what Keeps does -/
def befS (h : List Ev) (i k : Int) : Bool := if errP h [i, k] = 0 then bfrAt (tableS h) i.toNat k.toNat else false
def kepS (h : List Ev) (row : List Int) : Bool := if errP h row = 0 then keepsS (tableS h) row else false
theorem errP_zero {h : List Ev} {row : List Int} (h0 : errP h row = 0) : (checkS h).2 = 0 ∧ thereS (tableS h) row = true := by
  unfold errP at h0
  by_cases h1 : (checkS h).2 = 0
  · rw [if_pos h1] at h0
    refine ⟨h1, ?_⟩
    cases ht : thereS (tableS h) row with
    | true => rfl
    | false => rw [ht] at h0; simp at h0
  · rw [if_neg h1] at h0
    exact absurd h0 h1
theorem bit_all (k : Nat) (hk : k < 32) : Hid (∀ w, Calls Tryd.prog 22 #[.int .i64 (k : Int)] w fun e w' => e = .returned (.int .u32 ((2 ^ k : Nat) : Int)) ∧ w' = w) := fun w => bit_any k hk w
set_option maxRecDepth 100000 in
set_option maxHeartbeats 1000000 in
theorem before_any (v : Value) (h : List Ev) (i k : Int) (w : World) (hK : HasK w) (hv : Evs w v h) (hl : h.length ≤ 65536) :
    Calls Tryd.prog 7 #[v, .int .i64 i, .int .i64 k] w fun e w' => e = .returned (.tuple #[.bool (befS h i k), .int .i64 ((errP h [i, k] : Nat) : Int)]) ∧ Below w.heap.size w w' := by
  have hba := (Below.refl w.heap.size w).alloc (Nat.le_refl _) (.cells #[.int .i64 i, .int .i64 k] 3)
  have HA := Lib.hid (afterOf_any v (.slice (some ⟨w.heap.size, 0, none⟩) 2 2) h [i, k] (w.alloc (.cells #[.int .i64 i, .int .i64 k] 3)) (hK.later hba (Nat.le_refl _)) (hv.below hba (Nat.le_refl _)) hl (Rd.of_at 2 (At.new w (ints [i, k]).toArray 3)) (by simp))
  have HBA := Lib.hid hba
  clear hba hK hv hl
  unfold befS
  by_cases h0 : errP h [i, k] = 0
  · simp only [if_pos h0] at HA ⊢
    rw [h0] at HA ⊢
    obtain ⟨hc, ht⟩ := errP_zero h0
    have hsix := table_six hc
    have h1 := (thereS_iff _ _).1 ht
    have hi := h1 i (by simp)
    have hk := h1 k (by simp)
    clear ht h1 hc h0
    generalize tableS h = l at *
    obtain ⟨I, rfl⟩ : ∃ I : Nat, i = (I : Int) := ⟨i.toNat, by omega⟩
    obtain ⟨K, rfl⟩ : ∃ K : Nat, k = (K : Int) := ⟨k.toNat, by omega⟩
    have hI : I < l.length := by omega
    have hKl : K < l.length := by omega
    rw [Int.toNat_natCast, Int.toNat_natCast, bfrAt_get hI hKl]
    have hbi := bit_iff l l[I] hKl
    have hand := u32_and_nat _ _ (pow_32 hsix (afterN_lt l l[I])) (two_32 hsix hKl)
    have HBT := bit_all K (by omega)
    have hget : (u32s (afterS l))[I]? = some (.int .u32 (afterN l l[I] : Nat)) := by
      unfold u32s afterS
      simp [hI]
    have hal : (u32s (afterS l)).length = l.length := by simp [u32s, afterS]
    generalize u32s (afterS l) = L at *
    generalize afterN l l[I] = ac at *
    generalize bfr l[I] l[K] = bb at *
    obtain ⟨pw, hpw⟩ : ∃ pw, 2 ^ K = pw := ⟨_, rfl⟩
    rw [hpw] at HBT hand hbi
    generalize ac &&& pw = an at *
    clear hpw
    go_enter Tryd.func7, Tryd.ntmps7
    go_wp2_with fail
    refine HA.out.mono ?_
    rintro e w1 ⟨v1, rfl, hv1, hb1⟩
    have HB1 := Lib.hid (HBA.out.trans (hb1.mono HBA.out.size))
    obtain ⟨b, o, c, rfl, hbl, hcs⟩ := hv1.opened (by omega)
    rw [hal] at *
    have hcI := hcs I _ hget
    clear hv1 hb1 HA HBA hcs hget
    go_wp2_with fail
    go_quiet ((go_at_call 22; exact Calls.quiet_of_same (HBT.out _)))
    go_wp2
    have hbb : ((an : Int) != 0) = bb := by
      by_cases ha : an = 0
      · rw [hbi.1 ha, ha]; rfl
      · cases bb with
        | true => simp; omega
        | false => exact absurd (hbi.2 rfl) ha
    rw [hbb]
    refine bodyPost_ret (v := .tuple #[.bool bb, .int .i64 0]) (by simp [results, Tryd.results7, go_sem]) rfl ⟨rfl, below_drN HB1.out _⟩
  · simp only [if_neg h0] at HA ⊢
    obtain ⟨er, her⟩ : ∃ er, errP h [i, k] = er := ⟨_, rfl⟩
    rw [her] at HA h0 ⊢
    have te : ((er : Int) != 0) = true := by simp; omega
    clear her h0
    go_enter Tryd.func7, Tryd.ntmps7
    go_wp2_with fail
    refine HA.out.mono ?_
    rintro e w1 ⟨v1, rfl, hv1, hb1⟩
    have HB1 := Lib.hid (HBA.out.trans (hb1.mono HBA.out.size))
    obtain ⟨a1, c1, rfl⟩ := hv1.len
    go_wp2
    refine bodyPost_ret (v := .tuple #[.bool false, .int .i64 er]) (by simp [results, Tryd.results7, go_sem]) rfl ⟨rfl, HB1.out⟩
set_option maxRecDepth 100000 in
set_option maxHeartbeats 2000000 in
theorem keeps_any (v rv : Value) (h : List Ev) (row : List Int) (w : World) (hK : HasK w) (hv : Evs w v h) (hl : h.length ≤ 65536) (hr : Rd w rv (ints row)) (hrl : row.length ≤ 65536) :
    Calls Tryd.prog 8 #[v, rv] w fun e w' => e = .returned (.tuple #[.bool (kepS h row), .int .i64 ((errP h row : Nat) : Int)]) ∧ Below w.heap.size w w' := by
  have HA := Lib.hid (afterOf_any v rv h row w hK hv hl hr hrl)
  have HR := Lib.hid hr
  clear hK hv hl hr
  unfold kepS
  by_cases h0 : errP h row = 0
  · simp only [if_pos h0] at HA ⊢
    rw [h0] at HA ⊢
    obtain ⟨hc, ht⟩ := errP_zero h0
    have hsix := table_six hc
    obtain ⟨rn, rfl, hrn⟩ := row_nats ht
    have HRN := Lib.hid hrn
    rw [List.length_map] at hrl
    clear ht hc h0 hrn
    generalize tableS h = l at *
    have hal : (u32s (afterS l)).length = l.length := by simp [u32s, afterS]
    have HAG : Hid (∀ i (hi : i < l.length), (u32s (afterS l))[i]? = some (.int .u32 (afterN l l[i] : Nat))) := fun i hi => by
      unfold u32s afterS
      simp [hi]
    generalize u32s (afterS l) = L at *
    obtain ⟨ra, rc, rfl⟩ := HR.out.len
    rw [ints_len, List.length_map] at *
    go_enter Tryd.func8, Tryd.ntmps8
    go_wp2_with fail
    refine HA.out.mono ?_
    rintro e w1 ⟨v1, rfl, hv1, hb1⟩
    have HB1 := Lib.hid hb1
    have HV1 := Lib.hid hv1
    have HR1 := Lib.hid (HR.out.below hb1 (Nat.le_refl _))
    obtain ⟨a1, c1, rfl⟩ := hv1.len
    rw [hal] at HV1 ⊢
    clear hv1 hb1 HA HR
    go_wp2_with fail
    go_loopw [8, 22] (fun q x wr => ∃ k : Nat, k ≤ rn.length ∧ x = .int .i64 k ∧ q = .int .u32 (aheadN (rn.take k) : Nat) ∧ Hid (okTo l (rn.map (fun x : Nat => (x : Int))) k) ∧ ∃ z, wr = w1.drewN z) (fun _ x _ => rn.length - (intOf x).toNat)
    case atStart => exact ⟨0, by omega, rfl, rfl, okTo_zero _ _, 0, rfl⟩
    case round =>
      obtain ⟨k, hk, rfl, rfl, HO, z, rfl⟩ := hrel
      by_cases hlt : k < rn.length
      · have hpl := HRN.out rn[k] (List.getElem_mem hlt)
        have HTK : Hid (aheadN (rn.take (k + 1)) = aheadN (rn.take k) ||| 2 ^ rn[k]) := by
          unfold Hid
          rw [List.take_succ_eq_append_getElem hlt, aheadN_snoc]
        have hA1 := pow_32 hsix (aheadN_lt (row := rn.take k) (n := l.length) (fun p hp => HRN.out p (List.mem_of_mem_take hp)))
        have hA2 := pow_32 hsix (afterN_lt l l[rn[k]])
        have hA3 := two_32 hsix hpl
        have hor := u32_or_nat _ _ hA3 hA2
        have hor2 := u32_or_nat _ _ hA1 hA3
        have hA4 : 2 ^ rn[k] ||| afterN l l[rn[k]] < 4294967296 := Nat.or_lt_two_pow (n := 32) hA3 hA2
        have hand := u32_and_nat _ _ hA1 hA4
        have HBT := bit_all rn[k] (by omega)
        have HN1 := Lib.hid (fun hz => clash_next HRN.out hlt HO.out hpl hz)
        have HN2 := Lib.hid (fun hz => clash_not HRN.out hlt hpl hz)
        obtain ⟨b, o, c', he, hbl, hcs⟩ := HR1.out.opened (by rw [ints_len, List.length_map]; omega)
        simp only [Value.slice.injEq] at he
        obtain ⟨rfl, -, rfl⟩ := he
        have hck : (w1.drewN z).cell? ⟨b, o + k, none⟩ = some (.int .i64 (rn[k] : Int)) := hcs k _ (by unfold ints; rw [List.getElem?_map, List.getElem?_map, List.getElem?_eq_getElem hlt]; rfl)
        obtain ⟨b2, o2, c2, he2, hbl2, hcs2⟩ := HV1.out.opened (by omega)
        simp only [Value.slice.injEq] at he2
        obtain ⟨rfl, -, rfl⟩ := he2
        have hcp : (w1.drewN z).cell? ⟨b2, o2 + rn[k], none⟩ = some (.int .u32 (afterN l l[rn[k]] : Nat)) := hcs2 _ _ (HAG.out _ hpl)
        clear hcs hcs2 HRN HAG
        generalize afterN l l[rn[k]] = af at *
        generalize aheadN (rn.take k) = ah at *
        generalize rn[k] = p at *
        obtain ⟨pw, hpw⟩ : ∃ pw, 2 ^ p = pw := ⟨_, rfl⟩
        rw [hpw] at hA3 hor hor2 hand HBT HN1 HN2 HTK hA4
        clear hpw hA1 hA2 hA3 hA4
        generalize pw ||| af = oa at *
        generalize ah ||| pw = ap at *
        generalize ah &&& oa = cl at *
        obtain ⟨wz, hwz⟩ : ∃ wz, w1.drewN z = wz := ⟨_, rfl⟩
        rw [hwz] at hck hcp ⊢
        have HWZ := Lib.hid hwz
        clear hwz
        by_cases hz : cl = 0
        · have HO2 := Lib.hid (HN1.out hz)
          subst hz
          clear HN1 HN2 HO
          go_wp2_with fail
          go_quiet ((go_at_call 22; exact Calls.quiet_of_same (HBT.out _)))
          go_wp2_with (go_at_call 22; refine (HBT.out _).mono ?_; rintro e w3 ⟨rfl, rfl⟩)
          go_roundw
          case rel => exact ⟨k + 1, by omega, by go_num, by rw [HTK.out], HO2, _, by rw [← HWZ.out]; exact World.drewN_drewN _ _ _⟩
          case measure => simp [intOf]; omega
        · have HF := Lib.hid (HN2.out hz)
          have hcl : ((cl : Int) != 0) = true := by simp; omega
          clear HN1 HN2 HO hz
          go_wp2_with fail
          go_quiet ((go_at_call 22; exact Calls.quiet_of_same (HBT.out _)))
          go_wp2
          refine bodyPost_ret (v := .tuple #[.bool false, .int .i64 0]) (by simp [results, Tryd.results8, go_sem]) rfl ⟨by rw [HF.out]; rfl, by rw [← HWZ.out]; exact below_drN (below_drN HB1.out _) _⟩
      · obtain rfl : k = rn.length := by omega
        have HF : Hid (keepsS l (rn.map (fun x : Nat => (x : Int))) = true) := okTo_all (by rw [List.length_map]; exact HO.out)
        go_wp2
        refine bodyPost_ret (v := .tuple #[.bool true, .int .i64 0]) (by simp [results, Tryd.results8, go_sem]) rfl ⟨by rw [HF.out]; rfl, below_drN HB1.out _⟩
  · simp only [if_neg h0] at HA ⊢
    obtain ⟨er, her⟩ : ∃ er, errP h row = er := ⟨_, rfl⟩
    rw [her] at HA h0 ⊢
    have te : ((er : Int) != 0) = true := by simp; omega
    clear her h0
    go_enter Tryd.func8, Tryd.ntmps8
    go_wp2_with fail
    refine HA.out.mono ?_
    rintro e w1 ⟨v1, rfl, hv1, hb1⟩
    have HB1 := Lib.hid hb1
    obtain ⟨a1, c1, rfl⟩ := hv1.len
    go_wp2
    refine bodyPost_ret (v := .tuple #[.bool false, .int .i64 er]) (by simp [results, Tryd.results8, go_sem]) rfl ⟨rfl, HB1.out⟩
end Go.Proofs.YtampoikncgagkaaDoor
