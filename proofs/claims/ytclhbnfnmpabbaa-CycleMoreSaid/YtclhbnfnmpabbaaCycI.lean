/- CycleMore's walk. -/
import Derived.Test.YtclhbnfnmpabbaaCycH
import Derived.Test.YtclhbnfnmpabbaaExtS
namespace Go.Proofs.Ytclhbnfnmpabbaa.RPlain
end Go.Proofs.Ytclhbnfnmpabbaa.RPlain
namespace Go.Proofs.Ytclhbnfnmpabbaa.RPlain

theorem nlt_cases : ∀ {u v : List Nat}, u.length = v.length → ¬ v < u → u < v ∨ u = v := by
  intro u
  induction u with
  | nil =>
    intro v hl _
    cases v with
    | nil => exact .inr rfl
    | cons y s => simp at hl
  | cons x r ih =>
    intro v hl h
    cases v with
    | nil => simp at hl
    | cons y s =>
      rw [List.cons_lt_cons_iff] at h
      simp only [not_or, not_and] at h
      obtain ⟨h1, h2⟩ := h
      by_cases hxy : x < y
      · exact .inl (List.cons_lt_cons_iff.2 (.inl hxy))
      · obtain rfl : x = y := by omega
        rcases ih (by simpa using hl) (h2 rfl) with h3 | rfl
        · exact .inl (List.cons_lt_cons_iff.2 (.inr ⟨rfl, h3⟩))
        · exact .inr rfl
theorem setA_new {A : List Nat} {I : Nat} (hI : I < A.length) (K a b : Nat) (h : aft (setA A I K) a b = true) : aft A a b = true ∨ (a = I ∧ b = K) := by
  unfold aft setA at h
  unfold aft
  rw [List.getD_eq_getElem?_getD, List.getElem?_set] at h
  by_cases he : I = a
  · subst he
    rw [if_pos rfl, if_pos hI, Option.getD_some, Nat.testBit_or, Nat.testBit_two_pow, Bool.or_eq_true, decide_eq_true_eq] at h
    rcases h with h | h
    · exact .inl h
    · exact .inr ⟨rfl, h.symm⟩
  · rw [if_neg he, ← List.getD_eq_getElem?_getD] at h
    exact .inl h
theorem setA_mayCy {A : List Nat} {I K : Nat} (hI : I < A.length) (hK : K < A.length) (hm : mayCy A = true) : mayCy (setA A I K) = true := by
  unfold mayCy at *
  rw [Bool.and_eq_true, decide_eq_true_eq, Bool.not_eq_true', List.any_eq_false] at *
  refine ⟨by rw [setA_len]; exact hm.1, fun x hx => ?_⟩
  have h2 := setA_bit hI hK (fun a ha => by have := hm.2 a ha; simp at this; omega) x hx
  rw [setA_len]
  simp
  omega
/-- with one edge more: no cycle, or one through it -/
theorem more_none {A : List Nat} {I K : Nat} (hI : I < A.length) (h : leastS A = []) : leastS (setA A I K) = [] ∨ (leastS (setA A I K) ≠ [] ∧ I ∈ leastS (setA A I K) ∧ K ∈ leastS (setA A I K)) := by
  rcases least_tells A with ⟨_, h2⟩ | ⟨h1, _⟩
  · rcases least_tells (setA A I K) with ⟨g1, _⟩ | ⟨g1, _⟩
    · exact .inl g1
    · refine .inr ⟨fun hc => ?_, cyc_new (setA_len A I K).symm (fun a b => setA_new hI K a b) g1 (h2 _)⟩
      have := g1.pos
      rw [hc] at this
      exact absurd this (by simp)
  · have := h1.pos
    rw [h] at this
    exact absurd this (by simp)
/-- with one edge more: the least cycle is not greater -/
theorem more_some {A : List Nat} {I K : Nat} (hI : I < A.length) (h : leastS A ≠ []) : leastS (setA A I K) ≠ [] ∧ ((leastS (setA A I K)).length < (leastS A).length ∨ ((leastS (setA A I K)).length = (leastS A).length ∧ (leastS (setA A I K) < leastS A ∨ leastS (setA A I K) = leastS A))) := by
  rcases least_tells A with ⟨h1, _⟩ | ⟨h1, _⟩
  · exact absurd h1 h
  · have h2 := cyc_more (setA_len A I K).symm (fun a b => setA_more hI K a b) h1
    rcases least_tells (setA A I K) with ⟨_, g2⟩ | ⟨g1, g2⟩
    · exact absurd h2 (g2 _)
    · refine ⟨fun hc => ?_, ?_⟩
      · have := g1.pos
        rw [hc] at this
        exact absurd this (by simp)
      · rcases g2 _ h2 with h3 | ⟨h3, h4⟩
        · exact .inl h3
        · exact .inr ⟨h3, nlt_cases h3 h4⟩
theorem least_six {A : List Nat} (hal : A.length ≤ 6) : (leastS A).length ≤ 6 := by
  rcases least_tells A with ⟨h, _⟩ | ⟨h, _⟩
  · rw [h]; simp
  · have := cyc_len h
    omega
end Go.Proofs.Ytclhbnfnmpabbaa.RPlain
namespace Go.Proofs.Ytclhbnfnmpabbaa
open Go.RowKit RPlain

set_option maxRecDepth 100000 in
set_option maxHeartbeats 1000000 in
theorem compareEq_any (v1 v2 : Value) (u : List Nat) (w : World) (h1 : Rd w v1 (nats u)) (h2 : Rd w v2 (nats u)) (hul : u.length ≤ 1000) (h0 : 0 < u.length) :
    Calls Try.prog 18 #[v1, v2] w fun e w' => e = .returned (.int .i64 0) ∧ w' = w := by
  obtain ⟨b1, o1, c1, rfl, -, hc1⟩ := h1.opened (by rw [nats_len]; omega)
  obtain ⟨b2, o2, c2, rfl, -, hc2⟩ := h2.opened (by rw [nats_len]; omega)
  have HC : Hid (∀ k (hk : k < u.length), ∃ x : Nat, w.cell? ⟨b1, o1 + k, none⟩ = some (.int .i64 (x : Int)) ∧ w.cell? ⟨b2, o2 + k, none⟩ = some (.int .i64 (x : Int))) := fun k hk => ⟨u[k], hc1 k _ (nats_get hk), hc2 k _ (nats_get hk)⟩
  rw [nats_len]
  clear hc1 hc2 h1 h2 h0
  generalize u.length = n at *
  go_enter Try.func18, Try.ntmps18
  go_wp2_with fail
  go_loopw [11] (fun x wr => ∃ k : Nat, k ≤ n ∧ x = .int .i64 k ∧ wr = w) (fun x _ => n - (intOf x).toNat)
  case atStart => exact ⟨0, by omega, rfl, rfl⟩
  case round =>
    obtain ⟨k, hk, rfl, hwr⟩ := hrel
    obtain rfl : w = wr := hwr.symm
    by_cases hkn : k < n
    · obtain ⟨x, hx, hy⟩ := HC.out k hkn
      have hce : Lib.compareInt (x : Int) (x : Int) = 0 := by unfold Lib.compareInt; simp
      have HCM := Lib.hid (fun W => Try.cmp_Compare_int (x : Int) (x : Int) W)
      rw [hce] at HCM
      clear hce
      go_wp2_with (go_at_call 34; refine (HCM.out _).mono ?_; rintro e w5 ⟨rfl, rfl⟩)
      go_roundw
      case rel => exact ⟨k + 1, by omega, by go_num, trivial⟩
      case measure => simp [intOf]; omega
    · obtain rfl : k = n := by omega
      go_wp2
      go_ret
      exact ⟨rfl, rfl⟩
/-- a row that is not greater -/
theorem compareLe_any (v1 v2 : Value) (u v : List Nat) (w : World) (h1 : Rd w v1 (nats u)) (h2 : Rd w v2 (nats v)) (hl : u.length = v.length) (hul : u.length ≤ 1000) (h0 : 0 < u.length) (h : u < v ∨ u = v) :
    Calls Try.prog 18 #[v1, v2] w fun e w' => ∃ z : Int, e = .returned (.int .i64 z) ∧ z ≤ 0 ∧ w' = w := by
  rcases h with h | rfl
  · exact (compareN_any v1 v2 u v w h1 h2 hl hul h).mono fun e w' ⟨he, hw⟩ => ⟨-1, he, by omega, hw⟩
  · exact (compareEq_any v1 v2 u w h1 h2 hul h0).mono fun e w' ⟨he, hw⟩ => ⟨0, he, by omega, hw⟩
/-- slices.Contains of a row of places -/
theorem containsNn_any (v : Value) (L : List Nat) (k : Nat) (w : World) (h : Rd w v (nats L)) (hl : L.length ≤ 65536) (hk : k ∈ L) :
    Calls Try.prog 17 #[v, .int .i64 (k : Int)] w fun e w' => e = .returned (.bool true) ∧ w' = w := by
  have h0 : 0 < L.length := List.length_pos_of_mem hk
  obtain ⟨b, o, c, rfl, -, hc⟩ := h.opened (by rw [nats_len]; exact h0)
  rw [nats_len]
  have h1 := Try.slices_Contains_int b o L.length c (L.map fun (x : Nat) => (x : Int)) (k : Int) w (by simp) (by omega) (fun j hj => by
    have hj' : j < L.length := by simpa using hj
    rw [hc j _ (nats_get hj'), List.getD_eq_getElem?_getD, List.getElem?_map, List.getElem?_eq_getElem hj']
    rfl)
  have h2 : ((L.map fun (x : Nat) => (x : Int)).take L.length).contains (k : Int) = true := by
    rw [List.take_of_length_le (by simp), List.contains_eq_mem, decide_eq_true_eq]
    exact List.mem_map.2 ⟨k, hk, rfl⟩
  rw [h2] at h1
  exact h1
set_option maxRecDepth 100000 in
set_option maxHeartbeats 16000000 in
theorem cycMore_walk (a : Option Addr) (n c : Nat) (A : List Nat) (i k : Int) (w : World) (hn : n ≤ c) (hm : min (n : Int) 8 = (A.length : Int)) (h8 : A.length ≤ 8) (hle : A.length ≤ n) (hv : Rd w (.slice a A.length c) (u32s A)) (hA : ∀ x ∈ A, x < 4294967296) :
    Calls Try.prog 5 #[.slice a n c, .int .i64 i, .int .i64 k] w fun e w' => e = .returned (.bool true) ∧ Below w.heap.size w w' := by
  have HV := Lib.hid hv
  have HA := Lib.hid hA
  have HLST := Lib.hid (fun (W : World) (hb : Below w.heap.size w W) => leastC_any _ A W (HV.out.below hb (Nat.le_refl _)) HA.out (by omega))
  have HALV := Lib.hid (fun (W : World) => aliveCy_any W)
  have hLE : leastE A = if mayCy A = true then (if leastS A = [] then 7 else 0) else 1 := rfl
  have hLR : leastR A = if mayCy A = true then leastS A else [] := rfl
  clear hv hA
  cases hmy : mayCy A with
  | false =>
    rw [hmy, if_neg (by decide)] at hLE hLR
    rw [hLE, hLR] at HLST
    rw [List.length_nil] at HLST
    clear hLE hLR hmy
    go_enter Try.func5, Try.ntmps5
    go_wp2_with fail
    refine (HLST.out w (Below.refl _ _)).mono ?_
    rintro e w2 ⟨v2, rfl, hv2, hb2⟩
    have HB2 := Lib.hid hb2
    obtain ⟨v2a, v2c, rfl⟩ := row_slice hv2
    clear hb2 hv2
    go_wp2_with (go_at_call 9; refine (HALV.out w2).mono ?_; rintro e w5 ⟨rfl, hb5⟩; have HB5 := Lib.hid (HB2.out.trans (hb5.mono HB2.out.size)); clear hb5)
    go_ret
    exact ⟨rfl, HB5.out⟩
  | true =>
    have hal : A.length ≤ 6 := by
      have h := hmy
      unfold mayCy at h
      rw [Bool.and_eq_true, decide_eq_true_eq] at h
      exact h.1
    rw [hmy, if_pos rfl] at hLE hLR
    rw [hLE, hLR] at HLST
    have hbits : ∀ x ∈ A, x < 2 ^ A.length := fun x hx => by
      have h := hmy
      unfold mayCy at h
      rw [Bool.and_eq_true, Bool.not_eq_true', List.any_eq_false] at h
      have := h.2 x hx
      simp at this
      omega
    clear hLE hLR
    by_cases hA0 : A.length = 0
    · obtain rfl : A = [] := List.length_eq_zero_iff.1 hA0
      have hls : leastS [] = [] := rfl
      rw [hls, if_pos rfl] at HLST
      rw [List.length_nil] at HLST hm
      clear hls hbits hmy hA0
      go_enter Try.func5, Try.ntmps5
      go_wp2_with fail
      refine (HLST.out w (Below.refl _ _)).mono ?_
      rintro e w2 ⟨v2, rfl, hv2, hb2⟩
      have HB2 := Lib.hid hb2
      obtain ⟨v2a, v2c, rfl⟩ := row_slice hv2
      clear hb2 hv2
      go_wp2_with (go_at_call 9; refine (HALV.out w2).mono ?_; rintro e w5 ⟨rfl, hb5⟩; have HB5 := Lib.hid (HB2.out.trans (hb5.mono HB2.out.size)); clear hb5)
      go_ret
      exact ⟨rfl, HB5.out⟩
    · obtain ⟨I, hI1, hI2⟩ := mod_place i (n := A.length) (by omega) h8
      obtain ⟨K, hK1, hK2⟩ := mod_place k (n := A.length) (by omega) h8
      have hz : ((A.length : Int) == 0) = false := by rw [beq_eq_false_iff_ne]; omega
      have HIE := Lib.hid hI1
      have HKE := Lib.hid hK1
      have HM2 := Lib.hid (setA_mayCy hI2 hK2 hmy)
      have HMN := Lib.hid (fun (h : leastS A = []) => more_none (K := K) hI2 h)
      have HMS := Lib.hid (fun (h : leastS A ≠ []) => more_some (K := K) hI2 h)
      have hl6 := least_six hal
      have hl62 := least_six (A := setA A I K) (by rw [setA_len]; exact hal)
      obtain ⟨l, hl⟩ : ∃ l, leastS A = l := ⟨_, rfl⟩
      rw [hl] at HLST HMN HMS hl6
      obtain ⟨er, her⟩ : ∃ er : Nat, (if l = [] then 7 else 0) = er := ⟨_, rfl⟩
      rw [her] at HLST
      have HER := Lib.hid her
      have her1 : ((er : Int) == 1) = false := by
        rw [beq_eq_false_iff_ne]
        split at her
        all_goals omega
      clear hI1 hK1 hmy hA0 hl her
      go_enter Try.func5, Try.ntmps5
      go_wp2_with fail
      refine (HLST.out w (Below.refl _ _)).mono ?_
      rintro e w2 ⟨v2, rfl, hv2, hb2⟩
      have HB2 := Lib.hid hb2
      have HV2 := Lib.hid (Rd.of_row hv2)
      obtain ⟨v2a, v2c, rfl⟩ := row_slice hv2
      clear hb2 hv2 HLST
      obtain ⟨ll, hll⟩ : ∃ z, l.length = z := ⟨_, rfl⟩
      have HLL := Lib.hid hll
      rw [hll] at HV2 ⊢
      clear hll
      go_wp2_with fail
      go_quiet (fail)
      have HQ6 : Hid (Below w2.heap.size w2 (w2.drewN nq)) := belowDrewN
      generalize w2.drewN nq = w6 at *
      have HCL := Lib.hid (cloneU_any a c A w6 (HV.out.below (HB2.out.trans (HQ6.out.mono HB2.out.size)) (Nat.le_refl _)) (by omega) (by omega))
      rw [HIE.out, HKE.out]
      go_wp2_with fail
      refine HCL.out.mono ?_
      rintro e w7 ⟨g, c7, rfl, hg7, hr7, hb7⟩
      obtain ⟨cur, hat, hcu⟩ := rowU_at hr7
      have HAT := Lib.hid hat
      have HCU := Lib.hid hcu
      have hcI := hat.cell (hcu I hI2)
      have hfI := hat.free I
      have hx32 : 2 ^ K < 4294967296 := Nat.pow_lt_pow_right (a := 2) (m := K) (n := 32) (by decide) (by omega)
      have hpu : IntKind.u32.wrap ((2 : Int) ^ K) = ((2 ^ K : Nat) : Int) := by
        have h2 : (2 : Int) ^ K = ((2 ^ K : Nat) : Int) := (Int.natCast_pow 2 K).symm
        rw [h2]
        exact wrap_nat32 _ hx32
      have hor := u32_or_nat A[I] (2 ^ K) (HA.out _ (List.getElem_mem hI2)) hx32
      have HPW : Hid (∃ pw, pw = 2 ^ K) := ⟨_, rfl⟩
      have HQ7 := Lib.hid (HQ6.out.trans (hb7.mono HQ6.out.size))
      have HG7 : Hid (w2.heap.size ≤ g) := Nat.le_trans HQ6.out.size hg7
      clear hr7 hb7 hat hcu HQ6 HCL
      obtain ⟨pw, hpw⟩ : ∃ pw, 2 ^ K = pw := ⟨_, rfl⟩
      obtain ⟨ax, hax⟩ : ∃ ax, A[I] = ax := ⟨_, rfl⟩
      rw [hpw] at hpu hor hx32
      rw [hax] at hor hcI
      have HPX : Hid (2 ^ K = pw ∧ A[I] = ax) := ⟨hpw, hax⟩
      clear hpw hax HPW
      go_wp2_with fail
      go_region
      have HQ8 := Lib.hid ((HQ7.out.setCell (p := ⟨g, I, none⟩) HG7.out (.int .u32 ((ax ||| pw : Nat) : Int))).drew)
      have hr8 : Rd (w7.setCell ⟨g, I, none⟩ (.int .u32 ((ax ||| pw : Nat) : Int))).drew (.slice (some ⟨g, 0, none⟩) A.length c7) (u32s (setA A I K)) := rd_setA HAT.out HCU.out hI2 HPX.out.1 HPX.out.2
      generalize (w7.setCell ⟨g, I, none⟩ (.int .u32 ((ax ||| pw : Nat) : Int))).drew = w8 at *
      have hln := setA_len A I K
      rw [← hln] at hr8
      have HCT := Lib.hid (leastC_any _ (setA A I K) w8 hr8 (setA_lt hI2 hK2 hal hbits) (by omega))
      rw [hln] at HCT
      have hLE2 : leastE (setA A I K) = if mayCy (setA A I K) = true then (if leastS (setA A I K) = [] then 7 else 0) else 1 := rfl
      have hLR2 : leastR (setA A I K) = if mayCy (setA A I K) = true then leastS (setA A I K) else [] := rfl
      rw [HM2.out, if_pos rfl] at hLE2 hLR2
      rw [hLE2, hLR2] at HCT
      obtain ⟨m, hmm⟩ : ∃ m, leastS (setA A I K) = m := ⟨_, rfl⟩
      rw [hmm] at HCT HMN HMS hl62
      obtain ⟨fr, hfr⟩ : ∃ fr : Nat, (if m = [] then 7 else 0) = fr := ⟨_, rfl⟩
      rw [hfr] at HCT
      have HFR := Lib.hid hfr
      have HV8 := Lib.hid (HV2.out.below HQ8.out (Nat.le_refl _))
      clear hln hr8 hcI hfI hpu hor HAT HCU HPX HQ7 HG7 HA hbits HIE HKE HM2 hLE2 hLR2 hmm hfr HV2
      go_wp2_with fail
      refine HCT.out.mono ?_
      rintro e w9 ⟨v9, rfl, hv9, hb9⟩
      have HB9 := Lib.hid ((HB2.out.trans (HQ8.out.mono HB2.out.size)).trans (hb9.mono ((HB2.out.trans (HQ8.out.mono HB2.out.size)).size)))
      have HV9 := Lib.hid (Rd.of_row hv9)
      have HV8b := Lib.hid (HV8.out.below hb9 (Nat.le_refl _))
      obtain ⟨v9a, v9c, rfl⟩ := row_slice hv9
      obtain ⟨ml, hml⟩ : ∃ z, m.length = z := ⟨_, rfl⟩
      have HML := Lib.hid hml
      rw [hml] at HV9 ⊢
      clear hml hb9 hv9 HV8 HCT HQ8
      by_cases hl0 : l = []
      · have h1 : er = 7 := by rw [← HER.out, if_pos hl0]
        have h2 : ll = 0 := by rw [← HLL.out, hl0]; rfl
        subst h1
        subst h2
        rcases HMN.out hl0 with hm0 | ⟨hm0, hmI, hmK⟩
        · have h3 : fr = 7 := by rw [← HFR.out, if_pos hm0]
          subst h3
          clear hl0 hm0 HMN HMS HER HFR HLL HML HV8b HV9
          go_wp2_with (go_at_call 9; refine (HALV.out w9).mono ?_; rintro e w10 ⟨rfl, hb10⟩; have HB10 := Lib.hid (HB9.out.trans (hb10.mono HB9.out.size)); clear hb10)
          go_ret
          exact ⟨rfl, HB10.out⟩
        · have h3 : fr = 0 := by rw [← HFR.out, if_neg hm0]
          subst h3
          have HCI := Lib.hid (fun (W : World) (hW : Below w9.heap.size w9 W) => containsNn_any _ m I W (HV9.out.below hW (Nat.le_refl _)) (by omega) hmI)
          have HCK := Lib.hid (fun (W : World) (hW : Below w9.heap.size w9 W) => containsNn_any _ m K W (HV9.out.below hW (Nat.le_refl _)) (by omega) hmK)
          clear hl0 hm0 hmI hmK HMN HMS HER HFR HLL HML HV8b HV9
          go_wp2_with (first
            | (go_at_call 9; refine (HALV.out w9).mono ?_; rintro e w10 ⟨rfl, hb10⟩; have HB10 := Lib.hid (HB9.out.trans (hb10.mono HB9.out.size)); have HC10 := Lib.hid hb10; clear hb10)
            | (go_at_call 17; with_reducible refine (HCI.out _ HC10.out).mono ?_; rintro e w11 ⟨rfl, hw11⟩; rw [hw11]; clear hw11)
            | (go_at_call 17; with_reducible refine (HCK.out _ HC10.out).mono ?_; rintro e w11 ⟨rfl, hw11⟩; rw [hw11]; clear hw11))
          go_ret
          exact ⟨rfl, HB10.out⟩
      · have h1 : er = 0 := by rw [← HER.out, if_neg hl0]
        obtain ⟨hm0, hcm⟩ := HMS.out hl0
        have h3 : fr = 0 := by rw [← HFR.out, if_neg hm0]
        have hlp : 0 < l.length := List.length_pos_iff.2 hl0
        have hmp : 0 < m.length := List.length_pos_iff.2 hm0
        have HCC := Lib.hid (fun (h : m.length = l.length ∧ (m < l ∨ m = l)) (W : World) (hW : Below w9.heap.size w9 W) => compareLe_any _ _ m l W (HV9.out.below hW (Nat.le_refl _)) (HV8b.out.below hW (Nat.le_refl _)) h.1 (by omega) hmp h.2)
        subst h1
        subst h3
        have hml : ml = m.length := HML.out.symm
        have hll : ll = l.length := HLL.out.symm
        rw [← hml] at hcm hmp hl62 HCC
        rw [← hll] at hcm hlp hl6 HCC
        clear hl0 hm0 HMN HMS HER HFR HLL HML HV8b HV9 hml hll
        have tp : decide (0 < ml) = true := decide_eq_true hmp
        rcases hcm with hlt | ⟨heq, hle⟩
        · have tl : decide (ml < ll) = true := decide_eq_true hlt
          clear HCC
          go_wp2_with (go_at_call 9; refine (HALV.out w9).mono ?_; rintro e w10 ⟨rfl, hb10⟩; have HB10 := Lib.hid (HB9.out.trans (hb10.mono HB9.out.size)); clear hb10)
          go_ret
          exact ⟨rfl, HB10.out⟩
        · have HCD := Lib.hid (HCC.out ⟨heq, hle⟩)
          subst heq
          have tl : decide (ml < ml) = false := by simp
          clear HCC hle
          go_wp2_with (first
            | (go_at_call 9; refine (HALV.out w9).mono ?_; rintro e w10 ⟨rfl, hb10⟩; have HB10 := Lib.hid (HB9.out.trans (hb10.mono HB9.out.size)); have HC10 := Lib.hid hb10; clear hb10)
            | (go_at_call 18; refine (HCD.out _ HC10.out).mono ?_; rintro e w11 ⟨z, rfl, hz, hw11⟩; rw [hw11]; clear hw11))
          go_ret
          exact ⟨rfl, HB10.out⟩
theorem cycMore_any (a : Option Addr) (n c : Nat) (A : List Nat) (i k : Int) (w : World) (hn : n ≤ c) (hv : Rd w (.slice a (min (n : Int) 8).toNat c) (u32s A)) (hA : ∀ x ∈ A, x < 4294967296) :
    Calls Try.prog 5 #[.slice a n c, .int .i64 i, .int .i64 k] w fun e w' => e = .returned (.bool true) ∧ Below w.heap.size w w' := by
  obtain ⟨m, hm⟩ : ∃ m : Nat, min (n : Int) 8 = (m : Int) := ⟨(min (n : Int) 8).toNat, by omega⟩
  rw [hm, Int.toNat_natCast] at hv
  obtain rfl : m = A.length := by
    obtain ⟨_, _, he⟩ := hv.len
    simp only [Value.slice.injEq, u32s_len] at he
    exact he.2.1
  exact cycMore_walk a n c A i k w hn hm (by omega) (by omega) hv hA
end Go.Proofs.Ytclhbnfnmpabbaa
