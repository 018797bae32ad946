/- CycleOrRow's walk. -/
import Derived.Test.YtclhbnfnmpabbaaCycI
import Derived.Deep.RegionHeld
namespace Go.Proofs.Ytclhbnfnmpabbaa.RPlain
end Go.Proofs.Ytclhbnfnmpabbaa.RPlain
namespace Go.Proofs.Ytclhbnfnmpabbaa.RPlain

theorem mayCy_not {A : List Nat} (h : mayCy A = false) : mayE A = 1 := by
  unfold mayCy at h
  unfold mayE
  rw [if_pos]
  rw [Bool.and_eq_false_iff, decide_eq_false_iff_not, Bool.not_eq_false'] at h
  exact h.imp (fun h => by omega) id
theorem mayCy_E {A : List Nat} (h : mayCy A = true) (hf : Free A) : mayE A = 0 := by
  unfold mayCy at h
  rw [Bool.and_eq_true, decide_eq_true_eq, Bool.not_eq_true', List.any_eq_false] at h
  exact mayE_zero.2 ⟨h.1, fun a ha => by have := h.2 a ha; simp at this; omega, hf⟩
theorem or_none {A : List Nat} (h : mayCy A = true) (hl : leastS A = []) : mayE A = 0 ∧ 0 < (allS A).length := by
  have hf : Free A := by
    rcases least_tells A with ⟨_, h2⟩ | ⟨h1, _⟩
    · exact Classical.byContradiction fun hn => by
        obtain ⟨row, hr⟩ := (cyc_iff A).2 hn
        exact h2 row hr
    · have := h1.pos
      rw [hl] at this
      exact absurd this (by simp)
  exact ⟨mayCy_E h hf, allS_some hf⟩
theorem or_some {A : List Nat} (h : mayCy A = true) (hl : leastS A ≠ []) : mayE A = 8 := by
  have hc : ¬ Free A := by
    rcases least_tells A with ⟨h1, _⟩ | ⟨h1, _⟩
    · exact absurd h1 hl
    · exact (cyc_iff A).1 ⟨_, h1⟩
  unfold mayCy at h
  rw [Bool.and_eq_true, decide_eq_true_eq, Bool.not_eq_true'] at h
  unfold mayE
  rw [if_neg (by rw [h.2]; simp; omega), if_pos]
  cases hw : ((List.range A.length).any fun i => (waysS A i).contains i) with
  | true => rfl
  | false => exact absurd ((free_iff A).1 hw) hc
theorem min_head : ∀ (l : List Int) (x : Int), (∀ y ∈ l, x ≤ y) → l.foldl min x = x := by
  intro l
  induction l with
  | nil => intro x _; rfl
  | cons y r ih =>
    intro x h
    have h1 := h y (List.mem_cons_self ..)
    rw [List.foldl_cons, show min x y = x from by omega]
    exact ih x fun z hz => h z (List.mem_cons_of_mem _ hz)
theorem min_least {A : List Nat} (hl : leastS A ≠ []) : Lib.minOf (((leastS A).map fun (x : Nat) => (x : Int)).take (leastS A).length) = (((leastS A).getD 0 0 : Nat) : Int) := by
  rcases least_tells A with ⟨h1, _⟩ | ⟨h1, h2⟩
  · exact absurd h1 hl
  · have h3 := least_first h1 h2
    rw [List.take_of_length_le (by simp)]
    have h4 := h1.pos
    generalize leastS A = l at *
    cases l with
    | nil => simp at h4
    | cons x r =>
      unfold Lib.minOf
      show List.foldl min ((x : Nat) : Int) (((x : Nat) : Int) :: r.map fun (x : Nat) => (x : Int)) = ((x : Nat) : Int)
      refine min_head _ _ fun y hy => ?_
      rcases List.mem_cons.1 hy with rfl | hy
      · omega
      · obtain ⟨z, hz, rfl⟩ := List.mem_map.1 hy
        have h5 : x ≤ z := h3 z (List.mem_cons_of_mem _ hz)
        omega
/-- turned on it is one still -/
theorem rot_walk {A : List Nat} (hm : mayCy A = true) (hl : leastS A ≠ []) {k : Nat} (hk : k < (leastS A).length) :
    walkE A (((leastS A).drop k ++ (leastS A).take k).map fun (x : Nat) => (x : Int)) = 0 ∧ walkR A (((leastS A).drop k ++ (leastS A).take k).map fun (x : Nat) => (x : Int)) = true := by
  rcases least_tells A with ⟨h1, _⟩ | ⟨h1, _⟩
  · exact absurd h1 hl
  · have hc := h1.rot hk
    generalize (leastS A).drop k ++ (leastS A).take k = R at *
    have h2 : (R.map fun (x : Nat) => (x : Int)).any (noneC A.length) = false := by
      rw [List.any_eq_false]
      intro x hx
      obtain ⟨z, hz, rfl⟩ := List.mem_map.1 hx
      have := hc.lt z hz
      unfold noneC
      simp
      omega
    have h3 : walkE A (R.map fun (x : Nat) => (x : Int)) = 0 := by
      unfold walkE
      rw [hm, if_pos rfl, if_neg (by rw [h2]; decide)]
    refine ⟨h3, ?_⟩
    unfold walkR
    rw [if_pos h3]
    have h4 : (R.map fun (x : Nat) => (x : Int)).map Int.toNat = R := by
      rw [List.map_map]
      exact (List.map_congr_left fun x _ => by show ((x : Nat) : Int).toNat = x; omega).trans (List.map_id' R)
    rw [h4]
    exact (walk_iff hc.lt).2 hc
end Go.Proofs.Ytclhbnfnmpabbaa.RPlain
namespace Go.Proofs.Ytclhbnfnmpabbaa
open Go.RowKit RPlain

theorem rdN_drop {w : World} {b o n c : Nat} {L : List Nat} (h : Rd w (.slice (some ⟨b, o, none⟩) n c) (nats L)) (k : Nat) (hk : k < L.length) : Rd w (.slice (some ⟨b, o + k, none⟩) (n - k) (c - k)) (nats (L.drop k)) := by
  obtain ⟨b', o', c', he, hb, hc⟩ := h.opened (by rw [nats_len]; omega)
  simp only [Value.slice.injEq, Option.some.injEq, Addr.mk.injEq, and_true, nats_len] at he
  obtain ⟨⟨rfl, rfl⟩, rfl, rfl⟩ := he
  have hl : (nats (L.drop k)).length = L.length - k := by rw [nats_len, List.length_drop]
  refine .inr ⟨by omega, b, o + k, c - k, by rw [hl], fun i u hu => ?_⟩
  have hi : i < L.length - k := by have := (List.getElem?_eq_some_iff.1 hu).1; omega
  rw [Nat.add_assoc]
  refine hc (k + i) u ?_
  have h1 : nats (L.drop k) = (nats L).drop k := by simp [nats]
  rw [h1, List.getElem?_drop] at hu
  exact hu
theorem minC_any (v : Value) (A : List Nat) (w : World) (hl : leastS A ≠ []) (h : Rd w v (nats (leastS A))) (h6 : (leastS A).length ≤ 6) :
    Calls Try.prog 14 #[v] w fun e w' => e = .returned (.int .i64 (((leastS A).getD 0 0 : Nat) : Int)) ∧ Below w.heap.size w w' := by
  have h0 : 0 < (leastS A).length := List.length_pos_iff.2 hl
  obtain ⟨b, o, c, rfl, -, hc⟩ := h.opened (by rw [nats_len]; exact h0)
  rw [nats_len]
  have h1 := Try.slices_Min_int b o (leastS A).length c ((leastS A).map fun (x : Nat) => (x : Int)) w h0 (by simp) (by omega) (fun j hj => by
    have hj' : j < (leastS A).length := by simpa using hj
    rw [hc j _ (nats_get hj'), List.getD_eq_getElem?_getD, List.getElem?_map, List.getElem?_eq_getElem hj']
    rfl)
  rw [min_least hl] at h1
  exact h1.mono fun e w' ⟨he, hw⟩ => ⟨he, by rw [hw]; exact Below.refl _ _⟩
set_option maxRecDepth 100000 in
set_option maxHeartbeats 16000000 in
theorem cycOrRow_walk (a : Option Addr) (n c : Nat) (A : List Nat) (w : World) (hn : n ≤ c) (hm : min (n : Int) 8 = (A.length : Int)) (h8 : A.length ≤ 8) (hle : A.length ≤ n) (hv : Rd w (.slice a A.length c) (u32s A)) (hA : ∀ x ∈ A, x < 4294967296) :
    Calls Try.prog 4 #[.slice a n c] w fun e w' => e = .returned (.bool true) ∧ Below w.heap.size w w' := by
  have HV := Lib.hid hv
  have HA := Lib.hid hA
  have HLST := Lib.hid (fun (W : World) (hb : Below w.heap.size w W) => leastC_any _ A W (HV.out.below hb (Nat.le_refl _)) HA.out (by omega))
  have HCNT := Lib.hid (fun (W : World) (hb : Below w.heap.size w W) => countX_any a c A W (HV.out.below hb (Nat.le_refl _)) HA.out (by omega))
  have HALV := Lib.hid (fun (W : World) => aliveCy_any W)
  have hLE : leastE A = if mayCy A = true then (if leastS A = [] then 7 else 0) else 1 := rfl
  have hLR : leastR A = if mayCy A = true then leastS A else [] := rfl
  have mixed : Try.prog.follows .mixedOrders = true := by kernel_rfl
  clear hv hA
  cases hmy : mayCy A with
  | false =>
    rw [hmy, if_neg (by decide)] at hLE hLR
    rw [hLE, hLR] at HLST
    rw [List.length_nil] at HLST
    simp only [mayCy_not hmy, if_neg (show ¬ (1 : Nat) = 0 by decide)] at HCNT
    clear hLE hLR hmy
    go_enter Try.func4, Try.ntmps4
    go_wp2_with fail
    refine (HLST.out w (Below.refl _ _)).mono ?_
    rintro e w2 ⟨v2, rfl, hv2, hb2⟩
    have HB2 := Lib.hid hb2
    obtain ⟨v2a, v2c, rfl⟩ := row_slice hv2
    clear hb2 hv2
    go_wp2_with fail
    refine (HCNT.out w2 HB2.out).mono ?_
    rintro e w3 ⟨rfl, hb3⟩
    have HB3 := Lib.hid (HB2.out.trans (hb3.mono HB2.out.size))
    clear hb3
    go_wp2_with (go_at_call 9; refine (HALV.out w3).mono ?_; rintro e w5 ⟨rfl, hb5⟩; have HB5 := Lib.hid (HB3.out.trans (hb5.mono HB3.out.size)); clear hb5)
    go_ret
    exact ⟨rfl, HB5.out⟩
  | true =>
    have hal : A.length ≤ 6 := by
      have h := hmy
      unfold mayCy at h
      rw [Bool.and_eq_true, decide_eq_true_eq] at h
      exact h.1
    rw [hmy, if_pos rfl] at hLE hLR
    rw [hLE, hLR] at HLST
    by_cases hls : leastS A = []
    · obtain ⟨he0, hp⟩ := or_none hmy hls
      have hlen : (allS A).length ≤ 46656 := (lvl_facts hal (Nat.le_refl A.length)).1
      rw [hls, if_pos rfl] at HLST
      rw [List.length_nil] at HLST
      simp only [he0, if_pos] at HCNT
      have tp : decide (0 < (allS A).length) = true := decide_eq_true hp
      clear hLE hLR hmy hls he0
      generalize (allS A).length = z at *
      go_enter Try.func4, Try.ntmps4
      go_wp2_with fail
      refine (HLST.out w (Below.refl _ _)).mono ?_
      rintro e w2 ⟨v2, rfl, hv2, hb2⟩
      have HB2 := Lib.hid hb2
      obtain ⟨v2a, v2c, rfl⟩ := row_slice hv2
      clear hb2 hv2
      go_wp2_with fail
      refine (HCNT.out w2 HB2.out).mono ?_
      rintro e w3 ⟨rfl, hb3⟩
      have HB3 := Lib.hid (HB2.out.trans (hb3.mono HB2.out.size))
      clear hb3
      go_wp2_with (go_at_call 9; refine (HALV.out w3).mono ?_; rintro e w5 ⟨rfl, hb5⟩; have HB5 := Lib.hid (HB3.out.trans (hb5.mono HB3.out.size)); clear hb5)
      go_ret
      exact ⟨rfl, HB5.out⟩
    · have he8 := or_some hmy hls
      have hl6 := least_six hal
      have hlp : 0 < (leastS A).length := List.length_pos_iff.2 hls
      have HRW := Lib.hid (fun (k : Nat) (hk : k < (leastS A).length) => rot_walk hmy hls hk)
      have HMIN := Lib.hid (fun (v : Value) (W : World) (h : Rd W v (nats (leastS A))) => minC_any v A W hls h hl6)
      rw [if_neg hls] at HLST
      simp only [he8, if_neg (show ¬ (8 : Nat) = 0 by decide)] at HCNT
      obtain ⟨l, hl⟩ : ∃ l, leastS A = l := ⟨_, rfl⟩
      rw [hl] at HLST HRW HMIN hl6 hlp
      obtain ⟨p0, hp0⟩ : ∃ p, l.getD 0 0 = p := ⟨_, rfl⟩
      rw [hp0] at HMIN
      clear hLE hLR hmy hls he8 hl
      go_enter Try.func4, Try.ntmps4
      go_wp2_with fail
      refine (HLST.out w (Below.refl _ _)).mono ?_
      rintro e w2 ⟨v2, rfl, hv2, hb2⟩
      have HB2 := Lib.hid hb2
      have hv2r := Rd.of_row hv2
      have hcap := ownCap11 hv2
      obtain ⟨b, o, vc, rfl, hbl, hcs⟩ := hv2r.opened (by rw [nats_len]; exact hlp)
      rw [nats_len] at hv2r hcap ⊢
      have hcp := hcap _ _ _ rfl
      have hc0 := hcs 0 _ (nats_get hlp)
      rw [Nat.add_zero, ← getD_get hlp, hp0] at hc0
      clear hb2 hv2 hcap hbl hcs hp0
      have HV2 := Lib.hid hv2r
      clear hv2r
      go_wp2_with fail
      refine (HCNT.out w2 HB2.out).mono ?_
      rintro e w3 ⟨rfl, hb3⟩
      have HB3 := Lib.hid (HB2.out.trans (hb3.mono HB2.out.size))
      have HV3 := Lib.hid (HV2.out.below hb3 (Nat.le_refl _))
      have hd0 := cell_on hb3 hc0
      clear hb3 HV2 hc0
      obtain ⟨ll, hll⟩ : ∃ z, l.length = z := ⟨_, rfl⟩
      have HLL := Lib.hid hll
      rw [hll] at HV3 hl6 hlp hcp HRW ⊢
      have hl0 : ((ll : Int) == 0) = false := by rw [beq_eq_false_iff_ne]; omega
      clear hll
      go_upto_region 8 with fail
      have k0 : ∀ p : Ext w3, p.wld.cell? ⟨b, o, none⟩ = some (.int .i64 (p0 : Int)) := fun p => cell_on p.below hd0
      have HMN := Lib.hid (fun (W : World) (hW : Below w3.heap.size w3 W) => HMIN.out _ W (HV3.out.below hW (Nat.le_refl _)))
      have HAL := Lib.hid (fun (W : World) (_ : Below w3.heap.size w3 W) => HALV.out W)
      refine wp_region_ext mixed (by kernel_rfl) ?_
      repeat (go_big_quiet_step (first
        | (go_at_call 14; refine calls_ext HMN.out)
        | (go_at_call 9; refine calls_ext HAL.out)))
      refine wpQuiet_nil ?_
      intro w4 hw4
      obtain ⟨⟨wq, hbq⟩, hq⟩ := hw4
      obtain rfl : w4 = wq := hq
      have HB4 := Lib.hid (HB3.out.trans (hbq.mono HB3.out.size))
      have HV4 := Lib.hid (HV3.out.below hbq (Nat.le_refl _))
      clear hbq k0 HMN HAL hd0 HV3 HMIN HCNT HLST
      go_wp2_with fail
      obtain ⟨w9, hw9⟩ : ∃ w9 : World, w9 = w4 := ⟨w4, rfl⟩
      subst hw9
      go_loopw [70] (fun x wr => ∃ k : Nat, k ≤ ll ∧ x = .int .i64 k ∧ Hid (Below w9.heap.size w9 wr)) (fun x _ => ll - (intOf x).toNat)
      case atStart => exact ⟨0, by omega, rfl, Below.refl _ _⟩
      case round =>
        obtain ⟨k, hk, rfl, HB⟩ := hrel
        have HBW := Lib.hid (HB4.out.trans (HB.out.mono HB4.out.size))
        by_cases hlt : k < ll
        · obtain ⟨hwe, hwr⟩ := HRW.out k hlt
          have hrd := HV4.out.below HB.out (Nat.le_refl _)
          have hlL := HLL.out
          have hbd : Below wr.heap.size wr (wr.drew.alloc (.cells #[.slice (some ⟨b, o + k, none⟩) (ll - k) (vc - k), .slice (some ⟨b, o, none⟩) k vc] 23)) := (belowDr11 wr).alloc (Nat.le_refl _) _
          have hat := At.new wr.drew #[.slice (some ⟨b, o + k, none⟩) (ll - k) (vc - k), .slice (some ⟨b, o, none⟩) k vc] 23
          have hrot : (l.drop k ++ l.take k).length = ll := by rw [List.length_append, List.length_drop, List.length_take]; omega
          have hco := concatJ_any wr.heap.size _ _ (l.drop k) (l.take k) (wr.drew.alloc (.cells #[.slice (some ⟨b, o + k, none⟩) (ll - k) (vc - k), .slice (some ⟨b, o, none⟩) k vc] 23))
            (hat.cell (i := 0) rfl) (hat.cell (i := 1) rfl) ((rdN_drop hrd k (by omega)).below hbd (Nat.le_refl _)) ((rdN_cut hrd k (by omega)).below hbd (Nat.le_refl _)) (.inr ⟨_, _, _, rfl⟩) (.inr ⟨_, _, _, rfl⟩)
            (by rw [List.length_drop]; omega) (by rw [List.length_take]; omega) (by rw [List.length_drop]; omega)
          rw [hrot] at hco
          have HCO := Lib.hid hco
          have HWK := Lib.hid (fun (W : World) (hW : Below wr.heap.size wr W) (va : Option Addr) (c' : Nat) (hr : Rd W (.slice va ll c') (nats (l.drop k ++ l.take k))) => walkC_any (.slice a A.length c) (.slice va ll c') A ((l.drop k ++ l.take k).map fun (x : Nat) => (x : Int)) W (HV.out.below (HBW.out.trans (hW.mono HBW.out.size)) (Nat.le_refl _)) HA.out (by omega) (by rw [← nats_ints]; exact hr) (by rw [List.length_map]; omega))
          rw [hwe, hwr] at HWK
          have HBD := Lib.hid hbd
          have hkc : (k : Int) ≤ (vc : Int) := by omega
          have hne : ¬ vc = k := by omega
          have hkl : (k : Int) ≤ (ll : Int) := by omega
          clear hwe hwr hrd hat hrot hco hlL hbd
          generalize l.drop k ++ l.take k = R at *
          go_wp2_with fail
          first
          | go_must (go_region_held (fun _ => True)
              (trivial)
              (first
                | (go_at_call 15; refine HCO.out.mono ?_; rintro e w5 ⟨v5, rfl, ho5, hb5⟩; obtain ⟨v5a, v5c, rfl⟩ := row_slice ho5)
                | (go_at_call 7; refine (HWK.out _ (HBD.out.trans (hb5.mono HBD.out.size)) _ _ (Rd.of_row ho5)).mono ?_; rintro e w6 ⟨rfl, hb6⟩)))
          | fail
          have hx1 := HBD.out.trans (hb5.mono HBD.out.size)
          have hx2 := hx1.trans (hb6.mono hx1.size)
          have HB6 := Lib.hid (HB.out.trans (hx2.mono HB.out.size))
          clear hb5 hb6 ho5 hx1 hx2 HCO HWK HBD
          go_wp2
          go_roundw
          case rel => exact ⟨k + 1, by omega, by go_num, HB6⟩
          case measure => simp [intOf]; omega
        · obtain rfl : k = ll := by omega
          go_wp2
          go_ret
          exact ⟨rfl, HBW.out⟩
theorem cycOrRow_any (a : Option Addr) (n c : Nat) (A : List Nat) (w : World) (hn : n ≤ c) (hv : Rd w (.slice a (min (n : Int) 8).toNat c) (u32s A)) (hA : ∀ x ∈ A, x < 4294967296) :
    Calls Try.prog 4 #[.slice a n c] w fun e w' => e = .returned (.bool true) ∧ Below w.heap.size w w' := by
  obtain ⟨m, hm⟩ : ∃ m : Nat, min (n : Int) 8 = (m : Int) := ⟨(min (n : Int) 8).toNat, by omega⟩
  rw [hm, Int.toNat_natCast] at hv
  obtain rfl : m = A.length := by
    obtain ⟨_, _, he⟩ := hv.len
    simp only [Value.slice.injEq, u32s_len] at he
    exact he.2.1
  exact cycOrRow_walk a n c A w hn hm (by omega) (by omega) hv hA
end Go.Proofs.Ytclhbnfnmpabbaa
