/- The walk of LegalOwn. -/
import Derived.Test.YtceipdmplnlogaaDoorLegL
import Derived.Deep.RegionHeldLaw
namespace Go.Proofs.YtceipdmplnlogaaDoor.WPlain
end Go.Proofs.YtceipdmplnlogaaDoor.WPlain
namespace Go.Proofs.YtceipdmplnlogaaDoor.QPlain
end Go.Proofs.YtceipdmplnlogaaDoor.QPlain
namespace Go.Proofs.YtceipdmplnlogaaDoor.RPlain
end Go.Proofs.YtceipdmplnlogaaDoor.RPlain
namespace Go.Proofs.YtceipdmplnlogaaDoor.RPlain
open WPlain QPlain

theorem ownE_eight {ops : List Rwo} {vs : List Int} (h8 : vs.length = 8) : ownE ops vs = if ops.any (fun o => decide (o.v < 0) || decide (7 < o.v)) = true then 7 else 0 := by unfold ownE; rw [if_pos h8]
theorem ownE_not {ops : List Rwo} {vs : List Int} (h8 : ¬ vs.length = 8) : ownE ops vs = 1 := by unfold ownE; rw [if_neg h8]
theorem ownR_bad {ops : List Rwo} {vs : List Int} (h : ¬ ownE ops vs = 0) : ownR ops vs = 0 := by unfold ownR; rw [if_neg h]
end Go.Proofs.YtceipdmplnlogaaDoor.RPlain
namespace Go.Proofs.YtceipdmplnlogaaDoor
open Go.RowKit WPlain QPlain RPlain

set_option maxRecDepth 100000 in
set_option maxHeartbeats 4000000 in
theorem lown_walk (X : Tx) (ua : Option Addr) (n m uc : Nat) (ops : List Rwo) (ra : Option Addr) (rn q rc : Nat) (vs : List Int) (w : World) (hK : HasK w) (hn : n ≤ uc) (hrc : rn ≤ rc) (HAE : Hid (min (n : Int) 60 = (m : Int))) (HRE : Hid (min (rn : Int) 12 = (q : Int)))
    (hmn : m ≤ n) (hqn : q ≤ rn) (hv : Opv w (.slice ua m uc) ops) (hr : Rd w (.slice ra q rc) (ints vs)) (h1 : ops.length = m) (hq1 : vs.length = q) (hm1 : m ≤ 60) (hq2 : q ≤ 12) :
    Calls Tryd.prog 4 #[.agg #[.int .i64 X.n, .int .i64 X.f, .int .i64 X.l, .int .i64 X.s, .slice ua n uc], .slice ra rn rc] w fun e w' => e = .returned (.bool true) ∧ Below w.heap.size w w' := by
  have HK := Lib.hid hK
  have e1 : (max (min (n : Int) 60) 0) = (m : Int) := by have := HAE.out; omega
  have e2 : (max (min (rn : Int) 12) 0) = (q : Int) := by have := HRE.out; omega
  have e3 := HAE.out
  have e4 := HRE.out
  have hb0 := ((Below.refl w.heap.size w).alloc (Nat.le_refl _) (.cells #[.int .i64 X.n, .int .i64 X.f, .int .i64 X.l, .int .i64 X.s, .slice ua m uc] 44))
  have ha0 := At.new w #[.int .i64 X.n, .int .i64 X.f, .int .i64 X.l, .int .i64 X.s, .slice ua m uc] 44
  have ho := (fun (W : World) (hW : Below w.heap.size w W) => own_any ⟨X.n, X.f, X.l, X.s, ops⟩ ua uc (.slice ra q rc) vs W (by rw [h1]; exact hv.below hW (Nat.le_refl _)) (by show ops.length ≤ _; omega) (hr.below hW (Nat.le_refl _)))
  simp only [h1] at ho
  have HO := Lib.hid ho
  have HV := Lib.hid hv
  have HR := Lib.hid hr
  have HOI := Lib.hid (fun (u : Value) (L : List Rwo) (W : World) (hW : Below w.heap.size w W) (hm : Mm W u L) (hLl : L.length = vs.length) => refOwn_any (.slice ua m uc) u ops L W (hv.below hW (Nat.le_refl _)) hm (by omega))
  have HOF := Lib.hid (fun (W : World) (hW : Below w.heap.size w W) => refOf_mem (.slice ra q rc) vs W (hr.below hW (Nat.le_refl _)) (by omega))
  have HTE := Lib.hid (fun (k : Nat) (hk : k < ops.length) => List.take_succ_eq_append_getElem hk)
  have HA1 : Hid (At (w.alloc (.cells #[.int .i64 X.n, .int .i64 X.f, .int .i64 X.l, .int .i64 X.s, .slice ua m uc] 44)).drew w.heap.size #[.int .i64 X.n, .int .i64 X.f, .int .i64 X.l, .int .i64 X.s, .slice ua m uc] 44) := ha0.drew
  have HB1 : Hid (Below w.heap.size w (w.alloc (.cells #[.int .i64 X.n, .int .i64 X.f, .int .i64 X.l, .int .i64 X.s, .slice ua m uc] 44)).drew) := hb0.drew
  clear hK hv hr ho ha0 hb0
  go_enter Tryd.func4, Tryd.ntmps4
  go_wp2_with fail
  go_region
  clear e1 e2 e3 e4
  generalize (w.alloc (.cells #[.int .i64 X.n, .int .i64 X.f, .int .i64 X.l, .int .i64 X.s, .slice ua m uc] 44)).drew = w1 at *
  have d0 := HA1.out.cell (i := 0) (v := .int .i64 X.n) rfl
  have d1 := HA1.out.cell (i := 1) (v := .int .i64 X.f) rfl
  have d2 := HA1.out.cell (i := 2) (v := .int .i64 X.l) rfl
  have d3 := HA1.out.cell (i := 3) (v := .int .i64 X.s) rfl
  have d4 := HA1.out.cell (i := 4) (v := .slice ua m uc) rfl
  by_cases h8 : vs.length = 8
  · have hE := ownE_eight (ops := ops) h8
    have HRG : Hid (ownE ops vs = 0 → ownR ops vs = ownS (arrM vs) ops) := fun h => by unfold ownR; rw [if_pos h]
    have HRB : Hid (¬ ownE ops vs = 0 → ownR ops vs = 0) := ownR_bad
    have HE7 : Hid (∀ k (hk : k < ops.length), noVar ops[k] = true → ownE ops vs = 7) := fun k hk hb => by
      rw [hE, if_pos]
      exact List.any_eq_true.2 ⟨_, List.getElem_mem hk, hb⟩
    have HE0 : Hid ((ops.take ops.length).any noVar = false → ownE ops vs = 0) := fun hb => by
      rw [List.take_length] at hb
      rw [hE, if_neg]
      rw [← noVar_fun, hb]
      decide
    obtain rfl : q = 8 := by omega
    generalize ownE ops vs = er at *
    generalize ownR ops vs = res at *
    clear hE
    go_wp2_with (go_at_call 17; refine (HO.out _ HB1.out).mono ?_; rintro e w2 ⟨rfl, hb2⟩; have HB2 := Lib.hid (HB1.out.trans (hb2.mono HB1.out.size)); have HA2 := Lib.hid (HA1.out.below hb2 HA1.out.lt); have d4 := HA2.out.cell (i := 4) (v := .slice ua m uc) rfl; clear d0 d1 d2 d3 hb2)
    clear HO HB1 HA1
    go_loopw [43] (fun x wr => ∃ k : Nat, k ≤ ops.length ∧ x = .int .i64 k ∧ Hid ((ops.take k).any noVar = false) ∧ Hid (At wr w.heap.size #[.int .i64 X.n, .int .i64 X.f, .int .i64 X.l, .int .i64 X.s, .slice ua m uc] 44) ∧ Hid (Below w.heap.size w wr)) (fun x _ => ops.length - (intOf x).toNat)
    case atStart => exact ⟨0, by omega, rfl, rfl, HA2, HB2⟩
    case round =>
      clear HA2 HB2 d4
      obtain ⟨k, hk, rfl, HN, HA, HB⟩ := hrel
      by_cases hlt : k < ops.length
      · obtain ⟨b, o, rfl, hbl, c0, c1, c2⟩ := Opv.at (HV.out.below HB.out (Nat.le_refl _)) k hlt
        have HTE2 := Lib.hid (HTE.out k hlt)
        have HE72 := Lib.hid (HE7.out k hlt)
        generalize ops[k] = O at *
        obtain ⟨ow, ov, ox⟩ := O
        dsimp only at *
        have HB3 := Lib.hid (HB.out.alloc HB.out.size (.cells #[.bool ow, .int .i64 ov, .int .i64 ox] 47))
        have HA3 := Lib.hid (HA.out.alloc (.cells #[.bool ow, .int .i64 ov, .int .i64 ox] 47))
        have hkm : k < m := by omega
        by_cases hv0 : ov < 0
        · have t0 : decide (ov < 0) = true := decide_eq_true hv0
          have her := HE72.out (by unfold noVar; simp [hv0])
          have hres := HRB.out (by omega)
          subst her hres
          clear HE72 HTE2 HN HE7 HE0 HRG HRB hv0
          go_wp2_with (go_at_call 12; refine (aliveG_any _ (HK.out.later HB3.out (Nat.le_refl _))).mono ?_; rintro e w4 ⟨rfl, hb4⟩; have HB4 := Lib.hid (HB3.out.trans (hb4.mono HB3.out.size)); clear hb4)
          go_ret
          exact ⟨rfl, HB4.out⟩
        · have t0 : decide (ov < 0) = false := decide_eq_false hv0
          by_cases hv7 : 7 < ov
          · have t7 : decide (7 < ov) = true := decide_eq_true hv7
            have her := HE72.out (by unfold noVar; simp [hv7])
            have hres := HRB.out (by omega)
            subst her hres
            clear HE72 HTE2 HN HE7 HE0 HRG HRB hv0 hv7
            go_wp2_with (go_at_call 12; refine (aliveG_any _ (HK.out.later HB3.out (Nat.le_refl _))).mono ?_; rintro e w4 ⟨rfl, hb4⟩; have HB4 := Lib.hid (HB3.out.trans (hb4.mono HB3.out.size)); clear hb4)
            go_ret
            exact ⟨rfl, HB4.out⟩
          · have t7 : decide (7 < ov) = false := decide_eq_false hv7
            have HN2 : Hid ((ops.take (k + 1)).any noVar = false) := by
              unfold Hid
              rw [HTE2.out, List.any_append, HN.out]
              simp [noVar, t0, t7]
            clear HE72 HTE2 HN hv0 hv7
            go_wp2
            go_roundw
            case rel => exact ⟨k + 1, by omega, by go_num, HN2, HA3, HB3⟩
            case measure => simp [intOf]; omega
      · obtain rfl : k = ops.length := by omega
        have her := HE0.out HN.out
        have hres := HRG.out her
        subst her hres
        have d4 := HA.out.cell (i := 4) (v := .slice ua m uc) rfl
        have hNl := HA.out.lt
        have HSC : Hid (∀ W, Below wr.heap.size wr W → W.cell? ⟨w.heap.size, 4, none⟩ = some (.slice ua m uc)) := fun W hW => (HA.out.below hW hNl).cell (i := 4) rfl
        have HWB : Hid (∀ W, Below wr.heap.size wr W → Below w.heap.size w W) := fun W hW => HB.out.trans (hW.mono HB.out.size)
        clear HN HE7 HE0 HRG HRB hNl HA
        go_upto_region 11 with fail
        clear d4
        first
        | go_must (go_region_held_law (fun w' => w'.cell? ⟨w.heap.size, 4, none⟩ = some (.slice ua m uc))
            (first | exact HSC.out _ hb6 | exact HSC.out _ hb5 | exact HSC.out _ hb4 | exact HSC.out _ (below_drP _))
            (first
              | (go_at_call 12; refine (aliveG_any _ (HK.out.later (HWB.out _ (below_drP _)) (Nat.le_refl _))).mono ?_; rintro e w4 ⟨rfl, hb⟩; have hb4 := below_stpP hb)
              | (go_at_call 19; refine (HOF.out _ (HWB.out _ hb4)).mono ?_; rintro e w5 ⟨u5, L5, rfl, hm5, hl5, hn5, hb⟩; have hb5 := hb4.trans (hb.mono hb4.size))
              | (go_at_call 18; refine (HOI.out u5 L5 _ (HWB.out _ hb5) hm5 hn5).mono ?_; rintro e w6 ⟨rfl, hb⟩; rw [hl5]; have hb6 := hb5.trans (hb.mono hb5.size))))
        | fail
        all_goals
          have HB9 := Lib.hid (HWB.out _ hb6)
          clear hb4 hb5 hb6 hm5
          go_wp2
          go_ret
          exact ⟨rfl, HB9.out⟩
  · have hE := ownE_not (ops := ops) h8
    have hR := ownR_bad (ops := ops) (vs := vs) (by rw [hE]; decide)
    rw [hE, hR] at HO
    have t8 : ((q : Int) != 8) = true := by simp; omega
    clear hE hR
    go_wp2_with (go_at_call 17; refine (HO.out _ HB1.out).mono ?_; rintro e w2 ⟨rfl, hb2⟩)
    have HB2 := Lib.hid (HB1.out.trans (hb2.mono HB1.out.size))
    clear d0 d1 d2 d3 d4 hb2 HO HB1 HA1
    go_wp2_with fail
    refine (aliveG_any _ (HK.out.later HB2.out (Nat.le_refl _))).mono ?_
    rintro e w3 ⟨rfl, hb3⟩
    have HB3 := Lib.hid (HB2.out.trans (hb3.mono HB2.out.size))
    clear hb3
    go_wp2
    go_ret
    exact ⟨rfl, HB3.out⟩
theorem lown_any (X : Tx) (ua : Option Addr) (uc : Nat) (ra : Option Addr) (rn rc : Nat) (vs : List Int) (w : World) (hK : HasK w) (hrc : rn ≤ rc) (hX : Opv w (.slice ua X.o.length uc) X.o) (hr : Rd w (.slice ra (min (rn : Int) 12).toNat rc) (ints vs)) :
    Calls Tryd.prog 4 #[.agg #[.int .i64 X.n, .int .i64 X.f, .int .i64 X.l, .int .i64 X.s, .slice ua X.o.length uc], .slice ra rn rc] w fun e w' => e = .returned (.bool true) ∧ Below w.heap.size w w' := by
  obtain ⟨a', c', he, hnc⟩ := hX.len
  simp only [Value.slice.injEq] at he
  obtain ⟨rfl, -, rfl⟩ := he
  obtain ⟨m, hm⟩ : ∃ m : Nat, min (X.o.length : Int) 60 = (m : Int) := ⟨(min (X.o.length : Int) 60).toNat, by omega⟩
  obtain ⟨q, hq⟩ : ∃ q : Nat, min (rn : Int) 12 = (q : Int) := ⟨(min (rn : Int) 12).toNat, by omega⟩
  rw [hq, Int.toNat_natCast] at hr
  have hrl : vs.length = q := by
    obtain ⟨_, _, he⟩ := hr.len
    simp only [Value.slice.injEq, ints_len] at he
    exact he.2.1.symm
  exact lown_walk X ua X.o.length m uc (X.o.take m) ra rn q rc vs w hK hnc hrc hm hq (by omega) (by omega) (hX.cut m (by omega)) hr (by rw [List.length_take]; omega) hrl (by omega) (by omega)
end Go.Proofs.YtceipdmplnlogaaDoor
