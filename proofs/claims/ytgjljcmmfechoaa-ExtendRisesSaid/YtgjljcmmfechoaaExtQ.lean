/- ExtendAll's walk. -/
import Derived.Test.YtgjljcmmfechoaaExtP
import Derived.Deep.DeepMust
import Derived.BigQuiet
namespace Go.Proofs.Ytgjljcmmfechoaa.RPlain
end Go.Proofs.Ytgjljcmmfechoaa.RPlain
namespace Go.Proofs.Ytgjljcmmfechoaa
open Go.RowKit RPlain

theorem belowDr11 (w : World) : Below w.heap.size w w.drew := (Below.refl _ w).drew
set_option maxRecDepth 100000 in
set_option maxHeartbeats 8000000 in
theorem extAll_walk (a : Option Addr) (n c : Nat) (A : List Nat) (w : World) (hn : n ≤ c) (hm : min (n : Int) 8 = (A.length : Int)) (h8 : A.length ≤ 8) (hle : A.length ≤ n) (hv : Rd w (.slice a A.length c) (u32s A)) (hA : ∀ x ∈ A, x < 4294967296) :
    Calls Try.prog 3 #[.slice a n c] w fun e w' => e = .returned (.bool true) ∧ Below w.heap.size w w' := by
  have HV := Lib.hid hv
  have HA := Lib.hid hA
  have HALL := Lib.hid (fun (W : World) (hb : Below w.heap.size w W) => all_any a c A W (HV.out.below hb (Nat.le_refl _)) HA.out (by omega))
  have HCNT := Lib.hid (fun (W : World) (hb : Below w.heap.size w W) => countX_any a c A W (HV.out.below hb (Nat.le_refl _)) HA.out (by omega))
  have HFST := Lib.hid (fun (W : World) (hb : Below w.heap.size w W) => firstX_any a c A W (HV.out.below hb (Nat.le_refl _)) HA.out (by omega))
  have HMAY := Lib.hid (fun (W : World) (hb : Below w.heap.size w W) => refMayX_any (.slice a A.length c) A W (HV.out.below hb (Nat.le_refl _)) HA.out (by omega))
  have HALV := Lib.hid (fun (W : World) => aliveE_any W)
  clear hv hA
  by_cases h0 : mayE A = 0
  · obtain ⟨hal, _, hf⟩ := mayE_zero.1 h0
    have HREF := Lib.hid (fun (W : World) (hb : Below w.heap.size w W) => refAllX_any (.slice a A.length c) A W (HV.out.below hb (Nat.le_refl _)) HA.out hal)
    have hsome := allS_some hf
    have hlen : (allS A).length ≤ 46656 := (lvl_facts hal (Nat.le_refl A.length)).1
    have HFA : Hid (∀ r ∈ allS A, r.length ≤ 6) := fun r hr => by have := (allS_mem.1 hr).1; omega
    simp only [h0, if_pos] at HALL HCNT HFST HMAY
    clear h0 hf
    generalize allS A = rows at *
    obtain ⟨hdr, hhd⟩ : ∃ r, rows.headD [] = r := ⟨_, rfl⟩
    simp only [hhd] at HFST
    have HHD := Lib.hid hhd
    clear hhd
    go_enter Try.func3, Try.ntmps3
    go_wp2_with fail
    refine (HALL.out w (Below.refl _ _)).mono ?_
    rintro e w1 ⟨v1, vs, rfl, hv1, ⟨X1, hvs⟩, hb1⟩
    have hl1 : vs.length = rows.length := hvs.1
    obtain ⟨b1, o1, c1, rfl, hbl1, hc1⟩ := hv1.opened (by omega)
    have HB1 := Lib.hid hb1
    have HVS := Lib.hid hvs.2
    have HC1 := Lib.hid hc1
    rw [hl1]
    clear hv1 hvs hb1 hbl1 hc1
    go_wp2_with fail
    refine (HCNT.out w1 HB1.out).mono ?_
    rintro e w2 ⟨rfl, hb2⟩
    have HB2 := Lib.hid hb2
    have HBW2 := Lib.hid (HB1.out.trans (hb2.mono HB1.out.size))
    clear hb2
    go_wp2_with fail
    refine (HFST.out w2 HBW2.out).mono ?_
    rintro e w3 ⟨v3, rfl, hv3, hb3⟩
    obtain ⟨v3a, v3c, rfl⟩ := hv3.len
    have HB3 := Lib.hid (HB2.out.trans (hb3.mono HB2.out.size))
    have HBW3 := Lib.hid (HB1.out.trans (HB3.out.mono HB1.out.size))
    have HV3 := Lib.hid hv3
    rw [nats_len]
    rw [nats_len] at HV3
    clear hb3 hv3 HBW2
    go_wp2_with fail
    refine (HMAY.out w3 HBW3.out).mono ?_
    rintro e w4 ⟨rfl, hb4⟩
    have HB4 := Lib.hid (HB3.out.trans (hb4.mono HB3.out.size))
    have HBW4 := Lib.hid (HB1.out.trans (HB4.out.mono HB1.out.size))
    have HV4 := Lib.hid (HV3.out.below hb4 (Nat.le_refl _))
    clear hb4 HV3 HB3 HBW3 HB2
    go_wp2_with fail
    refine (HREF.out w4 HBW4.out).mono ?_
    rintro e w5 ⟨v5, us, rfl, hv5, hus, hb5⟩
    have hl5 : us.length = rows.length := hus.1
    have HB5 := Lib.hid (HB4.out.trans (hb5.mono HB4.out.size))
    have HBW5 := Lib.hid (HB1.out.trans (HB5.out.mono HB1.out.size))
    have HV5 := Lib.hid (HV4.out.below hb5 (Nat.le_refl _))
    obtain ⟨b5, o5, c5, rfl, hbl5, hc5⟩ := hv5.opened (by omega)
    have hhd : hdr = rows[0] := by
      rw [← HHD.out]
      cases rows with
      | nil => simp at hsome
      | cons r t => rfl
    have h50 := hus.2 0 hsome (by omega)
    obtain ⟨u0a, u0c, hu0⟩ := row_slice h50
    rw [hu0] at h50
    have hc50 := hc5 0 _ (List.getElem?_eq_getElem (by omega))
    rw [hu0, Nat.add_zero] at hc50
    have hr6 := HFA.out _ (List.getElem_mem hsome)
    rw [← hhd] at h50 hc50 hr6
    have HIN := Lib.hid (intsN_any _ _ _ w5 HV5.out (Rd.of_row h50) (by omega))
    -- row by row, in whatever world behind
    have HROW : Hid (∀ (W : World), Below w5.heap.size w5 W → ∀ k (hk : k < rows.length), ∃ xa xn xc ya yn yc, W.cell? ⟨b1, o1 + k, none⟩ = some (.slice xa xn xc) ∧ W.cell? ⟨b5, o5 + k, none⟩ = some (.slice ya yn yc) ∧
        ∀ W', Below W.heap.size W W' → Calls Try.prog 11 #[.slice xa xn xc, .slice ya yn yc] W' fun e w' => e = .returned (.bool true) ∧ Below W'.heap.size W' w') := by
      intro W hW k hk
      have e1 := HVS.out k hk (by omega)
      obtain ⟨xa, xc, hx⟩ := e1.rd.len
      have e2 := hus.2 k hk (by omega)
      obtain ⟨ya, yc, hy⟩ := row_slice e2
      have e3 := HC1.out k _ (List.getElem?_eq_getElem (by omega))
      have e4 := hc5 k _ (List.getElem?_eq_getElem (by omega))
      have e1' := e1.rd
      rw [hx] at e3 e1'
      rw [hy] at e4 e2
      have hb1W : Below w1.heap.size w1 W := HB5.out.trans (hW.mono HB5.out.size)
      refine ⟨xa, _, xc, ya, _, yc, cell_on hb1W e3, cell_on hW e4, fun W' hW' => ?_⟩
      refine intsN_any _ _ rows[k] W' (e1'.below (hb1W.trans (hW'.mono hb1W.size)) (Nat.le_refl _)) ((Rd.of_row e2).below (hW.trans (hW'.mono hW.size)) (Nat.le_refl _)) ?_
      have := HFA.out _ (List.getElem_mem hk)
      omega
    rw [hl5]
    clear hc5 h50 hus hhd hbl5 hv5 HV4 HV5 HB4 HBW4 hu0 hb5
    generalize hdr.length = hdl at *
    go_wp2_with (first
      | (go_at_call 11; refine HIN.out.mono ?_; rintro e w6 ⟨rfl, hb6⟩; have HB6 := Lib.hid hb6; clear hb6)
      | (go_at_call 9; refine (HALV.out _).mono ?_; rintro e w7 ⟨rfl, hb7⟩; have HB7 := Lib.hid (HB6.out.trans (hb7.mono HB6.out.size)); clear hb7))
    go_loopw [105] (fun x wr => ∃ k : Nat, k ≤ rows.length ∧ x = .int .i64 k ∧ Hid (Below w5.heap.size w5 wr)) (fun x _ => rows.length - (intOf x).toNat)
    case atStart => exact ⟨0, by omega, rfl, HB7⟩
    case round =>
      obtain ⟨k, hk, rfl, HB⟩ := hrel
      by_cases hlt : k < rows.length
      · obtain ⟨xa, xn, xc, ya, yn, yc, hx, hy, hin⟩ := HROW.out wr HB.out k hlt
        have HII := Lib.hid hin
        have HSS : Hid (∀ W, Below wr.heap.size wr W → W.cell? ⟨b1, o1 + k, none⟩ = some (.slice xa xn xc) ∧ W.cell? ⟨b5, o5 + k, none⟩ = some (.slice ya yn yc)) := fun W hW => ⟨cell_on hW hx, cell_on hW hy⟩
        clear hin
        go_wp2_with fail
        first
        | go_must (go_region_held (fun W => W.cell? ⟨b1, o1 + k, none⟩ = some (.slice xa xn xc) ∧ W.cell? ⟨b5, o5 + k, none⟩ = some (.slice ya yn yc))
            (first | exact HSS.out _ (belowDr11 _) | exact HSS.out _ ((belowDr11 _).trans hb7'))
            (first | (go_at_call 11; refine (HII.out _ (belowDr11 _)).mono ?_; rintro e w7 ⟨rfl, hb7'⟩)))
        | fail
        have HBN := Lib.hid (HB.out.trans (((belowDr11 wr).trans hb7').mono HB.out.size))
        clear hb7'
        go_wp2
        go_roundw
        case rel => exact ⟨k + 1, by omega, by go_num, HBN⟩
        case measure => simp [intOf]; omega
      · obtain rfl : k = rows.length := by omega
        go_wp2
        go_ret
        exact ⟨rfl, HBW5.out.trans (HB.out.mono HBW5.out.size)⟩
  · obtain ⟨er, her⟩ : ∃ er, mayE A = er := ⟨_, rfl⟩
    have te : ((er : Int) != 0) = true := by rw [her] at h0; simp; omega
    have te2 : ((er : Int) == (er : Int)) = true := by simp
    simp only [if_neg h0] at HALL HCNT HFST
    simp only [her] at HALL HCNT HFST HMAY
    clear h0 her
    go_enter Try.func3, Try.ntmps3
    go_wp2_with fail
    refine (HALL.out w (Below.refl _ _)).mono ?_
    rintro e w1 ⟨v1, vs, rfl, hv1, ⟨X1, hvs⟩, hb1⟩
    have hl0 : vs.length = 0 := hvs.1
    have HB1 := Lib.hid hb1
    obtain ⟨va, vc, rfl⟩ := hv1.len
    rw [hl0]
    clear hv1 hvs hb1 hl0
    go_wp2_with fail
    refine (HCNT.out w1 HB1.out).mono ?_
    rintro e w2 ⟨rfl, hb2⟩
    have HB2 := Lib.hid (HB1.out.trans (hb2.mono HB1.out.size))
    clear hb2
    go_wp2_with fail
    refine (HFST.out w2 HB2.out).mono ?_
    rintro e w3 ⟨v3, rfl, hv3, hb3⟩
    obtain ⟨v3a, v3c, rfl⟩ := hv3.len
    have HB3 := Lib.hid (HB2.out.trans (hb3.mono HB2.out.size))
    have hl0 : (nats []).length = 0 := rfl
    rw [hl0]
    clear hb3 hv3 hl0
    go_wp2_with fail
    refine (HMAY.out w3 HB3.out).mono ?_
    rintro e w4 ⟨rfl, hb4⟩
    have HB4 := Lib.hid (HB3.out.trans (hb4.mono HB3.out.size))
    clear hb4
    go_wp2_with (go_at_call 9; refine (HALV.out w4).mono ?_; rintro e w5 ⟨rfl, hb5⟩; have HB5 := Lib.hid (HB4.out.trans (hb5.mono HB4.out.size)); clear hb5)
    go_ret
    exact ⟨rfl, HB5.out⟩
theorem extAll_any (a : Option Addr) (n c : Nat) (A : List Nat) (w : World) (hn : n ≤ c) (hv : Rd w (.slice a (min (n : Int) 8).toNat c) (u32s A)) (hA : ∀ x ∈ A, x < 4294967296) :
    Calls Try.prog 3 #[.slice a n c] w fun e w' => e = .returned (.bool true) ∧ Below w.heap.size w w' := by
  obtain ⟨m, hm⟩ : ∃ m : Nat, min (n : Int) 8 = (m : Int) := ⟨(min (n : Int) 8).toNat, by omega⟩
  rw [hm, Int.toNat_natCast] at hv
  obtain rfl : m = A.length := by
    obtain ⟨_, _, he⟩ := hv.len
    simp only [Value.slice.injEq, u32s_len] at he
    exact he.2.1
  exact extAll_walk a n c A w hn hm (by omega) (by omega) hv hA
end Go.Proofs.Ytgjljcmmfechoaa
