/- The walk of the reference's Print. (Written by gen_binM.py.) -/
import Derived.Test.YtgebmjbfeakpgaaDoorBinK
import Derived.Test.YtgebmjbfeakpgaaDoorVarR
import Derived.Test.YtgebmjbfeakpgaaDoorTxtT
namespace Go.Proofs.YtgebmjbfeakpgaaDoor
open Go.RowKit WPlain VPlain BPlain

theorem refPutA_any (x : Nat) (hx : x < 18446744073709551616) (w : World) :
    Calls Tryd.prog 30 #[.int .u64 (x : Int)] w fun e w' => ∃ g c, e = .returned (.slice (some ⟨g, 0, none⟩) (nb x).length c) ∧ (Rd w' (.slice (some ⟨g, 0, none⟩) (nb x).length c) (bs (nb x)) ∧ (nb x).length ≤ 10 ∧ Below w.heap.size w w') := by
  refine (refPut_any x hx w).mono ?_
  rintro e w1 ⟨v1, rfl, ho, hb⟩
  have hr := Rd.of_row ho
  have hp := nb_pos x
  rcases ho.2 with ⟨_, h0⟩ | ⟨g, cap, cur, rfl, _⟩
  · omega
  · exact ⟨g, cap, rfl, hr, nb_len10 hx, hb⟩
theorem bodyB_eq (k t v : Nat) (x : Int) : bodyB ⟨k, t, v, x⟩ = k :: nb t ++ (if hasV k = true then nb v else []) ++ (if hasX k = true then nb (zigI x) else []) := by
  unfold bodyB; simp only [Int.toNat_natCast]

set_option maxRecDepth 100000 in
set_option maxHeartbeats 8000000 in
theorem refPrint_any (v : Value) (h : List Ev) (w : World) (hv : Evs w v h) (hr : right h = true) :
    Calls Tryd.prog 16 #[v] w fun e w' => ∃ z, e = .returned z ∧ (w'.ownsRow w.heap.size 5 1 z (printB h).length (bs (printB h)) ∧ Below w.heap.size w w') := by
  obtain ⟨h60, hall, _⟩ := right_all hr
  have HU := Lib.hid (upTo_succ h)
  have HUL := Lib.hid (upTo_len h hall h60)
  have HUA := Lib.hid (upTo_all h)
  have HALL := Lib.hid hall
  have HV := Lib.hid hv
  have hn10 := nb_len10 (n := h.length) (by omega)
  have hU0 := upTo_zero h
  obtain ⟨a, c, rfl⟩ := hv.len
  clear hr hv hall
  go_enter Tryd.func16, Tryd.ntmps16
  go_wp2_with fail
  refine (refPut_any h.length (by omega) _).mono ?_
  rintro e w2 ⟨p, rfl, hown, hb2⟩
  rw [← hU0] at hown
  have HOWN0 := Lib.hid hown
  have HB2 := Lib.hid hb2
  clear hown hb2 hU0
  go_wp2_with fail
  go_loopw [3, 13] (fun y x wr => ∃ k : Nat, k ≤ h.length ∧ x = .int .i64 k ∧ Hid (wr.ownsRow w.heap.size 5 1 y (upTo h k).length (bs (upTo h k))) ∧ Hid (Below w.heap.size w wr)) (fun _ x _ => h.length - (intOf x).toNat)
  case atStart => exact ⟨0, Nat.zero_le _, rfl, HOWN0, HB2⟩
  case round =>
    clear HOWN0 HB2
    obtain ⟨k, hk, rfl, HY, HB⟩ := hrel
    by_cases hlt : k < h.length
    · have hvr := HV.out.below HB.out (Nat.le_refl _)
      have hul := HUL.out k
      have HSU := Lib.hid (HU.out k hlt)
      rcases hvr with ⟨e0, _⟩ | ⟨_, b, o, c', he, hbl, hc⟩
      · rw [e0] at hlt; simp at hlt
      · obtain ⟨rfl, rfl⟩ : a = some ⟨b, o, none⟩ ∧ c = c' := by simpa using he
        obtain ⟨c0, c1, c2, c3⟩ := hc k hlt
        have hok := HALL.out h[k] (List.getElem_mem hlt)
        clear hc he
        generalize h[k] = ev at *
        have hbl2 := bodyB_len hok
        obtain ⟨ek0, ek1, et0, et1, ev0, ev1, ex0, ex1⟩ := evOk_in hok
        clear hok
        obtain ⟨ek, et, evv, x⟩ := ev
        dsimp only at ek0 ek1 et0 et1 ev0 ev1 ex0 ex1 c0 c1 c2 c3
        obtain ⟨kk, rfl⟩ : ∃ n : Nat, ek = n := ⟨ek.toNat, by omega⟩
        obtain ⟨t, rfl⟩ : ∃ n : Nat, et = n := ⟨et.toNat, by omega⟩
        obtain ⟨vv, rfl⟩ : ∃ n : Nat, evv = n := ⟨evv.toNat, by omega⟩
        have hk10 : kk < 10 := by omega
        have hzs := zig_small ex0 ex1
        have hnt := nb_len10 (n := t) (by omega)
        have hnv := nb_len10 (n := vv) (by omega)
        have hnx := nb_len10 (n := zigI x) (by omega)
        have hw8 : Hid (IntKind.u8.wrap (kk : Int) = (kk : Int)) := by simp [Hid, IntKind.wrap, IntKind.bits, IntKind.signed]; omega
        have hwt : Hid (IntKind.u64.wrap (t : Int) = (t : Int)) := by simp [Hid, IntKind.wrap, IntKind.bits, IntKind.signed]; omega
        have hwv : Hid (IntKind.u64.wrap (vv : Int) = (vv : Int)) := by simp [Hid, IntKind.wrap, IntKind.bits, IntKind.signed]; omega
        have HSE := Lib.hid (bodyB_eq kk t vv x)
        have hbs := HB.out.size
        obtain ⟨g4, c4, rfl⟩ := own_src HY.out hul.2
        have hyb : ∀ q, (Value.slice (some ⟨g4, 0, none⟩) (upTo h k).length c4).ownBlock = some q → q < wr.heap.size := fun q hq => (own_base HY.out hq).2
        have HYB := Lib.hid hyb
        have hE1 := (At.new wr #[.int .i64 (kk : Int), .int .i64 (t : Int), .int .i64 (vv : Int), .int .i64 x] 42).alloc (.cells #[.int .u8 (kk : Int)] 5)
        have hb1 := ((Below.refl wr.heap.size wr).alloc (Nat.le_refl _) (.cells #[.int .i64 (kk : Int), .int .i64 (t : Int), .int .i64 (vv : Int), .int .i64 x] 42)).alloc (by simp) (.cells #[.int .u8 (kk : Int)] 5)
        have hL1 : ((wr.alloc (.cells #[.int .i64 (kk : Int), .int .i64 (t : Int), .int .i64 (vv : Int), .int .i64 x] 42)).alloc (.cells #[.int .u8 (kk : Int)] 5)).ownsRow wr.heap.size 5 1 (.slice (some ⟨wr.heap.size + 1, 0, none⟩) 1 1) 1 (bs [kk]) := by
          have h0 := World.ownsRow_lit (e := 5) (base := wr.heap.size) (size := 1) (wr.alloc (.cells #[.int .i64 (kk : Int), .int .i64 (t : Int), .int .i64 (vv : Int), .int .i64 x] 42)) #[.int .u8 (kk : Int)] 1 (by simp) (by unfold maxLen; omega) rfl
          simpa [bs] using h0
        have HE1 := Lib.hid hE1
        have HB1 := Lib.hid hb1
        have HL1 := Lib.hid hL1
        have q1 := hE1.cell (i := 1) (v := .int .i64 (t : Int)) rfl
        have q0 := (At.new wr #[.int .i64 (kk : Int), .int .i64 (t : Int), .int .i64 (vv : Int), .int .i64 x] 42).cell (i := 0) (v := .int .i64 (kk : Int)) rfl
        have e8 := hw8.out
        have et := hwt.out
        clear hE1 hb1 hL1 hyb
        go_wp2_with fail
        clear e8 q0
        generalize (wr.alloc (.cells #[.int .i64 (kk : Int), .int .i64 (t : Int), .int .i64 (vv : Int), .int .i64 x] 42)).alloc (.cells #[.int .u8 (kk : Int)] 5) = w1 at *
        cases hV : hasV kk with
        | true => cases hX : hasX kk with
          | true =>
            have HVV := Lib.hid hV
            have HXX := Lib.hid hX
            clear hV hX
            refine (refPutA_any t (by omega) _).mono ?_
            rintro e w2 ⟨gw2, cw2, rfl, hrdw2, hlenw2, hbw2⟩
            have HRw2 := Lib.hid hrdw2
            have HLw2 := Lib.hid (own_below HL1.out hbw2)
            have hlsw2 := HB1.out.size
            have HBw2 := Lib.hid (HB1.out.trans (hbw2.mono hlsw2))
            have hltw2 : wr.heap.size ≤ w2.heap.size := HBw2.out.size
            have HEw2 := Lib.hid (HE1.out.below hbw2 HE1.out.lt)
            have hsumw2 : 1 + (nb t).length ≤ 65536 := by omega
            clear hrdw2 hbw2 hlsw2
            go_wp2_with (at_builtin; refine wpList_append_by rfl _ _ rfl wr.heap.size _ _ _ rfl HLw2.out _ (nb t) rfl HRw2.out Rd.src_ hsumw2 hltw2 ?_)
            intro vw3 w3 hw3 hgw3
            have HLw3 : Hid (w3.ownsRow wr.heap.size 5 1 vw3 (1 + (nb t).length) (bs ([kk] ++ nb t))) := by unfold Hid; rw [bs_app]; exact hw3
            have HBw3 : Hid (Below wr.heap.size wr w3) := HBw2.out.grown hgw3 hltw2 (fun kb hkb => (own_base HLw2.out hkb).1)
            have hEw3 := HEw2.out.grown hgw3 (fun hh => row_not HLw2.out HEw2.out (by decide) hh.symm)
            have HEw3 := Lib.hid hEw3
            clear hw3 hgw3
            have q0 := hEw3.cell (i := 0) (v := .int .i64 (kk : Int)) rfl
            clear hEw3 q1 et
            go_wp2_with fail
            refine (variable_any kk hk10 _).mono ?_
            rintro e wz ⟨rfl, rfl⟩
            rw [HVV.out]
            clear q0
            have q2 := HEw3.out.cell (i := 2) (v := .int .i64 (vv : Int)) rfl
            have ev := hwv.out
            go_wp2_with fail
            refine (refPutA_any vv (by omega) _).mono ?_
            rintro e w4 ⟨gw4, cw4, rfl, hrdw4, hlenw4, hbw4⟩
            have HRw4 := Lib.hid hrdw4
            have HLw4 := Lib.hid (own_below HLw3.out hbw4)
            have hlsw4 := HBw3.out.size
            have HBw4 := Lib.hid (HBw3.out.trans (hbw4.mono hlsw4))
            have hltw4 : wr.heap.size ≤ w4.heap.size := HBw4.out.size
            have HEw4 := Lib.hid (HEw3.out.below hbw4 HEw3.out.lt)
            have hsumw4 : (1 + (nb t).length) + (nb vv).length ≤ 65536 := by omega
            clear hrdw4 hbw4 hlsw4
            go_wp2_with (at_builtin; refine wpList_append_by rfl _ _ rfl wr.heap.size _ _ _ rfl HLw4.out _ (nb vv) rfl HRw4.out Rd.src_ hsumw4 hltw4 ?_)
            intro vw5 w5 hw5 hgw5
            have HLw5 : Hid (w5.ownsRow wr.heap.size 5 1 vw5 ((1 + (nb t).length) + (nb vv).length) (bs (([kk] ++ nb t) ++ nb vv))) := by unfold Hid; rw [bs_app]; exact hw5
            have HBw5 : Hid (Below wr.heap.size wr w5) := HBw4.out.grown hgw5 hltw4 (fun kb hkb => (own_base HLw4.out hkb).1)
            have hEw5 := HEw4.out.grown hgw5 (fun hh => row_not HLw4.out HEw4.out (by decide) hh.symm)
            have HEw5 := Lib.hid hEw5
            clear hw5 hgw5
            clear q2 ev hEw5
            have q0 := HEw5.out.cell (i := 0) (v := .int .i64 (kk : Int)) rfl
            go_wp2_with fail
            refine (value_any kk hk10 _).mono ?_
            rintro e wz ⟨rfl, rfl⟩
            rw [HXX.out]
            clear q0
            have q3 := HEw5.out.cell (i := 3) (v := .int .i64 x) rfl
            go_wp2_with fail
            refine (refZig_any x (by omega) (by omega) _).mono ?_
            rintro e wz ⟨rfl, rfl⟩
            go_wp2_with fail
            refine (refPutA_any (zigI x) (by omega) _).mono ?_
            rintro e w6 ⟨gw6, cw6, rfl, hrdw6, hlenw6, hbw6⟩
            have HRw6 := Lib.hid hrdw6
            have HLw6 := Lib.hid (own_below HLw5.out hbw6)
            have hlsw6 := HBw5.out.size
            have HBw6 := Lib.hid (HBw5.out.trans (hbw6.mono hlsw6))
            have hltw6 : wr.heap.size ≤ w6.heap.size := HBw6.out.size
            have HEw6 := Lib.hid (HEw5.out.below hbw6 HEw5.out.lt)
            have hsumw6 : ((1 + (nb t).length) + (nb vv).length) + (nb (zigI x)).length ≤ 65536 := by omega
            clear hrdw6 hbw6 hlsw6
            go_wp2_with (at_builtin; refine wpList_append_by rfl _ _ rfl wr.heap.size _ _ _ rfl HLw6.out _ (nb (zigI x)) rfl HRw6.out Rd.src_ hsumw6 hltw6 ?_)
            intro vw7 w7 hw7 hgw7
            have HLw7 : Hid (w7.ownsRow wr.heap.size 5 1 vw7 (((1 + (nb t).length) + (nb vv).length) + (nb (zigI x)).length) (bs ((([kk] ++ nb t) ++ nb vv) ++ nb (zigI x)))) := by unfold Hid; rw [bs_app]; exact hw7
            have HBw7 : Hid (Below wr.heap.size wr w7) := HBw6.out.grown hgw7 hltw6 (fun kb hkb => (own_base HLw6.out hkb).1)
            have hEw7 := HEw6.out.grown hgw7 (fun hh => row_not HLw6.out HEw6.out (by decide) hh.symm)
            have HEw7 := Lib.hid hEw7
            clear hw7 hgw7
            clear q3 hEw7
            have hB : Hid (bodyB ⟨kk, t, vv, x⟩ = ((([kk] ++ nb t) ++ nb vv) ++ nb (zigI x))) := by unfold Hid; rw [HSE.out, HVV.out, HXX.out]; simp
            have hBn : Hid ((bodyB ⟨kk, t, vv, x⟩).length = (((1 + (nb t).length) + (nb vv).length) + (nb (zigI x)).length)) := by unfold Hid; rw [hB.out]; simp <;> omega
            have HLZ : Hid (w7.ownsRow wr.heap.size 5 1 vw7 (bodyB ⟨kk, t, vv, x⟩).length (bs (bodyB ⟨kk, t, vv, x⟩))) := by unfold Hid; rw [hBn.out, hB.out]; exact HLw7.out
            obtain ⟨gz, cz, rfl⟩ := own_src HLZ.out hbl2.2
            have hlz := hBn.out
            have HYc := Lib.hid (own_below HY.out HBw7.out)
            have HBc := Lib.hid (HB.out.trans (HBw7.out.mono hbs))
            have HSW : Hid ((((1 + (nb t).length) + (nb vv).length) + (nb (zigI x)).length) = (bodyB ⟨kk, t, vv, x⟩).length) := hBn.out.symm
            clear HLw7 hB hlz HSE
            generalize hBB : bodyB ⟨kk, t, vv, x⟩ = BB at *
            clear hBB hBn HSW
            go_wp2_with fail
            refine (refPutA_any BB.length (by omega) _).mono ?_
            rintro e wa ⟨ga, ca, rfl, hrda, hlena, hba⟩
            have HRa := Lib.hid hrda
            have HYa := Lib.hid (own_below HYc.out hba)
            have HZa := Lib.hid (own_below HLZ.out hba)
            have hlc := HBc.out.size
            have HBa := Lib.hid (HBc.out.trans (hba.mono hlc))
            have hlta : w.heap.size ≤ wa.heap.size := HBa.out.size
            have hsuma : (upTo h k).length + (nb BB.length).length ≤ 65536 := by omega
            clear hrda hba hlc HYc HLZ HBc
            go_wp2_with (at_builtin; refine wpList_append_by rfl _ _ rfl w.heap.size _ _ _ rfl HYa.out _ (nb BB.length) rfl HRa.out Rd.src_ hsuma hlta ?_)
            intro vb wb hb_ hgb
            have hOb : Only (fun q => (Value.slice (some ⟨g4, 0, none⟩) (upTo h k).length c4).ownBlock = some q) wa wb := (Only.refl _ wa).grown hgb (fun _ _ hq => hq)
            have HZb := Lib.hid (own_only HZa.out hOb (fun q hq hq2 => by have h1 := (own_base HZa.out hq).1; have h2 := HYB.out q hq2; omega))
            have HBb : Hid (Below w.heap.size w wb) := HBa.out.grown hgb hlta (fun kb hkb => (own_base HYa.out hkb).1)
            have HYb := Lib.hid hb_
            have hltb : w.heap.size ≤ wb.heap.size := HBb.out.size
            have hsumb : (upTo h k).length + (nb BB.length).length + BB.length ≤ 65536 := by omega
            have HRb := Lib.hid (Rd.of_row HZb.out)
            clear hb_ hgb hOb HYa HZa HBa
            go_wp2_with (at_builtin; refine wpList_append_by rfl _ _ rfl w.heap.size _ _ _ rfl HYb.out _ BB rfl HRb.out Rd.src_ hsumb hltb ?_)
            intro vc wc hc_ hgc
            have HBc : Hid (Below w.heap.size w wc) := HBb.out.grown hgc hltb (fun kb hkb => (own_base HYb.out hkb).1)
            have HYc : Hid (wc.ownsRow w.heap.size 5 1 vc (upTo h (k + 1)).length (bs (upTo h (k + 1)))) := by unfold Hid; rw [HSU.out, bs_app, bs_app, List.length_append, List.length_append]; first | exact hc_ | (rw [List.append_assoc]; exact hc_)
            clear hc_ hgc HBb HYb HZb
            go_wp2
            go_roundw
            case rel => exact ⟨k + 1, by omega, by go_num, HYc, HBc⟩
            case measure => simp [intOf]; omega
          | false =>
            have HVV := Lib.hid hV
            have HXX := Lib.hid hX
            clear hV hX
            refine (refPutA_any t (by omega) _).mono ?_
            rintro e w2 ⟨gw2, cw2, rfl, hrdw2, hlenw2, hbw2⟩
            have HRw2 := Lib.hid hrdw2
            have HLw2 := Lib.hid (own_below HL1.out hbw2)
            have hlsw2 := HB1.out.size
            have HBw2 := Lib.hid (HB1.out.trans (hbw2.mono hlsw2))
            have hltw2 : wr.heap.size ≤ w2.heap.size := HBw2.out.size
            have HEw2 := Lib.hid (HE1.out.below hbw2 HE1.out.lt)
            have hsumw2 : 1 + (nb t).length ≤ 65536 := by omega
            clear hrdw2 hbw2 hlsw2
            go_wp2_with (at_builtin; refine wpList_append_by rfl _ _ rfl wr.heap.size _ _ _ rfl HLw2.out _ (nb t) rfl HRw2.out Rd.src_ hsumw2 hltw2 ?_)
            intro vw3 w3 hw3 hgw3
            have HLw3 : Hid (w3.ownsRow wr.heap.size 5 1 vw3 (1 + (nb t).length) (bs ([kk] ++ nb t))) := by unfold Hid; rw [bs_app]; exact hw3
            have HBw3 : Hid (Below wr.heap.size wr w3) := HBw2.out.grown hgw3 hltw2 (fun kb hkb => (own_base HLw2.out hkb).1)
            have hEw3 := HEw2.out.grown hgw3 (fun hh => row_not HLw2.out HEw2.out (by decide) hh.symm)
            have HEw3 := Lib.hid hEw3
            clear hw3 hgw3
            have q0 := hEw3.cell (i := 0) (v := .int .i64 (kk : Int)) rfl
            clear hEw3 q1 et
            go_wp2_with fail
            refine (variable_any kk hk10 _).mono ?_
            rintro e wz ⟨rfl, rfl⟩
            rw [HVV.out]
            clear q0
            have q2 := HEw3.out.cell (i := 2) (v := .int .i64 (vv : Int)) rfl
            have ev := hwv.out
            go_wp2_with fail
            refine (refPutA_any vv (by omega) _).mono ?_
            rintro e w4 ⟨gw4, cw4, rfl, hrdw4, hlenw4, hbw4⟩
            have HRw4 := Lib.hid hrdw4
            have HLw4 := Lib.hid (own_below HLw3.out hbw4)
            have hlsw4 := HBw3.out.size
            have HBw4 := Lib.hid (HBw3.out.trans (hbw4.mono hlsw4))
            have hltw4 : wr.heap.size ≤ w4.heap.size := HBw4.out.size
            have HEw4 := Lib.hid (HEw3.out.below hbw4 HEw3.out.lt)
            have hsumw4 : (1 + (nb t).length) + (nb vv).length ≤ 65536 := by omega
            clear hrdw4 hbw4 hlsw4
            go_wp2_with (at_builtin; refine wpList_append_by rfl _ _ rfl wr.heap.size _ _ _ rfl HLw4.out _ (nb vv) rfl HRw4.out Rd.src_ hsumw4 hltw4 ?_)
            intro vw5 w5 hw5 hgw5
            have HLw5 : Hid (w5.ownsRow wr.heap.size 5 1 vw5 ((1 + (nb t).length) + (nb vv).length) (bs (([kk] ++ nb t) ++ nb vv))) := by unfold Hid; rw [bs_app]; exact hw5
            have HBw5 : Hid (Below wr.heap.size wr w5) := HBw4.out.grown hgw5 hltw4 (fun kb hkb => (own_base HLw4.out hkb).1)
            have hEw5 := HEw4.out.grown hgw5 (fun hh => row_not HLw4.out HEw4.out (by decide) hh.symm)
            have HEw5 := Lib.hid hEw5
            clear hw5 hgw5
            clear q2 ev hEw5
            have q0 := HEw5.out.cell (i := 0) (v := .int .i64 (kk : Int)) rfl
            go_wp2_with fail
            refine (value_any kk hk10 _).mono ?_
            rintro e wz ⟨rfl, rfl⟩
            rw [HXX.out]
            clear q0
            have hB : Hid (bodyB ⟨kk, t, vv, x⟩ = (([kk] ++ nb t) ++ nb vv)) := by unfold Hid; rw [HSE.out, HVV.out, HXX.out]; simp
            have hBn : Hid ((bodyB ⟨kk, t, vv, x⟩).length = ((1 + (nb t).length) + (nb vv).length)) := by unfold Hid; rw [hB.out]; simp <;> omega
            have HLZ : Hid (w5.ownsRow wr.heap.size 5 1 vw5 (bodyB ⟨kk, t, vv, x⟩).length (bs (bodyB ⟨kk, t, vv, x⟩))) := by unfold Hid; rw [hBn.out, hB.out]; exact HLw5.out
            obtain ⟨gz, cz, rfl⟩ := own_src HLZ.out hbl2.2
            have hlz := hBn.out
            have HYc := Lib.hid (own_below HY.out HBw5.out)
            have HBc := Lib.hid (HB.out.trans (HBw5.out.mono hbs))
            have HSW : Hid (((1 + (nb t).length) + (nb vv).length) = (bodyB ⟨kk, t, vv, x⟩).length) := hBn.out.symm
            clear HLw5 hB hlz HSE
            generalize hBB : bodyB ⟨kk, t, vv, x⟩ = BB at *
            clear hBB hBn HSW
            go_wp2_with fail
            refine (refPutA_any BB.length (by omega) _).mono ?_
            rintro e wa ⟨ga, ca, rfl, hrda, hlena, hba⟩
            have HRa := Lib.hid hrda
            have HYa := Lib.hid (own_below HYc.out hba)
            have HZa := Lib.hid (own_below HLZ.out hba)
            have hlc := HBc.out.size
            have HBa := Lib.hid (HBc.out.trans (hba.mono hlc))
            have hlta : w.heap.size ≤ wa.heap.size := HBa.out.size
            have hsuma : (upTo h k).length + (nb BB.length).length ≤ 65536 := by omega
            clear hrda hba hlc HYc HLZ HBc
            go_wp2_with (at_builtin; refine wpList_append_by rfl _ _ rfl w.heap.size _ _ _ rfl HYa.out _ (nb BB.length) rfl HRa.out Rd.src_ hsuma hlta ?_)
            intro vb wb hb_ hgb
            have hOb : Only (fun q => (Value.slice (some ⟨g4, 0, none⟩) (upTo h k).length c4).ownBlock = some q) wa wb := (Only.refl _ wa).grown hgb (fun _ _ hq => hq)
            have HZb := Lib.hid (own_only HZa.out hOb (fun q hq hq2 => by have h1 := (own_base HZa.out hq).1; have h2 := HYB.out q hq2; omega))
            have HBb : Hid (Below w.heap.size w wb) := HBa.out.grown hgb hlta (fun kb hkb => (own_base HYa.out hkb).1)
            have HYb := Lib.hid hb_
            have hltb : w.heap.size ≤ wb.heap.size := HBb.out.size
            have hsumb : (upTo h k).length + (nb BB.length).length + BB.length ≤ 65536 := by omega
            have HRb := Lib.hid (Rd.of_row HZb.out)
            clear hb_ hgb hOb HYa HZa HBa
            go_wp2_with (at_builtin; refine wpList_append_by rfl _ _ rfl w.heap.size _ _ _ rfl HYb.out _ BB rfl HRb.out Rd.src_ hsumb hltb ?_)
            intro vc wc hc_ hgc
            have HBc : Hid (Below w.heap.size w wc) := HBb.out.grown hgc hltb (fun kb hkb => (own_base HYb.out hkb).1)
            have HYc : Hid (wc.ownsRow w.heap.size 5 1 vc (upTo h (k + 1)).length (bs (upTo h (k + 1)))) := by unfold Hid; rw [HSU.out, bs_app, bs_app, List.length_append, List.length_append]; first | exact hc_ | (rw [List.append_assoc]; exact hc_)
            clear hc_ hgc HBb HYb HZb
            go_wp2
            go_roundw
            case rel => exact ⟨k + 1, by omega, by go_num, HYc, HBc⟩
            case measure => simp [intOf]; omega
        | false => cases hX : hasX kk with
          | true =>
            have HVV := Lib.hid hV
            have HXX := Lib.hid hX
            clear hV hX
            refine (refPutA_any t (by omega) _).mono ?_
            rintro e w2 ⟨gw2, cw2, rfl, hrdw2, hlenw2, hbw2⟩
            have HRw2 := Lib.hid hrdw2
            have HLw2 := Lib.hid (own_below HL1.out hbw2)
            have hlsw2 := HB1.out.size
            have HBw2 := Lib.hid (HB1.out.trans (hbw2.mono hlsw2))
            have hltw2 : wr.heap.size ≤ w2.heap.size := HBw2.out.size
            have HEw2 := Lib.hid (HE1.out.below hbw2 HE1.out.lt)
            have hsumw2 : 1 + (nb t).length ≤ 65536 := by omega
            clear hrdw2 hbw2 hlsw2
            go_wp2_with (at_builtin; refine wpList_append_by rfl _ _ rfl wr.heap.size _ _ _ rfl HLw2.out _ (nb t) rfl HRw2.out Rd.src_ hsumw2 hltw2 ?_)
            intro vw3 w3 hw3 hgw3
            have HLw3 : Hid (w3.ownsRow wr.heap.size 5 1 vw3 (1 + (nb t).length) (bs ([kk] ++ nb t))) := by unfold Hid; rw [bs_app]; exact hw3
            have HBw3 : Hid (Below wr.heap.size wr w3) := HBw2.out.grown hgw3 hltw2 (fun kb hkb => (own_base HLw2.out hkb).1)
            have hEw3 := HEw2.out.grown hgw3 (fun hh => row_not HLw2.out HEw2.out (by decide) hh.symm)
            have HEw3 := Lib.hid hEw3
            clear hw3 hgw3
            have q0 := hEw3.cell (i := 0) (v := .int .i64 (kk : Int)) rfl
            clear hEw3 q1 et
            go_wp2_with fail
            refine (variable_any kk hk10 _).mono ?_
            rintro e wz ⟨rfl, rfl⟩
            rw [HVV.out]
            clear q0
            have q0 := HEw3.out.cell (i := 0) (v := .int .i64 (kk : Int)) rfl
            go_wp2_with fail
            refine (value_any kk hk10 _).mono ?_
            rintro e wz ⟨rfl, rfl⟩
            rw [HXX.out]
            clear q0
            have q3 := HEw3.out.cell (i := 3) (v := .int .i64 x) rfl
            go_wp2_with fail
            refine (refZig_any x (by omega) (by omega) _).mono ?_
            rintro e wz ⟨rfl, rfl⟩
            go_wp2_with fail
            refine (refPutA_any (zigI x) (by omega) _).mono ?_
            rintro e w6 ⟨gw6, cw6, rfl, hrdw6, hlenw6, hbw6⟩
            have HRw6 := Lib.hid hrdw6
            have HLw6 := Lib.hid (own_below HLw3.out hbw6)
            have hlsw6 := HBw3.out.size
            have HBw6 := Lib.hid (HBw3.out.trans (hbw6.mono hlsw6))
            have hltw6 : wr.heap.size ≤ w6.heap.size := HBw6.out.size
            have HEw6 := Lib.hid (HEw3.out.below hbw6 HEw3.out.lt)
            have hsumw6 : (1 + (nb t).length) + (nb (zigI x)).length ≤ 65536 := by omega
            clear hrdw6 hbw6 hlsw6
            go_wp2_with (at_builtin; refine wpList_append_by rfl _ _ rfl wr.heap.size _ _ _ rfl HLw6.out _ (nb (zigI x)) rfl HRw6.out Rd.src_ hsumw6 hltw6 ?_)
            intro vw7 w7 hw7 hgw7
            have HLw7 : Hid (w7.ownsRow wr.heap.size 5 1 vw7 ((1 + (nb t).length) + (nb (zigI x)).length) (bs (([kk] ++ nb t) ++ nb (zigI x)))) := by unfold Hid; rw [bs_app]; exact hw7
            have HBw7 : Hid (Below wr.heap.size wr w7) := HBw6.out.grown hgw7 hltw6 (fun kb hkb => (own_base HLw6.out hkb).1)
            have hEw7 := HEw6.out.grown hgw7 (fun hh => row_not HLw6.out HEw6.out (by decide) hh.symm)
            have HEw7 := Lib.hid hEw7
            clear hw7 hgw7
            clear q3 hEw7
            have hB : Hid (bodyB ⟨kk, t, vv, x⟩ = (([kk] ++ nb t) ++ nb (zigI x))) := by unfold Hid; rw [HSE.out, HVV.out, HXX.out]; simp
            have hBn : Hid ((bodyB ⟨kk, t, vv, x⟩).length = ((1 + (nb t).length) + (nb (zigI x)).length)) := by unfold Hid; rw [hB.out]; simp <;> omega
            have HLZ : Hid (w7.ownsRow wr.heap.size 5 1 vw7 (bodyB ⟨kk, t, vv, x⟩).length (bs (bodyB ⟨kk, t, vv, x⟩))) := by unfold Hid; rw [hBn.out, hB.out]; exact HLw7.out
            obtain ⟨gz, cz, rfl⟩ := own_src HLZ.out hbl2.2
            have hlz := hBn.out
            have HYc := Lib.hid (own_below HY.out HBw7.out)
            have HBc := Lib.hid (HB.out.trans (HBw7.out.mono hbs))
            have HSW : Hid (((1 + (nb t).length) + (nb (zigI x)).length) = (bodyB ⟨kk, t, vv, x⟩).length) := hBn.out.symm
            clear HLw7 hB hlz HSE
            generalize hBB : bodyB ⟨kk, t, vv, x⟩ = BB at *
            clear hBB hBn HSW
            go_wp2_with fail
            refine (refPutA_any BB.length (by omega) _).mono ?_
            rintro e wa ⟨ga, ca, rfl, hrda, hlena, hba⟩
            have HRa := Lib.hid hrda
            have HYa := Lib.hid (own_below HYc.out hba)
            have HZa := Lib.hid (own_below HLZ.out hba)
            have hlc := HBc.out.size
            have HBa := Lib.hid (HBc.out.trans (hba.mono hlc))
            have hlta : w.heap.size ≤ wa.heap.size := HBa.out.size
            have hsuma : (upTo h k).length + (nb BB.length).length ≤ 65536 := by omega
            clear hrda hba hlc HYc HLZ HBc
            go_wp2_with (at_builtin; refine wpList_append_by rfl _ _ rfl w.heap.size _ _ _ rfl HYa.out _ (nb BB.length) rfl HRa.out Rd.src_ hsuma hlta ?_)
            intro vb wb hb_ hgb
            have hOb : Only (fun q => (Value.slice (some ⟨g4, 0, none⟩) (upTo h k).length c4).ownBlock = some q) wa wb := (Only.refl _ wa).grown hgb (fun _ _ hq => hq)
            have HZb := Lib.hid (own_only HZa.out hOb (fun q hq hq2 => by have h1 := (own_base HZa.out hq).1; have h2 := HYB.out q hq2; omega))
            have HBb : Hid (Below w.heap.size w wb) := HBa.out.grown hgb hlta (fun kb hkb => (own_base HYa.out hkb).1)
            have HYb := Lib.hid hb_
            have hltb : w.heap.size ≤ wb.heap.size := HBb.out.size
            have hsumb : (upTo h k).length + (nb BB.length).length + BB.length ≤ 65536 := by omega
            have HRb := Lib.hid (Rd.of_row HZb.out)
            clear hb_ hgb hOb HYa HZa HBa
            go_wp2_with (at_builtin; refine wpList_append_by rfl _ _ rfl w.heap.size _ _ _ rfl HYb.out _ BB rfl HRb.out Rd.src_ hsumb hltb ?_)
            intro vc wc hc_ hgc
            have HBc : Hid (Below w.heap.size w wc) := HBb.out.grown hgc hltb (fun kb hkb => (own_base HYb.out hkb).1)
            have HYc : Hid (wc.ownsRow w.heap.size 5 1 vc (upTo h (k + 1)).length (bs (upTo h (k + 1)))) := by unfold Hid; rw [HSU.out, bs_app, bs_app, List.length_append, List.length_append]; first | exact hc_ | (rw [List.append_assoc]; exact hc_)
            clear hc_ hgc HBb HYb HZb
            go_wp2
            go_roundw
            case rel => exact ⟨k + 1, by omega, by go_num, HYc, HBc⟩
            case measure => simp [intOf]; omega
          | false =>
            have HVV := Lib.hid hV
            have HXX := Lib.hid hX
            clear hV hX
            refine (refPutA_any t (by omega) _).mono ?_
            rintro e w2 ⟨gw2, cw2, rfl, hrdw2, hlenw2, hbw2⟩
            have HRw2 := Lib.hid hrdw2
            have HLw2 := Lib.hid (own_below HL1.out hbw2)
            have hlsw2 := HB1.out.size
            have HBw2 := Lib.hid (HB1.out.trans (hbw2.mono hlsw2))
            have hltw2 : wr.heap.size ≤ w2.heap.size := HBw2.out.size
            have HEw2 := Lib.hid (HE1.out.below hbw2 HE1.out.lt)
            have hsumw2 : 1 + (nb t).length ≤ 65536 := by omega
            clear hrdw2 hbw2 hlsw2
            go_wp2_with (at_builtin; refine wpList_append_by rfl _ _ rfl wr.heap.size _ _ _ rfl HLw2.out _ (nb t) rfl HRw2.out Rd.src_ hsumw2 hltw2 ?_)
            intro vw3 w3 hw3 hgw3
            have HLw3 : Hid (w3.ownsRow wr.heap.size 5 1 vw3 (1 + (nb t).length) (bs ([kk] ++ nb t))) := by unfold Hid; rw [bs_app]; exact hw3
            have HBw3 : Hid (Below wr.heap.size wr w3) := HBw2.out.grown hgw3 hltw2 (fun kb hkb => (own_base HLw2.out hkb).1)
            have hEw3 := HEw2.out.grown hgw3 (fun hh => row_not HLw2.out HEw2.out (by decide) hh.symm)
            have HEw3 := Lib.hid hEw3
            clear hw3 hgw3
            have q0 := hEw3.cell (i := 0) (v := .int .i64 (kk : Int)) rfl
            clear hEw3 q1 et
            go_wp2_with fail
            refine (variable_any kk hk10 _).mono ?_
            rintro e wz ⟨rfl, rfl⟩
            rw [HVV.out]
            clear q0
            have q0 := HEw3.out.cell (i := 0) (v := .int .i64 (kk : Int)) rfl
            go_wp2_with fail
            refine (value_any kk hk10 _).mono ?_
            rintro e wz ⟨rfl, rfl⟩
            rw [HXX.out]
            clear q0
            have hB : Hid (bodyB ⟨kk, t, vv, x⟩ = ([kk] ++ nb t)) := by unfold Hid; rw [HSE.out, HVV.out, HXX.out]; simp
            have hBn : Hid ((bodyB ⟨kk, t, vv, x⟩).length = (1 + (nb t).length)) := by unfold Hid; rw [hB.out]; simp <;> omega
            have HLZ : Hid (w3.ownsRow wr.heap.size 5 1 vw3 (bodyB ⟨kk, t, vv, x⟩).length (bs (bodyB ⟨kk, t, vv, x⟩))) := by unfold Hid; rw [hBn.out, hB.out]; exact HLw3.out
            obtain ⟨gz, cz, rfl⟩ := own_src HLZ.out hbl2.2
            have hlz := hBn.out
            have HYc := Lib.hid (own_below HY.out HBw3.out)
            have HBc := Lib.hid (HB.out.trans (HBw3.out.mono hbs))
            have HSW : Hid ((1 + (nb t).length) = (bodyB ⟨kk, t, vv, x⟩).length) := hBn.out.symm
            clear HLw3 hB hlz HSE
            generalize hBB : bodyB ⟨kk, t, vv, x⟩ = BB at *
            clear hBB hBn HSW
            go_wp2_with fail
            refine (refPutA_any BB.length (by omega) _).mono ?_
            rintro e wa ⟨ga, ca, rfl, hrda, hlena, hba⟩
            have HRa := Lib.hid hrda
            have HYa := Lib.hid (own_below HYc.out hba)
            have HZa := Lib.hid (own_below HLZ.out hba)
            have hlc := HBc.out.size
            have HBa := Lib.hid (HBc.out.trans (hba.mono hlc))
            have hlta : w.heap.size ≤ wa.heap.size := HBa.out.size
            have hsuma : (upTo h k).length + (nb BB.length).length ≤ 65536 := by omega
            clear hrda hba hlc HYc HLZ HBc
            go_wp2_with (at_builtin; refine wpList_append_by rfl _ _ rfl w.heap.size _ _ _ rfl HYa.out _ (nb BB.length) rfl HRa.out Rd.src_ hsuma hlta ?_)
            intro vb wb hb_ hgb
            have hOb : Only (fun q => (Value.slice (some ⟨g4, 0, none⟩) (upTo h k).length c4).ownBlock = some q) wa wb := (Only.refl _ wa).grown hgb (fun _ _ hq => hq)
            have HZb := Lib.hid (own_only HZa.out hOb (fun q hq hq2 => by have h1 := (own_base HZa.out hq).1; have h2 := HYB.out q hq2; omega))
            have HBb : Hid (Below w.heap.size w wb) := HBa.out.grown hgb hlta (fun kb hkb => (own_base HYa.out hkb).1)
            have HYb := Lib.hid hb_
            have hltb : w.heap.size ≤ wb.heap.size := HBb.out.size
            have hsumb : (upTo h k).length + (nb BB.length).length + BB.length ≤ 65536 := by omega
            have HRb := Lib.hid (Rd.of_row HZb.out)
            clear hb_ hgb hOb HYa HZa HBa
            go_wp2_with (at_builtin; refine wpList_append_by rfl _ _ rfl w.heap.size _ _ _ rfl HYb.out _ BB rfl HRb.out Rd.src_ hsumb hltb ?_)
            intro vc wc hc_ hgc
            have HBc : Hid (Below w.heap.size w wc) := HBb.out.grown hgc hltb (fun kb hkb => (own_base HYb.out hkb).1)
            have HYc : Hid (wc.ownsRow w.heap.size 5 1 vc (upTo h (k + 1)).length (bs (upTo h (k + 1)))) := by unfold Hid; rw [HSU.out, bs_app, bs_app, List.length_append, List.length_append]; first | exact hc_ | (rw [List.append_assoc]; exact hc_)
            clear hc_ hgc HBb HYb HZb
            go_wp2
            go_roundw
            case rel => exact ⟨k + 1, by omega, by go_num, HYc, HBc⟩
            case measure => simp [intOf]; omega
    · obtain rfl : k = h.length := by omega
      have HY2 := HY.out
      rw [HUA.out] at HY2
      have HYF := Lib.hid HY2
      clear HY HY2
      go_wp2
      go_ret
      exact ⟨_, rfl, HYF.out, HB.out⟩
end Go.Proofs.YtgebmjbfeakpgaaDoor
