/- The walk of SerialPart. -/
import Derived.Test.YtnnjlefljmbhkaaDoorMg22
import Derived.BigQuiet
import Derived.Deep.Cut
import Derived.Deep.DeepCutAuto
import Derived.Deep.CutRange
namespace Go.Proofs.YtnnjlefljmbhkaaDoor.WPlain
end Go.Proofs.YtnnjlefljmbhkaaDoor.WPlain
namespace Go.Proofs.YtnnjlefljmbhkaaDoor.QPlain
end Go.Proofs.YtnnjlefljmbhkaaDoor.QPlain
namespace Go.Proofs.YtnnjlefljmbhkaaDoor.RPlain
end Go.Proofs.YtnnjlefljmbhkaaDoor.RPlain
namespace Go.Proofs.YtnnjlefljmbhkaaDoor
open Go.RowKit WPlain QPlain RPlain

theorem srchE_of {h : List Ev} (h0 : (checkS h).2 = 0) {B : Int} (h1 : 0 ≤ B) (h2 : B ≤ 1000000) : srchE h B = 0 := by
  unfold srchE
  rw [if_pos h0, if_neg (by omega)]
theorem rowE_of {h : List Ev} (h0 : (checkS h).2 = 0) {who c : Nat} (hw : who < 2 ^ (tableS h).length) (hc : c < 2 ^ (tableS h).length) : rowE h who c 1956 = 0 := by
  unfold rowE
  rw [srchE_of h0 (by decide) (by decide), if_pos rfl, if_pos (Nat.or_lt_two_pow hw hc)]
theorem rowF_of {h : List Ev} (h0 : (checkS h).2 = 0) {who c : Nat} (hw : who < 2 ^ (tableS h).length) (hc : c < 2 ^ (tableS h).length) : rowF h who c 1956 = searchG 1956 (tableS h) (fun _ => who) [c] 0 := by
  unfold rowF
  rw [rowE_of h0 hw hc, if_pos rfl]; rfl
theorem mod_placeS (i : Int) {n : Nat} (hn : 0 < n) (h8 : n ≤ 8) : ∃ I : Nat, (wrap64 (i.tmod (n : Int) + (n : Int))).tmod (n : Int) = (I : Int) ∧ I < n := by
  have hp1 : i.tmod (n : Int) < (n : Int) := Int.tmod_lt_of_pos _ (by omega)
  have hp2 : -(n : Int) < i.tmod (n : Int) := Int.lt_tmod_of_pos _ (by omega)
  generalize i.tmod (n : Int) = p at *
  rw [IntWalk.wrap64_in (p + n) (by omega)]
  obtain ⟨t, ht⟩ : ∃ t : Nat, p + n = (t : Int) := ⟨(p + n).toNat, by omega⟩
  refine ⟨t % n, ?_, Nat.mod_lt t hn⟩
  rw [ht]
  exact (Int.ofNat_tmod t n).symm
set_option maxRecDepth 100000 in
set_option maxHeartbeats 8000000 in
theorem serPart_walk (a : Option Addr) (n m c : Nat) (h : List Ev) (t : Int) (w : World) (hK : HasK w) (hn : n ≤ c) (HAE : Hid ((min (n : Int) 65).toNat = m)) (hv : Evs w (.slice a m c) h) (h1 : h.length = m) (hm1 : m ≤ 65) :
    Calls Tryd.prog 6 #[.slice a n c, .int .i64 t] w fun e w' => e = .returned (.bool true) ∧ Below w.heap.size w w' := by
  have HK := Lib.hid hK
  have HV := Lib.hid hv
  have HS := Lib.hid (searchS_any _ h 125184 w hK hv (by omega))
  have HALV := Lib.hid (fun (W : World) (hW : Below w.heap.size w W) => aliveR_any W (HK.out.later hW (Nat.le_refl _)))
  have HROW := Lib.hid (fun (who cc : Nat) (h1 : who < 4294967296) (h2 : cc < 4294967296) (W : World) (hW : Below w.heap.size w W) => rowS_any _ h who cc 1956 W (HK.out.later hW (Nat.le_refl _)) (HV.out.below hW (Nat.le_refl _)) (by omega) h1 h2)
  clear hK hv
  by_cases h0 : srchE h 125184 = 0
  · obtain ⟨hc0, -, -⟩ := srchE_zero h0
    have h6 := table_six hc0
    have hsf : srchF h 125184 = searchG 125184 (tableS h) (fun _ => 2 ^ (tableS h).length - 1) (chL (tableS h)) 0 := by unfold srchF; rw [h0, if_pos rfl]; rfl
    obtain ⟨x, hx⟩ : ∃ x, srchF h 125184 = x := ⟨_, rfl⟩
    rw [hx] at HS hsf
    rw [h0] at HS
    by_cases hx1 : x.1 = 0
    · obtain ⟨hcm, hcl, hex⟩ := found_facts hsf.symm hx1
      clear hx hsf hcm h0
      obtain ⟨xv, C, R, sx⟩ := x
      simp only at hx1 hcl hex HS
      subst hx1
      have hR6 := expl_len h6 hex
      by_cases hR0 : R = []
      · subst hR0
        clear HROW hex hcl hc0 h6 hR6
        go_enter Tryd.func6, Tryd.ntmps6
        go_upto_region 2 with fail
        rw [HAE.out]
        go_wp2_with fail
        refine HS.out.mono ?_
        rintro e w1 ⟨rv, rfl, hr1, -, hb1⟩
        obtain ⟨rb, rc, rfl⟩ := hr1.len
        have hnl : (nats []).length = 0 := rfl
        rw [hnl]
        obtain ⟨N5, hN5⟩ : ∃ N5, w1.heap.size = N5 := ⟨_, rfl⟩
        obtain ⟨w2, hw2⟩ : ∃ w2, w1.alloc (.cells #[.int .i64 0, .int .u32 (C : Int), .slice rb 0 rc, .int .i64 (sx : Int)] 26) = w2 := ⟨_, rfl⟩
        have ha5 : At w2 N5 #[.int .i64 0, .int .u32 (C : Int), .slice rb 0 rc, .int .i64 (sx : Int)] 26 := by
          rw [← hw2, ← hN5]; exact At.new w1 _ _
        have hb12 : Below w1.heap.size w1 w2 := by rw [← hw2]; exact (Below.refl _ w1).alloc (Nat.le_refl _) _
        have HB2 := Lib.hid (hb1.trans (hb12.mono hb1.size))
        have q0 : w2.cell? ⟨N5, 0, none⟩ = some (.int .i64 0) := ha5.cell rfl
        have q2 : w2.cell? ⟨N5, 2, none⟩ = some (.slice rb 0 rc) := ha5.cell rfl
        clear hr1 hb1 ha5 hb12 HS
        unfold fndV
        go_wp2_with (go_at_call 9; refine (HALV.out _ HB2.out).mono ?_; rintro e w7 ⟨rfl, hb7⟩; have HB7 := Lib.hid (HB2.out.trans (hb7.mono HB2.out.size)); clear hb7)
        go_ret
        exact ⟨rfl, HB7.out⟩
      · have hRp : 0 < R.length := List.length_pos_iff.2 hR0
        have h64 := pow_le_64 h6
        have hre1 := rowE_of hc0 hcl hcl
        have hrf1 := rowF_of hc0 hcl hcl
        have hv1 := row_found hc0 (part_commits hex)
        have HR1 := Lib.hid (HROW.out C C (by omega) (by omega))
        rw [hre1] at HR1
        obtain ⟨y, hy⟩ : ∃ y, rowF h C C 1956 = y := ⟨_, rfl⟩
        rw [← hrf1, hy] at hv1
        simp only [hy] at HR1
        clear hre1 hrf1 hy hR0
        obtain ⟨yv, yc, yr, ys⟩ := y
        simp only at hv1 HR1
        subst hv1
        obtain ⟨T, hT1, hT2⟩ := mod_placeS t hRp (by omega)
        have HTE := Lib.hid hT1
        obtain ⟨hex2, hw2⟩ := part_two h6 hcl hex hT2
        have hc2 : C &&& whoN C R T hT2 < 2 ^ (tableS h).length := Nat.lt_of_le_of_lt Nat.and_le_left hcl
        have hre2 := rowE_of hc0 hw2 hc2
        have hrf2 := rowF_of hc0 hw2 hc2
        have hv2 := row_found hc0 hex2
        have HR2 := Lib.hid (HROW.out (whoN C R T hT2) (C &&& whoN C R T hT2) (by omega) (by omega))
        rw [hre2] at HR2
        obtain ⟨z, hz⟩ : ∃ z, rowF h (whoN C R T hT2) (C &&& whoN C R T hT2) 1956 = z := ⟨_, rfl⟩
        rw [← hrf2, hz] at hv2
        simp only [hz] at HR2
        clear hre2 hrf2 hz hc2 hw2 hex2 HROW hT1
        obtain ⟨zv, zc, zr, zs⟩ := z
        simp only at hv2 HR2
        subst hv2
        have hRlt : ∀ x ∈ R, x < 32 := fun x hx => by have := ((hex.mem x).1 hx).1; omega
        have HRL := Lib.hid hRlt
        have hC64 : C < 64 := by omega
        have HWN : Hid (whoN C R T hT2 = leftW C (R.drop T) ||| 2 ^ R[T]) := rfl
        obtain ⟨W2, hW2⟩ : ∃ W2, whoN C R T hT2 = W2 := ⟨_, rfl⟩
        rw [hW2] at HR2 HWN
        clear hW2 hRlt hex hcl hc0 h6 h64
        go_enter Tryd.func6, Tryd.ntmps6
        go_upto_region 2 with fail
        rw [HAE.out]
        go_wp2_with fail
        refine HS.out.mono ?_
        rintro e w1 ⟨rv, rfl, hr1, hcap, hb1⟩
        have HB1 := Lib.hid hb1
        obtain ⟨rb, ro, rc, rfl, hrl, hcs⟩ := hr1.opened (by rw [nats_len]; exact hRp)
        have HCS : Hid (∀ j (hj : j < R.length), w1.cell? ⟨rb, ro + j, none⟩ = some (.int .i64 (R[j] : Int))) := fun j hj => hcs j _ (nats_get hj)
        rw [nats_len]
        have hcap2 : R.length ≤ rc := hcap _ _ _ (by rw [nats_len])
        clear hcap
        obtain ⟨N5, hN5⟩ : ∃ N5, w1.heap.size = N5 := ⟨_, rfl⟩
        obtain ⟨w2, hw2⟩ : ∃ w2, w1.alloc (.cells #[.int .i64 0, .int .u32 (C : Int), .slice (some ⟨rb, ro, none⟩) R.length rc, .int .i64 (sx : Int)] 26) = w2 := ⟨_, rfl⟩
        have ha5 : At w2 N5 #[.int .i64 0, .int .u32 (C : Int), .slice (some ⟨rb, ro, none⟩) R.length rc, .int .i64 (sx : Int)] 26 := by
          rw [← hw2, ← hN5]; exact At.new w1 _ _
        have hb12 : Below w1.heap.size w1 w2 := by rw [← hw2]; exact (Below.refl _ w1).alloc (Nat.le_refl _) _
        have HA5 := Lib.hid ha5
        have HB2 := Lib.hid (hb1.trans (hb12.mono hb1.size))
        have HCS2 : Hid (∀ j (hj : j < R.length), w2.cell? ⟨rb, ro + j, none⟩ = some (.int .i64 (R[j] : Int))) := fun j hj => cell_on hb12 (HCS.out j hj)
        have q0 : w2.cell? ⟨N5, 0, none⟩ = some (.int .i64 0) := ha5.cell rfl
        have q1 : w2.cell? ⟨N5, 1, none⟩ = some (.int .u32 (C : Int)) := ha5.cell rfl
        have q2 : w2.cell? ⟨N5, 2, none⟩ = some (.slice (some ⟨rb, ro, none⟩) R.length rc) := ha5.cell rfl
        have hRz : ((R.length : Int) == 0) = false := by rw [beq_eq_false_iff_ne]; omega
        clear hr1 hb1 hcs hrl ha5 hb12 HS HCS
        unfold fndV
        go_wp2_with fail
        go_quiet (fail)
        have HB3 := Lib.hid (below_drN HB2.out nq)
        have HA6 : Hid (At (w2.drewN nq) N5 #[.int .i64 0, .int .u32 (C : Int), .slice (some ⟨rb, ro, none⟩) R.length rc, .int .i64 (sx : Int)] 26) := HA5.out
        have HCS3 : Hid (∀ j (hj : j < R.length), (w2.drewN nq).cell? ⟨rb, ro + j, none⟩ = some (.int .i64 (R[j] : Int))) := fun j hj => HCS2.out j hj
        clear q0 q1 q2 HA5 HB2 HCS2 hw2 hN5
        generalize w2.drewN nq = w3 at *
        rw [HTE.out]
        have q1 : w3.cell? ⟨N5, 1, none⟩ = some (.int .u32 (C : Int)) := HA6.out.cell rfl
        have q2 : w3.cell? ⟨N5, 2, none⟩ = some (.slice (some ⟨rb, ro, none⟩) R.length rc) := HA6.out.cell rfl
        have hTr : (T : Int) ≤ (R.length : Int) := by omega
        clear HTE
        go_wp2_with fail
        obtain ⟨K, hKe⟩ : ∃ K, R.length - T = K := ⟨_, rfl⟩
        rw [hKe]
        have hTK : T + K = R.length := by omega
        have HTK := Lib.hid hTK
        have hK6 : K ≤ 6 := by omega
        clear hKe hTK hcap2 hTr
        go_loopw [7, 58] (fun y x wr => ∃ j : Nat, j ≤ K ∧ x = .int .i64 j ∧ y = .int .u32 ((leftW C ((R.drop T).take j) : Nat) : Int) ∧ wr = w3) (fun _ x _ => K - (intOf x).toNat)
        case atStart => exact ⟨0, by omega, rfl, rfl, rfl⟩
        case round =>
          obtain ⟨j, hj, rfl, rfl, hwr⟩ := hrel
          obtain rfl : w3 = wr := hwr.symm
          by_cases hlt : j < K
          · have hTj : T + j < R.length := by have := HTK.out; omega
            have hcj := HCS3.out (T + j) hTj
            have hrj := HRL.out _ (List.getElem_mem hTj)
            have hdj : (R.drop T).take (j + 1) = (R.drop T).take j ++ [R[T + j]] := by
              rw [List.take_succ_eq_append_getElem (by rw [List.length_drop]; omega), List.getElem_drop]
            have HLS : Hid (leftW C ((R.drop T).take (j + 1)) = lessN (leftW C ((R.drop T).take j)) (2 ^ R[T + j])) := by
              rw [hdj, leftW_snoc]; rfl
            have hcj2 : w3.cell? ⟨rb, ro + T + j, none⟩ = some (.int .i64 (R[T + j] : Int)) := by rw [Nat.add_assoc]; exact hcj
            have hlw := leftW_lt hC64 ((R.drop T).take j)
            clear hdj hcj
            generalize R[T + j] = p at *
            clear hTj
            have hlt3 : 2 ^ p < 4294967296 := Nat.pow_lt_pow_right (a := 2) (m := p) (n := 32) (by decide) hrj
            have hpu := pow_u32 hrj
            have hano := u32_andNot_nat (leftW C ((R.drop T).take j)) (2 ^ p) (by omega) hlt3
            have hln : leftW C ((R.drop T).take j) &&& (4294967295 - 2 ^ p) = leftW C ((R.drop T).take (j + 1)) := HLS.out.symm
            rw [hln] at hano
            obtain ⟨pw, hpw⟩ : ∃ pw, 2 ^ p = pw := ⟨_, rfl⟩
            rw [hpw] at hpu hano hlt3
            clear hpw hln HLS
            generalize leftW C ((R.drop T).take j) = l0 at *
            obtain ⟨l1, hl1⟩ : ∃ l1, leftW C ((R.drop T).take (j + 1)) = l1 := ⟨_, rfl⟩
            have HL1 := Lib.hid hl1
            rw [hl1] at hano
            clear hl1
            have tneg : decide ((p : Int) < 0) = false := by simp
            go_wp2_with fail
            go_roundw
            case rel => exact ⟨j + 1, by omega, by go_num, by rw [HL1.out], trivial⟩
            case measure => simp [intOf]; omega
          · obtain rfl : j = K := by omega
            have hdt : (R.drop T).take j = R.drop T := List.take_of_length_le (by rw [List.length_drop]; have := HTK.out; omega)
            rw [hdt]
            clear hdt
            have hrT := HRL.out _ (List.getElem_mem hT2)
            have hcT := HCS3.out T hT2
            have hlw := leftW_lt hC64 (R.drop T)
            have HR1C := Lib.hid (HR1.out w3 HB3.out)
            have hww := HWN.out
            clear HWN HCS3
            generalize leftW C (R.drop T) = l0 at *
            generalize R[T] = p at *
            have hlt3 : 2 ^ p < 4294967296 := Nat.pow_lt_pow_right (a := 2) (m := p) (n := 32) (by decide) hrT
            have hpm := pow_u32 hrT
            have h2 : (2 : Int) ^ p = ((2 ^ p : Nat) : Int) := (Int.natCast_pow 2 p).symm
            obtain ⟨pw, hpw⟩ : ∃ pw, 2 ^ p = pw := ⟨_, rfl⟩
            rw [hpw] at hpm hlt3 h2 hww
            have hpu : IntKind.u32.wrap ((2 : Int) ^ p) = (pw : Int) := by
              rw [h2]
              exact IntWalk.u32_in _ (by omega)
            have hor := u32_or_nat l0 pw (by omega) hlt3
            have hw2l : W2 < 4294967296 := by rw [hww]; exact Nat.or_lt_two_pow (n := 32) (by omega) hlt3
            rw [← hww] at hor
            have hand := u32_and_nat C W2 (by omega) hw2l
            have tneg : decide ((p : Int) < 0) = false := by simp
            clear hpw h2 hww
            generalize C &&& W2 = cw at *
            go_wp2_with fail
            refine HR1C.out.mono ?_
            rintro e w4 ⟨rv4, rfl, hr4, -, hb4⟩
            obtain ⟨ra4, rc4, rfl⟩ := hr4.len
            obtain ⟨rn4, hrn4⟩ : ∃ z, (nats yr).length = z := ⟨_, rfl⟩
            rw [hrn4]
            obtain ⟨N10, hN10⟩ : ∃ N, w4.heap.size = N := ⟨_, rfl⟩
            obtain ⟨w5, hw5⟩ : ∃ z, w4.alloc (.cells #[.int .i64 0, .int .u32 (yc : Int), .slice ra4 rn4 rc4, .int .i64 (ys : Int)] 26) = z := ⟨_, rfl⟩
            have ha10 : At w5 N10 #[.int .i64 0, .int .u32 (yc : Int), .slice ra4 rn4 rc4, .int .i64 (ys : Int)] 26 := by
              rw [← hw5, ← hN10]; exact At.new w4 _ _
            have hb45 : Below w4.heap.size w4 w5 := by rw [← hw5]; exact (Below.refl _ w4).alloc (Nat.le_refl _) _
            have hb35 := hb4.trans (hb45.mono hb4.size)
            have HB5 := Lib.hid (HB3.out.trans (hb35.mono HB3.out.size))
            have HA7 := Lib.hid (HA6.out.below hb35 HA6.out.lt)
            have HA10 := Lib.hid ha10
            have hcT5 := cell_on hb35 hcT
            have p1 : w5.cell? ⟨N5, 1, none⟩ = some (.int .u32 (C : Int)) := HA7.out.cell rfl
            have p2 : w5.cell? ⟨N5, 2, none⟩ = some (.slice (some ⟨rb, ro, none⟩) R.length rc) := HA7.out.cell rfl
            clear hr4 hrn4 hb4 ha10 hb45 hb35 q1 q2 hcT HA6 HB3 HR1C HR1
            unfold fndV
            go_upto_region 27 with fail
            have HSS : Hid (∀ W, Below w5.heap.size w5 W → W.cell? ⟨N5, 1, none⟩ = some (.int .u32 (C : Int)) ∧ W.cell? ⟨N5, 2, none⟩ = some (.slice (some ⟨rb, ro, none⟩) R.length rc) ∧ W.cell? ⟨rb, ro + T, none⟩ = some (.int .i64 (p : Int))) := fun W hW => ⟨cell_on hW p1, cell_on hW p2, cell_on hW hcT5⟩
            have HR2C : Hid (∀ W, Below w5.heap.size w5 W → Calls Tryd.prog 7 #[.slice a m c, .int .u32 (W2 : Int), .int .u32 (cw : Int), .int .i64 1956] W fun e w' => ∃ ra rn rc, e = .returned (.tuple #[.agg #[.int .i64 0, .int .u32 (zc : Int), .slice ra rn rc, .int .i64 (zs : Int)], .int .i64 0]) ∧ Below W.heap.size W w') := fun W hW => by
              refine (HR2.out W (HB5.out.trans (hW.mono HB5.out.size))).mono ?_
              rintro e w' ⟨rv, rfl, hr, -, hb⟩
              obtain ⟨ra, rc, rfl⟩ := hr.len
              exact ⟨_, _, _, rfl, hb⟩
            clear HR2
            go_cut [12, 13] from 76 to 100 (fun v12 v13 wx => ∃ N, v12 = .pointer (some ⟨N, 0, none⟩) ∧ v13 = .int .i64 0 ∧ Hid (wx.cell? ⟨N, 0, none⟩ = some (.int .i64 0)) ∧ Hid (Below w5.heap.size w5 wx))
            case first =>
              first
              | go_must (go_region_held (fun W => W.cell? ⟨N5, 1, none⟩ = some (.int .u32 (C : Int)) ∧ W.cell? ⟨N5, 2, none⟩ = some (.slice (some ⟨rb, ro, none⟩) R.length rc) ∧ W.cell? ⟨rb, ro + T, none⟩ = some (.int .i64 (p : Int)))
                  (first | exact HSS.out _ (belowDrS _) | exact HSS.out _ ((belowDrS _).alloc (Nat.le_refl _) _) | exact HSS.out _ hbz | exact HSS.out _ (hbz.alloc hbz.size _) | exact HSS.out _ ((((hbz.setCell (Nat.le_refl _) _).setCell (Nat.le_refl _) _).setCell (Nat.le_refl _) _).setCell (Nat.le_refl _) _))
                  (first
                    | (go_at_call 7; refine (HR2C.out _ (belowDrS _)).mono ?_; rintro e w6 ⟨ra6, rn6, rc6, rfl, hb6⟩; have hbz := (belowDrS w5).trans hb6; clear hb6)
                    | (go_at_call 7; refine (HR2C.out _ ((belowDrS _).alloc (Nat.le_refl _) _)).mono ?_; rintro e w6 ⟨ra6, rn6, rc6, rfl, hb6⟩; have hbz := ((belowDrS w5).alloc (Nat.le_refl _) _).trans (hb6.mono (Nat.le_of_lt (by simp)))
                       have az := (At.new w5.drew _ _).below hb6 (by simp); have az0 : w6.cell? ⟨w5.heap.size, 0, none⟩ = some (.int .i64 0) := az.cell rfl; have az1 : w6.cell? ⟨w5.heap.size, 1, none⟩ = some (.int .u32 0) := az.cell rfl; have az2 : w6.cell? ⟨w5.heap.size, 2, none⟩ = some (.slice none 0 0) := az.cell rfl; have az3 : w6.cell? ⟨w5.heap.size, 3, none⟩ = some (.int .i64 0) := az.cell rfl; have af0 : w6.frozen? ⟨w5.heap.size, 0, none⟩ = false := az.free 0; have af1 : w6.frozen? ⟨w5.heap.size, 1, none⟩ = false := az.free 1; have af2 : w6.frozen? ⟨w5.heap.size, 2, none⟩ = false := az.free 2; have af3 : w6.frozen? ⟨w5.heap.size, 3, none⟩ = false := az.free 3; clear hb6)))
              | fail
              · go_wp2_with fail
                go_meet
                have hA12 := At.new w6 #[.int .i64 0, .int .u32 (zc : Int), .slice ra6 rn6 rc6, .int .i64 (zs : Int)] 26
                exact ⟨w6.heap.size, rfl, rfl, hA12.cell rfl, hbz.alloc hbz.size _⟩
              · go_wp2_with fail
                go_meet
                have hA12 := ((((az.set 0 (.int .i64 0)).set 1 (.int .u32 (zc : Int))).set 2 (.slice ra6 rn6 rc6)).set 3 (.int .i64 (zs : Int)))
                exact ⟨w5.heap.size, rfl, rfl, hA12.cell rfl, (((hbz.setCell (Nat.le_refl _) _).setCell (Nat.le_refl _) _).setCell (Nat.le_refl _) _).setCell (Nat.le_refl _) _⟩
            case rest =>
            obtain ⟨N12, rfl, rfl, HC12, HB12⟩ := hcut
            have HBC := Lib.hid (HB5.out.trans (HB12.out.mono HB5.out.size))
            have HC10 : Hid (wc.cell? ⟨N10, 0, none⟩ = some (.int .i64 0)) := cell_on HB12.out (HA10.out.cell rfl)
            clear hcT5 p1 p2 HSS HR2C HB12 HB5 HA10 hor hand hpm hpu
            go_wp2_with (go_at_call 9; refine (HALV.out _ HBC.out).mono ?_; rintro e w7 ⟨rfl, hb7⟩; have k10 := cell_on hb7 HC10.out; have k12 := cell_on hb7 HC12.out; have HB7 := Lib.hid (HBC.out.trans (hb7.mono HBC.out.size)); clear hb7)
            go_ret
            exact ⟨rfl, HB7.out⟩
    · have tx : ((x.1 : Int) != 0) = true := by simp; omega
      clear hx hsf HROW h0 hc0 h6 hx1
      go_enter Tryd.func6, Tryd.ntmps6
      go_upto_region 2 with fail
      rw [HAE.out]
      go_wp2_with fail
      refine HS.out.mono ?_
      rintro e w1 ⟨rv, rfl, hr1, -, hb1⟩
      obtain ⟨rb, rc, rfl⟩ := hr1.len
      obtain ⟨N5, hN5⟩ : ∃ N5, w1.heap.size = N5 := ⟨_, rfl⟩
      obtain ⟨rn, hrn⟩ : ∃ z, (nats x.2.2.1).length = z := ⟨_, rfl⟩
      rw [hrn]
      clear hrn
      obtain ⟨w2, hw2⟩ : ∃ w2, w1.alloc (.cells #[.int .i64 (x.1 : Int), .int .u32 (x.2.1 : Int), .slice rb rn rc, .int .i64 (x.2.2.2 : Int)] 26) = w2 := ⟨_, rfl⟩
      have ha5 : At w2 N5 #[.int .i64 (x.1 : Int), .int .u32 (x.2.1 : Int), .slice rb rn rc, .int .i64 (x.2.2.2 : Int)] 26 := by
        rw [← hw2, ← hN5]; exact At.new w1 _ _
      have hb12 : Below w1.heap.size w1 w2 := by rw [← hw2]; exact (Below.refl _ w1).alloc (Nat.le_refl _) _
      have HB2 := Lib.hid (hb1.trans (hb12.mono hb1.size))
      have q0 : w2.cell? ⟨N5, 0, none⟩ = some (.int .i64 (x.1 : Int)) := ha5.cell rfl
      have q2 : w2.cell? ⟨N5, 2, none⟩ = some (.slice rb rn rc) := ha5.cell rfl
      clear hr1 hb1 ha5 hb12 HS
      unfold fndV
      go_wp2_with (go_at_call 9; refine (HALV.out _ HB2.out).mono ?_; rintro e w7 ⟨rfl, hb7⟩; have HB7 := Lib.hid (HB2.out.trans (hb7.mono HB2.out.size)); clear hb7)
      go_ret
      exact ⟨rfl, HB7.out⟩
  · have hsf : srchF h 125184 = (0, 0, [], 0) := by unfold srchF; rw [if_neg h0]
    rw [hsf] at HS
    obtain ⟨er, her⟩ : ∃ er, srchE h 125184 = er := ⟨_, rfl⟩
    rw [her] at HS h0
    have te : ((er : Int) != 0) = true := by simp; omega
    clear her h0 hsf HROW
    go_enter Tryd.func6, Tryd.ntmps6
    go_upto_region 2 with fail
    rw [HAE.out]
    go_wp2_with fail
    refine HS.out.mono ?_
    rintro e w1 ⟨rv, rfl, hr1, -, hb1⟩
    obtain ⟨rb, rc, rfl⟩ := hr1.len
    have HB1 := Lib.hid hb1
    have hnl : (nats []).length = 0 := rfl
    rw [hnl]
    clear hr1 hb1 HS
    unfold fndV
    go_wp2_with (go_at_call 9; refine (HALV.out _ (HB1.out.alloc HB1.out.size _)).mono ?_; rintro e w7 ⟨rfl, hb7⟩; have HB7 := Lib.hid ((HB1.out.alloc HB1.out.size _).trans (hb7.mono (Nat.le_trans HB1.out.size (by simp)))); clear hb7)
    go_ret
    exact ⟨rfl, HB7.out⟩
theorem serPart_any (a : Option Addr) (n c : Nat) (h : List Ev) (t : Int) (w : World) (hK : HasK w) (hn : n ≤ c) (hv : Evs w (.slice a (min (n : Int) 65).toNat c) h) :
    Calls Tryd.prog 6 #[.slice a n c, .int .i64 t] w fun e w' => e = .returned (.bool true) ∧ Below w.heap.size w w' := by
  obtain ⟨m, hm⟩ : ∃ m, (min (n : Int) 65).toNat = m := ⟨_, rfl⟩
  rw [hm] at hv
  exact serPart_walk a n m c h t w hK hn hm hv hv.length.symm (by omega)
end Go.Proofs.YtnnjlefljmbhkaaDoor
