/- The walk of StrictWider. -/
import Derived.Test.YtoemcdcabamgiaaDoorMg27
import Derived.Test.YtoemcdcabamgiaaDoorMg26
import Derived.Test.YtoemcdcabamgiaaDoorMg22
import Derived.Test.YtoemcdcabamgiaaDoorMg24
import Derived.Test.YtoemcdcabamgiaaDoorMg25
import Derived.Test.YtoemcdcabamgiaaDoorMg11
import Derived.Test.YtoemcdcabamgiaaDoorMg15
import Derived.Test.YtoemcdcabamgiaaDoorMg2
import Derived.Deep.RegionHeld
import Derived.Deep.DeepMust
import Derived.Deep.Cut
import Derived.Deep.DeepCutAuto
namespace Go.Proofs.YtoemcdcabamgiaaDoor.WPlain
end Go.Proofs.YtoemcdcabamgiaaDoor.WPlain
namespace Go.Proofs.YtoemcdcabamgiaaDoor.QPlain
end Go.Proofs.YtoemcdcabamgiaaDoor.QPlain
namespace Go.Proofs.YtoemcdcabamgiaaDoor.RPlain
end Go.Proofs.YtoemcdcabamgiaaDoor.RPlain
namespace Go.Proofs.YtoemcdcabamgiaaDoor
open Go.RowKit WPlain QPlain RPlain

theorem bit_shift (C k : Nat) (hC : C < 4294967296) : (bits BinOp.and IntKind.u32 ((C : Int) / 2 ^ k) 1 == 1) = C.testBit k := by
  have h1 : ((C : Int) / 2 ^ k) = ((C / 2 ^ k : Nat) : Int) := by rw [Int.natCast_ediv, Int.natCast_pow]; rfl
  have h2 : C / 2 ^ k < 4294967296 := Nat.lt_of_le_of_lt (Nat.div_le_self _ _) hC
  have h3 := u32_and_nat (C / 2 ^ k) 1 h2 (by omega)
  rw [h1, show (1 : Int) = ((1 : Nat) : Int) from rfl, h3, Nat.and_one_is_mod, Nat.testBit_eq_decide_div_mod_eq]
  rw [Bool.eq_iff_iff]
  simp only [beq_iff_eq, decide_eq_true_eq]
  omega
set_option maxRecDepth 100000 in
set_option maxHeartbeats 16000000 in
theorem strWider_walk (a : Option Addr) (n m c : Nat) (h : List Ev) (w : World) (hK : HasK w) (hn : n ≤ c) (hz : a = none → c = 0) (HAE : Hid ((min (n : Int) 65).toNat = m)) (hmn : m ≤ n) (hv : Evs w (.slice a m c) h) (h1 : h.length = m) (hm1 : m ≤ 65) :
    Calls Tryd.prog 4 #[.slice a n c] w fun e w' => e = .returned (.bool true) ∧ Below w.heap.size w w' := by
  have HK := Lib.hid hK
  have HV := Lib.hid hv
  have HS1 := Lib.hid (strict_any (.slice a m c) h 200000 w hK hv (by omega) (by omega) (by omega))
  have HALV := Lib.hid (fun (W : World) (hW : Below w.heap.size w W) => aliveI_any W (hK.later hW (Nat.le_refl _)))
  clear hK hv
  by_cases hc0 : (checkS h).2 = 0
  · have h0 : srchE h 200000 = 0 := by unfold srchE; rw [if_pos hc0, if_neg (by omega)]
    have h6 := table_six hc0
    have HS2 := Lib.hid (fun (W : World) (hW : Below w.heap.size w W) => searchS_any (.slice a m c) h 200000 W (HK.out.later hW (Nat.le_refl _)) (HV.out.below hW (Nat.le_refl _)) (by omega))
    have HTB := Lib.hid (fun (W : World) (hW : Below w.heap.size w W) => table_any (.slice a m c) h W (HK.out.later hW (Nat.le_refl _)) (HV.out.below hW (Nat.le_refl _)) (by omega))
    have HCLN := Lib.hid (fun (W : World) (hW : Below w.heap.size w W) => clone_more (.slice a m c) h W (HV.out.below hW (Nat.le_refl _)) (srcP hz (by omega)) (by omega))
    have hk0 := keep_check (mayN h) hc0
    have hkl : (keepP (mayN h) h).length ≤ 65 := Nat.le_trans (List.length_filter_le _ _) (by omega)
    have h0k : srchE (keepP (mayN h) h) 200000 = 0 := by unfold srchE; rw [if_pos hk0, if_neg (by omega)]
    have HS3 := Lib.hid (fun (v : Value) (W : World) (hW : Below w.heap.size w W) (hv : Evs W v (keepP (mayN h) h)) => strict_any v (keepP (mayN h) h) 200000 W (HK.out.later hW (Nat.le_refl _)) hv (by omega) (by omega) (by omega))
    simp only [strF, srchF, h0, h0k, if_true, show (200000 : Int).toNat = 200000 from rfl] at HS1 HS2 HS3
    simp only [hc0, if_true] at HTB
    have hkn := strict_known hc0 (B := 200000) (by omega)
    have hwd := strict_wide hc0 (B := 200000) (by omega)
    have hls := strict_less hc0 (B := 200000) (by omega)
    obtain ⟨x, hx⟩ : ∃ x, searchG 200000 (tableS h) (fun c => c) (chL (tableS h)) 0 = x := ⟨_, rfl⟩
    obtain ⟨y, hy⟩ : ∃ y, searchG 200000 (tableS h) (fun _ => 2 ^ (tableS h).length - 1) (chL (tableS h)) 0 = y := ⟨_, rfl⟩
    obtain ⟨z, hz2⟩ : ∃ z, searchG 200000 (tableS (keepP (mayN h) h)) (fun c => c) (chL (tableS (keepP (mayN h) h))) 0 = z := ⟨_, rfl⟩
    obtain ⟨g1, g2, g3, g4⟩ := strict_facts hc0 hx
    simp only [hx] at HS1
    simp only [hy] at HS2
    simp only [hz2] at HS3
    rw [hx] at hkn hls hwd
    rw [hy] at hwd
    rw [hz2] at hls
    obtain ⟨xv, C, R, sx⟩ := x
    obtain ⟨zv, zc, zr, zs⟩ := z
    simp only at hkn hwd hls g1 g2 g3 g4 HS1 HS3
    obtain ⟨rfl, hlz⟩ := hls
    have HLEFT := Lib.hid (leftE_may h)
    have HC0 := Lib.hid hc0
    unfold fndV at HS1 HS2 HS3
    have HG3 := Lib.hid g3
    have HWD := Lib.hid hwd
    have HG4 := Lib.hid g4
    have HLZ := Lib.hid hlz
    clear hx hy hz2 h0 h0k hk0 hkl hc0 g3 hwd g4 hlz
    go_enter Tryd.func4, Tryd.ntmps4
    go_upto_region 2 with fail
    rw [HAE.out]
    go_wp2_with fail
    refine HS1.out.mono ?_
    rintro e w1 ⟨rv, rfl, hr1, -, hb1⟩
    have hr1 := hr1.rd
    obtain ⟨rb, rc, rfl⟩ := hr1.len
    obtain ⟨rn, hrn⟩ : ∃ z, (nats R).length = z := ⟨_, rfl⟩
    rw [hrn] at hr1 ⊢
    obtain ⟨N7, hN7⟩ : ∃ z, w1.heap.size = z := ⟨_, rfl⟩
    obtain ⟨w2, hw2⟩ : ∃ z, w1.alloc (.cells #[.int .i64 (xv : Int), .int .u32 (C : Int), .slice rb rn rc, .int .i64 (sx : Int)] 26) = z := ⟨_, rfl⟩
    have ha7 : At w2 N7 #[.int .i64 (xv : Int), .int .u32 (C : Int), .slice rb rn rc, .int .i64 (sx : Int)] 26 := by
      rw [← hw2, ← hN7]; exact At.new w1 _ _
    have hb12 : Below w1.heap.size w1 w2 := by rw [← hw2]; exact (Below.refl _ w1).alloc (Nat.le_refl _) _
    have HB2 := Lib.hid (hb1.trans (hb12.mono hb1.size))
    have HA7 := Lib.hid ha7
    have HR2 := Lib.hid (hr1.below hb12 (Nat.le_refl _))
    have HW2 := Lib.hid hw2
    have HRN := Lib.hid hrn
    clear hr1 hb1 ha7 hb12 HS1 hw2 hrn
    go_upto_region 5 with fail
    rw [HW2.out]
    clear HW2
    go_wp2_with fail
    refine (HS2.out w2 HB2.out).mono ?_
    rintro e w3 ⟨rv3, rfl, hr3, -, hb3⟩
    obtain ⟨gb, gc, rfl⟩ := hr3.len
    obtain ⟨gn, hgn⟩ : ∃ z, (nats y.2.2.1).length = z := ⟨_, rfl⟩
    rw [hgn]
    obtain ⟨N9, hN9⟩ : ∃ z, w3.heap.size = z := ⟨_, rfl⟩
    obtain ⟨w4, hw4⟩ : ∃ z, w3.alloc (.cells #[.int .i64 (y.1 : Int), .int .u32 (y.2.1 : Int), .slice gb gn gc, .int .i64 (y.2.2.2 : Int)] 26) = z := ⟨_, rfl⟩
    have ha9 : At w4 N9 #[.int .i64 (y.1 : Int), .int .u32 (y.2.1 : Int), .slice gb gn gc, .int .i64 (y.2.2.2 : Int)] 26 := by
      rw [← hw4, ← hN9]; exact At.new w3 _ _
    have hb34 : Below w3.heap.size w3 w4 := by rw [← hw4]; exact (Below.refl _ w3).alloc (Nat.le_refl _) _
    have hb24 := hb3.trans (hb34.mono hb3.size)
    have HB4 := Lib.hid (HB2.out.trans (hb24.mono HB2.out.size))
    have HA74 := Lib.hid (HA7.out.below hb24 HA7.out.lt)
    have HR4 := Lib.hid (HR2.out.below hb24 (Nat.le_refl _))
    have HA9 := Lib.hid ha9
    have HW4 := Lib.hid hw4
    clear hr3 hb3 ha9 hb34 hb24 hgn hw4 HA7 HR2 HB2 HS2
    go_upto_region 6 with fail
    rw [HW4.out]
    clear HW4
    go_wp2_with fail
    refine (HTB.out w4 HB4.out).mono ?_
    rintro e w5 ⟨lv, rfl, ht5, hb5⟩
    obtain ⟨la, lc, rfl⟩ := ht5.len
    obtain ⟨NL, hNL⟩ : ∃ z, w5.heap.size = z := ⟨_, rfl⟩
    obtain ⟨ln, hln⟩ : ∃ z, (tableS h).length = z := ⟨_, rfl⟩
    rw [hln] at ht5 ⊢
    obtain ⟨w6, hw6⟩ : ∃ z, w5.alloc (.cells #[.slice la ln lc] 34) = z := ⟨_, rfl⟩
    have hal : At w6 NL #[.slice la ln lc] 34 := by
      rw [← hw6, ← hNL]; exact At.new w5 _ _
    have hb56 : Below w5.heap.size w5 w6 := by rw [← hw6]; exact (Below.refl _ w5).alloc (Nat.le_refl _) _
    have hb46 := hb5.trans (hb56.mono hb5.size)
    have HB6 := Lib.hid (HB4.out.trans (hb46.mono HB4.out.size))
    have HA76 := Lib.hid (HA74.out.below hb46 HA74.out.lt)
    have HA96 := Lib.hid (HA9.out.below hb46 HA9.out.lt)
    have HR6 := Lib.hid (HR4.out.below hb46 (Nat.le_refl _))
    have HT6 := Lib.hid (ht5.below hb56 (Nat.le_refl _))
    have HAL := Lib.hid hal
    have HW6 := Lib.hid hw6
    have HLN := Lib.hid hln
    clear ht5 hb5 hb56 hb46 hal hw6 hln HA74 HA9 HR4 HB4 HTB
    go_upto_region 7 with fail
    rw [HW6.out]
    clear HW6
    go_cut [69] from 45 (fun cc wx => cc = .bool false ∧ Hid (Below w6.heap.size w6 wx))
    case first =>
      have q0 : w6.cell? ⟨N7, 0, none⟩ = some (.int .i64 (xv : Int)) := HA76.out.cell rfl
      have p0 : w6.cell? ⟨N9, 0, none⟩ = some (.int .i64 (y.1 : Int)) := HA96.out.cell rfl
      have t2 : ((xv : Int) == 2) = false := by simp; omega
      by_cases hy0 : y.1 = 0
      · have hx0 := HWD.out hy0
        have t1 : ((xv : Int) != 0) = false := by simp; omega
        have t0 : ((y.1 : Int) == 0) = true := by simp; omega
        clear hx0 hy0
        go_wp2_with (go_at_call 7; refine (HALV.out w6 HB6.out).mono ?_; rintro e w7 ⟨rfl, hb7⟩)
        go_meet
        exact ⟨rfl, hb7⟩
      · have t0 : ((y.1 : Int) == 0) = false := by simp; omega
        clear hy0
        go_wp2_with (go_at_call 7; refine (HALV.out w6 HB6.out).mono ?_; rintro e w7 ⟨rfl, hb7⟩)
        go_meet
        exact ⟨rfl, hb7⟩
    case rest =>
    obtain ⟨rfl, HB67⟩ := hcut
    have q0 : wc.cell? ⟨N7, 0, none⟩ = some (.int .i64 (xv : Int)) := cell_on HB67.out (HA76.out.cell rfl)
    have q1 : wc.cell? ⟨N7, 1, none⟩ = some (.int .u32 (C : Int)) := cell_on HB67.out (HA76.out.cell rfl)
    have q2 : wc.cell? ⟨N7, 2, none⟩ = some (.slice rb rn rc) := cell_on HB67.out (HA76.out.cell rfl)
    have ql : wc.cell? ⟨NL, 0, none⟩ = some (.slice la ln lc) := cell_on HB67.out (HAL.out.cell rfl)
    have HBC := Lib.hid (HB6.out.trans (HB67.out.mono HB6.out.size))
    clear HA96
    have HL5 : Hid ((tableS h).length ≤ 65536) := by show _ ≤ _; omega
    rcases g1 with rfl | rfl | rfl
    · obtain ⟨hCl, hex⟩ := HG3.out rfl
      have h64 := pow_le_64 h6
      have hC32 : C < 4294967296 := by omega
      have hlt : ∀ k ∈ R, k < (tableS h).length := fun k hk => ((hex.mem k).1 hk).1
      obtain ⟨el1, el2⟩ := legR_row HC0.out hlt hex.nodup C
      have hleg : legR h (R.map fun x : Nat => (x : Int)) C = R.length := el2.2 (by unfold okL; exact decide_eq_true hex.legal)
      have hth := row_there hlt
      have hep : errP h (R.map fun x : Nat => (x : Int)) = 0 := by unfold errP; rw [if_pos HC0.out, hth, if_pos rfl]
      have hkp : kepS h (R.map fun x : Nat => (x : Int)) = true := by unfold kepS; rw [if_pos hep]; exact expl_keepsW hex
      have hR6 := HG4.out
      have hrnl : rn = R.length := by rw [← HRN.out, nats_len]
      have HRI : Hid (∀ W, Below w6.heap.size w6 W → Rd W (.slice rb rn rc) (ints (R.map fun x : Nat => (x : Int)))) := fun W hW => by rw [← nats_intsS]; exact HR6.out.below hW (Nat.le_refl _)
      have HKE := Lib.hid (fun (W : World) (hW : Below w6.heap.size w6 W) => keeps_any (.slice a m c) (.slice rb rn rc) h (R.map fun x : Nat => (x : Int)) W (HK.out.later (HB6.out.trans (hW.mono HB6.out.size)) (Nat.le_refl _)) (HV.out.below (HB6.out.trans (hW.mono HB6.out.size)) (Nat.le_refl _)) (by omega) (HRI.out W hW) (by rw [List.length_map]; omega))
      have HLE := Lib.hid (fun (W : World) (hW : Below w6.heap.size w6 W) => legal_any (.slice a m c) (.slice rb rn rc) h (R.map fun x : Nat => (x : Int)) C W (HK.out.later (HB6.out.trans (hW.mono HB6.out.size)) (Nat.le_refl _)) (HV.out.below (HB6.out.trans (hW.mono HB6.out.size)) (Nat.le_refl _)) (by omega) (HRI.out W hW) (by rw [List.length_map]; omega) hC32)
      have HCT := Lib.hid (fun (W : World) (hW : Below w6.heap.size w6 W) (k : Nat) => contains_any (.slice rb rn rc) (R.map fun x : Nat => (x : Int)) (k : Int) W (HRI.out W hW) (by rw [List.length_map]; omega))
      have HBIT : Hid (∀ k, k < ln → (R.map fun x : Nat => (x : Int)).contains (k : Int) = C.testBit k) := fun k hk => by
        rw [Bool.eq_iff_iff, List.contains_iff_mem, List.mem_map]
        constructor
        · rintro ⟨j, hj, he⟩
          obtain rfl : j = k := by omega
          exact ((hex.mem j).1 hj).2
        · intro hb
          exact ⟨k, (hex.mem k).2 ⟨by rw [HLN.out]; exact hk, hb⟩, rfl⟩
      rw [hep, hkp] at HKE
      rw [el1, hleg, ← hrnl] at HLE
      have HBS : Hid (∀ k : Nat, (bits BinOp.and IntKind.u32 ((C : Int) / 2 ^ k) 1 == 1) = C.testBit k) := fun k => bit_shift C k hC32
      have hln6 : ln ≤ 6 := by rw [← HLN.out]; exact h6
      have HRNL := Lib.hid hrnl
      clear hrnl hCl hex hlt el1 el2 hleg hth hep hkp hR6 HG3 HG4 HWD g2 h6 h64
      go_wp2_with fail
      refine (HKE.out wc HB67.out).mono ?_
      rintro e w8 ⟨rfl, hb8⟩
      have HB68 := Lib.hid (HB67.out.trans (hb8.mono HB67.out.size))
      have r1 := cell_on HB68.out (HA76.out.cell (i := 1) rfl)
      have r2 := cell_on HB68.out (HA76.out.cell (i := 2) rfl)
      clear hb8 HKE q0 q1 q2 ql
      go_wp2_with fail
      refine (HLE.out w8 HB68.out).mono ?_
      rintro e w9 ⟨rfl, hb9⟩
      have HB69 := Lib.hid (HB68.out.trans (hb9.mono HB68.out.size))
      have s0 := cell_on HB69.out (HAL.out.cell (i := 0) rfl)
      clear hb9 HLE HB68 r1 r2
      go_wp2_with fail
      go_loopw [91] (fun x wr => ∃ k : Nat, k ≤ ln ∧ x = .int .i64 k ∧ Hid (Below w6.heap.size w6 wr)) (fun x _ => ln - (intOf x).toNat)
      case atStart => exact ⟨0, by omega, rfl, HB69⟩
      case round =>
        clear HB69 HB67 HBC s0
        obtain ⟨k, hk, rfl, HBR⟩ := hrel
        by_cases hlk : k < ln
        · have r1 := cell_on HBR.out (HA76.out.cell (i := 1) rfl)
          have r2 := cell_on HBR.out (HA76.out.cell (i := 2) rfl)
          have HCK := Lib.hid (fun (W : World) (hW : Below w6.heap.size w6 W) => HCT.out W hW k)
          simp only [HBIT.out k hlk] at HCK
          have hkf : k < 6 := by omega
          go_upto_region 15 with fail
          go_cut [104] from 94 to 105 (fun cc wx => cc = .bool false ∧ Hid (Below wr.heap.size wr wx))
          case first =>
           first
           | go_must (go_region_held (fun W => W.cell? ⟨N7, 1, none⟩ = some (.int .u32 (C : Int)) ∧ W.cell? ⟨N7, 2, none⟩ = some (.slice rb rn rc))
              (first | exact ⟨r1, r2⟩ | exact ⟨cell_on (belowDrS _) r1, cell_on (belowDrS _) r2⟩)
              (first
                | (go_at_call 15; refine (HCK.out _ (HBR.out.drew)).mono ?_; rintro e w10 ⟨rfl, rfl⟩)))
           | fail
           go_wp2_with fail
           go_meet
           case rel => exact ⟨by rw [HBS.out k]; simp, belowDrS _⟩
          case rest =>
          obtain ⟨rfl, HBX⟩ := hcut
          have HBR2 := Lib.hid (HBR.out.trans (HBX.out.mono HBR.out.size))
          clear HBX HBR HCK r1 r2
          go_wp2_with fail
          go_roundw
          case rel => exact ⟨k + 1, by omega, by go_num, HBR2⟩
          case measure => simp [intOf]; omega
        · obtain rfl : k = ln := by omega
          have r2 := cell_on HBR.out (HA76.out.cell (i := 2) rfl)
          have tn : ((rn : Int) != (rn : Int)) = false := by simp
          clear HCT HBIT HBS HRI
          go_upto_region 20 with fail
          clear r2 tn
          have HBW := Lib.hid (HB6.out.trans (HBR.out.mono HB6.out.size))
          have HTW := Lib.hid (HT6.out.below HBR.out (Nat.le_refl _))
          have HOC := Lib.hid (open_any NL (.slice la k lc) (tableS h) wr HTW.out HL5.out (cell_on HBR.out (HAL.out.cell (i := 0) rfl)))
          have HCW := Lib.hid (HCLN.out wr HBW.out)
          clear HTW HCLN HT6
          go_wp2_with fail
          refine HCW.out.mono ?_
          rintro e wa ⟨va, rfl, hrow, hba⟩
          have HBA := Lib.hid hba
          have HDL := Lib.hid (deleteP_any wr.heap.size NL va h (fun y => opn (tableS h) y.t) wr wa hba hrow (by omega) (Nat.le_refl _) hba.size HOC.out)
          clear hrow hba HCW HOC
          go_wp2_with fail
          refine HDL.out.mono ?_
          rintro e wb ⟨vb, rfl, hvb, hbb⟩
          rw [HLEFT.out] at hvb
          have HBB := Lib.hid (HBA.out.trans hbb)
          have HBWB := Lib.hid (HBW.out.trans (HBB.out.mono HBW.out.size))
          have HZC := Lib.hid (HS3.out vb wb HBWB.out hvb)
          clear hvb hbb HDL HBA
          go_wp2_with fail
          refine HZC.out.mono ?_
          rintro e wd ⟨rz, rfl, hrz, -, hbd⟩
          obtain ⟨za, zd, rfl⟩ := hrz.rd.len
          obtain ⟨zn, hzn⟩ : ∃ z, (nats zr).length = z := ⟨_, rfl⟩
          rw [hzn]
          have hzr : (zn : Int) = (rn : Int) := by rw [← hzn, ← HRN.out, nats_len, nats_len, HLZ.out]
          have tz : ((zn : Int) == (rn : Int)) = true := by rw [hzr]; simp
          obtain ⟨NZ, hNZ⟩ : ∃ z, wd.heap.size = z := ⟨_, rfl⟩
          obtain ⟨we, hwe⟩ : ∃ z, wd.alloc (.cells #[.int .i64 0, .int .u32 (zc : Int), .slice za zn zd, .int .i64 (zs : Int)] 26) = z := ⟨_, rfl⟩
          have haz : At we NZ #[.int .i64 0, .int .u32 (zc : Int), .slice za zn zd, .int .i64 (zs : Int)] 26 := by
            rw [← hwe, ← hNZ]; exact At.new wd _ _
          have hbde : Below wd.heap.size wd we := by rw [← hwe]; exact (Below.refl _ wd).alloc (Nat.le_refl _) _
          have hbce := hbd.trans (hbde.mono hbd.size)
          have HBE := Lib.hid (HBWB.out.trans (hbce.mono HBWB.out.size))
          have HB6E := Lib.hid (HBR.out.trans ((HBB.out.trans (hbce.mono HBB.out.size)).mono HBR.out.size))
          have z0 : we.cell? ⟨NZ, 0, none⟩ = some (.int .i64 0) := haz.cell rfl
          have z2 : we.cell? ⟨NZ, 2, none⟩ = some (.slice za zn zd) := haz.cell rfl
          have x0 : we.cell? ⟨N7, 0, none⟩ = some (.int .i64 0) := cell_on HB6E.out (HA76.out.cell rfl)
          have x2 : we.cell? ⟨N7, 2, none⟩ = some (.slice rb rn rc) := cell_on HB6E.out (HA76.out.cell rfl)
          have HWE := Lib.hid hwe
          clear hzr hzn hwe haz hbde hbce hbd hrz HZC HBWB HBB
          go_upto_region 22 with fail
          rw [HWE.out]
          go_wp2_with fail
          go_ret
          exact ⟨rfl, HBE.out⟩
    · clear q1 q2 ql HG3 HG4 HWD g2
      have HBR := HB67
      go_upto_region 20 with fail
      clear q0
      have HBW := Lib.hid (HB6.out.trans (HBR.out.mono HB6.out.size))
      have HTW := Lib.hid (HT6.out.below HBR.out (Nat.le_refl _))
      have HOC := Lib.hid (open_any NL (.slice la ln lc) (tableS h) wc HTW.out HL5.out (cell_on HBR.out (HAL.out.cell (i := 0) rfl)))
      have HCW := Lib.hid (HCLN.out wc HBW.out)
      clear HTW HCLN HT6
      go_wp2_with fail
      refine HCW.out.mono ?_
      rintro e wa ⟨va, rfl, hrow, hba⟩
      have HBA := Lib.hid hba
      have HDL := Lib.hid (deleteP_any wc.heap.size NL va h (fun y => opn (tableS h) y.t) wc wa hba hrow (by omega) (Nat.le_refl _) hba.size HOC.out)
      clear hrow hba HCW HOC
      go_wp2_with fail
      refine HDL.out.mono ?_
      rintro e wb ⟨vb, rfl, hvb, hbb⟩
      rw [HLEFT.out] at hvb
      have HBB := Lib.hid (HBA.out.trans hbb)
      have HBWB := Lib.hid (HBW.out.trans (HBB.out.mono HBW.out.size))
      have HZC := Lib.hid (HS3.out vb wb HBWB.out hvb)
      clear hvb hbb HDL HBA
      go_wp2_with fail
      refine HZC.out.mono ?_
      rintro e wd ⟨rz, rfl, hrz, -, hbd⟩
      obtain ⟨za, zd, rfl⟩ := hrz.rd.len
      obtain ⟨zn, hzn⟩ : ∃ z, (nats zr).length = z := ⟨_, rfl⟩
      rw [hzn]
      have hzr : (zn : Int) = (rn : Int) := by rw [← hzn, ← HRN.out, nats_len, nats_len, HLZ.out]
      have tz : ((zn : Int) == (rn : Int)) = true := by rw [hzr]; simp
      obtain ⟨NZ, hNZ⟩ : ∃ z, wd.heap.size = z := ⟨_, rfl⟩
      obtain ⟨we, hwe⟩ : ∃ z, wd.alloc (.cells #[.int .i64 1, .int .u32 (zc : Int), .slice za zn zd, .int .i64 (zs : Int)] 26) = z := ⟨_, rfl⟩
      have haz : At we NZ #[.int .i64 1, .int .u32 (zc : Int), .slice za zn zd, .int .i64 (zs : Int)] 26 := by
        rw [← hwe, ← hNZ]; exact At.new wd _ _
      have hbde : Below wd.heap.size wd we := by rw [← hwe]; exact (Below.refl _ wd).alloc (Nat.le_refl _) _
      have hbce := hbd.trans (hbde.mono hbd.size)
      have HBE := Lib.hid (HBWB.out.trans (hbce.mono HBWB.out.size))
      have HB6E := Lib.hid (HBR.out.trans ((HBB.out.trans (hbce.mono HBB.out.size)).mono HBR.out.size))
      have z0 : we.cell? ⟨NZ, 0, none⟩ = some (.int .i64 1) := haz.cell rfl
      have z2 : we.cell? ⟨NZ, 2, none⟩ = some (.slice za zn zd) := haz.cell rfl
      have x0 : we.cell? ⟨N7, 0, none⟩ = some (.int .i64 1) := cell_on HB6E.out (HA76.out.cell rfl)
      have x2 : we.cell? ⟨N7, 2, none⟩ = some (.slice rb rn rc) := cell_on HB6E.out (HA76.out.cell rfl)
      have HWE := Lib.hid hwe
      clear hzr hzn hwe haz hbde hbce hbd hrz HZC HBWB HBB
      go_upto_region 22 with fail
      rw [HWE.out]
      go_wp2_with fail
      go_ret
      exact ⟨rfl, HBE.out⟩
    · exact absurd rfl hkn
  · have h0 : srchE h 200000 = (checkS h).2 := by unfold srchE; rw [if_neg hc0]
    have hne : ¬ srchE h 200000 = 0 := by rw [h0]; exact hc0
    have hsf : strF h 200000 = (0, 0, [], 0) := by unfold strF; rw [if_neg hne]
    rw [hsf] at HS1
    obtain ⟨er, her⟩ : ∃ er, srchE h 200000 = er := ⟨_, rfl⟩
    rw [her] at HS1 hne
    have te : ((er : Int) != 0) = true := by simp; omega
    unfold fndV at HS1
    clear her h0 hsf hne
    go_enter Tryd.func4, Tryd.ntmps4
    go_upto_region 2 with fail
    rw [HAE.out]
    go_wp2_with fail
    refine HS1.out.mono ?_
    rintro e w1 ⟨rv, rfl, hr1, -, hb1⟩
    obtain ⟨rb, rc, rfl⟩ := hr1.rd.len
    have hnl : (nats []).length = 0 := rfl
    rw [hnl]
    obtain ⟨N7, hN7⟩ : ∃ z, w1.heap.size = z := ⟨_, rfl⟩
    obtain ⟨w2, hw2⟩ : ∃ z, w1.alloc (.cells #[.int .i64 0, .int .u32 0, .slice rb 0 rc, .int .i64 0] 26) = z := ⟨_, rfl⟩
    have ha7 : At w2 N7 #[.int .i64 0, .int .u32 0, .slice rb 0 rc, .int .i64 0] 26 := by
      rw [← hw2, ← hN7]; exact At.new w1 _ _
    have hb12 : Below w1.heap.size w1 w2 := by rw [← hw2]; exact (Below.refl _ w1).alloc (Nat.le_refl _) _
    have HB2 := Lib.hid (hb1.trans (hb12.mono hb1.size))
    have q3 : w2.cell? ⟨N7, 3, none⟩ = some (.int .i64 0) := ha7.cell rfl
    have HW2 := Lib.hid hw2
    clear hr1 hb1 ha7 hb12 HS1 hw2
    go_wp2_with fail
    rw [HW2.out]
    clear HW2
    refine (HALV.out w2 HB2.out).mono ?_
    rintro e w3 ⟨rfl, hb3⟩
    have HB3 := Lib.hid (HB2.out.trans (hb3.mono HB2.out.size))
    have r3 := cell_on hb3 q3
    clear hb3 q3
    go_wp2_with fail
    go_ret
    exact ⟨rfl, HB3.out⟩
theorem strWider_any (a : Option Addr) (n c : Nat) (h : List Ev) (w : World) (hK : HasK w) (hn : n ≤ c) (hz : a = none → c = 0) (hv : Evs w (.slice a (min (n : Int) 65).toNat c) h) :
    Calls Tryd.prog 4 #[.slice a n c] w fun e w' => e = .returned (.bool true) ∧ Below w.heap.size w w' := by
  obtain ⟨m, hm⟩ : ∃ m, (min (n : Int) 65).toNat = m := ⟨_, rfl⟩
  rw [hm] at hv
  exact strWider_walk a n m c h w hK hn hz hm (by omega) hv hv.length.symm (by omega)
end Go.Proofs.YtoemcdcabamgiaaDoor
