/- The walk of StrictChecks. -/
import Derived.Test.YtoemcdcabamgiaaDoorMg26
import Derived.Test.YtoemcdcabamgiaaDoorMg27
import Derived.Test.YtoemcdcabamgiaaDoorMg22
import Derived.Deep.RegionHeld
import Derived.Deep.DeepMust
namespace Go.Proofs.YtoemcdcabamgiaaDoor.WPlain
end Go.Proofs.YtoemcdcabamgiaaDoor.WPlain
namespace Go.Proofs.YtoemcdcabamgiaaDoor.QPlain
end Go.Proofs.YtoemcdcabamgiaaDoor.QPlain
namespace Go.Proofs.YtoemcdcabamgiaaDoor.RPlain
end Go.Proofs.YtoemcdcabamgiaaDoor.RPlain
namespace Go.Proofs.YtoemcdcabamgiaaDoor
open Go.RowKit WPlain QPlain RPlain

set_option maxRecDepth 100000 in
set_option maxHeartbeats 8000000 in
theorem strChecks_walk (a : Option Addr) (n m c : Nat) (h : List Ev) (B : Int) (w : World) (hK : HasK w) (hn : n ≤ c) (HAE : Hid ((min (n : Int) 65).toNat = m)) (hmn : m ≤ n) (hv : Evs w (.slice a m c) h) (h1 : h.length = m) (hm1 : m ≤ 65) (hw1 : -9223372036854775808 ≤ B) (hw2 : B < 9223372036854775808) :
    Calls Tryd.prog 3 #[.slice a n c, .int .i64 B] w fun e w' => e = .returned (.bool true) ∧ Below w.heap.size w w' := by
  have HROW := Lib.hid (strict_any _ h B w hK hv (by omega) hw1 hw2)
  have HALV := Lib.hid (fun (W : World) (hW : Below w.heap.size w W) => aliveI_any W (hK.later hW (Nat.le_refl _)))
  have HWHY := Lib.hid (fun (W : World) (hW : Below w.heap.size w W) => refWhyS_any _ h B W (hv.below hW (Nat.le_refl _)) (by omega) (capE (by omega)))
  have HOF := Lib.hid (fun (W : World) (hW : Below w.heap.size w W) => refOfS_any _ h W (hv.below hW (Nat.le_refl _)) (by omega) (capE (by omega)))
  clear hK hv
  by_cases h0 : srchE h B = 0
  · obtain ⟨hc0, hB0, hB1⟩ := srchE_zero h0
    obtain ⟨BN, rfl⟩ : ∃ BN : Nat, B = (BN : Int) := ⟨B.toNat, by omega⟩
    have h6 := table_six hc0
    simp only [h0] at HWHY
    rw [h0] at HROW
    have HCK := Lib.hid (fun (lv : Value) (W : World) (hv : Txs W lv (tableS h)) => refStrictX_any h hc0 lv BN W hv (by omega) (ops_sixty hc0))
    simp only [choices_chL h6] at HCK
    simp only [strF, h0, if_true, Int.toNat_natCast] at HROW
    obtain ⟨x, hx⟩ : ∃ x, searchG BN (tableS h) (fun c => c) (chL (tableS h)) 0 = x := ⟨_, rfl⟩
    have HRL : Hid (x.2.2.1.length ≤ 65536) := by
      have := (strict_facts hc0 hx).2.2.2
      show _ ≤ _
      omega
    simp only [hx] at HROW HCK
    clear hx h0 hc0
    unfold fndV at HROW HCK
    go_enter Tryd.func3, Tryd.ntmps3
    go_upto_region 2 with fail
    rw [HAE.out]
    go_wp2_with fail
    refine HROW.out.mono ?_
    rintro e w1 ⟨rv, rfl, hr1, -, hb1⟩
    have hr1 := hr1.rd
    obtain ⟨rb, rc, rfl⟩ := hr1.len
    obtain ⟨rn, hrn⟩ : ∃ z, (nats x.2.2.1).length = z := ⟨_, rfl⟩
    rw [hrn] at hr1 ⊢
    obtain ⟨N9, hN9⟩ : ∃ z, w1.heap.size = z := ⟨_, rfl⟩
    obtain ⟨w2, hw2⟩ : ∃ z, w1.alloc (.cells #[.int .i64 (x.1 : Int), .int .u32 (x.2.1 : Int), .slice rb rn rc, .int .i64 (x.2.2.2 : Int)] 26) = z := ⟨_, rfl⟩
    have ha9 : At w2 N9 #[.int .i64 (x.1 : Int), .int .u32 (x.2.1 : Int), .slice rb rn rc, .int .i64 (x.2.2.2 : Int)] 26 := by
      rw [← hw2, ← hN9]; exact At.new w1 _ _
    have hb12 : Below w1.heap.size w1 w2 := by rw [← hw2]; exact (Below.refl _ w1).alloc (Nat.le_refl _) _
    have HB2 := Lib.hid (hb1.trans (hb12.mono hb1.size))
    have HA9 := Lib.hid ha9
    have HR2 := Lib.hid (hr1.below hb12 (Nat.le_refl _))
    have HW2 := Lib.hid hw2
    clear hr1 hb1 ha9 hb12 HROW hw2
    go_wp2_with fail
    rw [HW2.out]
    clear HW2
    refine (HWHY.out w2 HB2.out).mono ?_
    rintro e w4 ⟨rfl, hb4⟩
    have HB4 := Lib.hid (HB2.out.trans (hb4.mono HB2.out.size))
    have HA4 := Lib.hid (HA9.out.below hb4 HA9.out.lt)
    have HR4 := Lib.hid (HR2.out.below hb4 (Nat.le_refl _))
    have HSS : Hid (∀ W, Below w4.heap.size w4 W → W.cell? ⟨N9, 0, none⟩ = some (.int .i64 (x.1 : Int)) ∧ W.cell? ⟨N9, 1, none⟩ = some (.int .u32 (x.2.1 : Int)) ∧ W.cell? ⟨N9, 2, none⟩ = some (.slice rb rn rc) ∧ W.cell? ⟨N9, 3, none⟩ = some (.int .i64 (x.2.2.2 : Int))) := fun W hW =>
      ⟨cell_on hW (HA4.out.cell rfl), cell_on hW (HA4.out.cell rfl), cell_on hW (HA4.out.cell rfl), cell_on hW (HA4.out.cell rfl)⟩
    clear hb4 HA9 HR2 HB2 hrn
    go_wp2_with fail
    first
    | go_must (go_region_held (fun W => W.cell? ⟨N9, 0, none⟩ = some (.int .i64 (x.1 : Int)) ∧ W.cell? ⟨N9, 1, none⟩ = some (.int .u32 (x.2.1 : Int)) ∧ W.cell? ⟨N9, 2, none⟩ = some (.slice rb rn rc) ∧ W.cell? ⟨N9, 3, none⟩ = some (.int .i64 (x.2.2.2 : Int)))
        (first | exact HSS.out _ (belowDrS _) | exact HSS.out _ hz5 | exact HSS.out _ hz6 | exact HSS.out _ hz7 | exact HSS.out _ hz8)
        (first
          | (go_at_call 7; refine (HALV.out _ (HB4.out.drew)).mono ?_; rintro e w5 ⟨rfl, hb5⟩; have hz5 := (belowDrS w4).trans hb5; clear hb5)
          | (go_at_call 10; refine (HOF.out w5 (HB4.out.trans (hz5.mono HB4.out.size))).mono ?_; rintro e w6 ⟨lv, rfl, ht6, hb6⟩; have hz6 := hz5.trans (hb6.mono hz5.size); obtain ⟨la, lc, rfl⟩ := ht6.len; clear hb6)
          | (go_at_call 9; refine (HCK.out _ w6 ht6).mono ?_; rintro e w7 ⟨rv7, rfl, hr7, hb7⟩; have hz7 := hz6.trans (hb7.mono hz6.size); obtain ⟨a7, c7, rfl⟩ := hr7.rd.len; have hq7 := hr7.rd; clear hb7)
          | (go_at_call 8; refine (refSame_same x.1 x.2.1 x.2.2.2 x.2.2.1 _ _ w7 (HR4.out.below hz7 (Nat.le_refl _)) hq7 HRL.out).mono ?_; rintro e w8 ⟨rfl, hb8⟩; have hz8 := hz7.trans (hb8.mono hz7.size); clear hb8)))
    | fail
    have HB8 := Lib.hid (HB4.out.trans (hz8.mono HB4.out.size))
    clear hz5 hz6 hz7 hz8 ht6 hr7 hq7
    go_wp2_with fail
    go_ret
    exact ⟨rfl, HB8.out⟩
  · simp only [strF, if_neg h0] at HROW
    obtain ⟨er, her⟩ : ∃ er, srchE h B = er := ⟨_, rfl⟩
    simp only [her] at HROW HWHY h0
    have te : ((er : Int) != 0) = true := by simp; omega
    have te2 : ((er : Int) == (er : Int)) = true := by simp
    clear her h0 HOF
    unfold fndV at HROW
    go_enter Tryd.func3, Tryd.ntmps3
    go_upto_region 2 with fail
    rw [HAE.out]
    go_wp2_with fail
    refine HROW.out.mono ?_
    rintro e w1 ⟨rv, rfl, hr1, -, hb1⟩
    have hr1 := hr1.rd
    obtain ⟨rb, rc, rfl⟩ := hr1.len
    obtain ⟨rn, hrn⟩ : ∃ z, (nats []).length = z := ⟨_, rfl⟩
    rw [hrn] at hr1 ⊢
    obtain ⟨N9, hN9⟩ : ∃ z, w1.heap.size = z := ⟨_, rfl⟩
    obtain ⟨w2, hw2⟩ : ∃ z, w1.alloc (.cells #[.int .i64 0, .int .u32 0, .slice rb rn rc, .int .i64 0] 26) = z := ⟨_, rfl⟩
    have ha9 : At w2 N9 #[.int .i64 0, .int .u32 0, .slice rb rn rc, .int .i64 0] 26 := by
      rw [← hw2, ← hN9]; exact At.new w1 _ _
    have hb12 : Below w1.heap.size w1 w2 := by rw [← hw2]; exact (Below.refl _ w1).alloc (Nat.le_refl _) _
    have HB2 := Lib.hid (hb1.trans (hb12.mono hb1.size))
    have HA9 := Lib.hid ha9
    have HR2 := Lib.hid (hr1.below hb12 (Nat.le_refl _))
    have HW2 := Lib.hid hw2
    clear hr1 hb1 ha9 hb12 HROW hw2
    go_wp2_with fail
    rw [HW2.out]
    clear HW2
    refine (HWHY.out w2 HB2.out).mono ?_
    rintro e w3 ⟨rfl, hb3⟩
    have HB3 := Lib.hid (HB2.out.trans (hb3.mono HB2.out.size))
    have HA3 := Lib.hid (HA9.out.below hb3 HA9.out.lt)
    have HR3 := Lib.hid (HR2.out.below hb3 (Nat.le_refl _))
    clear hb3 HA9 HR2 HB2
    go_wp2_with fail
    refine (HALV.out w3 HB3.out).mono ?_
    rintro e w4 ⟨rfl, hb4⟩
    have HB4 := Lib.hid (HB3.out.trans (hb4.mono HB3.out.size))
    have ha4 := HA3.out.below hb4 HA3.out.lt
    have HR4 := Lib.hid (HR3.out.below hb4 (Nat.le_refl _))
    have q0 : w4.cell? ⟨N9, 0, none⟩ = some (.int .i64 0) := ha4.cell rfl
    have q1 : w4.cell? ⟨N9, 1, none⟩ = some (.int .u32 0) := ha4.cell rfl
    have q2 : w4.cell? ⟨N9, 2, none⟩ = some (.slice rb rn rc) := ha4.cell rfl
    have q3 : w4.cell? ⟨N9, 3, none⟩ = some (.int .i64 0) := ha4.cell rfl
    have HSM := Lib.hid (refSame_same 0 0 0 [] (.slice rb rn rc) (.slice none 0 0) w4 HR4.out (.inl ⟨rfl, _, _, rfl⟩) (by decide))
    clear hb4 ha4 HB3 HA3 HR3 hrn
    go_wp2_with fail
    refine HSM.out.mono ?_
    rintro e w5 ⟨rfl, hb5⟩
    have HB5 := Lib.hid (HB4.out.trans (hb5.mono HB4.out.size))
    clear hb5
    go_wp2_with fail
    go_ret
    exact ⟨rfl, HB5.out⟩
theorem i64_wf {x : Int} (hx : (Lit.int .i64 x).wf = true) : -9223372036854775808 ≤ x ∧ x < 9223372036854775808 := by
  have h1 : (decide ((-9223372036854775808 : Int) ≤ x) && decide (x ≤ 9223372036854775807)) = true := hx
  rw [Bool.and_eq_true, decide_eq_true_eq, decide_eq_true_eq] at h1
  omega
theorem strChecks_any (a : Option Addr) (n c : Nat) (h : List Ev) (B : Int) (w : World) (hK : HasK w) (hn : n ≤ c) (hv : Evs w (.slice a (min (n : Int) 65).toNat c) h) (hw : (Lit.int .i64 B).wf = true) :
    Calls Tryd.prog 3 #[.slice a n c, .int .i64 B] w fun e w' => e = .returned (.bool true) ∧ Below w.heap.size w w' := by
  obtain ⟨m, hm⟩ : ∃ m, (min (n : Int) 65).toNat = m := ⟨_, rfl⟩
  rw [hm] at hv
  obtain ⟨h1, h2⟩ := i64_wf hw
  exact strChecks_walk a n m c h B w hK hn hm (by omega) hv hv.length.symm (by omega) h1 h2
end Go.Proofs.YtoemcdcabamgiaaDoor
