/- The walk of SerialSearches. -/
import Derived.Test.YtnnjlefljmbhkaaDoorSrlL
import Derived.Test.YtnnjlefljmbhkaaDoorMg22
import Derived.Test.YtnnjlefljmbhkaaDoorMg20
import Derived.BigQuiet
import Derived.Deep.Cut
import Derived.Deep.DeepCutAuto
import Derived.Deep.CutRange
namespace Go.Proofs.YtnnjlefljmbhkaaDoor.WPlain
end Go.Proofs.YtnnjlefljmbhkaaDoor.WPlain
namespace Go.Proofs.YtnnjlefljmbhkaaDoor.QPlain
end Go.Proofs.YtnnjlefljmbhkaaDoor.QPlain
namespace Go.Proofs.YtnnjlefljmbhkaaDoor.RPlain
end Go.Proofs.YtnnjlefljmbhkaaDoor.RPlain
namespace Go.Proofs.YtnnjlefljmbhkaaDoor
open Go.RowKit WPlain QPlain RPlain

set_option maxRecDepth 100000 in
set_option maxHeartbeats 8000000 in
theorem serSearches_walk (a : Option Addr) (n m c : Nat) (h : List Ev) (B : Int) (v1 c1 s1 : Int) (a1 : Option Addr) (n1 d1 m1 : Nat) (xs : List Int) (v2 c2 s2 : Int) (a2 : Option Addr) (n2 d2 m2 : Nat) (ys : List Int) (w : World) (hK : HasK w)
    (hn : n ≤ c) (hn1 : n1 ≤ d1) (hn2 : n2 ≤ d2) (HAE : Hid ((min (n : Int) 65).toNat = m)) (HA1 : Hid ((min (n1 : Int) 10).toNat = m1)) (HA2 : Hid ((min (n2 : Int) 10).toNat = m2)) (hmn : m ≤ n)
    (hv : Evs w (.slice a m c) h) (hxs : Rd w (.slice a1 m1 d1) (ints xs)) (hys : Rd w (.slice a2 m2 d2) (ints ys)) (h1 : h.length = m) (hm1 : m ≤ 65) (hxl : xs.length ≤ 10) (hyl : ys.length ≤ 10) :
    Calls Tryd.prog 4 #[.slice a n c, .int .i64 B, .agg #[.int .i64 v1, .int .u32 c1, .slice a1 n1 d1, .int .i64 s1], .agg #[.int .i64 v2, .int .u32 c2, .slice a2 n2 d2, .int .i64 s2]] w fun e w' => e = .returned (.bool true) ∧ Below w.heap.size w w' := by
  obtain ⟨N, hN⟩ : ∃ z, w.heap.size = z := ⟨_, rfl⟩
  obtain ⟨w1, hw1⟩ : ∃ z, (w.alloc (.cells #[.int .i64 v1, .int .u32 c1, .slice a1 n1 d1, .int .i64 s1] 26)).alloc (.cells #[.int .i64 v2, .int .u32 c2, .slice a2 n2 d2, .int .i64 s2] 26) = z := ⟨_, rfl⟩
  have ha : At w1 N #[.int .i64 v1, .int .u32 c1, .slice a1 n1 d1, .int .i64 s1] 26 := by
    rw [← hw1, ← hN]; exact (At.new w _ _).alloc _
  have hb : At w1 (N + 1) #[.int .i64 v2, .int .u32 c2, .slice a2 n2 d2, .int .i64 s2] 26 := by
    rw [← hw1, ← hN]
    have := At.new (w.alloc (.cells #[.int .i64 v1, .int .u32 c1, .slice a1 n1 d1, .int .i64 s1] 26)) #[.int .i64 v2, .int .u32 c2, .slice a2 n2 d2, .int .i64 s2] 26
    rwa [World.size_alloc] at this
  have hb1 : Below N w w1 := by
    rw [← hw1, ← hN]; exact ((Below.refl _ w).alloc (Nat.le_refl _) _).alloc (by simp) _
  have p2 : w1.cell? ⟨N, 2, none⟩ = some (.slice a1 n1 d1) := ha.cell rfl
  have q2 : w1.cell? ⟨N + 1, 2, none⟩ = some (.slice a2 n2 d2) := hb.cell rfl
  have pf2 : w1.frozen? ⟨N, 2, none⟩ = false := ha.free 2
  have qf2 : w1.frozen? ⟨N + 1, 2, none⟩ = false := hb.free 2
  have HA := Lib.hid ha
  have HB := Lib.hid hb
  have HB1 := Lib.hid hb1
  have HK := Lib.hid hK
  have HV := Lib.hid hv
  have HXS := Lib.hid hxs
  have HYS := Lib.hid hys
  clear ha hb hb1 hK hv hxs hys
  go_enter Tryd.func4, Tryd.ntmps4
  go_wp2_with fail
  go_big_region
  rw [HAE.out, HA1.out, HA2.out]
  have HA2' : Hid (At ((w1.setCell ⟨N, 2, none⟩ (.slice a1 m1 d1)).setCell ⟨N + 1, 2, none⟩ (.slice a2 m2 d2)).drew N #[.int .i64 v1, .int .u32 c1, .slice a1 m1 d1, .int .i64 s1] 26) := ((HA.out.set 2 (.slice a1 m1 d1)).other (a := ⟨N + 1, 2, none⟩) (by simp) _).drew
  have HB2' : Hid (At ((w1.setCell ⟨N, 2, none⟩ (.slice a1 m1 d1)).setCell ⟨N + 1, 2, none⟩ (.slice a2 m2 d2)).drew (N + 1) #[.int .i64 v2, .int .u32 c2, .slice a2 m2 d2, .int .i64 s2] 26) := ((HB.out.other (a := ⟨N, 2, none⟩) (by simp) _).set 2 (.slice a2 m2 d2)).drew
  have HBW : Hid (Below N w ((w1.setCell ⟨N, 2, none⟩ (.slice a1 m1 d1)).setCell ⟨N + 1, 2, none⟩ (.slice a2 m2 d2)).drew) := ((HB1.out.setCell (p := ⟨N, 2, none⟩) (Nat.le_refl _) _).setCell (p := ⟨N + 1, 2, none⟩) (Nat.le_succ _) _).drew
  clear p2 q2 pf2 qf2 HA HB HB1 hw1 HA1 HA2
  generalize ((w1.setCell ⟨N, 2, none⟩ (.slice a1 m1 d1)).setCell ⟨N + 1, 2, none⟩ (.slice a2 m2 d2)).drew = w2 at *
  have HS := Lib.hid (searchS_any _ h B w2 (HK.out.later HBW.out (by omega)) (HV.out.below HBW.out (by omega)) (by omega))
  obtain ⟨x, hx⟩ : ∃ x, srchF h B = x := ⟨_, rfl⟩
  obtain ⟨er, her⟩ : ∃ er, srchE h B = er := ⟨_, rfl⟩
  have HX := Lib.hid hx
  have HER := Lib.hid her
  rw [hx, her] at HS
  unfold fndV at HS
  clear hx her
  as_aux_lemma =>
    go_wp2_with fail
    refine HS.out.mono ?_
    rintro e w3 ⟨rv, rfl, hr3, -, hb3⟩
    obtain ⟨rb, rc, rfl⟩ := hr3.len
    obtain ⟨rn, hrn⟩ : ∃ z, (nats x.2.2.1).length = z := ⟨_, rfl⟩
    rw [hrn] at hr3 ⊢
    obtain ⟨N9, hN9⟩ : ∃ z, w3.heap.size = z := ⟨_, rfl⟩
    obtain ⟨w4, hw4⟩ : ∃ z, w3.alloc (.cells #[.int .i64 (x.1 : Int), .int .u32 (x.2.1 : Int), .slice rb rn rc, .int .i64 (x.2.2.2 : Int)] 26) = z := ⟨_, rfl⟩
    have ha9 : At w4 N9 #[.int .i64 (x.1 : Int), .int .u32 (x.2.1 : Int), .slice rb rn rc, .int .i64 (x.2.2.2 : Int)] 26 := by
      rw [← hw4, ← hN9]; exact At.new w3 _ _
    have hb34 : Below w3.heap.size w3 w4 := by rw [← hw4]; exact (Below.refl _ w3).alloc (Nat.le_refl _) _
    have hb24 := hb3.trans (hb34.mono hb3.size)
    have HB4 : Hid (Below w.heap.size w w4) := by have := HBW.out.trans (hb24.mono (by have := HBW.out.size; omega)); rw [← hN] at this; exact this
    have HA9 := Lib.hid ha9
    have HR4 := Lib.hid (hr3.below hb34 (Nat.le_refl _))
    have HAA := Lib.hid (HA2'.out.below hb24 HA2'.out.lt)
    have HBB := Lib.hid (HB2'.out.below hb24 HB2'.out.lt)
    have HW4 := Lib.hid hw4
    clear hr3 hb3 ha9 hb34 hb24 HS hrn hw4 HA2' HB2' HBW
    go_wp2_with fail
    rw [HW4.out]
    clear HW4
    have HSS : Hid (∀ W, Below w4.heap.size w4 W → (W.cell? ⟨N, 0, none⟩ = some (.int .i64 v1) ∧ W.cell? ⟨N, 1, none⟩ = some (.int .u32 c1) ∧ W.cell? ⟨N, 2, none⟩ = some (.slice a1 m1 d1) ∧ W.cell? ⟨N, 3, none⟩ = some (.int .i64 s1)) ∧
        W.cell? ⟨N + 1, 0, none⟩ = some (.int .i64 v2) ∧ W.cell? ⟨N + 1, 1, none⟩ = some (.int .u32 c2) ∧ W.cell? ⟨N + 1, 2, none⟩ = some (.slice a2 m2 d2) ∧ W.cell? ⟨N + 1, 3, none⟩ = some (.int .i64 s2)) := fun W hW =>
      ⟨⟨cell_on hW (HAA.out.cell rfl), cell_on hW (HAA.out.cell rfl), cell_on hW (HAA.out.cell rfl), cell_on hW (HAA.out.cell rfl)⟩, cell_on hW (HBB.out.cell rfl), cell_on hW (HBB.out.cell rfl), cell_on hW (HBB.out.cell rfl), cell_on hW (HBB.out.cell rfl)⟩
    have hrx : ∀ W, Below w4.heap.size w4 W → Rd W (.slice a1 m1 d1) (ints xs) := fun W hW => (HXS.out.below HB4.out (Nat.le_refl _)).below hW (Nat.le_refl _)
    have hry : ∀ W, Below w4.heap.size w4 W → Rd W (.slice a2 m2 d2) (ints ys) := fun W hW => (HYS.out.below HB4.out (Nat.le_refl _)).below hW (Nat.le_refl _)
    obtain ⟨b1, hb1⟩ : ∃ b1, sameF v1 c1 s1 v2 c2 s2 xs ys = b1 := ⟨_, rfl⟩
    have hb2 := sameF_self v1 c1 s1 xs
    have tb : (b1 != b1) = false := by simp
    have HXR := Lib.hid hrx
    have HYR := Lib.hid hry
    have HLA : Hid (∀ (v c s : Int) (a : Option Addr) (n d : Nat) (zs : List Int), Hid (∀ W, Below w4.heap.size w4 W → Rd W (.slice a n d) (ints zs)) → zs.length ≤ 10 → ∀ W, Below w4.heap.size w4 W → Calls Tryd.prog 15 #[.agg #[.int .i64 v1, .int .u32 c1, .slice a1 m1 d1, .int .i64 s1], .agg #[.int .i64 v, .int .u32 c, .slice a n d, .int .i64 s]] W fun e w' => e = .returned (.bool (sameF v1 c1 s1 v c s xs zs)) ∧ Below W.heap.size W w') := fun v c s a n d zs hz hl W hW =>
      likeS_any v1 c1 s1 v c s _ _ xs zs W (HXR.out W hW) (hz.out W hW) (by omega) (by omega)
    have HSA : Hid (∀ (v c s : Int) (a : Option Addr) (n d : Nat) (zs : List Int), Hid (∀ W, Below w4.heap.size w4 W → Rd W (.slice a n d) (ints zs)) → zs.length ≤ 10 → ∀ W, Below w4.heap.size w4 W → Calls Tryd.prog 10 #[.agg #[.int .i64 v1, .int .u32 c1, .slice a1 m1 d1, .int .i64 s1], .agg #[.int .i64 v, .int .u32 c, .slice a n d, .int .i64 s]] W fun e w' => e = .returned (.bool (sameF v1 c1 s1 v c s xs zs)) ∧ Below W.heap.size W w') := fun v c s a n d zs hz hl W hW =>
      refSameS_any v1 c1 s1 v c s _ _ xs zs W (HXR.out W hW) (hz.out W hW) (by omega)
    have HALV : Hid (∀ W, Below w4.heap.size w4 W → Calls Tryd.prog 9 #[] W fun e w' => e = .returned (.bool true) ∧ Below W.heap.size W w') := fun W hW => aliveR_any W ((HK.out.later HB4.out (Nat.le_refl _)).later hW (Nat.le_refl _))
    have k0 : ∀ p : Ext w4, p.wld.cell? ⟨N, 0, none⟩ = some (.int .i64 v1) := fun p => cell_on p.below (HAA.out.cell rfl)
    have k1 : ∀ p : Ext w4, p.wld.cell? ⟨N, 1, none⟩ = some (.int .u32 c1) := fun p => cell_on p.below (HAA.out.cell rfl)
    have k2 : ∀ p : Ext w4, p.wld.cell? ⟨N, 2, none⟩ = some (.slice a1 m1 d1) := fun p => cell_on p.below (HAA.out.cell rfl)
    have k3 : ∀ p : Ext w4, p.wld.cell? ⟨N, 3, none⟩ = some (.int .i64 s1) := fun p => cell_on p.below (HAA.out.cell rfl)
    have l0 : ∀ p : Ext w4, p.wld.cell? ⟨N + 1, 0, none⟩ = some (.int .i64 v2) := fun p => cell_on p.below (HBB.out.cell rfl)
    have l1 : ∀ p : Ext w4, p.wld.cell? ⟨N + 1, 1, none⟩ = some (.int .u32 c2) := fun p => cell_on p.below (HBB.out.cell rfl)
    have l2 : ∀ p : Ext w4, p.wld.cell? ⟨N + 1, 2, none⟩ = some (.slice a2 m2 d2) := fun p => cell_on p.below (HBB.out.cell rfl)
    have l3 : ∀ p : Ext w4, p.wld.cell? ⟨N + 1, 3, none⟩ = some (.int .i64 s2) := fun p => cell_on p.below (HBB.out.cell rfl)
    have mixed : Tryd.prog.follows .mixedOrders = true := by kernel_rfl
    clear hrx hry HXS HYS HAA HBB HSS
    as_aux_lemma =>
      refine wp_region_ext mixed (by kernel_rfl) ?_
      repeat (go_big_quiet_step (first
        | (go_at_call 15; refine calls_ext (HLA.out _ _ _ _ _ _ _ (by assumption) (by assumption)))
        | (go_at_call 10; refine calls_ext (HSA.out _ _ _ _ _ _ _ (by assumption) (by assumption)))
        | (go_at_call 9; refine calls_ext HALV.out)))
      refine wpQuiet_nil ?_
      intro w8 hw8
      obtain ⟨⟨wq, hbq⟩, hq⟩ := hw8
      obtain rfl : w8 = wq := hq
      have HZ := Lib.hid hbq
      clear hbq
      have hsz4 := HB4.out.size
      have HBC := Lib.hid (HB4.out.trans (HZ.out.mono hsz4))
      have HA9C := Lib.hid (HA9.out.below HZ.out HA9.out.lt)
      have HRC := Lib.hid (HR4.out.below HZ.out (Nat.le_refl _))
      have HWHY := Lib.hid (refWhyS_any _ h B w8 (HV.out.below HBC.out (Nat.le_refl _)) (by omega) (capE (by omega)))
      rw [HER.out] at HWHY
      clear k0 k1 k2 k3 l0 l1 l2 l3 HLA HSA HALV tb HA9 HR4 HZ hsz4 HB4 hb1 hb2 mixed HXR HYR
      as_aux_lemma =>
        go_wp2_with fail
        refine HWHY.out.mono ?_
        rintro e w5 ⟨rfl, hb5⟩
        have hszc := HBC.out.size
        have HB5 := Lib.hid (HBC.out.trans (hb5.mono hszc))
        have HA5 := Lib.hid (HA9C.out.below hb5 HA9C.out.lt)
        have HR5 := Lib.hid (HRC.out.below hb5 (Nat.le_refl _))
        clear hb5 HWHY HA9C HRC HBC hszc
        by_cases h0 : er = 0
        · as_aux_lemma =>
            subst h0
            obtain ⟨hc0, hB0, hB1⟩ := srchE_zero HER.out
            obtain ⟨BN, rfl⟩ : ∃ BN : Nat, B = (BN : Int) := ⟨B.toNat, by omega⟩
            have h6 := table_six hc0
            have hsf : searchG BN (tableS h) (fun _ => 2 ^ (tableS h).length - 1) (chL (tableS h)) 0 = x := by
              have h2 := HX.out
              unfold srchF at h2
              rwa [HER.out, if_pos rfl, Int.toNat_natCast] at h2
            have HRL : Hid (x.2.2.1.length ≤ 65536) := by
              have := srch_len hc0 (B := BN)
              rwa [hsf] at this
            have HOF := Lib.hid (fun (W : World) (hW : Below w5.heap.size w5 W) => refOfS_any _ h W ((HV.out.below HB5.out (Nat.le_refl _)).below hW (Nat.le_refl _)) (by omega) (capE (by omega)))
            have HSE : Hid (∀ (lv : Value) (W : World), Txs W lv (tableS h) → Calls Tryd.prog 16 #[lv, .int .i64 (BN : Int)] W fun e w' => ∃ ra rn rc, e = .returned (.agg #[.int .i64 (x.1 : Int), .int .u32 (x.2.1 : Int), .slice ra rn rc, .int .i64 (x.2.2.2 : Int)]) ∧ Rd w' (.slice ra rn rc) (nats x.2.2.1) ∧ Below W.heap.size W w') := fun lv W ht => by
              have h2 := refSearch_any h hc0 lv BN W ht (by omega) (ops_sixty hc0)
              rw [choices_chL h6, hsf] at h2
              refine h2.mono ?_
              rintro e w' ⟨rv, rfl, hr, hb⟩
              obtain ⟨ra, rc, rfl⟩ := hr.len
              exact ⟨ra, _, rc, rfl, hr, hb⟩
            have HSS : Hid (∀ W, Below w5.heap.size w5 W → W.cell? ⟨N9, 0, none⟩ = some (.int .i64 (x.1 : Int)) ∧ W.cell? ⟨N9, 1, none⟩ = some (.int .u32 (x.2.1 : Int)) ∧ W.cell? ⟨N9, 2, none⟩ = some (.slice rb rn rc) ∧ W.cell? ⟨N9, 3, none⟩ = some (.int .i64 (x.2.2.2 : Int))) := fun W hW =>
              ⟨cell_on hW (HA5.out.cell rfl), cell_on hW (HA5.out.cell rfl), cell_on hW (HA5.out.cell rfl), cell_on hW (HA5.out.cell rfl)⟩
            clear hsf hc0 h6 HX HER HA5
            go_wp2_with fail
            first
            | go_must (go_region_held (fun W => W.cell? ⟨N9, 0, none⟩ = some (.int .i64 (x.1 : Int)) ∧ W.cell? ⟨N9, 1, none⟩ = some (.int .u32 (x.2.1 : Int)) ∧ W.cell? ⟨N9, 2, none⟩ = some (.slice rb rn rc) ∧ W.cell? ⟨N9, 3, none⟩ = some (.int .i64 (x.2.2.2 : Int)))
                (first | exact HSS.out _ (belowDrS _) | exact HSS.out _ hz6 | exact HSS.out _ hz7 | exact HSS.out _ hz8)
                (first
                  | (go_at_call 11; refine (HOF.out _ (belowDrS _)).mono ?_; rintro e w6 ⟨lv, rfl, ht6, hb6⟩; have hz6 := (belowDrS w5).trans hb6; have htq := ht6; obtain ⟨la, lc, rfl⟩ := ht6.len; clear hb6)
                  | (go_at_call 16; refine (HSE.out _ _ htq).mono ?_; rintro e w7 ⟨sa, sn, sc, rfl, hr7, hb7⟩; have hz7 := hz6.trans (hb7.mono hz6.size); clear hb7)
                  | (go_at_call 10; refine (refSame_same x.1 x.2.1 x.2.2.2 x.2.2.1 _ _ w7 (HR5.out.below hz7 (Nat.le_refl _)) hr7 HRL.out).mono ?_; rintro e w8 ⟨rfl, hb8⟩; have hz8 := hz7.trans (hb8.mono hz7.size); clear hb8)))
            | fail
            have HB8 := Lib.hid (HB5.out.trans (hz8.mono HB5.out.size))
            clear hz6 hz7 hz8 hr7 htq
            go_wp2_with fail
            go_ret
            exact ⟨rfl, HB8.out⟩
        · as_aux_lemma =>
            have hx0 : x = (0, 0, [], 0) := by
              rw [← HX.out]
              unfold srchF
              rw [HER.out, if_neg h0]
            have te : ((er : Int) != 0) = true := by simp; omega
            have te2 : ((er : Int) == (er : Int)) = true := by simp
            subst hx0
            have q0 : w5.cell? ⟨N9, 0, none⟩ = some (.int .i64 0) := HA5.out.cell rfl
            have q1 : w5.cell? ⟨N9, 1, none⟩ = some (.int .u32 0) := HA5.out.cell rfl
            have q2 : w5.cell? ⟨N9, 2, none⟩ = some (.slice rb rn rc) := HA5.out.cell rfl
            have q3 : w5.cell? ⟨N9, 3, none⟩ = some (.int .i64 0) := HA5.out.cell rfl
            have HSM := Lib.hid (refSame_same 0 0 0 [] (.slice rb rn rc) (.slice none 0 0) w5 HR5.out (.inl ⟨rfl, _, _, rfl⟩) (by decide))
            clear HX HER HA5 h0
            go_wp2_with fail
            refine HSM.out.mono ?_
            rintro e w6 ⟨rfl, hb6⟩
            have HB6 := Lib.hid (HB5.out.trans (hb6.mono HB5.out.size))
            clear hb6
            go_wp2_with fail
            go_ret
            exact ⟨rfl, HB6.out⟩
theorem serSearches_any (a : Option Addr) (n c : Nat) (h : List Ev) (B : Int) (v1 c1 s1 : Int) (a1 : Option Addr) (n1 d1 : Nat) (xs : List Int) (v2 c2 s2 : Int) (a2 : Option Addr) (n2 d2 : Nat) (ys : List Int) (w : World) (hK : HasK w)
    (hn : n ≤ c) (hn1 : n1 ≤ d1) (hn2 : n2 ≤ d2) (hv : Evs w (.slice a (min (n : Int) 65).toNat c) h) (hxs : Rd w (.slice a1 (min (n1 : Int) 10).toNat d1) (ints xs)) (hys : Rd w (.slice a2 (min (n2 : Int) 10).toNat d2) (ints ys)) :
    Calls Tryd.prog 4 #[.slice a n c, .int .i64 B, .agg #[.int .i64 v1, .int .u32 c1, .slice a1 n1 d1, .int .i64 s1], .agg #[.int .i64 v2, .int .u32 c2, .slice a2 n2 d2, .int .i64 s2]] w fun e w' => e = .returned (.bool true) ∧ Below w.heap.size w w' := by
  obtain ⟨m, hm⟩ : ∃ m, (min (n : Int) 65).toNat = m := ⟨_, rfl⟩
  obtain ⟨m1, hm1⟩ : ∃ m, (min (n1 : Int) 10).toNat = m := ⟨_, rfl⟩
  obtain ⟨m2, hm2⟩ : ∃ m, (min (n2 : Int) 10).toNat = m := ⟨_, rfl⟩
  rw [hm] at hv
  rw [hm1] at hxs
  rw [hm2] at hys
  have hl1 : xs.length = m1 := by
    obtain ⟨_, _, he⟩ := hxs.len
    simp only [Value.slice.injEq, ints_len] at he
    exact he.2.1.symm
  have hl2 : ys.length = m2 := by
    obtain ⟨_, _, he⟩ := hys.len
    simp only [Value.slice.injEq, ints_len] at he
    exact he.2.1.symm
  exact serSearches_walk a n m c h B v1 c1 s1 a1 n1 d1 m1 xs v2 c2 s2 a2 n2 d2 m2 ys w hK hn hn1 hn2 hm hm1 hm2 (by omega) hv hxs hys hv.length.symm (by omega) (by omega) (by omega)
end Go.Proofs.YtnnjlefljmbhkaaDoor
