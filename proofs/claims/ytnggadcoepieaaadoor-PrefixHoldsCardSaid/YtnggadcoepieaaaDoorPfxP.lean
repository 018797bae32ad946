/- The walks of package prefix's Cut, and of PrefixCuts. -/
import Derived.Test.YtnggadcoepieaaaDoorPfxO
namespace Go.Proofs.YtnggadcoepieaaaDoor.WPlain
end Go.Proofs.YtnggadcoepieaaaDoor.WPlain
namespace Go.Proofs.YtnggadcoepieaaaDoor.QPlain
end Go.Proofs.YtnggadcoepieaaaDoor.QPlain
namespace Go.Proofs.YtnggadcoepieaaaDoor.RPlain
end Go.Proofs.YtnggadcoepieaaaDoor.RPlain
namespace Go.Proofs.YtnggadcoepieaaaDoor
open Go.RowKit WPlain QPlain RPlain

theorem srcX {a : Option Addr} {n c : Nat} (h : a = none → c = 0) (hn : n ≤ c) : Src (.slice a n c) := by
  cases a with
  | none => have := h rfl; exact .inl (by rw [this, show n = 0 from by omega])
  | some p => exact .inr ⟨_, _, _, rfl⟩
set_option maxRecDepth 100000 in
theorem cutBad_any (a : Option Addr) (n c : Nat) (k : Int) (w : World) (hk : k < 0 ∨ (n : Int) < k) :
    Calls Tryd.prog 6 #[.slice a n c, .int .i64 k] w fun e w' => e = .returned (.tuple #[.slice none 0 0, .int .i64 1]) ∧ w' = w := by
  by_cases h0 : k < 0
  · have t0 : decide (k < 0) = true := decide_eq_true h0
    go_enter Tryd.func6, Tryd.ntmps6
    go_wp2
    go_ret2
    exact ⟨rfl, rfl⟩
  · have t0 : decide (k < 0) = false := decide_eq_false h0
    have t1 : (n : Int) < k := by omega
    clear h0 hk
    go_enter Tryd.func6, Tryd.ntmps6
    go_wp2
    go_ret2
    exact ⟨rfl, rfl⟩
set_option maxRecDepth 100000 in
theorem cutGood_any (a : Option Addr) (n c : Nat) (h : List Ev) (k : Nat) (w : World) (hv : Evs w (.slice a n c) h) (hz : a = none → c = 0) (hn : n ≤ c) (hl : h.length ≤ 65536) (hk : k ≤ n) :
    Calls Tryd.prog 6 #[.slice a n c, .int .i64 k] w fun e w' => ∃ v', e = .returned (.tuple #[v', .int .i64 0]) ∧ Evs w' v' (h.take k) ∧ Below w.heap.size w w' := by
  have hlen := hv.length
  have htl : (h.take k).length = k := by rw [List.length_take]; omega
  have HC := Lib.hid (clone_more _ (h.take k) w (evs_cutP hv k (by omega)) (srcX hz (by omega)) (by omega))
  have t0 : decide ((k : Int) < 0) = false := by simp
  have t1 : ¬ (n : Int) < (k : Int) := by omega
  have t2 : (k : Int) ≤ (n : Int) := by omega
  have t3 : (k : Int) ≤ (c : Int) := by omega
  have HTL := Lib.hid htl
  clear hv hz htl hlen
  go_enter Tryd.func6, Tryd.ntmps6
  go_wp2_with fail
  refine HC.out.mono ?_
  rintro e w3 ⟨v3, rfl, hrow3, hb3⟩
  have HB := Lib.hid hb3
  have HE := Lib.hid (Evs.of_row hrow3)
  rcases hrow3.2 with ⟨rfl, hh0⟩ | ⟨g, cap, cur, rfl, -, -, hcap, -, -, -⟩
  · obtain rfl : k = 0 := by rw [HTL.out] at hh0; exact hh0
    clear hrow3 hh0 hb3 HC t0 t1 t2 t3
    go_wp2
    go_ret2
    refine ⟨_, rfl, ?_, HB.out⟩
    rw [List.take_zero]
    exact Evs.nil _ _ _
  · rw [HTL.out] at HE hcap ⊢
    have t4 : (k : Int) ≤ (cap : Int) := by omega
    have HE2 : Hid (Evs w3 (.slice (some ⟨g, 0, none⟩) k k) (h.take k)) := by
      rcases HE.out with ⟨e0, _⟩ | ⟨l0, b, o, c', he, hbl, hcs⟩
      · have h1 := HTL.out
        rw [e0] at h1
        have h2 : k = 0 := by simpa using h1.symm
        subst h2
        rw [List.take_zero]
        exact Evs.nil _ _ _
      · have h1 := HTL.out
        simp only [Value.slice.injEq, Option.some.injEq, Addr.mk.injEq, and_true] at he
        obtain ⟨⟨rfl, rfl⟩, h2, rfl⟩ := he
        exact .inr ⟨l0, g, 0, k, by rw [← h2], hbl, hcs⟩
    clear hrow3 hcap hb3 HC HE
    go_wp2
    go_ret2
    exact ⟨_, rfl, HE2.out, HB.out⟩
set_option maxRecDepth 100000 in
set_option maxHeartbeats 4000000 in
theorem pcuts_walk (a : Option Addr) (n m c : Nat) (h : List Ev) (a2 : Option Addr) (n2 m2 c2 : Nat) (g : List Ev) (k tx : Int) (w : World) (hK : HasK w) (hn : n ≤ c) (hn2 : n2 ≤ c2) (hz : a = none → c = 0) (hz2 : a2 = none → c2 = 0) (HAE : Hid (min (n : Int) 65 = (m : Int))) (HBE : Hid (min (n2 : Int) 65 = (m2 : Int)))
    (hmn : m ≤ n) (hmn2 : m2 ≤ n2) (hv : Evs w (.slice a m c) h) (hv2 : Evs w (.slice a2 m2 c2) g) (h1 : h.length = m) (h2 : g.length = m2) (hm1 : m ≤ 65) (hm2 : m2 ≤ 65) :
    Calls Tryd.prog 3 #[.slice a n c, .slice a2 n2 c2, .int .i64 k, .int .i64 tx] w fun e w' => e = .returned (.bool true) ∧ Below w.heap.size w w' := by
  have HK := Lib.hid hK
  have HOF := Lib.hid (fun (W : World) (hW : Below w.heap.size w W) => of_any _ h tx W (hv.below hW (Nat.le_refl _)) (by omega))
  have HRO := Lib.hid (fun (W : World) (hW : Below w.heap.size w W) => refOfE_any _ h tx W (hv.below hW (Nat.le_refl _)) (by omega))
  have HAL := Lib.hid (fun (W : World) (hW : Below w.heap.size w W) => alike_any _ _ h g W (hv.below hW (Nat.le_refl _)) (srcX hz (by omega)) (by omega) (hv2.below hW (Nat.le_refl _)) (srcX hz2 (by omega)) (by omega))
  have HRA := Lib.hid (fun (W : World) (hW : Below w.heap.size w W) => refAlike_any _ _ h g W (hv.below hW (Nat.le_refl _)) (by omega) (hv2.below hW (Nat.le_refl _)) (by omega))
  have HCB := Lib.hid (fun (hk : k < 0 ∨ (m : Int) < k) (W : World) => cutBad_any a m c k W hk)
  have HCG := Lib.hid (fun (kk : Nat) (hk : kk ≤ m) (W : World) (hW : Below w.heap.size w W) => cutGood_any a m c h kk W (hv.below hW (Nat.le_refl _)) hz (by omega) (by omega) hk)
  have HV := Lib.hid hv
  have hol : (ofT h tx).length ≤ 65536 := Nat.le_trans (List.length_filter_le _ _) (by omega)
  have e1 : (max (min (n : Int) 65) 0) = (m : Int) := by have := HAE.out; omega
  have e2 : (max (min (n2 : Int) 65) 0) = (m2 : Int) := by have := HBE.out; omega
  have e3 := HAE.out
  have e4 := HBE.out
  clear hK hv hv2 hz hz2
  by_cases hbad : k < 0 ∨ (m : Int) < k
  · have HC := Lib.hid (HCB.out hbad)
    have HBAD := Lib.hid hbad
    clear hbad HCB HCG
    go_enter Tryd.func3, Tryd.ntmps3
    go_wp2_with fail
    go_region
    have HB0 := Lib.hid (Below.drew (Below.refl w.heap.size w))
    clear e1 e2 e3 e4
    go_wp2_with fail
    refine (HC.out _).mono ?_
    rintro e w1 ⟨rfl, rfl⟩
    go_wp2_with fail
    refine (HOF.out _ HB0.out).mono ?_
    rintro e w2 ⟨v2, rfl, he2, -, hb2⟩
    have HB2 := Lib.hid (HB0.out.trans (hb2.mono HB0.out.size))
    have HE2 := Lib.hid he2
    obtain ⟨a3, c3, rfl⟩ := he2.len
    clear he2 hb2
    go_wp2_with fail
    refine (HRO.out _ HB2.out).mono ?_
    rintro e w3 ⟨v3, rfl, he3, -, hb3⟩
    have HB3 := Lib.hid (HB2.out.trans (hb3.mono HB2.out.size))
    have HSM := Lib.hid (same_any _ _ (ofT h tx) (ofT h tx) w3 (HE2.out.below hb3 (Nat.le_refl _)) he3 hol hol)
    rw [decide_eq_true rfl] at HSM
    obtain ⟨a4, c4, rfl⟩ := he3.len
    clear he3 hb3 HE2 HB2
    go_wp2_with fail
    refine HSM.out.mono ?_
    rintro e w4 ⟨rfl, q, rfl⟩
    have HB4 := Lib.hid (below_drN HB3.out q)
    clear HSM
    go_wp2_with fail
    refine (HAL.out _ HB4.out).mono ?_
    rintro e w5 ⟨rfl, hb5⟩
    have HB5 := Lib.hid (HB4.out.trans (hb5.mono HB4.out.size))
    clear hb5 HB4 HB3
    go_wp2_with fail
    refine (HRA.out _ HB5.out).mono ?_
    rintro e w6 ⟨rfl, hb6⟩
    have HB6 := Lib.hid (HB5.out.trans (hb6.mono HB5.out.size))
    have t7 : (alikeS h g != alikeS h g) = false := by simp
    clear hb6 HB5
    go_wp2_with fail
    refine (aliveX_any _ (HK.out.later HB6.out (Nat.le_refl _))).mono ?_
    rintro e w7 ⟨rfl, hb7⟩
    have HB7 := Lib.hid (HB6.out.trans (hb7.mono HB6.out.size))
    clear hb7 HB6
    by_cases hk0 : k < 0
    · have t0 : decide (k < 0) = true := decide_eq_true hk0
      go_wp2
      go_ret
      exact ⟨rfl, HB7.out⟩
    · have t0 : decide (k < 0) = false := decide_eq_false hk0
      have t1 : (m : Int) < k := by rcases HBAD.out with h | h; exact absurd h hk0; exact h
      clear hk0
      go_wp2
      go_ret
      exact ⟨rfl, HB7.out⟩
  · obtain ⟨kk, rfl⟩ : ∃ kk : Nat, k = (kk : Int) := ⟨k.toNat, by omega⟩
    have hkm : kk ≤ m := by omega
    have HC := Lib.hid (HCG.out kk hkm)
    have htl : (h.take kk).length = kk := by rw [List.length_take]; omega
    have HTK : Hid (∀ W, Below w.heap.size w W → Evs W (.slice a kk c) (h.take kk)) := fun W hW => (evs_cutP HV.out kk (by omega)).below hW (Nat.le_refl _)
    have t0 : decide ((kk : Int) < 0) = false := by simp
    have t1 : ¬ (m : Int) < (kk : Int) := by omega
    have t2 : (kk : Int) ≤ (m : Int) := by omega
    have t3 : (kk : Int) ≤ (c : Int) := by omega
    have HTL := Lib.hid htl
    clear hbad HCB HCG htl
    go_enter Tryd.func3, Tryd.ntmps3
    go_wp2_with fail
    go_region
    have HB0 := Lib.hid (Below.drew (Below.refl w.heap.size w))
    clear e1 e2 e3 e4
    go_wp2_with fail
    refine (HC.out _ HB0.out).mono ?_
    rintro e w1 ⟨v1, rfl, he1, hb1⟩
    have HB1 := Lib.hid (HB0.out.trans (hb1.mono HB0.out.size))
    have HV1 := Lib.hid he1
    obtain ⟨a1, c1, rfl⟩ := he1.len
    clear he1 hb1 HB0 HC
    go_wp2_with fail
    refine (HOF.out _ HB1.out).mono ?_
    rintro e w2 ⟨v2, rfl, he2, -, hb2⟩
    have HB2 := Lib.hid (HB1.out.trans (hb2.mono HB1.out.size))
    have HV2 := Lib.hid (HV1.out.below hb2 (Nat.le_refl _))
    have HE2 := Lib.hid he2
    obtain ⟨a3, c3, rfl⟩ := he2.len
    clear he2 hb2 HV1 HB1
    go_wp2_with fail
    refine (HRO.out _ HB2.out).mono ?_
    rintro e w3 ⟨v3, rfl, he3, -, hb3⟩
    have HB3 := Lib.hid (HB2.out.trans (hb3.mono HB2.out.size))
    have HV3 := Lib.hid (HV2.out.below hb3 (Nat.le_refl _))
    have HSM := Lib.hid (same_any _ _ (ofT h tx) (ofT h tx) w3 (HE2.out.below hb3 (Nat.le_refl _)) he3 hol hol)
    rw [decide_eq_true rfl] at HSM
    obtain ⟨a4, c4, rfl⟩ := he3.len
    clear he3 hb3 HE2 HB2 HV2
    go_wp2_with fail
    refine HSM.out.mono ?_
    rintro e w4 ⟨rfl, q, rfl⟩
    have HB4 := Lib.hid (below_drN HB3.out q)
    have HV4 := Lib.hid (HV3.out.below (below_drN (Below.refl w3.heap.size w3) q) (Nat.le_refl _))
    clear HSM HV3
    go_wp2_with fail
    refine (HAL.out _ HB4.out).mono ?_
    rintro e w5 ⟨rfl, hb5⟩
    have HB5 := Lib.hid (HB4.out.trans (hb5.mono HB4.out.size))
    have HV5 := Lib.hid (HV4.out.below hb5 (Nat.le_refl _))
    clear hb5 HB4 HB3 HV4
    go_wp2_with fail
    refine (HRA.out _ HB5.out).mono ?_
    rintro e w6 ⟨rfl, hb6⟩
    have HB6 := Lib.hid (HB5.out.trans (hb6.mono HB5.out.size))
    have HV6 := Lib.hid (HV5.out.below hb6 (Nat.le_refl _))
    have t7 : (alikeS h g != alikeS h g) = false := by simp
    clear hb6 HB5 HV5
    go_wp2_with fail
    refine (aliveX_any _ (HK.out.later HB6.out (Nat.le_refl _))).mono ?_
    rintro e w7 ⟨rfl, hb7⟩
    have HB7 := Lib.hid (HB6.out.trans (hb7.mono HB6.out.size))
    have HSQ := Lib.hid (same_any _ _ (h.take kk) (h.take kk) w7 (HV6.out.below hb7 (Nat.le_refl _)) (HTK.out w7 HB7.out) (by have := HTL.out; omega) (by have := HTL.out; omega))
    rw [decide_eq_true rfl, HTL.out] at HSQ
    clear hb7 HB6 HV6
    go_wp2_with fail
    refine HSQ.out.mono ?_
    rintro e w8 ⟨rfl, q2, rfl⟩
    have HB8 := Lib.hid (below_drN HB7.out q2)
    go_wp2
    go_ret
    exact ⟨rfl, HB8.out⟩
theorem pcuts_any (a : Option Addr) (n c : Nat) (h : List Ev) (a2 : Option Addr) (n2 c2 : Nat) (g : List Ev) (k tx : Int) (w : World) (hK : HasK w) (hn : n ≤ c) (hn2 : n2 ≤ c2) (hz : a = none → c = 0) (hz2 : a2 = none → c2 = 0) (hv : Evs w (.slice a (min (n : Int) 65).toNat c) h) (hv2 : Evs w (.slice a2 (min (n2 : Int) 65).toNat c2) g) :
    Calls Tryd.prog 3 #[.slice a n c, .slice a2 n2 c2, .int .i64 k, .int .i64 tx] w fun e w' => e = .returned (.bool true) ∧ Below w.heap.size w w' := by
  obtain ⟨m, hm⟩ : ∃ m : Nat, min (n : Int) 65 = (m : Int) := ⟨(min (n : Int) 65).toNat, by omega⟩
  obtain ⟨m2, hm2⟩ : ∃ m : Nat, min (n2 : Int) 65 = (m : Int) := ⟨(min (n2 : Int) 65).toNat, by omega⟩
  rw [hm, Int.toNat_natCast] at hv
  rw [hm2, Int.toNat_natCast] at hv2
  exact pcuts_walk a n m c h a2 n2 m2 c2 g k tx w hK hn hn2 hz hz2 hm hm2 (by omega) (by omega) hv hv2 hv.length.symm hv2.length.symm (by omega) (by omega)
end Go.Proofs.YtnggadcoepieaaaDoor
