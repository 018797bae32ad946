/- The walk of BinaryPrints. -/
import Derived.Test.YtgebmjbfeakpgaaDoorBinI
import Derived.Test.YtgebmjbfeakpgaaDoorBinK
import Derived.Test.YtgebmjbfeakpgaaDoorBinL
import Derived.Test.YtgebmjbfeakpgaaDoorBinM
import Derived.Test.YtgebmjbfeakpgaaDoorTxtT
import Derived.Test.YtgebmjbfeakpgaaDoorVarS
import Derived.RegionTactic
namespace Go.Proofs.YtgebmjbfeakpgaaDoor
open Go.RowKit WPlain VPlain BPlain

theorem rd_cut {w : World} {a : Option Addr} {n c : Nat} {xs : List Value} (h : Rd w (.slice a n c) xs) (k : Nat) (hk : k ≤ n) : Rd w (.slice a k c) (xs.take k) := by
  rcases h with ⟨rfl, a', c', he⟩ | ⟨h0, b, o, c', he, hc⟩
  · simp only [Value.slice.injEq] at he
    obtain ⟨_, rfl, _⟩ := he
    exact .inl ⟨by simp, _, _, by rw [show k = 0 from by omega]⟩
  · simp only [Value.slice.injEq] at he
    obtain ⟨rfl, rfl, rfl⟩ := he
    by_cases hk0 : 0 < k
    · refine .inr ⟨by simp; omega, b, o, c, by simp; omega, fun i u hu => ?_⟩
      rw [List.getElem?_take] at hu
      split at hu
      · exact hc i u hu
      · cases hu
    · have : k = 0 := by omega
      subst this
      exact .inl ⟨by simp, _, _, rfl⟩
theorem printB_len {h : List Ev} (hr : right h = true) : (printB h).length ≤ 1300 := by
  obtain ⟨h60, hall, _⟩ := right_all hr
  rw [← upTo_all]; exact (upTo_len h hall h60 _).1
set_option maxRecDepth 100000 in
set_option maxHeartbeats 2000000 in
theorem prints_no (a1 a2 : Option Addr) (n1 m1 c1 n2 m2 c2 : Nat) (h : List Ev) (L : List Nat) (w : World) (hK : HasK w) (hn1 : n1 ≤ c1) (hn2 : n2 ≤ c2)
    (HAE : Hid ((min (n1 : Int) 65).toNat = m1)) (HBE : Hid ((min (n2 : Int) 900).toNat = m2)) (hv : Evs w (.slice a1 m1 c1) h) (hb : Rd w (.slice a2 m2 c2) (bs L)) (h1 : h.length = m1) (h2 : L.length = m2) (hm1 : m1 ≤ 65) (hm2 : m2 ≤ 900) (hby : ∀ x ∈ L, x < 256) (hr : right h = false) :
    Calls Tryd.prog 4 #[.slice a1 n1 c1, .slice a2 n2 c2] w fun e w' => e = .returned (.bool true) ∧ Below w.heap.size w w' := by
  have HK := Lib.hid hK
  have HV := Lib.hid hv
  have HBY := Lib.hid hb
  have HR := Lib.hid hr
  have HLE := Lib.hid h1
  have HLB := Lib.hid h2
  clear hK hv hb hr h1 h2
  go_enter Tryd.func4, Tryd.ntmps4
  go_wp2
  go_region
  go_wp2_with fail
  rw [HAE.out, HBE.out]
  refine (print_no _ h _ (HK.out.later (below_dr w) (Nat.le_refl _)) (HV.out.below (below_dr w) (Nat.le_refl _)) (by have := HLE.out; omega) HR.out).mono ?_
  rintro e w1 ⟨rfl, hb1⟩
  have HB1 := Lib.hid (below_stp hb1)
  clear hb1
  have hI := is_any a2 c2 L w1 (by rw [HLB.out]; exact HBY.out.below HB1.out (Nat.le_refl _)) hby (by have := HLB.out; omega)
  have hJ := refIs_any a2 c2 L w1 (by rw [HLB.out]; exact HBY.out.below HB1.out (Nat.le_refl _)) hby (by have := HLB.out; omega)
  rw [HLB.out] at hI hJ
  have HI := Lib.hid hI
  have HJ := Lib.hid hJ
  clear hI hJ
  go_wp2_with fail
  refine HI.out.mono ?_
  rintro e wz ⟨rfl, rfl⟩
  go_wp2_with fail
  refine HJ.out.mono ?_
  rintro e wz ⟨rfl, rfl⟩
  clear HI HJ
  generalize (!L.any noTxt) = z
  cases z
  all_goals
    go_wp2_with fail
    refine (alive_any _ (HK.out.later HB1.out (Nat.le_refl _))).mono ?_
    rintro e w2 ⟨rfl, hb2⟩
    have HB2 := Lib.hid (HB1.out.trans (hb2.mono HB1.out.size))
    clear hb2
    go_wp2_with fail
    refine (refRight_any _ h _ (HV.out.below HB2.out (Nat.le_refl _)) (by have := HLE.out; omega)).mono ?_
    rintro e w3 ⟨rfl, hb3⟩
    rw [HR.out]
    have HB3 := Lib.hid (HB2.out.trans (hb3.mono HB2.out.size))
    clear hb3
    go_wp2
    go_ret
    exact ⟨rfl, HB3.out⟩
set_option maxRecDepth 100000 in
set_option maxHeartbeats 2000000 in
theorem prints_yes (a1 a2 : Option Addr) (n1 m1 c1 n2 m2 c2 : Nat) (h : List Ev) (L : List Nat) (w : World) (hK : HasK w) (hn1 : n1 ≤ c1) (hn2 : n2 ≤ c2)
    (HAE : Hid ((min (n1 : Int) 65).toNat = m1)) (HBE : Hid ((min (n2 : Int) 900).toNat = m2)) (hv : Evs w (.slice a1 m1 c1) h) (hb : Rd w (.slice a2 m2 c2) (bs L)) (h1 : h.length = m1) (h2 : L.length = m2) (hm1 : m1 ≤ 65) (hm2 : m2 ≤ 900) (hby : ∀ x ∈ L, x < 256) (hr : right h = true) :
    Calls Tryd.prog 4 #[.slice a1 n1 c1, .slice a2 n2 c2] w fun e w' => e = .returned (.bool true) ∧ Below w.heap.size w w' := by
  have HK := Lib.hid hK
  have HV := Lib.hid hv
  have HBY := Lib.hid hb
  have HR := Lib.hid hr
  have HLE := Lib.hid h1
  have HLB := Lib.hid h2
  have HPL := Lib.hid (printB_len hr)
  clear hK hv hb hr h1 h2
  go_enter Tryd.func4, Tryd.ntmps4
  go_wp2
  go_region
  go_wp2_with fail
  rw [HAE.out, HBE.out]
  refine (print_yes _ h _ (HK.out.later (below_dr w) (Nat.le_refl _)) (HV.out.below (below_dr w) (Nat.le_refl _)) HR.out).mono ?_
  rintro e w1 ⟨z, rfl, hz, hb1⟩
  have HB1 := Lib.hid (below_stp hb1)
  have HZ1 := Lib.hid (Rd.of_row hz)
  obtain ⟨az, cz, rfl⟩ := row_slice hz
  clear hb1 hz
  have hI := is_any a2 c2 L w1 (by rw [HLB.out]; exact HBY.out.below HB1.out (Nat.le_refl _)) hby (by have := HLB.out; omega)
  have hJ := refIs_any a2 c2 L w1 (by rw [HLB.out]; exact HBY.out.below HB1.out (Nat.le_refl _)) hby (by have := HLB.out; omega)
  rw [HLB.out] at hI hJ
  have HI := Lib.hid hI
  have HJ := Lib.hid hJ
  clear hI hJ
  go_wp2_with fail
  refine HI.out.mono ?_
  rintro e wz ⟨rfl, rfl⟩
  go_wp2_with fail
  refine HJ.out.mono ?_
  rintro e wz ⟨rfl, rfl⟩
  clear HI HJ
  generalize (!L.any noTxt) = zz
  cases zz
  all_goals
    go_wp2_with fail
    refine (alive_any _ (HK.out.later HB1.out (Nat.le_refl _))).mono ?_
    rintro e w2 ⟨rfl, hb2⟩
    have HB2 := Lib.hid (HB1.out.trans (hb2.mono HB1.out.size))
    have HZ2 := Lib.hid (HZ1.out.below hb2 (Nat.le_refl _))
    clear hb2
    go_wp2_with fail
    refine (refRight_any _ h _ (HV.out.below HB2.out (Nat.le_refl _)) (by have := HLE.out; omega)).mono ?_
    rintro e w3 ⟨rfl, hb3⟩
    rw [HR.out]
    have HB3 := Lib.hid (HB2.out.trans (hb3.mono HB2.out.size))
    have HZ3 := Lib.hid (HZ2.out.below hb3 (Nat.le_refl _))
    clear hb3
    go_wp2_with fail
    refine (refPrint_any _ h _ (HV.out.below HB3.out (Nat.le_refl _)) HR.out).mono ?_
    rintro e w4 ⟨y, rfl, hy, hb4⟩
    have HB4 := Lib.hid (HB3.out.trans (hb4.mono HB3.out.size))
    have HZ4 := Lib.hid (HZ3.out.below hb4 (Nat.le_refl _))
    have HY4 := Lib.hid (Rd.of_row hy)
    obtain ⟨ay, cy, rfl⟩ := row_slice hy
    clear hb4 hy
    go_wp2_with fail
    refine (sameB_any _ _ (printB h) (printB h) _ HZ4.out HY4.out (by have := HPL.out; omega) (by have := HPL.out; omega)).mono ?_
    rintro e w5 ⟨rfl, nd, rfl⟩
    rw [decide_eq_true rfl]
    go_wp2
    go_ret
    exact ⟨rfl, below_drewN HB4.out nd⟩
theorem prints_any (a1 a2 : Option Addr) (n1 c1 c2 : Nat) (h : List Ev) (L : List Nat) (w : World) (hK : HasK w) (hn1 : n1 ≤ c1) (hn2 : L.length ≤ c2)
    (hv : Evs w (.slice a1 (min (n1 : Int) 65).toNat c1) h) (hb : Rd w (.slice a2 L.length c2) (bs L)) (hby : ∀ x ∈ L, x < 256) :
    Calls Tryd.prog 4 #[.slice a1 n1 c1, .slice a2 L.length c2] w fun e w' => e = .returned (.bool true) ∧ Below w.heap.size w w' := by
  obtain ⟨m1, e1⟩ : ∃ m1, (min (n1 : Int) 65).toNat = m1 := ⟨_, rfl⟩
  obtain ⟨m2, e2⟩ : ∃ m2, (min (L.length : Int) 900).toNat = m2 := ⟨_, rfl⟩
  rw [e1] at hv
  have hlen : h.length = m1 := by
    obtain ⟨a', c', he⟩ := hv.len
    simp only [Value.slice.injEq] at he
    exact he.2.1.symm
  have k2 : m2 ≤ L.length := by omega
  have r2 := rd_cut hb m2 k2
  rw [show (bs L).take m2 = bs (L.take m2) from by simp [bs, List.map_take]] at r2
  have t2 : (L.take m2).length = m2 := by rw [List.length_take]; omega
  have u2 : ∀ z ∈ L.take m2, z < 256 := fun z hz => hby z (List.mem_of_mem_take hz)
  cases hr : right h with
  | true => exact prints_yes a1 a2 n1 m1 c1 L.length m2 c2 h (L.take m2) w hK hn1 hn2 e1 e2 hv r2 hlen t2 (by omega) (by omega) u2 hr
  | false => exact prints_no a1 a2 n1 m1 c1 L.length m2 c2 h (L.take m2) w hK hn1 hn2 e1 e2 hv r2 hlen t2 (by omega) (by omega) u2 hr
end Go.Proofs.YtgebmjbfeakpgaaDoor
