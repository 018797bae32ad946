/- The walk of BinaryReads. -/
import Derived.Test.YtgdijlmfpboecaaDoorBinAA
import Derived.Test.YtgdijlmfpboecaaDoorBinI
import Derived.Test.YtgdijlmfpboecaaDoorBinP
import Derived.RegionTactic
import Derived.WalkLawsBesides
namespace Go.Proofs.YtgdijlmfpboecaaDoor.WPlain
end Go.Proofs.YtgdijlmfpboecaaDoor.WPlain
namespace Go.Proofs.YtgdijlmfpboecaaDoor.VPlain
end Go.Proofs.YtgdijlmfpboecaaDoor.VPlain
namespace Go.Proofs.YtgdijlmfpboecaaDoor
open Go.RowKit WPlain VPlain BPlain

theorem rd_cutY {w : World} {a : Option Addr} {n c : Nat} {xs : List Value} (h : Rd w (.slice a n c) xs) (k : Nat) (hk : k ≤ n) : Rd w (.slice a k c) (xs.take k) := by
  rcases h with ⟨rfl, a', c', he⟩ | ⟨h0, b, o, c', he, hc⟩
  · simp only [Value.slice.injEq] at he
    obtain ⟨_, rfl, _⟩ := he
    exact .inl ⟨by simp, _, _, by rw [show k = 0 from by omega]⟩
  · simp only [Value.slice.injEq] at he
    obtain ⟨rfl, rfl, rfl⟩ := he
    by_cases hk0 : 0 < k
    · refine .inr ⟨by simp; omega, b, o, c, by simp; omega, fun i u hu => ?_⟩
      rw [List.getElem?_take] at hu
      split at hu
      · exact hc i u hu
      · cases hu
    · have : k = 0 := by omega
      subst this
      exact .inl ⟨by simp, _, _, rfl⟩
set_option maxRecDepth 100000 in
set_option maxHeartbeats 2000000 in
theorem breads_walk (a : Option Addr) (n m c : Nat) (L : List Nat) (H : List Ev) (p q : Nat) (w : World) (HK : Hid (HasK w)) (hn : n ≤ c) (hcap : c ≤ 9223372036854775807) (hnone : a = none → c = 0)
    (HAE : Hid ((min (n : Int) 900).toNat = m)) (HV : Hid (Rd w (.slice a m c) (bs L))) (HL : Hid (L.length = m)) (hm : m ≤ 900) (hmn : m ≤ n) (hby : ∀ x ∈ L, x < 256) (HP : Hid (parseB L = (H, p, q))) (hH : H.length ≤ 60) :
    Calls Tryd.prog 3 #[.slice a n c] w fun e w' => e = .returned (.bool true) ∧ Below w.heap.size w w' := by
  have HPA : Hid (∀ W, Below w.heap.size w W → Calls Tryd.prog 4 #[.slice a m c] W (Told (H, p, q) W)) := by
    intro W hW
    have := parseB_any a c L W (by rw [HL.out]; exact HV.out.below hW (Nat.le_refl _)) (by rw [HL.out]; omega) hcap (by rw [HL.out]; omega) hby hnone (HK.out.later hW (Nat.le_refl _))
    rw [HP.out, HL.out] at this
    exact this
  have HQA : Hid (∀ W, Below w.heap.size w W → Calls Tryd.prog 5 #[.slice a m c] W fun e w' => ∃ v, e = .returned (.agg #[v, .int .i64 (p : Int), .int .i64 (q : Int)]) ∧ Evs w' v H ∧ Below W.heap.size W w') := by
    intro W hW
    have := refParseB_any a c L W (Bin.of_rd (by rw [HL.out]; exact HV.out.below hW (Nat.le_refl _)) (by rw [HL.out]; omega) hcap (by rw [HL.out]; omega) hby hnone (Nat.le_refl _))
    rw [HP.out, HL.out] at this
    exact this
  go_enter Tryd.func3, Tryd.ntmps3
  go_wp2_with fail
  rw [HAE.out]
  refine (HPA.out _ (Below.refl _ _)).mono ?_
  rintro e w1 ⟨v1, rfl, hv1, -, -, hb1⟩
  have HB1 := Lib.hid hb1
  have HV1 := Lib.hid hv1
  clear hv1 hb1
  go_wp2_with fail
  refine (HQA.out _ HB1.out).mono ?_
  rintro e w2 ⟨v2, rfl, hv2, hb2⟩
  have HB2 := Lib.hid (HB1.out.trans (hb2.mono HB1.out.size))
  have HV3 := Lib.hid (HV1.out.below hb2 (Nat.le_refl _))
  have HV2 := Lib.hid hv2
  clear hb2 hv2 HV1 HB1
  obtain ⟨a2, c2, rfl⟩ := HV2.out.len
  go_wp2_with fail
  have hM := At.new w2 #[.slice a2 H.length c2, .int .i64 (p : Int), .int .i64 (q : Int)] 28
  have hbA := (Below.refl w2.heap.size w2).alloc (Nat.le_refl _) (.cells #[.slice a2 H.length c2, .int .i64 (p : Int), .int .i64 (q : Int)] 28)
  have HB3 := Lib.hid (HB2.out.trans (hbA.mono HB2.out.size))
  refine (alive_any _ (HK.out.later HB3.out (Nat.le_refl _))).mono ?_
  rintro e w4 ⟨rfl, hb4⟩
  have HB4 := Lib.hid (HB3.out.trans (hb4.mono HB3.out.size))
  have HV4 := Lib.hid ((HV3.out.below hbA (Nat.le_refl _)).below hb4 (Nat.le_refl _))
  have HV5 := Lib.hid ((HV2.out.below hbA (Nat.le_refl _)).below hb4 (Nat.le_refl _))
  have hM4 := hM.below hb4 hM.lt
  have m0 := hM4.cell (i := 0) (v := .slice a2 H.length c2) rfl
  have m1 := hM4.cell (i := 1) (v := .int .i64 (p : Int)) rfl
  have m2 := hM4.cell (i := 2) (v := .int .i64 (q : Int)) rfl
  clear hM hbA hb4 hM4 HB2 HB3 HV2 HV3
  go_wp2_with fail
  refine (same_any _ _ _ _ _ HV4.out HV5.out (by omega) (by omega)).mono ?_
  rintro e w10 ⟨rfl, nd, rfl⟩
  go_wp2
  go_ret
  exact ⟨ret_bool (by simp), below_drewN HB4.out nd⟩
theorem breads_any (a : Option Addr) (n c : Nat) (F : List Nat) (w : World) (hK : HasK w) (hn : n ≤ c) (hcap : c ≤ 9223372036854775807) (hnone : a = none → c = 0)
    (hF : Rd w (.slice a n c) (bs F)) (hlen : F.length = n) (hby : ∀ x ∈ F, x < 256) :
    Calls Tryd.prog 3 #[.slice a n c] w fun e w' => e = .returned (.bool true) ∧ Below w.heap.size w w' := by
  obtain ⟨m, hm⟩ : ∃ m, (min (n : Int) 900).toNat = m := ⟨_, rfl⟩
  have hm1 : m ≤ 900 := by omega
  have hm2 : m ≤ n := by omega
  have hv := rd_cutY hF m hm2
  have hbt : (bs F).take m = bs (F.take m) := by simp [bs]
  rw [hbt] at hv
  have hbl : ∀ x ∈ F.take m, x < 256 := fun x hx => hby x (List.mem_of_mem_take hx)
  have h60 : (parseB (F.take m)).1.length ≤ 60 := by
    by_cases he : (parseB (F.take m)).2.2 = 0
    · exact ((right_iff _).1 (parseB_ok hbl he).1).1
    · have : (parseB (F.take m)).1 = [] := by
        unfold parseB at he ⊢
        split
        · rfl
        · rename_i h1
          rw [if_neg h1] at he
          exact absurd rfl he
      rw [this]
      exact Nat.zero_le _
  exact breads_walk a n m c (F.take m) (parseB (F.take m)).1 (parseB (F.take m)).2.1 (parseB (F.take m)).2.2 w hK hn hcap hnone hm hv (by unfold Hid; rw [List.length_take]; omega) hm1 hm2 hbl rfl h60
end Go.Proofs.YtgdijlmfpboecaaDoor
