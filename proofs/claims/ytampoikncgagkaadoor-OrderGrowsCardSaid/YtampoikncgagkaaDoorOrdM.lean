/- The walk of OrderGrows. -/
import Derived.Test.YtampoikncgagkaaDoorOrdL
namespace Go.Proofs.YtampoikncgagkaaDoor.WPlain
end Go.Proofs.YtampoikncgagkaaDoor.WPlain
namespace Go.Proofs.YtampoikncgagkaaDoor.QPlain
end Go.Proofs.YtampoikncgagkaaDoor.QPlain
namespace Go.Proofs.YtampoikncgagkaaDoor.RPlain
end Go.Proofs.YtampoikncgagkaaDoor.RPlain
namespace Go.Proofs.YtampoikncgagkaaDoor.RPlain
open WPlain QPlain

theorem and_mask (x m : Nat) : x &&& (2 ^ m - 1) = x % 2 ^ m := Nat.and_two_pow_sub_one_eq_mod x m
end Go.Proofs.YtampoikncgagkaaDoor.RPlain
namespace Go.Proofs.YtampoikncgagkaaDoor
open Go.RowKit WPlain QPlain RPlain

set_option maxRecDepth 100000 in
set_option maxHeartbeats 4000000 in
theorem growsO_walk (a : Option Addr) (n m c : Nat) (h : List Ev) (k : Int) (K : Nat) (w : World) (hK : HasK w) (hn : n ≤ c) (HAE : Hid ((min (n : Int) 65).toNat = m)) (hmn : m ≤ n) (hv : Evs w (.slice a m c) h) (h1 : h.length = m) (hm1 : m ≤ 65)
    (HKE : Hid ((wrap64 (wrap64 (k.tmod ((m : Int) + 1) + (m : Int)) + 1)).tmod ((m : Int) + 1) = (K : Int))) (hKm : K ≤ m) :
    Calls Tryd.prog 5 #[.slice a n c, .int .i64 k] w fun e w' => e = .returned (.bool true) ∧ Below w.heap.size w w' := by
  have HK := Lib.hid hK
  have HT := Lib.hid (after_any _ h w hK hv (by omega))
  have s1 : IntKind.i64.wrap ((m : Int) + 1) = ((m + 1 : Nat) : Int) := by rw [IntWalk.i64_in _ (by omega)]; omega
  have hm0 : ((m : Int) + 1 == 0) = false := by simp; omega
  have hm2 : (((m + 1 : Nat) : Int) == 0) = false := by simp; omega
  have hm3 : ¬ (((m + 1 : Nat) : Int) = 0) := by omega
  have hK0 : (0 : Int) ≤ (K : Int) := by omega
  have hKc : (K : Int) ≤ (c : Int) := by omega
  have HCK : Hid (Evs w (.slice a K c) (h.take K)) := evs_cutP hv K (by omega)
  clear hK hv
  by_cases h0 : (checkS h).2 = 0
  · have hck := check_cut h0 K (by omega)
    have HTK : Hid (∀ W, Below w.heap.size w W → Calls Tryd.prog 6 #[.slice a K c] W fun e w' => ∃ v', e = .returned (.tuple #[v', .int .i64 0]) ∧ Rd w' v' (u32s (afterS (tableS (h.take K)))) ∧ Below W.heap.size W w') := fun W hW => by
      have h2 := after_any _ (h.take K) W (HK.out.later hW (Nat.le_refl _)) (HCK.out.below hW (Nat.le_refl _)) (by rw [List.length_take]; omega)
      rw [hck, if_pos rfl] at h2
      exact h2
    rw [h0, if_pos rfl] at HT
    have hsix := table_six h0
    have hsix2 := table_six hck
    have hle : (tableS (h.take K)).length ≤ (tableS h).length := by rw [tableS_len, tableS_len]; exact (names_cut h K).1
    have HCUT : Hid (∀ i (hi : i < (afterS (tableS (h.take K))).length) (hi2 : i < (afterS (tableS h)).length), (afterS (tableS h))[i] &&& (2 ^ (tableS (h.take K)).length - 1) = (afterS (tableS (h.take K)))[i]) := fun i hi hi2 => by
      rw [and_mask]
      simp only [afterS, List.getElem_map]
      exact afterN_cut h0 (by omega) (by simpa [afterS] using hi) (by simpa [afterS] using hi2)
    have HLT : Hid (∀ x ∈ afterS (tableS h), x < 4294967296) := fun x hx => by
      obtain ⟨X, _, rfl⟩ := List.mem_map.1 hx
      exact pow_32 hsix (afterN_lt _ _)
    have hl1 := afterS_len (tableS h)
    have hl2 := afterS_len (tableS (h.take K))
    generalize afterS (tableS h) = L at *
    generalize afterS (tableS (h.take K)) = L2 at *
    generalize (tableS h).length = ln at *
    generalize (tableS (h.take K)).length = lm at *
    subst hl1 hl2
    clear h0 hck HCK
    go_enter Tryd.func5, Tryd.ntmps5
    go_upto_region 2 with fail
    rw [HAE.out]
    go_upto_region 3 with fail
    rw [HKE.out]
    clear hm0 hm2 hm3 s1
    go_wp2_with fail
    refine HT.out.mono ?_
    rintro e w1 ⟨v1, rfl, hv1, hb1⟩
    have HB1 := Lib.hid hb1
    have HV1 := Lib.hid hv1
    obtain ⟨a1, c1, rfl⟩ := hv1.len
    clear hv1 hb1 HT
    go_wp2_with fail
    refine (HTK.out _ HB1.out).mono ?_
    rintro e w2 ⟨v2, rfl, hv2, hb2⟩
    have HB2 := Lib.hid (HB1.out.trans (hb2.mono HB1.out.size))
    have HV2 := Lib.hid (HV1.out.below hb2 (Nat.le_refl _))
    have HW2 := Lib.hid hv2
    obtain ⟨a2, c2, rfl⟩ := hv2.len
    have hu1 : (u32s L).length = L.length := by simp [u32s]
    have hu2 : (u32s L2).length = L2.length := by simp [u32s]
    rw [hu1] at HV2 ⊢
    rw [hu2] at HW2 ⊢
    have tgl : decide ((L.length : Int) < (L2.length : Int)) = false := by simp; omega
    have tgl2 : ¬ ((L.length : Int) < (L2.length : Int)) := by omega
    clear hv2 hb2 HB1 HV1 HTK
    go_wp2_with fail
    refine (aliveO_any _ (HK.out.later HB2.out (Nat.le_refl _))).mono ?_
    rintro e w3 ⟨rfl, hb3⟩
    have HB3 := Lib.hid (HB2.out.trans (hb3.mono HB2.out.size))
    have HV3 := Lib.hid (HV2.out.below hb3 (Nat.le_refl _))
    have HW3 := Lib.hid (HW2.out.below hb3 (Nat.le_refl _))
    clear hb3 HB2 HV2 HW2 tgl tgl2
    go_wp2_with fail
    go_loopw [64] (fun x wr => ∃ i : Nat, i ≤ L2.length ∧ x = .int .i64 i ∧ ∃ z, wr = w3.drewN z) (fun x _ => L2.length - (intOf x).toNat)
    case atStart => exact ⟨0, by omega, rfl, 0, rfl⟩
    case round =>
      obtain ⟨i, hi, rfl, z, rfl⟩ := hrel
      by_cases hlt : i < L2.length
      · have hlt2 : i < L.length := by omega
        have hcut := HCUT.out i hlt hlt2
        obtain ⟨b, o, c', he, hbl, hcs⟩ := HV3.out.opened (by omega)
        simp only [Value.slice.injEq] at he
        obtain ⟨rfl, -, rfl⟩ := he
        obtain ⟨b2, o2, c2', he2, hbl2, hcs2⟩ := HW3.out.opened (by omega)
        simp only [Value.slice.injEq] at he2
        obtain ⟨rfl, -, rfl⟩ := he2
        have y1 : (w3.drewN z).cell? ⟨b, o + i, none⟩ = some (.int .u32 (L[i] : Nat)) := hcs i _ (by unfold u32s; rw [List.getElem?_map, List.getElem?_eq_getElem hlt2]; rfl)
        have y2 : (w3.drewN z).cell? ⟨b2, o2 + i, none⟩ = some (.int .u32 (L2[i] : Nat)) := hcs2 i _ (by unfold u32s; rw [List.getElem?_map, List.getElem?_eq_getElem hlt]; rfl)
        have hlx := HLT.out L[i] (List.getElem_mem hlt2)
        have hpl : 2 ^ L2.length ≤ 64 := Nat.pow_le_pow_right (n := 2) (i := L2.length) (j := 6) (by decide) hsix2
        have hpp := Nat.two_pow_pos L2.length
        have hand := u32_and_nat L[i] (2 ^ L2.length - 1) hlx (by omega)
        rw [hcut] at hand
        have hsh := pow_u32 (k := L2.length) (by omega)
        have hcp : ((2 ^ L2.length : Nat) : Int) = (2 : Int) ^ L2.length := by simp
        have hmk : ((2 : Int) ^ L2.length - 1) % 4294967296 = ((2 ^ L2.length - 1 : Nat) : Int) := by
          rw [← hcp]
          generalize 2 ^ L2.length = g at *
          omega
        rw [← hmk] at hand
        clear hcp hmk
        obtain ⟨wz, hwz⟩ : ∃ wz, w3.drewN z = wz := ⟨_, rfl⟩
        rw [hwz] at y1 y2 ⊢
        have HWZ := Lib.hid hwz
        clear hwz hcs hcs2 hcut HCUT HLT
        generalize L[i] = x at *
        generalize L2[i] = y at *
        go_wp2_with fail
        go_quiet (fail)
        go_wp2
        refine ⟨⟨i + 1, by omega, by simp, z + nq, by rw [← HWZ.out, World.drewN_drewN]⟩, by simp [intOf]; omega⟩
      · obtain rfl : i = L2.length := by omega
        go_wp2
        go_ret
        exact ⟨rfl, below_drN HB3.out _⟩
  · rw [if_neg h0] at HT
    have h9 : ((checkS h).2 == 0) = false := by simp [h0]
    go_enter Tryd.func5, Tryd.ntmps5
    go_upto_region 2 with fail
    rw [HAE.out]
    go_upto_region 3 with fail
    rw [HKE.out]
    clear hm0 hm2 hm3 s1
    go_wp2_with fail
    refine HT.out.mono ?_
    rintro e w1 ⟨v1, rfl, hv1, hb1⟩
    have HB1 := Lib.hid hb1
    obtain ⟨a1, c1, rfl⟩ := hv1.len
    have tel : (((checkS h).2 : Nat) : Int) ≠ 0 := by omega
    generalize (checkS h).2 = er at *
    clear hv1 hb1 HT
    go_wp2_with fail
    refine (aliveO_any _ (HK.out.later HB1.out (Nat.le_refl _))).mono ?_
    rintro e w3 ⟨rfl, hb3⟩
    have HB3 := Lib.hid (HB1.out.trans (hb3.mono HB1.out.size))
    go_wp2
    go_ret
    exact ⟨rfl, HB3.out⟩
theorem growsO_any (a : Option Addr) (n c : Nat) (h : List Ev) (k : Int) (w : World) (hK : HasK w) (hn : n ≤ c) (hv : Evs w (.slice a (min (n : Int) 65).toNat c) h) :
    Calls Tryd.prog 5 #[.slice a n c, .int .i64 k] w fun e w' => e = .returned (.bool true) ∧ Below w.heap.size w w' := by
  obtain ⟨m, hm⟩ : ∃ m, (min (n : Int) 65).toNat = m := ⟨_, rfl⟩
  rw [hm] at hv
  have hlen : h.length = m := hv.length.symm
  have hp1 : k.tmod ((m : Int) + 1) < (m : Int) + 1 := Int.tmod_lt_of_pos _ (by omega)
  have hp2 : -((m : Int) + 1) < k.tmod ((m : Int) + 1) := Int.lt_tmod_of_pos _ (by omega)
  obtain ⟨K, hK1, hK2⟩ : ∃ K : Nat, (wrap64 (wrap64 (k.tmod ((m : Int) + 1) + (m : Int)) + 1)).tmod ((m : Int) + 1) = (K : Int) ∧ K ≤ m := by
    generalize k.tmod ((m : Int) + 1) = p at *
    rw [IntWalk.wrap64_in (p + m) (by omega), IntWalk.wrap64_in (p + m + 1) (by omega)]
    obtain ⟨q, hq⟩ : ∃ q : Nat, p + m + 1 = (q : Int) := ⟨(p + m + 1).toNat, by omega⟩
    refine ⟨q % (m + 1), ?_, ?_⟩
    · rw [hq]
      exact (Int.ofNat_tmod q (m + 1)).symm
    · have := Nat.mod_lt q (show 0 < m + 1 by omega)
      omega
  exact growsO_walk a n m c h k K w hK hn hm (by omega) hv hlen (by omega) hK1 hK2
end Go.Proofs.YtampoikncgagkaaDoor
