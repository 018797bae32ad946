/- The walk of UniqueGrows. -/
import Derived.Test.YtkliahdgciajjaaDoorMg14
import Derived.Test.YtkliahdgciajjaaDoorUnqH
import Derived.Test.YtkliahdgciajjaaDoorMg11
namespace Go.Proofs.YtkliahdgciajjaaDoor.WPlain
end Go.Proofs.YtkliahdgciajjaaDoor.WPlain
namespace Go.Proofs.YtkliahdgciajjaaDoor.QPlain
end Go.Proofs.YtkliahdgciajjaaDoor.QPlain
namespace Go.Proofs.YtkliahdgciajjaaDoor.RPlain
end Go.Proofs.YtkliahdgciajjaaDoor.RPlain
namespace Go.Proofs.YtkliahdgciajjaaDoor.RPlain
open WPlain QPlain

/-- what of sources stays -/
def Stays (t : Nat) (a b : List Int) : Prop := a.length ≤ b.length ∧ ∀ (i : Nat) (hi : i < a.length) (hi' : i < b.length), a[i] = b[i] ∨ (a[i] = -2 ∧ 0 ≤ b[i] ∧ b[i] ≠ (t : Int))
theorem sources_upto {m l : List Tx} (h : Uniq l) (hu : Upto m l) : (sourcesS m).length ≤ (sourcesS l).length ∧ ∀ (t : Nat) (ht : t < (sourcesS m).length) (ht' : t < (sourcesS l).length), Stays t (sourcesS m)[t] (sourcesS l)[t] := by
  have hat : ∀ (q : List Tx) (t : Nat) (ht : t < (sourcesS q).length), (sourcesS q)[t] = (List.range (opsAt q t).length).map (srcS q t) := fun q t ht => by
    have htl : t < q.length := by rw [sources_len] at ht; exact ht
    have h1 : (sourcesS q)[t]? = some ((List.range (opsAt q t).length).map (srcS q t)) := by
      unfold sourcesS
      rw [List.getElem?_map, List.getElem?_range htl]
      rfl
    rw [List.getElem?_eq_getElem ht, Option.some.injEq] at h1
    exact h1
  refine ⟨by rw [sources_len, sources_len]; exact hu.len, fun t ht ht' => ?_⟩
  have htm : t < m.length := by rw [sources_len] at ht; exact ht
  rw [hat m t ht, hat l t ht']
  refine ⟨by simp only [List.length_map, List.length_range]; exact (hu.ops t htm).length_le, fun i hi hi' => ?_⟩
  simp only [List.length_map, List.length_range] at hi
  simp only [List.getElem_map, List.getElem_range]
  exact src_upto h hu htm hi
end Go.Proofs.YtkliahdgciajjaaDoor.RPlain
namespace Go.Proofs.YtkliahdgciajjaaDoor
open Go.RowKit WPlain QPlain RPlain

set_option maxRecDepth 100000 in
set_option maxHeartbeats 8000000 in
theorem ugrows_walk (a : Option Addr) (n m c : Nat) (h : List Ev) (k : Int) (K : Nat) (w : World) (hK : HasK w) (hn : n ≤ c) (HAE : Hid ((min (n : Int) 65).toNat = m)) (hmn : m ≤ n) (hv : Evs w (.slice a m c) h) (h1 : h.length = m) (hm1 : m ≤ 65)
    (HKE : Hid ((wrap64 (wrap64 (k.tmod ((m : Int) + 1) + (m : Int)) + 1)).tmod ((m : Int) + 1) = (K : Int))) (hKm : K ≤ m) :
    Calls Tryd.prog 4 #[.slice a n c, .int .i64 k] w fun e w' => e = .returned (.bool true) ∧ Below w.heap.size w w' := by
  have HK := Lib.hid hK
  have HS := Lib.hid (sourcesU_any _ h w hK hv (by omega))
  have HAL := Lib.hid (fun (W : World) (hW : Below w.heap.size w W) => aliveU_any W (hK.later hW (Nat.le_refl _)))
  have s1 : IntKind.i64.wrap ((m : Int) + 1) = ((m + 1 : Nat) : Int) := by rw [IntWalk.i64_in _ (by omega)]; omega
  have hm0 : ((m : Int) + 1 == 0) = false := by simp; omega
  have hm2 : (((m + 1 : Nat) : Int) == 0) = false := by simp; omega
  have hm3 : ¬ (((m + 1 : Nat) : Int) = 0) := by omega
  have hK0 : (0 : Int) ≤ (K : Int) := by omega
  have hKc : (K : Int) ≤ (c : Int) := by omega
  have hcut : Evs w (.slice a K c) (h.take K) := evs_cutP hv K (by omega)
  have HCK := Lib.hid (fun (W : World) (hW : Below w.heap.size w W) => sourcesU_any _ (h.take K) W (hK.later hW (Nat.le_refl _)) (hcut.below hW (Nat.le_refl _)) (by rw [List.length_take]; omega))
  clear hK hv hcut
  by_cases h0 : errU h = 0
  · obtain ⟨hc0, hu0⟩ := errU_zero h0
    have hU := unique_iff.1 hu0
    have hup := upto_table h K
    have hck := check_cut hc0 K (by omega)
    have hcu : uniqueS (tableS (h.take K)) = true := unique_iff.2 (hU.upto hup)
    have hce : errU (h.take K) = 0 := by unfold errU; rw [if_pos hck, if_pos hcu]
    have HFM := Lib.hid (sources_rows (fine_table hck))
    have HFL := Lib.hid (sources_rows (fine_table hc0))
    have h6 : (sourcesS (tableS h)).length ≤ 6 := by rw [sources_len]; exact (fine_table hc0).six
    obtain ⟨hle, hst⟩ := sources_upto hU hup
    have HST := Lib.hid hst
    rw [h0, if_pos rfl] at HS
    rw [hce] at HCK
    simp only [if_true] at HCK
    clear h0 hc0 hu0 hU hup hck hcu hce hst
    generalize sourcesS (tableS (h.take K)) = M at *
    generalize sourcesS (tableS h) = L at *
    go_enter Tryd.func4, Tryd.ntmps4
    go_upto_region 2 with fail
    rw [HAE.out]
    go_upto_region 3 with fail
    rw [HKE.out]
    clear hm0 hm2 hm3 s1
    go_wp2_with fail
    refine HS.out.mono ?_
    rintro e w1 ⟨v1, rfl, hv1, hb1⟩
    have HB1 := Lib.hid hb1
    have HL1 := Lib.hid hv1
    obtain ⟨a1, c1, rfl⟩ := hv1.len
    clear hv1 hb1 HS
    go_wp2_with fail
    refine (HCK.out _ HB1.out).mono ?_
    rintro e w2 ⟨v2, rfl, hv2, hb2⟩
    have HB2 := Lib.hid (HB1.out.trans (hb2.mono HB1.out.size))
    have HL2 := Lib.hid (HL1.out.below hb2)
    have HM2 := Lib.hid hv2
    obtain ⟨a2, c2, rfl⟩ := hv2.len
    clear hv2 hb2 HB1 HL1 HCK
    go_wp2_with fail
    refine (HAL.out _ HB2.out).mono ?_
    rintro e w3 ⟨rfl, hb3⟩
    have HB3 := Lib.hid (HB2.out.trans (hb3.mono HB2.out.size))
    have HL3 := Lib.hid (HL2.out.below hb3)
    have HM3 := Lib.hid (HM2.out.below hb3)
    have HB4 := Lib.hid (Below.refl w3.heap.size w3)
    clear hb3 HB2 HL2 HM2
    go_wp2_with fail
    go_loopw [66] (fun x wr => ∃ t : Nat, t ≤ M.length ∧ x = .int .i64 t ∧ Hid (Below w3.heap.size w3 wr)) (fun x _ => M.length - (intOf x).toNat)
    case atStart => exact ⟨0, by omega, rfl, HB4⟩
    case round =>
      clear HB4
      obtain ⟨t, htm, rfl, HBt⟩ := hrel
      by_cases hlt : t < M.length
      · have hlt' : t < L.length := by omega
        obtain ⟨b1, o1, ra, rc, rfl, hb1, hc1, hr1⟩ := (HM3.out.below HBt.out).get t hlt
        obtain ⟨b2, o2, sa, sc, rfl, hb2, hc2, hr2⟩ := (HL3.out.below HBt.out).get t hlt'
        obtain ⟨hle1, hst1⟩ := HST.out t hlt hlt'
        have hm60 := HFM.out _ (List.getElem_mem hlt)
        have hl60 := HFL.out _ (List.getElem_mem hlt')
        have HM5 := Lib.hid hr1
        have HL5 := Lib.hid hr2
        have HST1 := Lib.hid hst1
        clear hr1 hr2 hst1
        generalize M[t] = A at *
        generalize L[t] = C at *
        have hAl : (ints A).length = A.length := by simp [ints]
        have hCl : (ints C).length = C.length := by simp [ints]
        have HCC : Hid (∀ W, Below wr.heap.size wr W → W.cell? ⟨b2, o2 + t, none⟩ = some (.slice sa C.length sc)) := fun W hW => (hW.cell (p := ⟨b2, o2 + t, none⟩) hb2).trans hc2
        have HB6 := Lib.hid (Below.refl wr.heap.size wr)
        go_wp2_with fail
        clear hc1 hc2
        go_loopw [81] (fun x wr' => ∃ i : Nat, i ≤ A.length ∧ x = .int .i64 i ∧ Hid (Below wr.heap.size wr wr')) (fun x _ => A.length - (intOf x).toNat)
        case atStart => exact ⟨0, by omega, rfl, HB6⟩
        case round =>
          clear HB6
          obtain ⟨i, hil, rfl, HBi⟩ := hrel
          by_cases hlti : i < A.length
          · have hlti' : i < C.length := by omega
            have hcc := HCC.out _ HBi.out
            obtain ⟨rb, ro, rcc, hre, hrb, hrc⟩ := (HM5.out.below HBi.out (Nat.le_refl _)).opened (by rw [hAl]; omega)
            obtain ⟨sb, so, scc, hse, hsb, hsc⟩ := (HL5.out.below HBi.out (Nat.le_refl _)).opened (by rw [hCl]; omega)
            simp only [Value.slice.injEq] at hre hse
            obtain ⟨rfl, -, -⟩ := hre
            obtain ⟨rfl, -, -⟩ := hse
            have g1 := hrc i (.int .i64 A[i]) (by simp [ints, hlti])
            have g2 := hsc i (.int .i64 C[i]) (by simp [ints, hlti'])
            have hcase := HST1.out i hlti hlti'
            clear hrc hsc
            generalize A[i] = x at *
            generalize C[i] = y at *
            rcases hcase with rfl | ⟨rfl, hy0, hyt⟩
            · have te : ((x : Int) != x) = false := by simp
              go_wp2
              go_roundw
              case rel => exact ⟨i + 1, by omega, by go_num, HBi⟩
              case measure => simp [intOf]; omega
            · have te : ((-2 : Int) != y) = true := by simp; omega
              have tl : decide (y < 0) = false := by simp; omega
              have tt : ((y : Int) == (t : Int)) = false := by simp; exact hyt
              go_wp2
              go_roundw
              case rel => exact ⟨i + 1, by omega, by go_num, HBi⟩
              case measure => simp [intOf]; omega
          · obtain rfl : i = A.length := by omega
            have HB7 := Lib.hid (HBt.out.trans (HBi.out.mono HBt.out.size))
            go_wp2
            go_roundw
            case rel => exact ⟨t + 1, by omega, by go_num, HB7⟩
            case measure => simp [intOf]; omega
      · obtain rfl : t = M.length := by omega
        have HBF := Lib.hid (HB3.out.trans (HBt.out.mono HB3.out.size))
        go_wp2
        go_ret
        exact ⟨rfl, HBF.out⟩
  · rw [if_neg h0] at HS
    have tn : ((errU h : Int) != 0) = true := by simp; omega
    clear h0
    generalize errU h = er at *
    go_enter Tryd.func4, Tryd.ntmps4
    go_upto_region 2 with fail
    rw [HAE.out]
    go_upto_region 3 with fail
    rw [HKE.out]
    clear hm0 hm2 hm3 s1
    go_wp2_with fail
    refine HS.out.mono ?_
    rintro e w1 ⟨v1, rfl, hv1, hb1⟩
    have HB1 := Lib.hid hb1
    obtain ⟨a1, c1, rfl⟩ := hv1.len
    clear hv1 hb1 HS
    go_wp2_with fail
    refine (HAL.out _ HB1.out).mono ?_
    rintro e w3 ⟨rfl, hb3⟩
    have HB3 := Lib.hid (HB1.out.trans (hb3.mono HB1.out.size))
    clear hb3 HB1
    go_wp2
    go_ret
    exact ⟨rfl, HB3.out⟩
theorem ugrows_any (a : Option Addr) (n c : Nat) (h : List Ev) (k : Int) (w : World) (hK : HasK w) (hn : n ≤ c) (hv : Evs w (.slice a (min (n : Int) 65).toNat c) h) :
    Calls Tryd.prog 4 #[.slice a n c, .int .i64 k] w fun e w' => e = .returned (.bool true) ∧ Below w.heap.size w w' := by
  obtain ⟨m, hm⟩ : ∃ m, (min (n : Int) 65).toNat = m := ⟨_, rfl⟩
  rw [hm] at hv
  have hlen : h.length = m := hv.length.symm
  have hp1 : k.tmod ((m : Int) + 1) < (m : Int) + 1 := Int.tmod_lt_of_pos _ (by omega)
  have hp2 : -((m : Int) + 1) < k.tmod ((m : Int) + 1) := Int.lt_tmod_of_pos _ (by omega)
  obtain ⟨K, hK1, hK2⟩ : ∃ K : Nat, (wrap64 (wrap64 (k.tmod ((m : Int) + 1) + (m : Int)) + 1)).tmod ((m : Int) + 1) = (K : Int) ∧ K ≤ m := by
    generalize k.tmod ((m : Int) + 1) = p at *
    rw [IntWalk.wrap64_in (p + m) (by omega), IntWalk.wrap64_in (p + m + 1) (by omega)]
    obtain ⟨q, hq⟩ : ∃ q : Nat, p + m + 1 = (q : Int) := ⟨(p + m + 1).toNat, by omega⟩
    refine ⟨q % (m + 1), ?_, ?_⟩
    · rw [hq]
      exact (Int.ofNat_tmod q (m + 1)).symm
    · have := Nat.mod_lt q (show 0 < m + 1 by omega)
      omega
  exact ugrows_walk a n m c h k K w hK hn hm (by omega) hv hlen (by omega) hK1 hK2
end Go.Proofs.YtkliahdgciajjaaDoor
