/- The walk of UniqueSources. -/
import Derived.Test.YtkliahdgciajjaaDoorUnqI
import Derived.Test.YtkliahdgciajjaaDoorMg14
import Derived.Deep.RegionHeldLaw
import Derived.Deep.DeepMust
namespace Go.Proofs.YtkliahdgciajjaaDoor.WPlain
end Go.Proofs.YtkliahdgciajjaaDoor.WPlain
namespace Go.Proofs.YtkliahdgciajjaaDoor.QPlain
end Go.Proofs.YtkliahdgciajjaaDoor.QPlain
namespace Go.Proofs.YtkliahdgciajjaaDoor.RPlain
end Go.Proofs.YtkliahdgciajjaaDoor.RPlain
namespace Go.Proofs.YtkliahdgciajjaaDoor
open Go.RowKit WPlain QPlain RPlain

set_option maxRecDepth 100000 in
set_option maxHeartbeats 8000000 in
theorem usrc_walk (a : Option Addr) (n m c : Nat) (h : List Ev) (w : World) (hK : HasK w) (hn : n ≤ c) (HAE : Hid ((min (n : Int) 65).toNat = m)) (hmn : m ≤ n) (hv : Evs w (.slice a m c) h) (h1 : h.length = m) (hm1 : m ≤ 65) :
    Calls Tryd.prog 3 #[.slice a n c] w fun e w' => e = .returned (.bool true) ∧ Below w.heap.size w w' := by
  have HK := Lib.hid hK
  have HC := Lib.hid (checkU_any _ h w hK hv (by omega))
  have HS := Lib.hid (fun (W : World) (hW : Below w.heap.size w W) => sourcesU_any _ h W (hK.later hW (Nat.le_refl _)) (hv.below hW (Nat.le_refl _)) (by omega))
  have HWH := Lib.hid (fun (W : World) (hW : Below w.heap.size w W) => why_any _ h W (hv.below hW (Nat.le_refl _)) (by omega) (fun a' n' c' he => by simp at he; omega))
  have HRT := Lib.hid (fun (W : World) (hW : Below w.heap.size w W) => refTable_any _ h W (hv.below hW (Nat.le_refl _)) (by omega) (fun a' n' c' he => by simp at he; omega))
  rw [whyS_check] at HWH
  have HAL := Lib.hid (fun (W : World) (hW : Below w.heap.size w W) => aliveU_any W (hK.later hW (Nat.le_refl _)))
  clear hK hv
  by_cases h0 : (checkS h).2 = 0
  · have HF := Lib.hid (fine_table h0)
    have her : errU h = if uniqueS (tableS h) = true then 0 else 9 := by unfold errU; rw [if_pos h0]
    rw [her] at HC HS
    rw [h0] at HWH
    clear her h0
    have HUN := Lib.hid (fun (v : Value) (W : World) (hW : Txs W v (tableS h)) => refUnique_any v (tableS h) W hW HF.out)
    have HSR := Lib.hid (fun (v : Value) (W : World) (hW : Txs W v (tableS h)) => refSources_any v (tableS h) W hW HF.out)
    have hsl : (sourcesS (tableS h)).length ≤ 6 := by rw [sources_len]; exact HF.out.six
    have HRW := Lib.hid (sources_rows HF.out)
    generalize tableS h = l at *
    cases hu : uniqueS l with
    | false =>
      rw [hu] at HC HS HUN
      rw [if_neg (by simp)] at HC HS
      rw [if_neg (by simp)] at HS
      clear hu HSR
      go_enter Tryd.func3, Tryd.ntmps3
      go_wp2_with fail
      rw [HAE.out]
      refine HC.out.mono ?_
      rintro e w1 ⟨rfl, hb1⟩
      have HB1 := Lib.hid hb1
      clear hb1 HC
      go_wp2_with fail
      refine (HS.out _ HB1.out).mono ?_
      rintro e w2 ⟨v2, rfl, hv2, hb2⟩
      have HB2 := Lib.hid (HB1.out.trans (hb2.mono HB1.out.size))
      obtain ⟨a2, c2, rfl⟩ := hv2.len
      clear hb2 hv2 HB1 HS
      go_wp2_with fail
      refine (HWH.out _ HB2.out).mono ?_
      rintro e w3 ⟨rfl, hb3⟩
      have HB3 := Lib.hid (HB2.out.trans (hb3.mono HB2.out.size))
      clear hb3 HB2 HWH
      go_wp2_with fail
      refine (HRT.out _ HB3.out).mono ?_
      rintro e w4 ⟨v4, rfl, hv4, hb4⟩
      have HB4 := Lib.hid (HB3.out.trans (hb4.mono HB3.out.size))
      have HV4 := Lib.hid hv4
      obtain ⟨a4, c4, rfl⟩ := hv4.len
      clear hv4 hb4 HB3 HRT
      go_wp2_with fail
      refine (HUN.out _ _ HV4.out).mono ?_
      rintro e w5 ⟨rfl, hb5⟩
      have HB5 := Lib.hid (HB4.out.trans (hb5.mono HB4.out.size))
      clear hb5 HB4 HUN
      go_wp2_with fail
      refine (HAL.out _ HB5.out).mono ?_
      rintro e w6 ⟨rfl, hb6⟩
      have HB6 := Lib.hid (HB5.out.trans (hb6.mono HB5.out.size))
      clear hb6 HB5
      go_wp2
      go_ret
      exact ⟨rfl, HB6.out⟩
    | true =>
      rw [hu] at HC HS HUN
      rw [if_pos rfl] at HC HS
      rw [if_pos rfl] at HS
      clear hu
      generalize sourcesS l = rows at *
      go_enter Tryd.func3, Tryd.ntmps3
      go_wp2_with fail
      rw [HAE.out]
      refine HC.out.mono ?_
      rintro e w1 ⟨rfl, hb1⟩
      have HB1 := Lib.hid hb1
      clear hb1 HC
      go_wp2_with fail
      refine (HS.out _ HB1.out).mono ?_
      rintro e w2 ⟨v2, rfl, hv2, hb2⟩
      have HB2 := Lib.hid (HB1.out.trans (hb2.mono HB1.out.size))
      have HR2 := Lib.hid hv2
      obtain ⟨a2, c2, rfl⟩ := hv2.len
      clear hb2 hv2 HB1 HS
      go_wp2_with fail
      refine (HWH.out _ HB2.out).mono ?_
      rintro e w3 ⟨rfl, hb3⟩
      have HB3 := Lib.hid (HB2.out.trans (hb3.mono HB2.out.size))
      have HR3 := Lib.hid (HR2.out.below hb3)
      clear hb3 HB2 HWH HR2
      go_wp2_with fail
      refine (HRT.out _ HB3.out).mono ?_
      rintro e w4 ⟨v4, rfl, hv4, hb4⟩
      have HB4 := Lib.hid (HB3.out.trans (hb4.mono HB3.out.size))
      have HR4 := Lib.hid (HR3.out.below hb4)
      have HV4 := Lib.hid hv4
      obtain ⟨a4, c4, rfl⟩ := hv4.len
      clear hv4 hb4 HB3 HR3
      go_wp2_with fail
      refine (HUN.out _ _ HV4.out).mono ?_
      rintro e w5 ⟨rfl, hb5⟩
      have HB5 := Lib.hid (HB4.out.trans (hb5.mono HB4.out.size))
      have HR5 := Lib.hid (HR4.out.below hb5)
      clear hb5 HB4 HUN HR4 HV4
      go_wp2_with fail
      refine (HRT.out _ HB5.out).mono ?_
      rintro e w6 ⟨v6, rfl, hv6, hb6⟩
      have HB6 := Lib.hid (HB5.out.trans (hb6.mono HB5.out.size))
      have HR6 := Lib.hid (HR5.out.below hb6)
      have HV6 := Lib.hid hv6
      obtain ⟨a6, c6, rfl⟩ := hv6.len
      clear hv6 hb6 HB5 HR5 HRT
      go_wp2_with fail
      refine (HSR.out _ _ HV6.out).mono ?_
      rintro e w7 ⟨v7, rfl, hv7, hb7⟩
      have HB7 := Lib.hid (HB6.out.trans (hb7.mono HB6.out.size))
      have HR7 := Lib.hid (HR6.out.below hb7)
      have HQ7 := Lib.hid hv7
      obtain ⟨a7, c7, rfl⟩ := hv7.len
      clear hv7 hb7 HB6 HR6 HSR HV6
      go_wp2_with fail
      refine (HAL.out _ HB7.out).mono ?_
      rintro e w8 ⟨rfl, hb8⟩
      have HB8 := Lib.hid (HB7.out.trans (hb8.mono HB7.out.size))
      have HR8 := Lib.hid (HR7.out.below hb8)
      have HQ8 := Lib.hid (HQ7.out.below hb8)
      have HB9 := Lib.hid (Below.refl w8.heap.size w8)
      clear hb8 HB7 HR7 HQ7
      go_wp2_with fail
      go_loopw [71] (fun x wr => ∃ i : Nat, i ≤ rows.length ∧ x = .int .i64 i ∧ Hid (Below w8.heap.size w8 wr)) (fun x _ => rows.length - (intOf x).toNat)
      case atStart => exact ⟨0, by omega, rfl, HB9⟩
      case round =>
        clear HB9
        obtain ⟨i, hil, rfl, HBi⟩ := hrel
        by_cases hlt : i < rows.length
        · obtain ⟨b1, o1, ra, rc, rfl, hb1, hc1, hr1⟩ := (HR8.out.below HBi.out).get i hlt
          obtain ⟨b2, o2, sa, sc, rfl, hb2, hc2, hr2⟩ := (HQ8.out.below HBi.out).get i hlt
          have hrl := HRW.out _ (List.getElem_mem hlt)
          have HIN := Lib.hid (fun (W : World) (hW : Below wr.heap.size wr W) => intsU_any _ _ rows[i] W (hr1.below hW (Nat.le_refl _)) (hr2.below hW (Nat.le_refl _)) (by omega))
          have HSC : Hid (∀ W, Below wr.heap.size wr W → W.cell? ⟨b1, o1 + i, none⟩ = some (.slice ra rows[i].length rc) ∧ W.cell? ⟨b2, o2 + i, none⟩ = some (.slice sa rows[i].length sc)) := fun W hW =>
            ⟨(hW.cell (p := ⟨b1, o1 + i, none⟩) hb1).trans hc1, (hW.cell (p := ⟨b2, o2 + i, none⟩) hb2).trans hc2⟩
          obtain ⟨rn, hrn⟩ : ∃ rn, rows[i].length = rn := ⟨_, rfl⟩
          rw [hrn] at HIN HSC hc1 hc2
          clear hr1 hr2 hrl hrn
          go_upto_region 15 with fail
          first
          | go_must (go_region_held_law (fun w' => w'.cell? ⟨b1, o1 + i, none⟩ = some (.slice ra rn rc) ∧ w'.cell? ⟨b2, o2 + i, none⟩ = some (.slice sa rn sc))
              (first | exact HSC.out _ hb5 | exact HSC.out _ (below_drP _))
              (first
                | (go_at_call 12; refine (HIN.out _ (below_drP _)).mono ?_; rintro e w5 ⟨rfl, hb⟩; have hb5 := below_stpP hb)))
          | fail
          have HB5 := Lib.hid (HBi.out.trans (hb5.mono HBi.out.size))
          clear hb5 hb HBi hc1 hc2 HSC HIN
          go_wp2
          go_roundw
          case rel => exact ⟨i + 1, by omega, by go_num, HB5⟩
          case measure => simp [intOf]; omega
        · obtain rfl : i = rows.length := by omega
          have HBF := Lib.hid (HB8.out.trans (HBi.out.mono HB8.out.size))
          go_wp2
          go_ret
          exact ⟨rfl, HBF.out⟩
  · have her : errU h = (checkS h).2 := by unfold errU; rw [if_neg h0]
    rw [her] at HC HS
    clear her
    rw [if_neg h0] at HS
    generalize (checkS h).2 = er at *
    have te : ((er : Int) == 0) = false := by simp; omega
    have tn : ((er : Int) != 0) = true := by simp; omega
    have ts : ((er : Int) == (er : Int)) = true := by simp
    clear h0
    go_enter Tryd.func3, Tryd.ntmps3
    go_wp2_with fail
    rw [HAE.out]
    refine HC.out.mono ?_
    rintro e w1 ⟨rfl, hb1⟩
    have HB1 := Lib.hid hb1
    clear hb1 HC
    go_wp2_with fail
    refine (HS.out _ HB1.out).mono ?_
    rintro e w2 ⟨v2, rfl, hv2, hb2⟩
    have HB2 := Lib.hid (HB1.out.trans (hb2.mono HB1.out.size))
    obtain ⟨a2, c2, rfl⟩ := hv2.len
    clear hb2 hv2 HB1 HS
    go_wp2_with fail
    refine (HWH.out _ HB2.out).mono ?_
    rintro e w3 ⟨rfl, hb3⟩
    have HB3 := Lib.hid (HB2.out.trans (hb3.mono HB2.out.size))
    clear hb3 HB2 HWH
    go_wp2_with fail
    refine (HAL.out _ HB3.out).mono ?_
    rintro e w6 ⟨rfl, hb6⟩
    have HB6 := Lib.hid (HB3.out.trans (hb6.mono HB3.out.size))
    clear hb6 HB3
    go_wp2
    go_ret
    exact ⟨rfl, HB6.out⟩
theorem usrc_any (a : Option Addr) (n c : Nat) (h : List Ev) (w : World) (hK : HasK w) (hn : n ≤ c) (hv : Evs w (.slice a (min (n : Int) 65).toNat c) h) :
    Calls Tryd.prog 3 #[.slice a n c] w fun e w' => e = .returned (.bool true) ∧ Below w.heap.size w w' := by
  obtain ⟨m, hm⟩ : ∃ m, (min (n : Int) 65).toNat = m := ⟨_, rfl⟩
  rw [hm] at hv
  exact usrc_walk a n m c h w hK hn hm (by omega) hv hv.length.symm (by omega)
end Go.Proofs.YtkliahdgciajjaaDoor
