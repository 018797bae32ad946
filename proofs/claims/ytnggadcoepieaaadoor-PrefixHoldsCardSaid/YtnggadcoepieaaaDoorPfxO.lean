/- The walks of recantlaw08's alive, and of PrefixSerial. -/
import Derived.Test.YtnggadcoepieaaaDoorPfxN
namespace Go.Proofs.YtnggadcoepieaaaDoor.WPlain
end Go.Proofs.YtnggadcoepieaaaDoor.WPlain
namespace Go.Proofs.YtnggadcoepieaaaDoor.QPlain
end Go.Proofs.YtnggadcoepieaaaDoor.QPlain
namespace Go.Proofs.YtnggadcoepieaaaDoor.RPlain
end Go.Proofs.YtnggadcoepieaaaDoor.RPlain
namespace Go.Proofs.YtnggadcoepieaaaDoor
open Go.RowKit WPlain QPlain RPlain

set_option maxRecDepth 100000 in
theorem aliveX_any (w : World) (hK : HasK w) : Calls Tryd.prog 12 #[] w fun e w' => e = .returned (.bool true) ∧ Below w.heap.size w w' := by
  have hb0 := (Below.refl w.heap.size w).alloc (Nat.le_refl _) (.cells (evsCells [⟨0, 1, 0, 0⟩, ⟨0, 2, 0, 0⟩, ⟨1, 1, 0, 0⟩]).toArray 38)
  have hE := evs_at 3 [⟨0, 1, 0, 0⟩, ⟨0, 2, 0, 0⟩, ⟨1, 1, 0, 0⟩] (At.new w (evsCells [⟨0, 1, 0, 0⟩, ⟨0, 2, 0, 0⟩, ⟨1, 1, 0, 0⟩]).toArray 38)
  have hO := of_any _ _ 2 _ hE (by simp)
  have hS := fun (W : World) (hW : Below (w.alloc (.cells (evsCells [⟨0, 1, 0, 0⟩, ⟨0, 2, 0, 0⟩, ⟨1, 1, 0, 0⟩]).toArray 38)).heap.size (w.alloc (.cells (evsCells [⟨0, 1, 0, 0⟩, ⟨0, 2, 0, 0⟩, ⟨1, 1, 0, 0⟩]).toArray 38)) W) => serial_any _ _ W (hK.later (hb0.trans (hW.mono hb0.size)) (Nat.le_refl _)) (hE.below hW (Nat.le_refl _)) (by simp)
  have hc : (checkS [⟨0, 1, 0, 0⟩, ⟨0, 2, 0, 0⟩, ⟨1, 1, 0, 0⟩]).2 = 0 := by decide +kernel
  have ho : ofT [⟨0, 1, 0, 0⟩, ⟨0, 2, 0, 0⟩, ⟨1, 1, 0, 0⟩] 2 = [⟨0, 2, 0, 0⟩] := by decide +kernel
  have HNS : Hid (¬ serP [⟨0, 1, 0, 0⟩, ⟨0, 2, 0, 0⟩, ⟨1, 1, 0, 0⟩]) := fun h => absurd (h 0 2 (by omega) (by simp) rfl) (by decide)
  rw [hc] at hS
  rw [ho] at hO
  simp only [evsCells, evCells, List.flatMap_cons, List.flatMap_nil, List.append_nil, List.cons_append, List.nil_append, List.length_cons, List.length_nil] at hO hS hb0
  have HO := Lib.hid hO
  have HS := Lib.hid hS
  have HB0 := Lib.hid hb0
  clear hO hS hc ho hb0 hE hK
  go_enter Tryd.func12, Tryd.ntmps12
  go_wp2_with fail
  refine HO.out.mono ?_
  rintro e w2 ⟨v2, rfl, hv2, -, hb2⟩
  have HB2 := Lib.hid (HB0.out.trans (hb2.mono HB0.out.size))
  have HS2 := Lib.hid (HS.out w2 hb2)
  rcases hv2 with ⟨e0, _⟩ | ⟨_, b, o, c, rfl, hbl, hcs⟩
  · simp at e0
  · obtain ⟨c0, c1, c2, c3⟩ := hcs 0 (by simp)
    simp only [List.getElem_cons_zero, Nat.zero_mul, Nat.add_zero] at c0 c1 c2 c3
    have HBL := Lib.hid hbl
    have HC1 := Lib.hid c1
    clear hcs hb2 HO HS HB0 hbl c0 c1 c2 c3
    go_wp2_with fail
    refine HS2.out.mono ?_
    rintro e w3 ⟨r, rfl, hr, hb3⟩
    have hrf : r = false := by
      cases r with
      | false => rfl
      | true => exact absurd (hr.1 rfl).2 HNS.out
    subst hrf
    have HB3 := Lib.hid (HB2.out.trans (hb3.mono HB2.out.size))
    have c1 := (hb3.cell (p := ⟨b, o + 1, none⟩) HBL.out).trans HC1.out
    clear hr hb3 HS2 HB2
    go_wp2
    go_ret
    exact ⟨rfl, HB3.out⟩
set_option maxRecDepth 100000 in
set_option maxHeartbeats 2000000 in
theorem pserial_walk (a : Option Addr) (n m c : Nat) (h : List Ev) (w : World) (hK : HasK w) (hn : n ≤ c) (HAE : Hid ((min (n : Int) 65).toNat = m)) (hmn : m ≤ n) (hv : Evs w (.slice a m c) h) (h1 : h.length = m) (hm1 : m ≤ 65) :
    Calls Tryd.prog 4 #[.slice a n c] w fun e w' => e = .returned (.bool true) ∧ Below w.heap.size w w' := by
  have HK := Lib.hid hK
  have HT := Lib.hid (serial_any _ h w hK hv (by omega))
  have HWH := Lib.hid (fun (W : World) (hW : Below w.heap.size w W) => why_any _ h W (hv.below hW (Nat.le_refl _)) (by omega) (fun a' n' c' he => by simp at he; omega))
  have HRS := Lib.hid (fun (W : World) (hW : Below w.heap.size w W) => refSerial_any _ h W (hv.below hW (Nat.le_refl _)) (by omega))
  rw [whyS_check] at HWH
  clear hK hv
  by_cases h0 : (checkS h).2 = 0
  · rw [h0] at HT HWH
    clear h0
    go_enter Tryd.func4, Tryd.ntmps4
    go_wp2_with fail
    rw [HAE.out]
    refine HT.out.mono ?_
    rintro e w1 ⟨r, rfl, hr, hb1⟩
    have HB1 := Lib.hid hb1
    have HR := Lib.hid hr
    clear hr hb1 HT
    go_wp2_with fail
    refine (HWH.out _ HB1.out).mono ?_
    rintro e w2 ⟨rfl, hb2⟩
    have HB2 := Lib.hid (HB1.out.trans (hb2.mono HB1.out.size))
    clear hb2 HB1
    go_wp2_with fail
    refine (aliveX_any _ (HK.out.later HB2.out (Nat.le_refl _))).mono ?_
    rintro e w3 ⟨rfl, hb3⟩
    have HB3 := Lib.hid (HB2.out.trans (hb3.mono HB2.out.size))
    clear hb3 HB2
    go_wp2_with fail
    refine (HRS.out _ HB3.out).mono ?_
    rintro e w4 ⟨s, rfl, hs, hb4⟩
    have HB4 := Lib.hid (HB3.out.trans (hb4.mono HB3.out.size))
    have hrs : r = s := by
      rw [Bool.eq_iff_iff, hs, HR.out]
      simp
    subst hrs
    clear hs hb4 HB3 HR
    go_wp2
    go_ret
    exact ⟨by simp, HB4.out⟩
  · obtain ⟨er, her⟩ : ∃ er, (checkS h).2 = er := ⟨_, rfl⟩
    rw [her] at HT HWH h0
    have te : ((er : Int) != 0) = true := by simp; omega
    have H0 := Lib.hid h0
    clear her h0
    go_enter Tryd.func4, Tryd.ntmps4
    go_wp2_with fail
    rw [HAE.out]
    refine HT.out.mono ?_
    rintro e w1 ⟨r, rfl, hr, hb1⟩
    have HB1 := Lib.hid hb1
    have hrf : r = false := by
      cases r with
      | false => rfl
      | true => exact absurd (hr.1 rfl).1 H0.out
    subst hrf
    clear hr hb1 HT
    go_wp2_with fail
    refine (HWH.out _ HB1.out).mono ?_
    rintro e w2 ⟨rfl, hb2⟩
    have HB2 := Lib.hid (HB1.out.trans (hb2.mono HB1.out.size))
    clear hb2 HB1
    go_wp2_with fail
    refine (aliveX_any _ (HK.out.later HB2.out (Nat.le_refl _))).mono ?_
    rintro e w3 ⟨rfl, hb3⟩
    have HB3 := Lib.hid (HB2.out.trans (hb3.mono HB2.out.size))
    clear hb3 HB2
    go_wp2
    go_ret
    exact ⟨by simp, HB3.out⟩
theorem pserial_any (a : Option Addr) (n c : Nat) (h : List Ev) (w : World) (hK : HasK w) (hn : n ≤ c) (hv : Evs w (.slice a (min (n : Int) 65).toNat c) h) :
    Calls Tryd.prog 4 #[.slice a n c] w fun e w' => e = .returned (.bool true) ∧ Below w.heap.size w w' := by
  obtain ⟨m, hm⟩ : ∃ m, (min (n : Int) 65).toNat = m := ⟨_, rfl⟩
  rw [hm] at hv
  exact pserial_walk a n m c h w hK hn hm (by omega) hv hv.length.symm (by omega)
end Go.Proofs.YtnggadcoepieaaaDoor
