/- The walk of the reference's Unique. -/
import Derived.Test.YtmnblljenobofaaGreatDoorMg16
namespace Go.Proofs.YtmnblljenobofaaGreatDoor.WPlain
end Go.Proofs.YtmnblljenobofaaGreatDoor.WPlain
namespace Go.Proofs.YtmnblljenobofaaGreatDoor.QPlain
end Go.Proofs.YtmnblljenobofaaGreatDoor.QPlain
namespace Go.Proofs.YtmnblljenobofaaGreatDoor.RPlain
end Go.Proofs.YtmnblljenobofaaGreatDoor.RPlain
namespace Go.Proofs.YtmnblljenobofaaGreatDoor
open Go.RowKit WPlain QPlain RPlain

set_option maxRecDepth 100000 in
set_option maxHeartbeats 8000000 in
theorem refUnique_any (v : Value) (l : List Tx) (w : World) (hv : Txs w v l) (hf : Fine l) :
    Calls Tryz.prog 21 #[v] w fun e w' => e = .returned (.bool (uniqueS l)) ∧ Below w.heap.size w w' := by
  have HV := Lib.hid hv
  have HF := Lib.hid hf
  have hl6 := hf.six
  obtain ⟨a, c, rfl⟩ := hv.len
  have HB0 := Lib.hid (Below.refl w.heap.size w)
  have HUA := Lib.hid (fun h => unq_all (l := l) h)
  have HUZ := Lib.hid (fun (i : Nat) (hi : i < l.length) (o : Rwo) (ho : o ∈ opsAt l i) h1 h2 => unq_zero hi ho h1 h2)
  have HUT := Lib.hid (fun (i k : Nat) (hi : i < l.length) (hk : k < l.length) (o : Rwo) (ho : o ∈ opsAt l i) h1 h2 h3 => unq_two hi hk ho h1 h2 h3)
  obtain ⟨R, hR⟩ : ∃ R, uniqueS l = R := ⟨_, rfl⟩
  rw [hR] at HUA HUZ HUT ⊢
  clear hv hf hR
  have HR0 : Hid (∀ i, i < 0 → ∀ o ∈ opsAt l i, OkAt l i o) := fun i hi => absurd hi (Nat.not_lt_zero _)
  go_enter Tryz.func21, Tryz.ntmps21
  go_wp2_with fail
  go_loopw [11] (fun y wr => ∃ i : Nat, i ≤ l.length ∧ y = .int .i64 i ∧ Hid (∀ i', i' < i → ∀ o ∈ opsAt l i', OkAt l i' o) ∧ Hid (Below w.heap.size w wr)) (fun y _ => l.length - (intOf y).toNat)
  case atStart => exact ⟨0, by omega, rfl, HR0, HB0⟩
  case round =>
    clear HR0 HB0
    obtain ⟨i, hil, rfl, HR, HB⟩ := hrel
    by_cases hlt : i < l.length
    · have hv2 := HV.out.below HB.out (Nat.le_refl _)
      obtain ⟨b, o, c', he⟩ := hv2.opened (by omega)
      simp only [Value.slice.injEq] at he
      obtain ⟨rfl, -, rfl⟩ := he
      obtain ⟨u, x0, x1, x2, x3, x4, q⟩ := hv2.get i hlt
      have hbl := cell_lt x0
      have hfx := HF.out.ops _ (List.getElem_mem hlt)
      have hoe := opsAt_eq hlt
      clear hv2
      generalize l[i] = X at *
      obtain ⟨Xn, Xf, Xl, Xs, Xo⟩ := X
      dsimp only at *
      have hba : Below wr.heap.size wr (wr.alloc (.cells #[.int .i64 Xn, .int .i64 Xf, .int .i64 Xl, .int .i64 Xs, u] 64)) := (Below.refl _ wr).alloc (Nat.le_refl _) _
      have HQ := Lib.hid (q.below hba (Nat.le_refl _))
      have HBA := Lib.hid (HB.out.trans (hba.mono HB.out.size))
      obtain ⟨ua, uc, rfl, huc⟩ := q.len
      have hfx1 := hfx.1
      have HOE := Lib.hid hoe
      clear q hfx hba hoe HB
      have HR1 : Hid (∀ o ∈ Xo.take 0, OkAt l i o) := by intro o ho; simp at ho
      go_upto_region 4 with fail
      have HX := Lib.hid (At.new wr #[.int .i64 Xn, .int .i64 Xf, .int .i64 Xl, .int .i64 Xs, .slice ua Xo.length uc] 64)
      generalize wr.alloc (.cells #[.int .i64 Xn, .int .i64 Xf, .int .i64 Xl, .int .i64 Xs, .slice ua Xo.length uc] 64) = w2 at *
      generalize wr.heap.size = N at *
      have e4 := HX.out.cell (i := 4) rfl
      clear x0 x1 x2 x3 x4
      have HB1 := Lib.hid (Below.refl w2.heap.size w2)
      go_wp2_with fail
      go_loopw [19] (fun y wr2 => ∃ j : Nat, j ≤ Xo.length ∧ y = .int .i64 j ∧ Hid (∀ o ∈ Xo.take j, OkAt l i o) ∧ Hid (Below w2.heap.size w2 wr2)) (fun y _ => Xo.length - (intOf y).toNat)
      case atStart => exact ⟨0, by omega, rfl, HR1, HB1⟩
      case round =>
        clear HR1 HB1
        obtain ⟨j, hjl, rfl, HRj, HBj⟩ := hrel
        by_cases hltj : j < Xo.length
        · obtain ⟨ob, oo, rfl, hobl, c0, c1, c2⟩ := Opv.at (HQ.out.below HBj.out (Nat.le_refl _)) j hltj
          have hmem : Xo[j] ∈ opsAt l i := by rw [HOE.out]; exact List.getElem_mem hltj
          have htk : Xo.take (j + 1) = Xo.take j ++ [Xo[j]] := List.take_succ_eq_append_getElem hltj
          generalize Xo[j] = O at *
          have HUZ1 := Lib.hid (fun h1 h2 => HUZ.out i hlt O hmem h1 h2)
          have HUT1 := Lib.hid (fun k hk h1 h2 h3 => HUT.out i k hlt hk O hmem h1 h2 h3)
          have HTK := Lib.hid htk
          have HBW := Lib.hid (HBA.out.trans (HBj.out.mono HBA.out.size))
          clear hmem htk
          have HBO := Lib.hid (HBW.out.alloc HBW.out.size (.cells #[.bool O.w, .int .i64 O.v, .int .i64 O.x] 82))
          have HBJ := Lib.hid (HBj.out.alloc HBj.out.size (.cells #[.bool O.w, .int .i64 O.v, .int .i64 O.x] 82))
          have HOB := Lib.hid (At.new wr #[.bool O.w, .int .i64 O.v, .int .i64 O.x] 82)
          clear HBW HBj
          obtain ⟨ow, ov, ox⟩ := O
          dsimp only at *
          cases ow with
          | false =>
            have HOK : Hid (∀ o ∈ Xo.take (j + 1), OkAt l i o) := by
              intro o ho
              rw [HTK.out] at ho
              rcases List.mem_append.1 ho with ho | ho
              · exact HRj.out o ho
              · rw [List.mem_singleton.1 ho]; intro hw; cases hw
            clear HUZ1 HUT1 HTK HRj
            go_upto_region 9 with fail
            generalize wr.alloc (.cells #[.bool false, .int .i64 ov, .int .i64 ox] 82) = w5 at *
            generalize wr.heap.size = N5 at *
            clear c0 c1 c2
            have HB5 := Lib.hid (Below.refl w5.heap.size w5)
            go_wp2_with fail
            go_loopw [32] (fun y wr => ∃ k : Nat, k ≤ l.length ∧ y = .int .i64 k ∧ Hid (Below w5.heap.size w5 wr)) (fun y _ => l.length - (intOf y).toNat)
            case atStart => exact ⟨0, by omega, rfl, HB5⟩
            case round =>
              clear HB5
              obtain ⟨k, hkl, rfl, HBk⟩ := hrel
              by_cases hltk : k < l.length
              · have HBW := Lib.hid (HBO.out.trans (HBk.out.mono HBO.out.size))
                obtain ⟨z, y0, y1, y2, y3, y4, q3⟩ := (HV.out.below HBW.out (Nat.le_refl _)).get k hltk
                have hbl3 := cell_lt y0
                have z0 := (HOB.out.below HBk.out HOB.out.lt).cell (i := 0) rfl
                have hlo := cell_lt z0
                generalize l[k] = Y at *
                obtain ⟨Yn, Yf, Yl, Ys, Yo⟩ := Y
                dsimp only at *
                obtain ⟨ya, yc, rfl, hyc⟩ := q3.len
                have HBK2 := Lib.hid (HBk.out.alloc HBk.out.size (.cells #[.int .i64 Yn, .int .i64 Yf, .int .i64 Yl, .int .i64 Ys, .slice ya Yo.length yc] 64))
                clear q3 HBk
                go_wp2
                go_roundw
                case rel => exact ⟨k + 1, by omega, by go_num, HBK2⟩
                case measure => simp [intOf]; omega
              · obtain rfl : k = l.length := by omega
                have HBK3 := Lib.hid (HBJ.out.trans (HBk.out.mono HBJ.out.size))
                go_wp2
                go_roundw
                case rel => exact ⟨j + 1, by omega, by go_num, HOK, HBK3⟩
                case measure => simp [intOf]; omega
          | true =>
            by_cases h0 : ox = 0
            · have t0 : ((ox : Int) == 0) = true := by simp [h0]
              have hr := HUZ1.out rfl h0
              subst hr
              clear h0 HUT1 HUZ1 HTK
              go_wp2
              go_ret
              exact ⟨rfl, HBO.out⟩
            · have t0 : ((ox : Int) == 0) = false := by simp [h0]
              have HOK : Hid ((∀ k, k < l.length → k ≠ i → writesB (opsAt l k) ov ox = false) → ∀ o ∈ Xo.take (j + 1), OkAt l i o) := by
                intro hall o ho
                rw [HTK.out] at ho
                rcases List.mem_append.1 ho with ho | ho
                · exact HRj.out o ho
                · rw [List.mem_singleton.1 ho]; exact fun _ => ⟨h0, hall⟩
              clear HUZ1 HTK HRj h0
              go_upto_region 9 with fail
              generalize wr.alloc (.cells #[.bool true, .int .i64 ov, .int .i64 ox] 82) = w5 at *
              generalize wr.heap.size = N5 at *
              clear c0 c1 c2
              have HB5 := Lib.hid (Below.refl w5.heap.size w5)
              have HN5 : Hid (∀ k, k < 0 → k ≠ i → writesB (opsAt l k) ov ox = false) := fun k hk => absurd hk (Nat.not_lt_zero _)
              go_wp2_with fail
              go_loopw [32] (fun y wr => ∃ k : Nat, k ≤ l.length ∧ y = .int .i64 k ∧ Hid (∀ k', k' < k → k' ≠ i → writesB (opsAt l k') ov ox = false) ∧ Hid (Below w5.heap.size w5 wr)) (fun y _ => l.length - (intOf y).toNat)
              case atStart => exact ⟨0, by omega, rfl, HN5, HB5⟩
              case round =>
                clear HB5 HN5
                obtain ⟨k, hkl, rfl, HN, HBk⟩ := hrel
                by_cases hltk : k < l.length
                · have HBW := Lib.hid (HBO.out.trans (HBk.out.mono HBO.out.size))
                  obtain ⟨z, y0, y1, y2, y3, y4, q3⟩ := (HV.out.below HBW.out (Nat.le_refl _)).get k hltk
                  have hbl3 := cell_lt y0
                  have hat := HOB.out.below HBk.out HOB.out.lt
                  have z0 := hat.cell (i := 0) rfl
                  have z1 := hat.cell (i := 1) rfl
                  have z2 := hat.cell (i := 2) rfl
                  have hlo := cell_lt z0
                  have hfy := (HF.out.ops _ (List.getElem_mem hltk)).1
                  have hoe := opsAt_eq hltk
                  have HUT2 := Lib.hid (fun h1 h2 h3 => HUT1.out k hltk h1 h2 h3)
                  generalize l[k] = Y at *
                  obtain ⟨Yn, Yf, Yl, Ys, Yo⟩ := Y
                  dsimp only at *
                  obtain ⟨ya, yc, rfl, hyc⟩ := q3.len
                  have hba : Below wr.heap.size wr (wr.alloc (.cells #[.int .i64 Yn, .int .i64 Yf, .int .i64 Yl, .int .i64 Ys, .slice ya Yo.length yc] 64)) := (Below.refl _ wr).alloc (Nat.le_refl _) _
                  have HBK2 := Lib.hid (HBk.out.trans (hba.mono HBk.out.size))
                  have HWR := Lib.hid (refWrites_any Yn Yf Yl Ys (.slice ya Yo.length yc) Yo ov ox _ (q3.below hba (Nat.le_refl _)) hfy)
                  have HOE2 := Lib.hid hoe
                  clear q3 HBk hba hat hoe hfy
                  by_cases hki : k = i
                  · have ti : ((k : Int) != (i : Int)) = false := by simp [hki]
                    have HN2 : Hid (∀ k', k' < k + 1 → k' ≠ i → writesB (opsAt l k') ov ox = false) := fun k' h1 h2 => HN.out k' (by omega) h2
                    clear hki HWR HUT2 HN
                    go_wp2
                    go_roundw
                    case rel => exact ⟨k + 1, by omega, by go_num, HN2, HBK2⟩
                    case measure => simp [intOf]; omega
                  · have ti : ((k : Int) != (i : Int)) = true := by simp; omega
                    cases hb : writesB Yo ov ox with
                    | true =>
                      have hr := HUT2.out (by trivial) hki (by rw [HOE2.out]; exact hb)
                      subst hr
                      rw [hb] at HWR
                      clear hb HUT2 HN HOK hki
                      go_wp2_with fail
                      refine HWR.out.mono ?_
                      rintro e w7 ⟨rfl, hb7⟩
                      have HB7 := Lib.hid (HBO.out.trans ((HBK2.out.trans (hb7.mono HBK2.out.size)).mono HBO.out.size))
                      go_wp2
                      go_ret
                      exact ⟨rfl, HB7.out⟩
                    | false =>
                      have HN2 : Hid (∀ k', k' < k + 1 → k' ≠ i → writesB (opsAt l k') ov ox = false) := fun k' h1 h2 => if h : k' < k then HN.out k' h h2 else by
                        rw [show k' = k from by omega, HOE2.out]; exact hb
                      rw [hb] at HWR
                      clear hb HUT2 HN hki
                      go_wp2_with fail
                      refine HWR.out.mono ?_
                      rintro e w7 ⟨rfl, hb7⟩
                      have HB7 := Lib.hid (HBK2.out.trans (hb7.mono HBK2.out.size))
                      clear hb7
                      go_wp2
                      go_roundw
                      case rel => exact ⟨k + 1, by omega, by go_num, HN2, HB7⟩
                      case measure => simp [intOf]; omega
                · obtain rfl : k = l.length := by omega
                  have HBK3 := Lib.hid (HBJ.out.trans (HBk.out.mono HBJ.out.size))
                  have HOK2 := Lib.hid (HOK.out HN.out)
                  clear HOK HN
                  go_wp2
                  go_roundw
                  case rel => exact ⟨j + 1, by omega, by go_num, HOK2, HBK3⟩
                  case measure => simp [intOf]; omega
        · obtain rfl : j = Xo.length := by omega
          have HR2 : Hid (∀ i', i' < i + 1 → ∀ o ∈ opsAt l i', OkAt l i' o) := fun i' h1 o ho => if h : i' < i then HR.out i' h o ho else by
            obtain rfl : i' = i := by omega
            rw [HOE.out] at ho
            exact HRj.out o (by rw [List.take_length]; exact ho)
          have HBF := Lib.hid (HBA.out.trans (HBj.out.mono HBA.out.size))
          clear HR HRj
          go_wp2
          go_roundw
          case rel => exact ⟨i + 1, by omega, by go_num, HR2, HBF⟩
          case measure => simp [intOf]; omega
    · obtain rfl : i = l.length := by omega
      have hr := HUA.out HR.out
      subst hr
      go_wp2
      go_ret
      exact ⟨rfl, HB.out⟩
end Go.Proofs.YtmnblljenobofaaGreatDoor
