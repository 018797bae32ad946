/- Merged: UnqK, UnqL. -/
import Derived.Test.YtkliahdgciajjaaDoorUnqJ
import Derived.Test.YtkliahdgciajjaaDoorUnqG
import Derived.Test.YtkliahdgciajjaaDoorMg13
import Derived.Test.YtkliahdgciajjaaDoorMg11
import Derived.Test.YtkliahdgciajjaaDoorMg12
import Derived.Test.YtkliahdgciajjaaDoorMg8
/- The walk of the reference's Sources. -/
namespace Go.Proofs.YtkliahdgciajjaaDoor.WPlain
end Go.Proofs.YtkliahdgciajjaaDoor.WPlain
namespace Go.Proofs.YtkliahdgciajjaaDoor.QPlain
end Go.Proofs.YtkliahdgciajjaaDoor.QPlain
namespace Go.Proofs.YtkliahdgciajjaaDoor.RPlain
end Go.Proofs.YtkliahdgciajjaaDoor.RPlain
namespace Go.Proofs.YtkliahdgciajjaaDoor.RPlain
open WPlain QPlain

/-- the first sources of a transaction -/
def refRow (l : List Tx) (t k : Nat) : List Int := (List.range k).map (srcS l t)
theorem refRow_len (l : List Tx) (t k : Nat) : (refRow l t k).length = k := by simp [refRow]
theorem refRow_snoc (l : List Tx) (t k : Nat) : refRow l t (k + 1) = refRow l t k ++ [srcS l t k] := by
  unfold refRow
  rw [List.range_succ, List.map_append]
  rfl
theorem allR_next {l : List Tx} {k : Nat} (hk : k < l.length) : allR l (k + 1) = allR l k ++ [refRow l k (opsAt l k).length] := by
  have hk2 : k < (sourcesS l).length := by rw [sources_len]; exact hk
  have h1 : (sourcesS l)[k]? = some (refRow l k (opsAt l k).length) := by
    unfold sourcesS
    rw [List.getElem?_map, List.getElem?_range hk]
    rfl
  rw [List.getElem?_eq_getElem hk2, Option.some.injEq] at h1
  unfold allR
  rw [List.take_succ_eq_append_getElem hk2, h1]
end Go.Proofs.YtkliahdgciajjaaDoor.RPlain
namespace Go.Proofs.YtkliahdgciajjaaDoor
open Go.RowKit WPlain QPlain RPlain

set_option maxRecDepth 100000 in
set_option maxHeartbeats 8000000 in
theorem refSources_any (v : Value) (l : List Tx) (w : World) (hv : Txs w v l) (hf : Fine l) :
    Calls Tryd.prog 11 #[v] w fun e w' => ∃ v', e = .returned v' ∧ Rows2 w' v' (sourcesS l) ∧ Below w.heap.size w w' := by
  obtain ⟨i0, hi0, hz0, hz1, hz2⟩ := info_parts infoSl
  obtain ⟨j0, hj0, hy0, hy1, hy2⟩ := info_parts info3
  have HV := Lib.hid hv
  have HF := Lib.hid hf
  have hl6 := hf.six
  obtain ⟨a, c, rfl⟩ := hv.len
  have HALL : Hid (allR l l.length = sourcesS l) := allR_all l
  have HAN := Lib.hid (fun (k : Nat) (hk : k < l.length) => allR_next hk)
  have HRN := Lib.hid (fun (t k : Nat) => refRow_snoc l t k)
  have HSO := Lib.hid (fun (t i : Nat) (ht : t < l.length) (hi : i < (opsAt l t).length) (W : World) (hW : Below w.heap.size w W) => refSource_any (.slice a l.length c) l t i W (hv.below hW (Nat.le_refl _)) hf ht hi)
  have HB0 := Lib.hid ((Below.refl w.heap.size w).alloc (Nat.le_refl _) (.cells #[] 34))
  have HW0 : Hid (∃ vs, (w.alloc (.cells #[] 34)).ownsRow w.heap.size 34 1 (.slice (some ⟨w.heap.size, 0, none⟩) 0 0) 0 vs ∧ RowsI w.heap.size (w.alloc (.cells #[] 34)) vs (allR l 0)) := ⟨[], own_nil_rows (Nat.le_refl _), RowsI.nil _ _⟩
  clear hv hf
  go_enter Tryd.func11, Tryd.ntmps11
  go_wp2_with fail
  go_loopw [3, 11] (fun z x wr => ∃ k : Nat, k ≤ l.length ∧ x = .int .i64 k ∧ Hid (∃ vs, wr.ownsRow w.heap.size 34 1 z k vs ∧ RowsI w.heap.size wr vs (allR l k)) ∧ Hid (Below w.heap.size w wr)) (fun _ x _ => l.length - (intOf x).toNat)
  case atStart => exact ⟨0, by omega, rfl, HW0, HB0⟩
  case round =>
    clear HW0 HB0
    obtain ⟨k, hkl, rfl, HW, HB⟩ := hrel
    by_cases hlt : k < l.length
    · have hv2 := HV.out.below HB.out (Nat.le_refl _)
      obtain ⟨b, o, c', he⟩ := hv2.opened (by omega)
      simp only [Value.slice.injEq] at he
      obtain ⟨rfl, -, rfl⟩ := he
      obtain ⟨u, x0, x1, x2, x3, x4, q⟩ := hv2.get k hlt
      have hbl := cell_lt x0
      have hfx := (HF.out.ops _ (List.getElem_mem hlt)).1
      have hoe := opsAt_eq hlt
      have HSO1 := Lib.hid (fun (i : Nat) (hi : i < (opsAt l k).length) W hW => HSO.out k i hlt hi W hW)
      have HAN1 := Lib.hid (HAN.out k hlt)
      clear hv2
      rw [hoe] at HSO1 HAN1
      clear hoe
      generalize l[k] = X at *
      obtain ⟨Xn, Xf, Xl, Xs, Xo⟩ := X
      dsimp only at *
      have hba : Below wr.heap.size wr (wr.alloc (.cells #[.int .i64 Xn, .int .i64 Xf, .int .i64 Xl, .int .i64 Xs, u] 42)) := (Below.refl _ wr).alloc (Nat.le_refl _) _
      obtain ⟨vs, hvs, hrs⟩ := HW.out
      have HVS := Lib.hid (row_belowT hvs hba)
      have HRS := Lib.hid (hrs.below hba)
      have HB2 := Lib.hid (HB.out.trans (hba.mono HB.out.size))
      obtain ⟨ua, uc, rfl, huc⟩ := q.len
      obtain ⟨qn, hqn⟩ : ∃ qn, Xo.length = qn := ⟨_, rfl⟩
      rw [hqn] at HSO1 HAN1 HVS HRS HB2 huc hfx x4
      obtain ⟨za, zc, hz⟩ := row_slice hvs
      subst hz
      clear hqn q hba hvs hrs HW HB
      go_upto_region 5 with fail
      have HX := Lib.hid (At.new wr #[.int .i64 Xn, .int .i64 Xf, .int .i64 Xl, .int .i64 Xs, .slice ua qn uc] 42)
      generalize wr.alloc (.cells #[.int .i64 Xn, .int .i64 Xf, .int .i64 Xl, .int .i64 Xs, .slice ua qn uc] 42) = w2 at *
      generalize wr.heap.size = N at *
      clear x0 x1 x2 x3 x4
      have hXa := HX.out.alloc (.cells #[] 3)
      have e4 := hXa.cell (i := 4) rfl
      have HI0 : Hid ((w2.alloc (.cells #[] 3)).ownsRow w2.heap.size 3 1 (.slice (some ⟨w2.heap.size, 0, none⟩) 0 0) 0 (ints (refRow l k 0))) := own_nil_int (Nat.le_refl _)
      have HJ0 := Lib.hid ((Below.refl w2.heap.size w2).alloc (Nat.le_refl _) (.cells #[] 3))
      clear hXa
      go_wp2_with fail
      clear e4
      go_loopw [6, 20] (fun y x wr => ∃ j : Nat, j ≤ qn ∧ x = .int .i64 j ∧ Hid (wr.ownsRow w2.heap.size 3 1 y j (ints (refRow l k j))) ∧ Hid (Below w2.heap.size w2 wr)) (fun _ x _ => qn - (intOf x).toNat)
      case atStart => exact ⟨0, by omega, rfl, HI0, HJ0⟩
      case round =>
        clear HI0 HJ0
        obtain ⟨j, hjl, rfl, HI, HJ⟩ := hrel
        by_cases hltj : j < qn
        · have HSO2 := Lib.hid (HSO1.out j hltj wr (HB2.out.trans (HJ.out.mono HB2.out.size)))
          have HRN2 := Lib.hid (HRN.out k j)
          obtain ⟨ya, yc, hz⟩ := row_slice HI.out
          subst hz
          generalize srcS l k j = sv at *
          go_wp2_with fail
          refine HSO2.out.mono ?_
          rintro e w5 ⟨rfl, hb5⟩
          have hi5 := row_belowT HI.out hb5
          have hj5 := HJ.out.trans (hb5.mono HJ.out.size)
          have HI5 := Lib.hid (hi5.alloc (.cells #[.int .i64 sv] 3))
          have HJ5 := Lib.hid (hj5.alloc hj5.size (.cells #[.int .i64 sv] 3))
          clear hi5 hj5 hb5 HI HJ HSO2
          go_wp2_with (at_builtin; refine wpList_append_own _ rfl _ _ 34 rfl w2.heap.size 3 j0 (.int .i64 0) 1 8 Tryd.underlying34 hj0 hy0 hy1 hy2 rfl (by decide) (.slice ya j yc) j (ints (refRow l k j)) rfl HI5.out ⟨w5.heap.size, 0, none⟩ 1 1 [.int .i64 sv] rfl rfl (cell_one_at _ _ _) (one_int _ _) (by unfold maxLen; omega) (by omega) HJ5.out.size ?_; intro v6 w6 ho6 hg6 _)
          have HJ6 := Lib.hid (HJ5.out.grown hg6 HJ5.out.size (fun x hx => (HI5.out.lt x hx).1))
          have HI6 : Hid (w6.ownsRow w2.heap.size 3 1 v6 (j + 1) (ints (refRow l k (j + 1)))) := by
            unfold Hid
            rw [HRN2.out]
            simpa [ints] using ho6
          obtain ⟨v6a, v6c, hz⟩ := row_slice HI6.out
          subst hz
          clear ho6 hg6 HI5 HJ5
          go_wp2
          go_roundw
          case rel => exact ⟨j + 1, by omega, by go_num, HI6, HJ6⟩
          case measure => simp [intOf]; omega
        · obtain rfl : j = qn := by omega
          have HRL : Hid ((refRow l k j).length = j) := refRow_len _ _ _
          generalize refRow l k j = r at *
          obtain ⟨ya, yc, hz⟩ := row_slice HI.out
          subst hz
          have HO4 := Lib.hid ((own_lessU HI.out HB2.out.size).alloc (.cells #[.slice ya j yc] 34))
          have hba : Below wr.heap.size wr (wr.alloc (.cells #[.slice ya j yc] 34)) := (Below.refl _ wr).alloc (Nat.le_refl _) _
          have HVS4 := Lib.hid (row_belowT (row_belowT HVS.out HJ.out) hba)
          have HRS4 := Lib.hid ((HRS.out.below HJ.out).below hba)
          have hbj := HB2.out.trans (HJ.out.mono HB2.out.size)
          have HB4 := Lib.hid (hbj.trans (hba.mono hbj.size))
          clear hba hbj HVS HRS HI HJ
          go_wp2_with (at_builtin; refine wpList_append_own _ rfl _ _ 25 rfl w.heap.size 34 i0 (.slice none 0 0) 1 24 Tryd.underlying25 hi0 hz0 hz1 hz2 rfl (by decide) (.slice za k zc) k vs rfl HVS4.out ⟨wr.heap.size, 0, none⟩ 1 1 [.slice ya j yc] rfl rfl (cell_slice_at wr _ _) (one_sl _ _ _) (by unfold maxLen; omega) (by omega) HB4.out.size ?_; intro v5 w5 ho5 hg5 _)
          have HB5 := Lib.hid (HB4.out.grown hg5 HB4.out.size (fun x hx => (HVS4.out.lt x hx).1))
          have HW5 : Hid (∃ vs, w5.ownsRow w.heap.size 34 1 v5 (k + 1) vs ∧ RowsI w.heap.size w5 vs (allR l (k + 1))) := by
            have h1 := HO4.out
            have h2 := HRL.out
            refine ⟨_, ho5, ?_⟩
            rw [HAN1.out]
            exact HRS4.out.joined (by rw [h2]; exact h1) HVS4.out hg5
          obtain ⟨v5a, v5c, hz⟩ := row_slice ho5
          subst hz
          clear ho5 hg5
          go_wp2
          go_roundw
          case rel => exact ⟨k + 1, by omega, by go_num, HW5, HB5⟩
          case measure => simp [intOf]; omega
    · obtain rfl : k = l.length := by omega
      obtain ⟨vs, hvs, hrs⟩ := HW.out
      rw [HALL.out] at hrs
      have HFIN := Lib.hid (Rows2.of_row hvs hrs)
      obtain ⟨za, zc, hz⟩ := row_slice hvs
      subst hz
      clear hvs hrs HW
      go_wp2
      go_ret
      exact ⟨_, rfl, HFIN.out, HB.out⟩
end Go.Proofs.YtkliahdgciajjaaDoor
/- The walks of the law's alive, and of Ints at equal rows. -/
namespace Go.Proofs.YtkliahdgciajjaaDoor.WPlain
end Go.Proofs.YtkliahdgciajjaaDoor.WPlain
namespace Go.Proofs.YtkliahdgciajjaaDoor.QPlain
end Go.Proofs.YtkliahdgciajjaaDoor.QPlain
namespace Go.Proofs.YtkliahdgciajjaaDoor.RPlain
end Go.Proofs.YtkliahdgciajjaaDoor.RPlain
namespace Go.Proofs.YtkliahdgciajjaaDoor
open Go.RowKit WPlain QPlain RPlain

theorem intsU_any (v1 v2 : Value) (L : List Int) (w : World) (h1 : Rd w v1 (ints L)) (h2 : Rd w v2 (ints L)) (hl : L.length ≤ 65536) :
    Calls Tryd.prog 12 #[v1, v2] w fun e w' => e = .returned (.bool true) ∧ Below w.heap.size w w' := by
  refine (ints_same L v1 v2 w (by omega) h1 h2).mono ?_
  rintro e w' ⟨rfl, n, rfl⟩
  exact ⟨rfl, below_drN (Below.refl _ _) n⟩
theorem rd_lit {w : World} {b : Nat} {L : List Value} {t : TypeId} (c : Nat) (h : At w b L.toArray t) : Rd w (.slice (some ⟨b, 0, none⟩) L.length c) L := by
  by_cases h0 : 0 < L.length
  · refine .inr ⟨h0, b, 0, c, rfl, fun j u hu => ?_⟩
    rw [Nat.zero_add]
    exact h.cell (by simpa using hu)
  · have : L = [] := List.length_eq_zero_iff.1 (by omega)
    subst this
    exact .inl ⟨rfl, _, _, rfl⟩
theorem sources_rows {l : List Tx} (hf : Fine l) : ∀ r ∈ sourcesS l, r.length ≤ 60 := by
  intro r hr
  unfold sourcesS at hr
  obtain ⟨t, ht, rfl⟩ := List.mem_map.1 hr
  have htl := List.mem_range.1 ht
  rw [List.length_map, List.length_range, show opsAt l t = l[t].o from by unfold opsAt; rw [List.getElem?_eq_getElem htl]]
  exact (hf.ops _ (List.getElem_mem htl)).1
def hU : List Ev := [⟨0, 1, 0, 0⟩, ⟨1, 1, 0, 0⟩, ⟨4, 1, 0, 5⟩, ⟨5, 1, 0, 0⟩, ⟨0, 2, 0, 0⟩, ⟨1, 2, 0, 0⟩, ⟨2, 2, 0, 0⟩, ⟨3, 2, 0, 5⟩]
theorem errU_alive : errU hU = 0 := by decide +kernel
theorem srcU_alive : sourcesS (tableS hU) = [[0], [0]] := by decide +kernel
set_option maxRecDepth 100000 in
set_option maxHeartbeats 1000000 in
theorem aliveU_any (w : World) (hK : HasK w) : Calls Tryd.prog 10 #[] w fun e w' => e = .returned (.bool true) ∧ Below w.heap.size w w' := by
  have hb0 := (Below.refl w.heap.size w).alloc (Nat.le_refl _) (.cells (evsCells hU).toArray 53)
  have hE := evs_at 8 hU (At.new w (evsCells hU).toArray 53)
  have hT := sourcesU_any _ _ _ (hK.later hb0 (Nat.le_refl _)) hE (by decide)
  rw [errU_alive, if_pos rfl, srcU_alive] at hT
  simp only [hU, evsCells, evCells, List.flatMap_cons, List.flatMap_nil, List.append_nil, List.cons_append, List.nil_append, List.length_cons, List.length_nil] at hT hb0
  have HT := Lib.hid hT
  have HB0 := Lib.hid hb0
  clear hT hb0 hE hK
  go_enter Tryd.func10, Tryd.ntmps10
  go_wp2_with fail
  refine HT.out.mono ?_
  rintro e w2 ⟨v, rfl, hv, hb⟩
  have HB := Lib.hid (HB0.out.trans (hb.mono HB0.out.size))
  obtain ⟨a, c, rfl⟩ := hv.len
  obtain ⟨b, o, ra, rc, rfl, hbl, hc, hr⟩ := hv.get 1 (by decide)
  simp only [List.getElem_cons_zero, List.getElem_cons_succ, List.length_cons, List.length_nil, Nat.zero_add] at hc hr
  have hba : Below w2.heap.size w2 (w2.alloc (.cells #[.int .i64 0] 3)) := (Below.refl _ w2).alloc (Nat.le_refl _) _
  have HIN := Lib.hid (intsU_any (.slice ra 1 rc) (.slice (some ⟨w2.heap.size, 0, none⟩) 1 1) [0] (w2.alloc (.cells #[.int .i64 0] 3)) (hr.below hba (Nat.le_refl _)) (rd_lit (L := ints [0]) 1 (At.new w2 _ _)) (by decide))
  have HB2 := Lib.hid (HB.out.trans (hba.mono HB.out.size))
  clear hv hb HT hr HB0 hba HB
  go_wp2_with fail
  refine HIN.out.mono ?_
  rintro e w3 ⟨rfl, hb3⟩
  have HB3 := Lib.hid (HB2.out.trans (hb3.mono HB2.out.size))
  go_wp2
  go_ret
  exact ⟨rfl, HB3.out⟩
end Go.Proofs.YtkliahdgciajjaaDoor
