/- The walks of package prefix's Of, with what it leaves out, and of the reference's. -/
import Derived.Test.YtnggadcoepieaaaDoorPfxK
namespace Go.Proofs.YtnggadcoepieaaaDoor.WPlain
end Go.Proofs.YtnggadcoepieaaaDoor.WPlain
namespace Go.Proofs.YtnggadcoepieaaaDoor.QPlain
end Go.Proofs.YtnggadcoepieaaaDoor.QPlain
namespace Go.Proofs.YtnggadcoepieaaaDoor.RPlain
end Go.Proofs.YtnggadcoepieaaaDoor.RPlain
namespace Go.Proofs.YtnggadcoepieaaaDoor
open Go.RowKit WPlain QPlain RPlain

theorem ofT_step {h : List Ev} {j : Nat} (hj : j < h.length) (t : Int) : ofT (h.take (j + 1)) t = if h[j].t = t then ofT (h.take j) t ++ [h[j]] else ofT (h.take j) t := by
  rw [List.take_succ_eq_append_getElem hj, ofT_app]
  unfold ofT
  by_cases he : h[j].t = t
  · rw [if_pos he]; simp [he]
  · rw [if_neg he]; simp [he]
theorem cells4 (w : World) (a b c d : Int) : ∀ j u, [Value.int .i64 a, .int .i64 b, .int .i64 c, .int .i64 d][j]? = some u → (w.alloc (.cells #[.int .i64 a, .int .i64 b, .int .i64 c, .int .i64 d] 38)).cell? ((⟨w.heap.size, 0, none⟩ : Addr).add j) = some u := by
  intro j u hu
  rw [addr_add, Nat.zero_add]
  exact (At.new w #[.int .i64 a, .int .i64 b, .int .i64 c, .int .i64 d] 38).cell (by simpa using hu)
theorem one4 (a b c d : Int) : ∀ u ∈ [Value.int .i64 a, .int .i64 b, .int .i64 c, .int .i64 d], u.oneCell' = true := by
  intro u hu; simp at hu; rcases hu with rfl | rfl | rfl | rfl <;> rfl
/-- is it another transaction's? -/
theorem notOf_any (k t v x xt : Int) (N : Nat) (w : World) (hc : w.cell? ⟨N, 0, none⟩ = some (.int .i64 xt)) :
    Calls Tryd.prog 20 #[.agg #[.int .i64 k, .int .i64 t, .int .i64 v, .int .i64 x], .pointer (some ⟨N, 0, none⟩)] w fun e w' => e = .returned (.bool (t != xt)) ∧ Below w.heap.size w w' := by
  have hb := (Below.refl w.heap.size w).alloc (Nat.le_refl _) (.cells #[.int .i64 k, .int .i64 t, .int .i64 v, .int .i64 x] 38)
  have hA := At.new w #[.int .i64 k, .int .i64 t, .int .i64 v, .int .i64 x] 38
  have e1 := hA.cell (i := 1) (v := .int .i64 t) rfl
  have c1 := ((Below.refl w.heap.size w).alloc (Nat.le_refl _) (.cells #[.int .i64 k, .int .i64 t, .int .i64 v, .int .i64 x] 38)).cell (p := ⟨N, 0, none⟩) (cell_lt hc)
  rw [hc] at c1
  clear hA
  go_enter Tryd.func20, Tryd.ntmps20
  go_wp2
  go_ret
  exact ⟨rfl, hb⟩
set_option maxRecDepth 100000 in
set_option maxHeartbeats 1000000 in
theorem without_any (v : Value) (N : Nat) (h : List Ev) (xt : Int) (w : World) (hv : Evs w v h) (hl : h.length ≤ 65536) (hc : w.cell? ⟨N, 0, none⟩ = some (.int .i64 xt)) :
    Calls Tryd.prog 19 #[v, .func (.func 20) #[] #[.pointer (some ⟨N, 0, none⟩)]] w fun e w' => ∃ v', e = .returned v' ∧ w'.ownsRow w.heap.size 38 4 v' (ofT h xt).length (evsCells (ofT h xt)) ∧ Below w.heap.size w w' := by
  obtain ⟨j0, hj0, hy0, hy1', hy2'⟩ := info_parts info38
  have HB0 := Lib.hid (Below.refl w.heap.size w)
  have HV := Lib.hid hv
  have HC := Lib.hid hc
  have HNW : Hid (N < w.heap.size) := cell_lt hc
  obtain ⟨a, c, rfl⟩ := hv.len
  clear hv hc
  go_enter Tryd.func19, Tryd.ntmps19
  go_wp2_with fail
  go_loopw [5, 10] (fun y x wr => ∃ k : Nat, k ≤ h.length ∧ x = .int .i64 k ∧ Hid (wr.ownsRow w.heap.size 38 4 y (ofT (h.take k) xt).length (evsCells (ofT (h.take k) xt))) ∧ Hid (Below w.heap.size w wr)) (fun _ x _ => h.length - (intOf x).toNat)
  case atStart => exact ⟨0, by omega, rfl, World.ownsRow_nil _ _ _ _, HB0⟩
  case round =>
    clear HB0
    obtain ⟨k, hk, rfl, HY, HB⟩ := hrel
    by_cases hlt : k < h.length
    · have HT := Lib.hid (ofT_step hlt xt)
      have hol : (ofT (h.take k) xt).length ≤ k := Nat.le_trans (List.length_filter_le _ _) (List.length_take_le _ _)
      have hv2 := HV.out.below HB.out (Nat.le_refl _)
      have hbs := HB.out.size
      rcases hv2 with ⟨e0, _⟩ | ⟨l0, b, o, c', he, hbl, hcs⟩
      · rw [e0] at hlt; simp at hlt
      · obtain ⟨rfl, rfl⟩ : a = some ⟨b, o, none⟩ ∧ c = c' := by simpa using he
        clear he
        obtain ⟨c0, c1, c2, c3⟩ := hcs k hlt
        clear hcs
        generalize h[k] = ev at *
        generalize ofT (h.take k) xt = H at *
        obtain ⟨va, vc, rfl⟩ := row_slice HY.out
        have hbA := (Below.refl wr.heap.size wr).alloc (Nat.le_refl _) (.cells #[.int .i64 ev.k, .int .i64 ev.t, .int .i64 ev.v, .int .i64 ev.x] 38)
        have hE := At.new wr #[.int .i64 ev.k, .int .i64 ev.t, .int .i64 ev.v, .int .i64 ev.x] 38
        have hN2 := (HB.out.trans (hbA.mono hbs)).cell (p := ⟨N, 0, none⟩) HNW.out
        rw [HC.out] at hN2
        have HCL := Lib.hid (notOf_any ev.k ev.t ev.v ev.x xt N _ hN2)
        have HE := Lib.hid hE
        have HBA := Lib.hid hbA
        have HY2 := Lib.hid (row_belowR HY.out hbA)
        have HB2 := Lib.hid (HB.out.trans (hbA.mono hbs))
        clear hbA hE hN2 HY
        by_cases het : ev.t = xt
        · have tb : (ev.t != xt) = false := by simp [het]
          rw [tb] at HCL
          have HA : Hid (ofT (h.take (k + 1)) xt = H ++ [ev]) := by unfold Hid; rw [HT.out, if_pos het]
          clear tb het HT
          go_wp2_with (first | (go_at_call 20; refine HCL.out.mono ?_; rintro e w4 ⟨rfl, hb4⟩; have hE4 := HE.out.below hb4 HE.out.lt; have k0 := hE4.cell (i := 0) (v := .int .i64 ev.k) rfl; have k1 := hE4.cell (i := 1) (v := .int .i64 ev.t) rfl; have k2 := hE4.cell (i := 2) (v := .int .i64 ev.v) rfl; have k3 := hE4.cell (i := 3) (v := .int .i64 ev.x) rfl; have HY4 := Lib.hid (row_belowR HY2.out hb4); have hb5 := HB2.out.trans (hb4.mono HB2.out.size)) | (at_builtin; go_must (refine wpList_append_own _ rfl _ _ 22 rfl w.heap.size 38 j0 (.agg #[.int .i64 0, .int .i64 0, .int .i64 0, .int .i64 0]) 4 32 Tryd.underlying22 hj0 hy0 hy1' hy2' rfl (by decide) _ _ _ rfl (HY4.out.alloc _) ⟨w4.heap.size, 0, none⟩ 1 1 [.int .i64 ev.k, .int .i64 ev.t, .int .i64 ev.v, .int .i64 ev.x] rfl rfl ?c1 ?c2 ?c3 ?c4 ?c5 ?_)))
          case c1 => exact cells4 w4 _ _ _ _
          case c2 => exact one4 _ _ _ _
          case c3 => unfold maxLen; omega
          case c4 => omega
          case c5 => have := hb5.size; simp; omega
          intro v5 w5 hv5 hg5 _
          have HB6 : Hid (Below w.heap.size w w5) := (hb5.alloc hb5.size _).grown hg5 (by have := hb5.size; simp; omega) (fun k' hk' => (HY4.out.lt k' hk').1)
          have HV5 : Hid (w5.ownsRow w.heap.size 38 4 v5 (H ++ [ev]).length (evsCells (H ++ [ev]))) := by rw [← evsCells_snoc, List.length_append]; exact hv5
          clear hv5 hg5 hb5 hb4 HY4
          go_wp2
          go_roundw
          case rel => exact ⟨k + 1, by omega, by go_num, by rw [HA.out]; exact HV5, HB6⟩
          case measure => simp [intOf]; omega
        · have tb : (ev.t != xt) = true := by simp [het]
          rw [tb] at HCL
          have HA : Hid (ofT (h.take (k + 1)) xt = H) := by unfold Hid; rw [HT.out, if_neg het]
          clear tb het HT
          go_wp2_with (go_at_call 20; refine HCL.out.mono ?_; rintro e w4 ⟨rfl, hb4⟩)
          have HY4 := Lib.hid (row_belowR HY2.out hb4)
          have HB4 := Lib.hid (HB2.out.trans (hb4.mono HB2.out.size))
          go_wp2
          go_roundw
          case rel => exact ⟨k + 1, by omega, by go_num, by rw [HA.out]; exact HY4, HB4⟩
          case measure => simp [intOf]; omega
    · obtain rfl : k = h.length := by omega
      rw [List.take_length] at HY
      go_wp2
      go_ret
      exact ⟨_, rfl, HY.out, HB.out⟩
set_option maxRecDepth 100000 in
theorem of_any (v : Value) (h : List Ev) (xt : Int) (w : World) (hv : Evs w v h) (hl : h.length ≤ 65536) :
    Calls Tryd.prog 8 #[v, .int .i64 xt] w fun e w' => ∃ v', e = .returned v' ∧ Evs w' v' (ofT h xt) ∧ Src v' ∧ Below w.heap.size w w' := by
  have hb := (Below.refl w.heap.size w).alloc (Nat.le_refl _) (.cells #[.int .i64 xt] 3)
  have hA := At.new w #[.int .i64 xt] 3
  have HW := Lib.hid (without_any v w.heap.size h xt _ (hv.below hb (Nat.le_refl _)) hl (hA.cell (i := 0) rfl))
  have HB := Lib.hid hb
  obtain ⟨a, c, rfl⟩ := hv.len
  clear hb hA hv
  go_enter Tryd.func8, Tryd.ntmps8
  go_wp2_with fail
  refine HW.out.mono ?_
  rintro e w2 ⟨v', rfl, hr, hb2⟩
  have HB2 := Lib.hid (HB.out.trans (hb2.mono HB.out.size))
  have HE := Lib.hid (Evs.of_row hr)
  have HS := Lib.hid (Src.of_row hr)
  clear hr hb2
  go_wp2
  go_ret
  exact ⟨_, rfl, HE.out, HS.out, HB2.out⟩
set_option maxRecDepth 100000 in
set_option maxHeartbeats 1000000 in
theorem refOfE_any (v : Value) (h : List Ev) (xt : Int) (w : World) (hv : Evs w v h) (hl : h.length ≤ 65536) :
    Calls Tryd.prog 9 #[v, .int .i64 xt] w fun e w' => ∃ v', e = .returned v' ∧ Evs w' v' (ofT h xt) ∧ Src v' ∧ Below w.heap.size w w' := by
  obtain ⟨j0, hj0, hy0, hy1', hy2'⟩ := info_parts info38
  have HB0 := Lib.hid ((Below.refl w.heap.size w).alloc (Nat.le_refl _) (.cells #[] 38))
  have HR0 := Lib.hid (World.ownsRow_made (size := 4) (e := 38) (base := w.heap.size) w #[] 0 (Nat.le_refl _) (by unfold maxLen; omega) rfl)
  have HV := Lib.hid hv
  obtain ⟨a, c, rfl⟩ := hv.len
  clear hv
  go_enter Tryd.func9, Tryd.ntmps9
  go_wp2_with fail
  go_loopw [5, 11] (fun y x wr => ∃ k : Nat, k ≤ h.length ∧ x = .int .i64 k ∧ Hid (wr.ownsRow w.heap.size 38 4 y (ofT (h.take k) xt).length (evsCells (ofT (h.take k) xt))) ∧ Hid (Below w.heap.size w wr)) (fun _ x _ => h.length - (intOf x).toNat)
  case atStart => exact ⟨0, by omega, rfl, HR0, HB0⟩
  case round =>
    clear HB0 HR0
    obtain ⟨k, hk, rfl, HY, HB⟩ := hrel
    by_cases hlt : k < h.length
    · have HT := Lib.hid (ofT_step hlt xt)
      have hol : (ofT (h.take k) xt).length ≤ k := Nat.le_trans (List.length_filter_le _ _) (List.length_take_le _ _)
      have hv2 := HV.out.below HB.out (Nat.le_refl _)
      have hbs := HB.out.size
      rcases hv2 with ⟨e0, _⟩ | ⟨l0, b, o, c', he, hbl, hcs⟩
      · rw [e0] at hlt; simp at hlt
      · obtain ⟨rfl, rfl⟩ : a = some ⟨b, o, none⟩ ∧ c = c' := by simpa using he
        clear he
        obtain ⟨c0, c1, c2, c3⟩ := hcs k hlt
        clear hcs
        generalize h[k] = ev at *
        generalize ofT (h.take k) xt = H at *
        obtain ⟨va, vc, rfl⟩ := row_slice HY.out
        have hbA := (Below.refl wr.heap.size wr).alloc (Nat.le_refl _) (.cells #[.int .i64 ev.k, .int .i64 ev.t, .int .i64 ev.v, .int .i64 ev.x] 38)
        have hE := At.new wr #[.int .i64 ev.k, .int .i64 ev.t, .int .i64 ev.v, .int .i64 ev.x] 38
        have k0 := hE.cell (i := 0) (v := .int .i64 ev.k) rfl
        have k1 := hE.cell (i := 1) (v := .int .i64 ev.t) rfl
        have k2 := hE.cell (i := 2) (v := .int .i64 ev.v) rfl
        have k3 := hE.cell (i := 3) (v := .int .i64 ev.x) rfl
        have HY2 := Lib.hid (row_belowR HY.out hbA)
        have HB2 := Lib.hid (HB.out.trans (hbA.mono hbs))
        clear hbA hE HY
        by_cases het : ev.t = xt
        · have HA : Hid (ofT (h.take (k + 1)) xt = H ++ [ev]) := by unfold Hid; rw [HT.out, if_pos het]
          have tb : (ev.t == xt) = true := by simp [het]
          clear het HT
          have hb5 := HB2.out
          go_wp2_with (at_builtin; go_must (refine wpList_append_own _ rfl _ _ 22 rfl w.heap.size 38 j0 (.agg #[.int .i64 0, .int .i64 0, .int .i64 0, .int .i64 0]) 4 32 Tryd.underlying22 hj0 hy0 hy1' hy2' rfl (by decide) _ _ _ rfl (HY2.out.alloc _) ⟨wr.heap.size + 1, 0, none⟩ 1 1 [.int .i64 ev.k, .int .i64 ev.t, .int .i64 ev.v, .int .i64 ev.x] rfl rfl ?c1 ?c2 ?c3 ?c4 ?c5 ?_))
          case c1 => have h4 := cells4 (wr.alloc (.cells #[.int .i64 ev.k, .int .i64 ev.t, .int .i64 ev.v, .int .i64 ev.x] 38)) ev.k ev.t ev.v ev.x; rw [World.size_alloc] at h4; exact h4
          case c2 => exact one4 _ _ _ _
          case c3 => unfold maxLen; omega
          case c4 => omega
          case c5 => have := hb5.size; simp; simp at this; omega
          intro v5 w5 hv5 hg5 _
          have HB6 : Hid (Below w.heap.size w w5) := (hb5.alloc hb5.size _).grown hg5 (by have := hb5.size; simp; simp at this; omega) (fun k' hk' => (HY2.out.lt k' hk').1)
          have HV5 : Hid (w5.ownsRow w.heap.size 38 4 v5 (H ++ [ev]).length (evsCells (H ++ [ev]))) := by rw [← evsCells_snoc, List.length_append]; exact hv5
          clear hv5 hg5 hb5 HY2
          go_wp2
          go_roundw
          case rel => exact ⟨k + 1, by omega, by go_num, by rw [HA.out]; exact HV5, HB6⟩
          case measure => simp [intOf]; omega
        · have HA : Hid (ofT (h.take (k + 1)) xt = H) := by unfold Hid; rw [HT.out, if_neg het]
          have tb : (ev.t == xt) = false := by simp [het]
          clear het HT
          go_wp2
          go_roundw
          case rel => exact ⟨k + 1, by omega, by go_num, by rw [HA.out]; exact HY2, HB2⟩
          case measure => simp [intOf]; omega
    · obtain rfl : k = h.length := by omega
      rw [List.take_length] at HY
      go_wp2
      go_ret
      exact ⟨_, rfl, Evs.of_row HY.out, Src.of_row HY.out, HB.out⟩
end Go.Proofs.YtnggadcoepieaaaDoor
