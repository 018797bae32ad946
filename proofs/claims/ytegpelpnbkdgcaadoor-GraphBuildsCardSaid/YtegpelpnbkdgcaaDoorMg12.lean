/- Merged: TabG, TabH. -/
import Derived.Test.YtegpelpnbkdgcaaDoorTabD
import Derived.Test.YtegpelpnbkdgcaaDoorMg11
import Derived.Test.YtegpelpnbkdgcaaDoorMg8
/- The walks of the reference's state and asked. -/
namespace Go.Proofs.YtegpelpnbkdgcaaDoor.WPlain
end Go.Proofs.YtegpelpnbkdgcaaDoor.WPlain
namespace Go.Proofs.YtegpelpnbkdgcaaDoor.QPlain
end Go.Proofs.YtegpelpnbkdgcaaDoor.QPlain
namespace Go.Proofs.YtegpelpnbkdgcaaDoor.RPlain
end Go.Proofs.YtegpelpnbkdgcaaDoor.RPlain
namespace Go.Proofs.YtegpelpnbkdgcaaDoor
open Go.RowKit WPlain QPlain RPlain

theorem state_any (k : Int) (w : World) : Calls Tryd.prog 34 #[.int .i64 k] w fun e w' => e = .returned (.int .i64 (stateS k)) ∧ w = w' := by
  unfold stateS
  by_cases h7 : k = 7
  · subst h7
    go_enter Tryd.func34, Tryd.ntmps34
    go_wp2
    go_ret
    exact ⟨rfl, rfl⟩
  · by_cases h9 : k = 9
    · subst h9
      go_enter Tryd.func34, Tryd.ntmps34
      go_wp2
      go_ret
      exact ⟨rfl, rfl⟩
    · by_cases h6 : k = 6
      · subst h6
        go_enter Tryd.func34, Tryd.ntmps34
        go_wp2
        go_ret
        exact ⟨rfl, rfl⟩
      · rw [if_neg h7, if_neg h9, if_neg h6]
        have t7 : ((k : Int) == 7) = false := by simp [h7]
        have t9 : ((k : Int) == 9) = false := by simp [h9]
        have t6 : ((k : Int) == 6) = false := by simp [h6]
        clear h7 h9 h6
        go_enter Tryd.func34, Tryd.ntmps34
        go_wp2
        go_ret
        exact ⟨rfl, rfl⟩
/-- the cells of an event -/
def evA (e : Ev) : Array Value := #[.int .i64 e.k, .int .i64 e.t, .int .i64 e.v, .int .i64 e.x]
theorem asked_take {h : List Ev} {k : Nat} (hk : k < h.length) (t : Int) : askedOf (h.take (k + 1)) t = if h[k].t = t then h[k] else askedOf (h.take k) t := by
  rw [← askedOf_snoc, List.take_succ_eq_append_getElem hk]
set_option maxRecDepth 100000 in
set_option maxHeartbeats 2000000 in
theorem asked_any (v : Value) (h : List Ev) (i : Nat) (t : Int) (w : World) (hv : Evs w v h) (hl : h.length ≤ 65536) (hi : i ≤ h.length) (hcap : ∀ a n c, v = .slice a n c → n ≤ c) :
    Calls Tryd.prog 61 #[v, .int .i64 (i : Int), .int .i64 t] w fun e w' => e = .returned (.agg (evA (askedOf (h.take i) t))) ∧ Below w.heap.size w w' := by
  obtain ⟨a, c, rfl⟩ := hv.len
  have hcp : h.length ≤ c := hcap _ _ _ rfl
  have HV := Lib.hid (evs_cutP hv i hi)
  have hgl : (h.take i).length = i := by rw [List.length_take]; omega
  generalize h.take i = g at *
  subst hgl
  clear hv hcap
  have HA0 : Hid (At ((w.alloc (.cells #[.int .i64 0, .int .i64 0, .int .i64 0, .int .i64 0] 69)).alloc (.cells #[.int .i64 0, .int .i64 0, .int .i64 0, .int .i64 0] 69)) w.heap.size #[.int .i64 0, .int .i64 0, .int .i64 0, .int .i64 0] 69) := (At.new w _ _).alloc _
  have HA1 : Hid (At ((w.alloc (.cells #[.int .i64 0, .int .i64 0, .int .i64 0, .int .i64 0] 69)).alloc (.cells #[.int .i64 0, .int .i64 0, .int .i64 0, .int .i64 0] 69)) (w.heap.size + 1) (evA (askedOf [] t)) 69) := by
    have h1 := At.new (w.alloc (.cells #[.int .i64 0, .int .i64 0, .int .i64 0, .int .i64 0] 69)) #[.int .i64 0, .int .i64 0, .int .i64 0, .int .i64 0] 69
    simp only [World.size_alloc] at h1
    exact h1
  have HB0 : Hid (Below w.heap.size w ((w.alloc (.cells #[.int .i64 0, .int .i64 0, .int .i64 0, .int .i64 0] 69)).alloc (.cells #[.int .i64 0, .int .i64 0, .int .i64 0, .int .i64 0] 69))) := ((Below.refl _ _).alloc (Nat.le_refl _) _).alloc (by simp) _
  have hk0 : (0 : Int) ≤ (g.length : Int) := by omega
  have hkc : (g.length : Int) ≤ (c : Int) := by omega
  go_enter Tryd.func61, Tryd.ntmps61
  go_wp2_with fail
  generalize (w.alloc (.cells #[.int .i64 0, .int .i64 0, .int .i64 0, .int .i64 0] 69)).alloc (.cells #[.int .i64 0, .int .i64 0, .int .i64 0, .int .i64 0] 69) = w1 at *
  go_loopw [15] (fun x wr => ∃ k : Nat, k ≤ g.length ∧ x = .int .i64 k ∧ Hid (At wr w.heap.size #[.int .i64 0, .int .i64 0, .int .i64 0, .int .i64 0] 69) ∧ Hid (At wr (w.heap.size + 1) (evA (askedOf (g.take k) t)) 69) ∧ Hid (Below w.heap.size w wr)) (fun x _ => g.length - (intOf x).toNat)
  case atStart => exact ⟨0, by omega, rfl, HA0, HA1, HB0⟩
  case round =>
    clear HA0 HA1 HB0
    obtain ⟨k, hk, rfl, HA0, HA1, HB⟩ := hrel
    have hl1 := HA1.out.lt
    by_cases hlt : k < g.length
    · have HT := Lib.hid (asked_take hlt t)
      have hv2 := HV.out.below HB.out (Nat.le_refl _)
      rcases hv2 with ⟨e0, _⟩ | ⟨l0, b, o, c', he, hbl, hc⟩
      · rw [e0] at hlt; simp at hlt
      · obtain ⟨rfl, rfl⟩ : a = some ⟨b, o, none⟩ ∧ c = c' := by simpa using he
        clear he
        obtain ⟨c0, c1, c2, c3⟩ := hc k hlt
        clear hc
        generalize g[k] = ev at *
        generalize askedOf (g.take k) t = aq at *
        have HE := At.new wr #[.int .i64 ev.k, .int .i64 ev.t, .int .i64 ev.v, .int .i64 ev.x] 69
        have e0 := HE.cell (i := 0) (v := .int .i64 ev.k) rfl
        have e1 := HE.cell (i := 1) (v := .int .i64 ev.t) rfl
        have e2 := HE.cell (i := 2) (v := .int .i64 ev.v) rfl
        have e3 := HE.cell (i := 3) (v := .int .i64 ev.x) rfl
        have HA01 := Lib.hid (HA0.out.alloc (.cells #[.int .i64 ev.k, .int .i64 ev.t, .int .i64 ev.v, .int .i64 ev.x] 69))
        have HA11 := Lib.hid (HA1.out.alloc (.cells #[.int .i64 ev.k, .int .i64 ev.t, .int .i64 ev.v, .int .i64 ev.x] 69))
        have HB1 := Lib.hid (HB.out.alloc HB.out.size (.cells #[.int .i64 ev.k, .int .i64 ev.t, .int .i64 ev.v, .int .i64 ev.x] 69))
        clear HE HA0 HA1 HB
        by_cases het : ev.t = t
        · have HA : Hid (askedOf (g.take (k + 1)) t = ev) := by unfold Hid; rw [HT.out, if_pos het]
          have tq : ((ev.t : Int) == t) = true := by simp [het]
          have f0 := HA11.out.free 0
          have f1 := HA11.out.free 1
          have f2 := HA11.out.free 2
          have f3 := HA11.out.free 3
          have d0 := HA11.out.cell (i := 0) (v := .int .i64 aq.k) rfl
          have d1 := HA11.out.cell (i := 1) (v := .int .i64 aq.t) rfl
          have d2 := HA11.out.cell (i := 2) (v := .int .i64 aq.v) rfl
          have d3 := HA11.out.cell (i := 3) (v := .int .i64 aq.x) rfl
          have HST : Hid (∀ W, At W (w.heap.size + 1) (evA aq) 69 → At (((((W.setCell ⟨w.heap.size + 1, 0, none⟩ (.int .i64 ev.k)).setCell ⟨w.heap.size + 1, 1, none⟩ (.int .i64 ev.t)).setCell ⟨w.heap.size + 1, 2, none⟩ (.int .i64 ev.v)).setCell ⟨w.heap.size + 1, 3, none⟩ (.int .i64 ev.x))) (w.heap.size + 1) (evA ev) 69) := fun W hW => (((hW.set 0 (.int .i64 ev.k)).set 1 (.int .i64 ev.t)).set 2 (.int .i64 ev.v)).set 3 (.int .i64 ev.x)
          clear het HT
          go_upto_region 6 with fail
          generalize wr.alloc (.cells #[.int .i64 ev.k, .int .i64 ev.t, .int .i64 ev.v, .int .i64 ev.x] 69) = w2 at *
          generalize wr.heap.size = N at *
          go_wp2_with fail
          go_roundw
          case rel =>
            exact ⟨k + 1, by omega, by go_num, (((HA01.out.other (a := ⟨w.heap.size + 1, 0, none⟩) (by simp) _).other (a := ⟨w.heap.size + 1, 1, none⟩) (by simp) _).other (a := ⟨w.heap.size + 1, 2, none⟩) (by simp) _).other (a := ⟨w.heap.size + 1, 3, none⟩) (by simp) _, by rw [HA.out]; exact HST.out _ HA11.out, (((HB1.out.setCell (p := ⟨w.heap.size + 1, 0, none⟩) (by simp) _).setCell (p := ⟨w.heap.size + 1, 1, none⟩) (by simp) _).setCell (p := ⟨w.heap.size + 1, 2, none⟩) (by simp) _).setCell (p := ⟨w.heap.size + 1, 3, none⟩) (by simp) _⟩
          case measure => simp [intOf]; omega
        · have HA : Hid (askedOf (g.take (k + 1)) t = aq) := by unfold Hid; rw [HT.out, if_neg het]
          have tq : ((ev.t : Int) == t) = false := by simp [het]
          clear het HT
          go_wp2
          go_roundw
          case rel => exact ⟨k + 1, by omega, by go_num, HA01, by rw [HA.out]; exact HA11, HB1⟩
          case measure => simp [intOf]; omega
    · obtain rfl : k = g.length := by omega
      rw [List.take_length] at HA1
      obtain ⟨aq, haq⟩ : ∃ aq, askedOf g t = aq := ⟨_, rfl⟩
      rw [haq] at HA1
      have HAQ := Lib.hid haq
      clear haq
      have d0 := HA1.out.cell (i := 0) (v := .int .i64 aq.k) rfl
      have d1 := HA1.out.cell (i := 1) (v := .int .i64 aq.t) rfl
      have d2 := HA1.out.cell (i := 2) (v := .int .i64 aq.v) rfl
      have d3 := HA1.out.cell (i := 3) (v := .int .i64 aq.x) rfl
      have f0 := HA0.out.free 0
      have f1 := HA0.out.free 1
      have f2 := HA0.out.free 2
      have f3 := HA0.out.free 3
      have c0 := HA0.out.cell (i := 0) (v := .int .i64 0) rfl
      have c1 := HA0.out.cell (i := 1) (v := .int .i64 0) rfl
      have c2 := HA0.out.cell (i := 2) (v := .int .i64 0) rfl
      have c3 := HA0.out.cell (i := 3) (v := .int .i64 0) rfl
      have HBF : Hid (Below w.heap.size w ((((wr.setCell ⟨w.heap.size, 0, none⟩ (.int .i64 aq.k)).setCell ⟨w.heap.size, 1, none⟩ (.int .i64 aq.t)).setCell ⟨w.heap.size, 2, none⟩ (.int .i64 aq.v)).setCell ⟨w.heap.size, 3, none⟩ (.int .i64 aq.x))) := (((HB.out.setCell (p := ⟨w.heap.size, 0, none⟩) (Nat.le_refl _) _).setCell (p := ⟨w.heap.size, 1, none⟩) (Nat.le_refl _) _).setCell (p := ⟨w.heap.size, 2, none⟩) (Nat.le_refl _) _).setCell (p := ⟨w.heap.size, 3, none⟩) (Nat.le_refl _) _
      go_wp2_with fail
      exact bodyPost_ret (v := .agg (evA aq)) (by simp [results, Tryd.results61, go_sem, evA, c0, c1, c2, c3]) rfl ⟨by rw [HAQ.out], HBF.out⟩
end Go.Proofs.YtegpelpnbkdgcaaDoor
/- The walk of the reference's Ops. (Written by gen_tabH.py.) -/
namespace Go.Proofs.YtegpelpnbkdgcaaDoor.WPlain
end Go.Proofs.YtegpelpnbkdgcaaDoor.WPlain
namespace Go.Proofs.YtegpelpnbkdgcaaDoor.QPlain
end Go.Proofs.YtegpelpnbkdgcaaDoor.QPlain
namespace Go.Proofs.YtegpelpnbkdgcaaDoor.RPlain
end Go.Proofs.YtegpelpnbkdgcaaDoor.RPlain
namespace Go.Proofs.YtegpelpnbkdgcaaDoor
open Go.RowKit WPlain QPlain RPlain

theorem ops_take {h : List Ev} {k : Nat} (hk : k < h.length) (t : Int) : opsOf (h.take (k + 1)) t = opsOf (h.take k) t ++ (if h[k].t = t then opStep (askedOf (h.take k) t) h[k] else []) := by
  rw [← opsOf_snoc, List.take_succ_eq_append_getElem hk]
set_option maxRecDepth 100000 in
set_option maxHeartbeats 4000000 in
theorem refOps_any (v : Value) (h : List Ev) (t : Int) (w : World) (hv : Evs w v h) (hl : h.length ≤ 65536) (hcap : ∀ a n c, v = .slice a n c → n ≤ c) :
    Calls Tryd.prog 36 #[v, .int .i64 t] w fun e w' => ∃ v', e = .returned v' ∧ w'.ownsRow w.heap.size 61 3 v' (opsOf h t).length ((opsOf h t).flatMap opC) ∧ Below w.heap.size w w' := by
  obtain ⟨j0, hj0, hy0, hy1', hy2'⟩ := info_parts infoOp
  have HB0 := Lib.hid ((Below.refl w.heap.size w).alloc (Nat.le_refl _) (.cells #[] 61))
  have HR0 := Lib.hid (World.ownsRow_made (size := 3) (e := 61) (base := w.heap.size) w #[] 0 (Nat.le_refl _) (by unfold maxLen; omega) rfl)
  have HV := Lib.hid hv
  have HAS : Hid (∀ W k, Below w.heap.size w W → k ≤ h.length → Calls Tryd.prog 61 #[v, .int .i64 (k : Nat), .int .i64 t] W fun e w' => e = .returned (.agg (evA (askedOf (h.take k) t))) ∧ Below W.heap.size W w') :=
    fun W k hW hk => asked_any v h k t W (hv.below hW (Nat.le_refl _)) hl hk hcap
  obtain ⟨a, c, rfl⟩ := hv.len
  have HOL : Hid (∀ k, (opsOf (h.take k) t).length ≤ 65536) := fun k => Nat.le_trans (ops_le _ _) (by rw [List.length_take]; omega)
  clear hv hcap
  go_enter Tryd.func36, Tryd.ntmps36
  go_wp2_with fail
  go_loopw [5, 12] (fun y x wr => ∃ k : Nat, k ≤ h.length ∧ x = .int .i64 k ∧ Hid (wr.ownsRow w.heap.size 61 3 y (opsOf (h.take k) t).length ((opsOf (h.take k) t).flatMap opC)) ∧ Hid (Below w.heap.size w wr)) (fun _ x _ => h.length - (intOf x).toNat)
  case atStart => exact ⟨0, by omega, rfl, HR0, HB0⟩
  case round =>
    clear HB0 HR0
    obtain ⟨k, hk, rfl, HR, HB⟩ := hrel
    obtain ⟨ya, yc, rfl⟩ := row_slice HR.out
    by_cases hlt : k < h.length
    · have HT := Lib.hid (ops_take hlt t)
      have hol := HOL.out k
      have HASK : Hid (∀ W, Below w.heap.size w W → Calls Tryd.prog 61 #[.slice a h.length c, .int .i64 k, .int .i64 t] W fun e w' => e = .returned (.agg (evA (askedOf (h.take k) t))) ∧ Below W.heap.size W w') := fun W hW => HAS.out W k hW hk
      have hv2 := HV.out.below HB.out (Nat.le_refl _)
      rcases hv2 with ⟨e0, _⟩ | ⟨l0, b, o, c', he, hbl, hc⟩
      · rw [e0] at hlt; simp at hlt
      · obtain ⟨rfl, rfl⟩ : a = some ⟨b, o, none⟩ ∧ c = c' := by simpa using he
        clear he
        obtain ⟨c0, c1, c2, c3⟩ := hc k hlt
        clear hc
        generalize h[k] = ev at *
        generalize askedOf (h.take k) t = aq at *
        generalize opsOf (h.take k) t = q at *
        have HE := Lib.hid (At.new wr #[.int .i64 ev.k, .int .i64 ev.t, .int .i64 ev.v, .int .i64 ev.x] 69)
        have HB1 := Lib.hid (HB.out.alloc HB.out.size (.cells #[.int .i64 ev.k, .int .i64 ev.t, .int .i64 ev.v, .int .i64 ev.x] 69))
        have HR1 := Lib.hid (HR.out.alloc (.cells #[.int .i64 ev.k, .int .i64 ev.t, .int .i64 ev.v, .int .i64 ev.x] 69))
        have e1 := HE.out.cell (i := 1) (v := .int .i64 ev.t) rfl
        clear HR HB
        by_cases het : ev.t = t
        · have tq : ((ev.t : Int) != t) = false := by simp [het]
          have HT2 : Hid (opsOf (h.take (k + 1)) t = q ++ opStep aq ev) := by unfold Hid; rw [HT.out, if_pos het]
          clear het HT
          go_wp2_with fail
          generalize wr.alloc (.cells #[.int .i64 ev.k, .int .i64 ev.t, .int .i64 ev.v, .int .i64 ev.x] 69) = w2 at *
          generalize wr.heap.size = N at *
          refine (HASK.out w2 HB1.out).mono ?_
          rintro e w3 ⟨rfl, hb3⟩
          have HB3 := Lib.hid (HB1.out.trans (hb3.mono HB1.out.size))
          have HR3 := Lib.hid (row_belowT HR1.out hb3)
          have hE3 := HE.out.below hb3 HE.out.lt
          have HE4 := Lib.hid (hE3.alloc (.cells #[.int .i64 aq.k, .int .i64 aq.t, .int .i64 aq.v, .int .i64 aq.x] 69))
          have HA4 := Lib.hid (At.new w3 #[.int .i64 aq.k, .int .i64 aq.t, .int .i64 aq.v, .int .i64 aq.x] 69)
          have HB4 := Lib.hid (HB3.out.alloc HB3.out.size (.cells #[.int .i64 aq.k, .int .i64 aq.t, .int .i64 aq.v, .int .i64 aq.x] 69))
          have HR4 := Lib.hid (HR3.out.alloc (.cells #[.int .i64 aq.k, .int .i64 aq.t, .int .i64 aq.v, .int .i64 aq.x] 69))
          unfold evA
          clear hb3 hE3 e1 c0 c1 c2 c3 HE HB1 HR1 HB3 HR3
          go_upto_region 7 with fail
          generalize w3.alloc (.cells #[.int .i64 aq.k, .int .i64 aq.t, .int .i64 aq.v, .int .i64 aq.x] 69) = w4 at *
          generalize w3.heap.size = N4 at *
          have e0 := HE4.out.cell (i := 0) (v := .int .i64 ev.k) rfl
          have e3 := HE4.out.cell (i := 3) (v := .int .i64 ev.x) rfl
          have d2 := HA4.out.cell (i := 2) (v := .int .i64 aq.v) rfl
          have d3 := HA4.out.cell (i := 3) (v := .int .i64 aq.x) rfl
          have hNl : N < w4.heap.size := HE4.out.lt
          have hNl4 : N4 < w4.heap.size := HA4.out.lt
          have hw4 : ∀ o, w.heap.size ≤ (w4.alloc o).heap.size := fun o => by have := HB4.out.size; simp; omega
          have HW4 := Lib.hid hw4
          clear hw4
          by_cases h3 : ev.k = 3
          · have t3 : ((ev.k : Int) == 3) = true := by simp [h3]
            have t5 : ((ev.k : Int) == 5) = false := by simp [h3]
            have HOP : Hid (opStep aq ev = [⟨false, aq.v, ev.x⟩]) := by unfold Hid opStep; rw [if_pos h3]
            clear h3
            go_wp2_with (at_builtin; refine wpList_append_own _ rfl _ _ 62 rfl w.heap.size 61 j0 _ 3 24 Tryd.underlying62 hj0 hy0 hy1' hy2' rfl (by decide) (.slice ya q.length yc) q.length (q.flatMap opC) rfl (HR4.out.alloc _) ⟨w4.heap.size, 0, none⟩ 1 1 (opC ⟨false, aq.v, ev.x⟩) rfl rfl (cells_at (At.new w4 #[.bool false, .int .i64 aq.v, .int .i64 ev.x] _)) (opC_one _) (by unfold maxLen; omega) (by omega) (HW4.out _) ?_)
            intro v5 w5 hn5 hg5 _
            obtain ⟨ya5, yc5, rfl⟩ := row_slice hn5
            have HR5 : Hid (w5.ownsRow w.heap.size 61 3 (.slice ya5 (q.length + 1) yc5) (opsOf (h.take (k + 1)) t).length ((opsOf (h.take (k + 1)) t).flatMap opC)) := by
              unfold Hid
              rw [HT2.out, HOP.out]
              simpa using hn5
            have HB5 : Hid (Below w.heap.size w w5) := (HB4.out.alloc HB4.out.size (.cells #[.bool false, .int .i64 aq.v, .int .i64 ev.x] 61)).grown hg5 (HW4.out _) (fun k' hk' => (HR4.out.lt k' hk').1)
            have hE5 := (HE4.out.alloc (.cells #[.bool false, .int .i64 aq.v, .int .i64 ev.x] 61)).grown hg5 (Ne.symm (row_not HR4.out HE4.out (by decide)))
            have e50 := hE5.cell (i := 0) (v := .int .i64 ev.k) rfl
            clear hE5 hn5 hg5
            go_wp2
            go_roundw
            case rel => exact ⟨k + 1, by omega, by go_num, HR5, HB5⟩
            case measure => simp [intOf]; omega
          · by_cases h5 : ev.k = 5
            · have t3 : ((ev.k : Int) == 3) = false := by simp [h3]
              have t5 : ((ev.k : Int) == 5) = true := by simp [h5]
              have HOP : Hid (opStep aq ev = [⟨true, aq.v, aq.x⟩]) := by unfold Hid opStep; rw [if_neg h3, if_pos h5]
              clear h3 h5
              go_wp2_with (at_builtin; refine wpList_append_own _ rfl _ _ 62 rfl w.heap.size 61 j0 _ 3 24 Tryd.underlying62 hj0 hy0 hy1' hy2' rfl (by decide) (.slice ya q.length yc) q.length (q.flatMap opC) rfl (HR4.out.alloc _) ⟨w4.heap.size, 0, none⟩ 1 1 (opC ⟨true, aq.v, aq.x⟩) rfl rfl (cells_at (At.new w4 #[.bool true, .int .i64 aq.v, .int .i64 aq.x] _)) (opC_one _) (by unfold maxLen; omega) (by omega) (HW4.out _) ?_)
              intro v5 w5 hn5 hg5 _
              obtain ⟨ya5, yc5, rfl⟩ := row_slice hn5
              have HR5 : Hid (w5.ownsRow w.heap.size 61 3 (.slice ya5 (q.length + 1) yc5) (opsOf (h.take (k + 1)) t).length ((opsOf (h.take (k + 1)) t).flatMap opC)) := by
                unfold Hid
                rw [HT2.out, HOP.out]
                simpa using hn5
              have HB5 : Hid (Below w.heap.size w w5) := (HB4.out.alloc HB4.out.size (.cells #[.bool true, .int .i64 aq.v, .int .i64 aq.x] 61)).grown hg5 (HW4.out _) (fun k' hk' => (HR4.out.lt k' hk').1)
              have hE5 := (HE4.out.alloc (.cells #[.bool true, .int .i64 aq.v, .int .i64 aq.x] 61)).grown hg5 (Ne.symm (row_not HR4.out HE4.out (by decide)))
              have e50 := hE5.cell (i := 0) (v := .int .i64 ev.k) rfl
              clear hE5 hn5 hg5
              go_wp2
              go_roundw
              case rel => exact ⟨k + 1, by omega, by go_num, HR5, HB5⟩
              case measure => simp [intOf]; omega
            · have t3 : ((ev.k : Int) == 3) = false := by simp [h3]
              have t5 : ((ev.k : Int) == 5) = false := by simp [h5]
              have HOP : Hid (opsOf (h.take (k + 1)) t = q) := by unfold Hid; rw [HT2.out]; unfold opStep; rw [if_neg h3, if_neg h5, List.append_nil]
              clear h3 h5
              go_wp2
              go_roundw
              case rel => exact ⟨k + 1, by omega, by go_num, by rw [HOP.out]; exact HR4, HB4⟩
              case measure => simp [intOf]; omega
        · have tq : ((ev.t : Int) != t) = true := by simp [het]
          have HT2 : Hid (opsOf (h.take (k + 1)) t = q) := by unfold Hid; rw [HT.out, if_neg het, List.append_nil]
          clear het HT
          go_wp2
          go_roundw
          case rel => exact ⟨k + 1, by omega, by go_num, by rw [HT2.out]; exact HR1, HB1⟩
          case measure => simp [intOf]; omega
    · obtain rfl : k = h.length := by omega
      rw [List.take_length] at HR ⊢
      obtain ⟨q, hq⟩ : ∃ q, opsOf h t = q := ⟨_, rfl⟩
      rw [hq] at HR ⊢
      have HQ := Lib.hid hq
      clear hq
      go_wp2
      refine bodyPost_ret (v := .slice ya q.length yc) (by simp [results, Tryd.results36, go_sem]) rfl ⟨_, rfl, by rw [HQ.out]; exact HR.out, HB.out⟩
end Go.Proofs.YtegpelpnbkdgcaaDoor
