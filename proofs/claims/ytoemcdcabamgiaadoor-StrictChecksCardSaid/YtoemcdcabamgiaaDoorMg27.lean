/- Merged: StrG, StrK, StrH. -/
import Derived.Test.YtoemcdcabamgiaaDoorMg26
import Derived.Test.YtoemcdcabamgiaaDoorMg23
import Derived.Test.YtoemcdcabamgiaaDoorTabJ
import Derived.Test.YtoemcdcabamgiaaDoorStrD
import Derived.Test.YtoemcdcabamgiaaDoorMg9
import Derived.Test.YtoemcdcabamgiaaDoorMg5
import Derived.Test.YtoemcdcabamgiaaDoorMg25
import Derived.Test.YtoemcdcabamgiaaDoorMg6
import Derived.Laws.OwnMore
import Derived.Laws.IdiomCopy
import Derived.WalkLawsBesides
/- The walks of StrictWider's closure, of slices.IndexFunc and of slices.DeleteFunc with it. -/
namespace Go.Proofs.YtoemcdcabamgiaaDoor.WPlain
end Go.Proofs.YtoemcdcabamgiaaDoor.WPlain
namespace Go.Proofs.YtoemcdcabamgiaaDoor.QPlain
end Go.Proofs.YtoemcdcabamgiaaDoor.QPlain
namespace Go.Proofs.YtoemcdcabamgiaaDoor.RPlain
end Go.Proofs.YtoemcdcabamgiaaDoor.RPlain
namespace Go.Proofs.YtoemcdcabamgiaaDoor
open Go.RowKit WPlain QPlain RPlain

/-- what the closure answers, whenever it is called -/
def OpenC (w0 : World) (N : Nat) (P : Ev → Bool) : Prop := ∀ W, Below w0.heap.size w0 W → ∀ y : Ev,
  Calls Tryd.prog 16 #[.agg #[.int .i64 y.k, .int .i64 y.t, .int .i64 y.v, .int .i64 y.x], .pointer (some ⟨N, 0, none⟩)] W fun e w' => e = .returned (.bool (P y)) ∧ Below W.heap.size W w'
set_option maxHeartbeats 2000000 in
theorem open_any (N : Nat) (lv : Value) (l : List Tx) (w0 : World) (hv : Txs w0 lv l) (hl : l.length ≤ 65536) (hc : w0.cell? ⟨N, 0, none⟩ = some lv) : OpenC w0 N (fun y => opn l y.t) := by
  intro w hw y
  obtain ⟨k, t, v, x⟩ := y
  simp only
  have hb := (Below.refl w.heap.size w).alloc (Nat.le_refl _) (.cells #[.int .i64 k, .int .i64 t, .int .i64 v, .int .i64 x] 45)
  have hA := At.new w #[.int .i64 k, .int .i64 t, .int .i64 v, .int .i64 x] 45
  have e1 := hA.cell (i := 1) (v := .int .i64 t) rfl
  have hw1 := hw.trans (hb.mono hw.size)
  have c1 := (hw1.cell (p := ⟨N, 0, none⟩) (cell_lt hc)).trans hc
  have hv1 := hv.below hw1 (Nat.le_refl _)
  have hN1 := cell_lt c1
  have HF := Lib.hid (find_any lv l t _ hv1 hl)
  have HB := Lib.hid hb
  have HC1 := Lib.hid c1
  have HV1 := Lib.hid hv1
  obtain ⟨a, c, rfl⟩ := hv.len
  clear hA hv hv1 hc hb hw1
  unfold opn
  cases hf : findS l t with
  | none =>
    rw [hf] at HF
    clear hf
    go_enter Tryd.func16, Tryd.ntmps16
    go_wp2_with fail
    refine HF.out.mono ?_
    rintro e w3 ⟨rfl, hb3⟩
    have HB3 := Lib.hid (HB.out.trans (hb3.mono HB.out.size))
    clear hb3
    go_wp2_with fail
    go_ret
    exact ⟨rfl, HB3.out⟩
  | some k' =>
    rw [hf] at HF
    obtain ⟨hk, -⟩ := findS_at hf
    clear hf
    simp only [List.getElem?_eq_getElem hk]
    obtain ⟨X, hX⟩ : ∃ X, l[k'] = X := ⟨_, rfl⟩
    rw [hX]
    have HX := Lib.hid hX
    clear hX
    go_enter Tryd.func16, Tryd.ntmps16
    go_wp2_with fail
    refine HF.out.mono ?_
    rintro e w3 ⟨rfl, hb3⟩
    have HB3 := Lib.hid (HB.out.trans (hb3.mono HB.out.size))
    have c3 := (hb3.cell (p := ⟨N, 0, none⟩) hN1).trans HC1.out
    have hv3 := HV1.out.below hb3 (Nat.le_refl _)
    obtain ⟨b, o, c', he⟩ := hv3.opened (by omega)
    obtain ⟨rfl, rfl⟩ : a = some ⟨b, o, none⟩ ∧ c = c' := by simpa using he
    clear he
    obtain ⟨u, x0, x1, x2, x3, x4, -⟩ := hv3.get k' hk
    rw [HX.out] at x0 x1 x2 x3
    clear hv3 hb3 HF c1 e1
    by_cases h3 : X.s = 3
    · have t3 : (X.s == 3) = true := by simp [h3]
      go_wp2_with fail
      go_ret
      exact ⟨by simp [t3], HB3.out⟩
    · have t3 : (X.s == 3) = false := by simp [h3]
      go_wp2_with fail
      go_ret
      exact ⟨by simp [t3], HB3.out⟩
set_option maxRecDepth 100000 in
set_option maxHeartbeats 1000000 in
theorem indexO_any (g cap N : Nat) (h : List Ev) (P : Ev → Bool) (w0 w : World) (hw0 : Below w0.heap.size w0 w) (hv : Evs w (.slice (some ⟨g, 0, none⟩) h.length cap) h) (hl : h.length ≤ 65536) (hc : OpenC w0 N P) :
    Calls Tryd.prog 40 #[.slice (some ⟨g, 0, none⟩) h.length cap, .func (.func 16) #[] #[.pointer (some ⟨N, 0, none⟩)]] w fun e w' => Below w.heap.size w w' ∧
      ((e = .returned (.int .i64 (-1)) ∧ ∀ y ∈ h, P y = false) ∨ ∃ i : Nat, e = .returned (.int .i64 i) ∧ i < h.length ∧ (∀ y ∈ h.take i, P y = false) ∧ ∀ y, h[i]? = some y → P y = true) := by
  have hb0 := Below.refl w.heap.size w
  have HV := Lib.hid hv
  have HC := Lib.hid hc
  clear hv hc
  go_enter Tryd.func40, Tryd.ntmps40
  go_wp2_with fail
  go_loopw [8] (fun x wr => ∃ k : Nat, k ≤ h.length ∧ x = .int .i64 k ∧ Hid (∀ y ∈ h.take k, P y = false) ∧ Hid (Below w.heap.size w wr)) (fun x _ => h.length - (intOf x).toNat)
  case atStart => exact ⟨0, by omega, rfl, (by intro y hy; simp at hy), hb0⟩
  case round =>
    clear hb0
    obtain ⟨k, hk, rfl, HA, HB⟩ := hrel
    by_cases hlt : k < h.length
    · have hv2 := HV.out.below HB.out (Nat.le_refl _)
      have HG : Hid (h[k]? = some h[k]) := List.getElem?_eq_getElem hlt
      have HT : Hid (h.take (k + 1) = h.take k ++ [h[k]]) := List.take_succ_eq_append_getElem hlt
      rcases hv2 with ⟨e0, _⟩ | ⟨l0, b, o, c', he, hbl, hcs⟩
      · rw [e0] at hlt; simp at hlt
      · obtain ⟨⟨rfl, rfl⟩, rfl⟩ : (g = b ∧ o = 0) ∧ cap = c' := by
          simp only [Value.slice.injEq, Option.some.injEq, Addr.mk.injEq, and_true, true_and] at he
          exact ⟨⟨he.1.1, he.1.2.symm⟩, he.2⟩
        clear he
        obtain ⟨c0, c1, c2, c3⟩ := hcs k hlt
        clear hcs
        generalize h[k] = ev at *
        have HCL := Lib.hid (HC.out wr (hw0.trans (HB.out.mono hw0.size)) ev)
        simp only [Nat.zero_add] at c0 c1 c2 c3
        by_cases het : P ev = false
        · rw [het] at HCL
          have HA2 : Hid (∀ y ∈ h.take (k + 1), P y = false) := by
            intro y hy
            rw [HT.out] at hy
            rcases List.mem_append.1 hy with hy | hy
            · exact HA.out y hy
            · rw [List.mem_singleton.1 hy]; exact het
          clear het HG HT HA
          go_wp2_with (go_at_call 16; refine HCL.out.mono ?_; rintro e w3 ⟨rfl, hb3⟩)
          have HB3 := Lib.hid (HB.out.trans (hb3.mono HB.out.size))
          go_roundw
          case rel => exact ⟨k + 1, by omega, by go_num, HA2, HB3⟩
          case measure => simp [intOf]; omega
        · replace het : P ev = true := by simpa using het
          rw [het] at HCL
          have HNE : Hid (∀ y, h[k]? = some y → P y = true) := by
            intro y hy
            rw [HG.out] at hy
            rw [← Option.some.inj hy]; exact het
          clear het HG HT
          go_wp2_with (go_at_call 16; refine HCL.out.mono ?_; rintro e w3 ⟨rfl, hb3⟩)
          refine bodyPost_ret (v := .int .i64 k) (by simp [results, Tryd.results40, go_sem]) rfl ⟨HB.out.trans (hb3.mono HB.out.size), .inr ⟨k, rfl, hlt, HA.out, HNE.out⟩⟩
    · obtain rfl : k = h.length := by omega
      have HA2 : Hid (∀ y ∈ h, P y = false) := by have := HA.out; rwa [List.take_length] at this
      clear HA
      go_wp2
      refine bodyPost_ret (v := .int .i64 (-1)) (by simp [results, Tryd.results40, go_sem]) rfl ⟨HB.out, .inl ⟨rfl, HA2.out⟩⟩
set_option maxRecDepth 100000 in
set_option maxHeartbeats 2000000 in
theorem deleteO_any (B g cap N : Nat) (h : List Ev) (P : Ev → Bool) (w0 w : World) (hw0 : Below w0.heap.size w0 w) (hrow : w.ownsRow B 45 4 (.slice (some ⟨g, 0, none⟩) h.length cap) h.length (evsCells h)) (hl : h.length ≤ 65536) (hcap : h.length ≤ cap) (hN : w0.heap.size ≤ B) (hB : B ≤ w.heap.size) (hc : OpenC w0 N P) :
    Calls Tryd.prog 18 #[.slice (some ⟨g, 0, none⟩) h.length cap, .func (.func 16) #[] #[.pointer (some ⟨N, 0, none⟩)]] w fun e w' => Below B w w' ∧ e = .returned (.slice (some ⟨g, 0, none⟩) (leftE P h).length cap) ∧ Evs w' (.slice (some ⟨g, 0, none⟩) (leftE P h).length cap) (leftE P h) := by
  have hIX := indexO_any g cap N h P w0 w hw0 (Evs.of_row hrow) hl hc
  have HC := Lib.hid hc
  have HROW := Lib.hid hrow
  have HIX := Lib.hid hIX
  have hgB := (hrow.lt g rfl).1
  clear hrow hIX hc
  go_enter Tryd.func18, Tryd.ntmps18
  go_wp2_with fail
  refine HIX.out.mono ?_
  rintro e w1 ⟨hb1, hcase⟩
  have HB1 := Lib.hid (hb1.mono hB)
  have HROW1 := Lib.hid (row_belowR HROW.out hb1)
  clear hb1 HIX
  rcases hcase with ⟨rfl, hall⟩ | ⟨i0, rfl, hi0, hall, hne⟩
  · have HO : Hid (leftE P h = h) := leftE_all hall
    clear hall
    go_wp2
    refine bodyPost_ret (v := .slice (some ⟨g, 0, none⟩) h.length cap) (by simp [results, Tryd.results18, go_sem]) rfl ⟨HB1.out, by rw [HO.out], ?_⟩
    rw [HO.out]
    exact Evs.of_row HROW1.out
  · have ht0 : ((i0 : Int) == -1) = false := by simp
    have H0 : Hid (h.take i0 = leftE P (h.take (i0 + 1))) := by
      unfold Hid
      rw [leftE_more hi0, if_neg (by rw [hne _ (List.getElem?_eq_getElem hi0)]; decide)]
      exact (leftE_all hall).symm
    clear hall hne
    go_wp2_with fail
    go_loopw [5, 6] (fun x y wr => ∃ (i j : Nat) (H : List Ev), x = .int .i64 i ∧ y = .int .i64 j ∧ i < j ∧ j ≤ h.length ∧ Hid (H.length = h.length) ∧ Hid (wr.ownsRow B 45 4 (.slice (some ⟨g, 0, none⟩) h.length cap) h.length (evsCells H)) ∧ Hid (H.take i = leftE P (h.take j)) ∧ Hid (H.drop j = h.drop j) ∧ Hid (Below B w wr)) (fun _ y _ => h.length - (intOf y).toNat)
    case atStart => exact ⟨i0, i0 + 1, h, rfl, rfl, by omega, by omega, rfl, HROW1, H0, rfl, HB1⟩
    case round =>
      clear H0 HROW1 HB1 ht0
      obtain ⟨i, j, H, rfl, rfl, hij, hj, hHl, HROW, HT, HD, HB⟩ := hrel
      have hhl := hHl.out
      by_cases hlt : j < h.length
      · have hjH : H[j]'(by omega) = h[j] := by
          have h1 := congrArg (·[0]?) HD.out
          simp only [List.getElem?_drop, Nat.add_zero] at h1
          rw [List.getElem?_eq_getElem (by omega), List.getElem?_eq_getElem hlt] at h1
          exact Option.some.inj h1
        have HM := Lib.hid (leftE_more (P := P) hlt)
        have p0 := row_cell HROW.out hhl j hlt 0 (by omega)
        have p1 := row_cell HROW.out hhl j hlt 1 (by omega)
        have p2 := row_cell HROW.out hhl j hlt 2 (by omega)
        have p3 := row_cell HROW.out hhl j hlt 3 (by omega)
        rw [hjH] at p0 p1 p2 p3
        obtain ⟨y, hy⟩ : ∃ y, h[j] = y := ⟨_, rfl⟩
        rw [hy] at p0 p1 p2 p3
        rw [hy] at HM
        replace p0 : wr.cell? ⟨g, j * 4, none⟩ = some (.int .i64 y.k) := p0
        replace p1 : wr.cell? ⟨g, j * 4 + 1, none⟩ = some (.int .i64 y.t) := p1
        replace p2 : wr.cell? ⟨g, j * 4 + 2, none⟩ = some (.int .i64 y.v) := p2
        replace p3 : wr.cell? ⟨g, j * 4 + 3, none⟩ = some (.int .i64 y.x) := p3
        have HY := Lib.hid hy
        have hBr : B ≤ wr.heap.size := Nat.le_trans hB HB.out.size
        have hbA := (Below.refl wr.heap.size wr).alloc (Nat.le_refl _) (.cells #[.int .i64 y.k, .int .i64 y.t, .int .i64 y.v, .int .i64 y.x] 45)
        have HB2 := Lib.hid (HB.out.trans (hbA.mono hBr))
        have HROW2 := Lib.hid (row_belowR HROW.out hbA)
        have hE := At.new wr #[.int .i64 y.k, .int .i64 y.t, .int .i64 y.v, .int .i64 y.x] 45
        have HE := Lib.hid hE
        have q0 := hE.cell (i := 0) (v := .int .i64 y.k) rfl
        have q1 := hE.cell (i := 1) (v := .int .i64 y.t) rfl
        have q2 := hE.cell (i := 2) (v := .int .i64 y.v) rfl
        have q3 := hE.cell (i := 3) (v := .int .i64 y.x) rfl
        have HCL := Lib.hid (HC.out _ (hw0.trans (HB2.out.mono hN)) y)
        clear hjH hy hbA hE hhl
        by_cases het : P y = false
        · rw [het] at HCL
          have HOF : Hid (leftE P (h.take (j + 1)) = leftE P (h.take j) ++ [y]) := by
            unfold Hid
            rw [HM.out, if_pos het]
          clear het HM
          go_wp2_with (go_at_call 16; refine HCL.out.mono ?_; rintro e w4 ⟨rfl, hb4⟩; have hE4 := HE.out.below hb4 HE.out.lt; have k0 := hE4.cell (i := 0) (v := .int .i64 y.k) rfl; have k1 := hE4.cell (i := 1) (v := .int .i64 y.t) rfl; have k2 := hE4.cell (i := 2) (v := .int .i64 y.v) rfl; have k3 := hE4.cell (i := 3) (v := .int .i64 y.x) rfl; have hr4 := row_belowR HROW2.out hb4; obtain ⟨old, c0, c1, c2, c3⟩ := row_four hr4 hHl.out i (by omega); have z0 := hr4.frozenAt (i * 4); have z1 := hr4.frozenAt (i * 4 + 1); have z2 := hr4.frozenAt (i * 4 + 2); have z3 := hr4.frozenAt (i * 4 + 3))
          have hst := row_store hr4 hHl.out i (by omega) y
          have HR5 := Lib.hid hst.1
          have HB5 := Lib.hid ((HB2.out.trans (hb4.mono (Nat.le_trans hB HB2.out.size))).trans hst.2)
          have HHL5 : Hid ((H.set i y).length = h.length) := by unfold Hid; rw [List.length_set]; exact hHl.out
          have HT5 : Hid ((H.set i y).take (i + 1) = leftE P (h.take (j + 1))) := by
            unfold Hid
            rw [HOF.out, ← HT.out]
            have hiH : i < H.length := by have := hHl.out; omega
            rw [List.take_succ_eq_append_getElem (by rw [List.length_set]; exact hiH), List.getElem_set_self, List.take_set_of_le (Nat.le_refl _)]
          have HD5 : Hid ((H.set i y).drop (j + 1) = h.drop (j + 1)) := by
            unfold Hid
            have h1 := congrArg (List.drop 1) HD.out
            rw [List.drop_drop, List.drop_drop] at h1
            rw [List.drop_set, if_pos (by omega)]
            exact h1
          clear hst hr4 hb4 c0 c1 c2 c3 z0 z1 z2 z3 HOF HT HD HB HB2 HROW HROW2
          go_roundw
          case rel => exact ⟨i + 1, j + 1, H.set i y, by go_num, by go_num, by omega, by omega, HHL5, HR5, HT5, HD5, HB5⟩
          case measure => simp [intOf]; omega
        · have het2 : P y = true := by simpa using het
          rw [het2] at HCL
          have HOF : Hid (leftE P (h.take (j + 1)) = leftE P (h.take j)) := by
            unfold Hid
            rw [HM.out, if_neg het]
          clear het het2 HM
          go_wp2_with (go_at_call 16; refine HCL.out.mono ?_; rintro e w4 ⟨rfl, hb4⟩)
          have HR5 := Lib.hid (row_belowR HROW2.out hb4)
          have HB5 := Lib.hid (HB2.out.trans (hb4.mono (Nat.le_trans hB HB2.out.size)))
          have HT5 : Hid (H.take i = leftE P (h.take (j + 1))) := by unfold Hid; rw [HOF.out]; exact HT.out
          have HD5 : Hid (H.drop (j + 1) = h.drop (j + 1)) := by
            unfold Hid
            have h1 := congrArg (List.drop 1) HD.out
            rwa [List.drop_drop, List.drop_drop] at h1
          clear hb4 HOF HT HD HB HB2 HROW HROW2
          go_roundw
          case rel => exact ⟨i, j + 1, H, rfl, by go_num, by omega, by omega, hHl, HR5, HT5, HD5, HB5⟩
          case measure => simp [intOf]; omega
      · obtain rfl : j = h.length := by omega
        have hO := HT.out
        rw [List.take_length] at hO
        have hOl : (leftE P h).length = i := by rw [← hO, List.length_take]; omega
        have hcl := fun ty => clear_evs wr ty g (i * 4) (h.length - i) (cap - i) (by omega) (fun j hj => by rw [HROW.out.cellAt _ (by omega), List.getElem?_eq_getElem (by rw [evsCells_len]; omega)]; rfl) (fun j => HROW.out.frozenAt _)
        have HBZ := Lib.hid (below_cellsP hgB (zs (h.length - i)) (i * 4) wr HB.out)
        have HEZ : Hid (Evs (wr.setCells g (i * 4) (zs (h.length - i))) (.slice (some ⟨g, 0, none⟩) (leftE P h).length cap) (leftE P h)) := by
          unfold Hid
          by_cases h0 : i = 0
          · have : leftE P h = [] := List.length_eq_zero_iff.1 (by omega)
            rw [this]
            exact Evs.nil _ _ _
          · refine .inr ⟨by omega, g, 0, cap, rfl, ?_, fun x hx => ?_⟩
            · exact Nat.lt_of_lt_of_le (HROW.out.lt g rfl).2 ((below_cellsP (Nat.zero_le g) (zs (h.length - i)) (i * 4) wr (Below.refl 0 wr)).size)
            · have hxi : x < i := by omega
              have hxH : (leftE P h)[x] = H[x]'(by omega) := by
                have h1 := congrArg (·[x]?) hO
                simp only [List.getElem?_take_of_lt hxi] at h1
                rw [List.getElem?_eq_getElem (by omega), List.getElem?_eq_getElem hx] at h1
                exact (Option.some.inj h1).symm
              have hcell : ∀ c, c < 4 → (wr.setCells g (i * 4) (zs (h.length - i))).cell? ⟨g, 0 + x * 4 + c, none⟩ = (evCells (H[x]'(by omega)))[c]? := by
                intro c hc
                rw [World.cell?_setCells_out g (zs (h.length - i)) (i * 4) wr ⟨g, 0 + x * 4 + c, none⟩ (fun _ _ => .inl (by show 0 + x * 4 + c < i * 4; omega)), Nat.zero_add]
                exact row_cell HROW.out hhl x (by omega) c hc
              rw [hxH]
              exact ⟨hcell 0 (by omega), hcell 1 (by omega), hcell 2 (by omega), hcell 3 (by omega)⟩
        have hi0 : (0 : Int) ≤ (i : Int) := by omega
        have hin : (i : Int) ≤ (h.length : Int) := by omega
        have hic : (i : Int) ≤ (cap : Int) := by omega
        have HOL := Lib.hid hOl
        clear hO HT HD HB HROW hOl hhl
        go_wp2
        exact bodyPost_ret (v := .slice (some ⟨g, 0, none⟩) i cap) (by simp [results, Tryd.results18, go_sem]) rfl ⟨HBZ.out, by rw [HOL.out], HEZ.out⟩
end Go.Proofs.YtoemcdcabamgiaaDoor
/- slices.DeleteFunc with StrictWider's closure, of whatever row. -/
namespace Go.Proofs.YtoemcdcabamgiaaDoor.WPlain
end Go.Proofs.YtoemcdcabamgiaaDoor.WPlain
namespace Go.Proofs.YtoemcdcabamgiaaDoor.QPlain
end Go.Proofs.YtoemcdcabamgiaaDoor.QPlain
namespace Go.Proofs.YtoemcdcabamgiaaDoor.RPlain
end Go.Proofs.YtoemcdcabamgiaaDoor.RPlain
namespace Go.Proofs.YtoemcdcabamgiaaDoor
open Go.RowKit WPlain QPlain RPlain

theorem deleteO_none (N : Nat) (w : World) :
    Calls Tryd.prog 18 #[.slice none 0 0, .func (.func 16) #[] #[.pointer (some ⟨N, 0, none⟩)]] w fun e w' => e = .returned (.slice none 0 0) ∧ w' = w := by
  have hi : ∀ W, Calls Tryd.prog 40 #[.slice none 0 0, .func (.func 16) #[] #[.pointer (some ⟨N, 0, none⟩)]] W fun e w' => e = .returned (.int .i64 (-1)) ∧ w' = W := by
    intro W
    go_enter Tryd.func40, Tryd.ntmps40
    go_wp2
    refine wp_loop_rounds 1 ?_
    rw [rounds_succ]
    go_wp2
    refine bodyPost_ret (v := .int .i64 (-1)) (by simp [results, Tryd.results40, go_sem]) rfl ⟨rfl, rfl⟩
  go_enter Tryd.func18, Tryd.ntmps18
  go_wp2_with fail
  refine (hi w).mono ?_
  rintro e w1 ⟨rfl, rfl⟩
  go_wp2
  exact bodyPost_ret (v := .slice none 0 0) (by simp [results, Tryd.results18, go_sem]) rfl ⟨rfl, rfl⟩
theorem deleteP_any (B N : Nat) (v : Value) (h : List Ev) (P : Ev → Bool) (w0 w : World) (hw0 : Below w0.heap.size w0 w) (hrow : w.ownsRow B 45 4 v h.length (evsCells h)) (hl : h.length ≤ 65536) (hN : w0.heap.size ≤ B) (hB : B ≤ w.heap.size) (hc : OpenC w0 N P) :
    Calls Tryd.prog 18 #[v, .func (.func 16) #[] #[.pointer (some ⟨N, 0, none⟩)]] w fun e w' => ∃ v', e = .returned v' ∧ Evs w' v' (leftE P h) ∧ Below B w w' := by
  rcases hrow.2 with ⟨rfl, h0⟩ | ⟨g, cap, cur, rfl, -, -, hcap, -, -, -⟩
  · obtain rfl : h = [] := List.length_eq_zero_iff.1 h0
    refine (deleteO_none N w).mono ?_
    rintro e w' ⟨rfl, rfl⟩
    exact ⟨_, rfl, Evs.nil _ _ _, Below.refl _ _⟩
  · refine (deleteO_any B g cap N h P w0 w hw0 hrow hl hcap hN hB hc).mono ?_
    rintro e w' ⟨hb, rfl, hv⟩
    exact ⟨_, rfl, hv, hb⟩
end Go.Proofs.YtoemcdcabamgiaaDoor
/- The walk of recantlaw14's alive. -/
namespace Go.Proofs.YtoemcdcabamgiaaDoor.WPlain
end Go.Proofs.YtoemcdcabamgiaaDoor.WPlain
namespace Go.Proofs.YtoemcdcabamgiaaDoor.QPlain
end Go.Proofs.YtoemcdcabamgiaaDoor.QPlain
namespace Go.Proofs.YtoemcdcabamgiaaDoor.RPlain
end Go.Proofs.YtoemcdcabamgiaaDoor.RPlain
namespace Go.Proofs.YtoemcdcabamgiaaDoor
open Go.RowKit WPlain QPlain RPlain

def hAlI : List Ev := [⟨0, 1, 0, 0⟩, ⟨1, 1, 0, 0⟩, ⟨2, 1, 0, 0⟩, ⟨3, 1, 0, 5⟩, ⟨6, 1, 0, 0⟩]
def hAlJ : List Ev := [⟨0, 1, 0, 0⟩, ⟨1, 1, 0, 0⟩, ⟨2, 1, 0, 0⟩, ⟨3, 1, 0, 5⟩, ⟨6, 1, 0, 0⟩, ⟨7, 1, 0, 0⟩]
theorem srchE_aliveI : srchE hAlI 9 = 0 := by decide +kernel
theorem strF_aliveI : strF hAlI 9 = (0, 0, [], 0) := by decide +kernel
theorem srchE_aliveJ : srchE hAlJ 9 = 0 := by decide +kernel
theorem strF_aliveJ : strF hAlJ 9 = (1, 0, [], 1) := by decide +kernel
set_option maxRecDepth 100000 in
set_option maxHeartbeats 2000000 in
theorem aliveI_any (w : World) (hK : HasK w) : Calls Tryd.prog 7 #[] w fun e w' => e = .returned (.bool true) ∧ Below w.heap.size w w' := by
  have hb0 := (Below.refl w.heap.size w).alloc (Nat.le_refl _) (.cells (evsCells hAlI).toArray 45)
  have hE := evs_at 5 hAlI (At.new w (evsCells hAlI).toArray 45)
  have hrow := World.ownsRow_lit (size := 4) (e := 45) (base := w.heap.size) w (evsCells hAlI).toArray 5 (Nat.le_refl _) (by unfold maxLen; omega) rfl
  have hT := strict_any _ hAlI 9 _ (hK.later hb0 (Nat.le_refl _)) hE (by simp [hAlI]) (by omega) (by omega)
  have HJ := Lib.hid (fun (v : Value) (W : World) (hW : Below w.heap.size w W) (hv : Evs W v hAlJ) => strict_any v hAlJ 9 W (hK.later hW (Nat.le_refl _)) hv (by simp [hAlJ]) (by omega) (by omega))
  rw [srchE_aliveI, strF_aliveI] at hT
  simp only [srchE_aliveJ, strF_aliveJ] at HJ
  have hlen : hAlI.length = 5 := rfl
  rw [hlen] at hT
  simp only [evsCells, evCells, hAlI, List.flatMap_cons, List.flatMap_nil, List.append_nil, List.cons_append, List.nil_append] at hT hb0 hrow
  have HT := Lib.hid hT
  have HB0 := Lib.hid hb0
  have HROW := Lib.hid hrow
  clear hT hb0 hE hK hlen hrow
  go_enter Tryd.func7, Tryd.ntmps7
  go_wp2_with fail
  refine HT.out.mono ?_
  rintro e w2 ⟨rv, rfl, hr, -, hb⟩
  have HB := Lib.hid (HB0.out.trans (hb.mono HB0.out.size))
  have HLT : Hid (w.heap.size < w2.heap.size) := Nat.lt_of_lt_of_le (own_base HROW.out rfl).2 hb.size
  have HROW2 := Lib.hid (row_belowR HROW.out hb)
  obtain ⟨b, c, rfl⟩ := hr.rd.len
  have hn2 : (nats []).length = 0 := rfl
  rw [hn2]
  obtain ⟨N, hN⟩ : ∃ N, w2.heap.size = N := ⟨_, rfl⟩
  obtain ⟨w3, hw3⟩ : ∃ w3, w2.alloc (.cells #[.int .i64 0, .int .u32 0, .slice b 0 c, .int .i64 0] 26) = w3 := ⟨_, rfl⟩
  have ha : At w3 N #[.int .i64 0, .int .u32 0, .slice b 0 c, .int .i64 0] 26 := by
    rw [← hw3, ← hN]; exact At.new w2 _ _
  have hbw : Below w2.heap.size w2 w3 := by rw [← hw3]; exact (Below.refl _ w2).alloc (Nat.le_refl _) _
  have HB3 := Lib.hid (HB.out.trans (hbw.mono HB.out.size))
  rw [hN] at HLT
  have HROW3 := Lib.hid (row_belowR HROW2.out hbw)
  have HA3 := Lib.hid ha
  have HW3 := Lib.hid hw3
  clear hr hb hn2 ha hbw HT HB0 HB HROW HROW2 hw3
  have hb4 := (Below.refl w3.heap.size w3).alloc (Nat.le_refl _) (.cells #[.int .i64 7, .int .i64 1, .int .i64 0, .int .i64 0] 45)
  have HROW4 := Lib.hid (row_belowR HROW3.out hb4)
  have HE4 := Lib.hid (one_evP (e := ⟨7, 1, 0, 0⟩) (At.new w3 #[.int .i64 7, .int .i64 1, .int .i64 0, .int .i64 0] 45) 1)
  have HB4 := Lib.hid (HB3.out.trans (hb4.mono HB3.out.size))
  have HA4 := Lib.hid (HA3.out.below hb4 HA3.out.lt)
  have HNE : Hid (N ≠ w.heap.size) := by have := HLT.out; show _ ≠ _; omega
  clear hb4
  unfold fndV
  go_upto_region 3 with fail
  rw [HW3.out]
  go_wp2_with (at_builtin; refine wpList_append_src rfl _ _ rfl w.heap.size _ _ _ rfl HROW4.out _ [⟨7, 1, 0, 0⟩] rfl HE4.out (.inr ⟨_, _, _, rfl⟩) (by simp) (by have := HB4.out.size; simpa using this) ?_)
  intro v6 w6 h6 hg6
  have HB6 : Hid (Below w.heap.size w w6) := HB4.out.grown hg6 HB4.out.size (fun k hk => by simp [Value.ownBlock] at hk; omega)
  have HE6 : Hid (Evs w6 v6 hAlJ) := Evs.of_row (h := hAlJ) (B := w.heap.size) h6
  have HA6 : Hid (At w6 N #[.int .i64 0, .int .u32 0, .slice b 0 c, .int .i64 0] 26) := HA4.out.grown hg6 (by simp [Value.ownBlock]; exact HNE.out)
  have HJ6 := Lib.hid (HJ.out v6 w6 HB6.out HE6.out)
  unfold fndV at HJ6
  clear h6 hg6 HROW3 HROW4 HE4 HB4 HA4 HB3 HA3 HW3 HJ HE6
  go_wp2_with fail
  refine HJ6.out.mono ?_
  rintro e w7 ⟨rv7, rfl, hr7, -, hb7⟩
  obtain ⟨b7, c7, rfl⟩ := hr7.rd.len
  have hn7 : (nats []).length = 0 := rfl
  rw [hn7]
  have HB7 := Lib.hid (HB6.out.trans (hb7.mono HB6.out.size))
  have HA7 := Lib.hid (HA6.out.below hb7 HA6.out.lt)
  obtain ⟨N8, hN8⟩ : ∃ N, w7.heap.size = N := ⟨_, rfl⟩
  obtain ⟨w8, hw8⟩ : ∃ z, w7.alloc (.cells #[.int .i64 1, .int .u32 0, .slice b7 0 c7, .int .i64 1] 26) = z := ⟨_, rfl⟩
  have ha8 : At w8 N8 #[.int .i64 1, .int .u32 0, .slice b7 0 c7, .int .i64 1] 26 := by
    rw [← hw8, ← hN8]; exact At.new w7 _ _
  have hb8 : Below w7.heap.size w7 w8 := by rw [← hw8]; exact (Below.refl _ w7).alloc (Nat.le_refl _) _
  have HB8 := Lib.hid (HB7.out.trans (hb8.mono HB7.out.size))
  have a7 := HA7.out.below hb8 HA7.out.lt
  have q0 : w8.cell? ⟨N, 0, none⟩ = some (.int .i64 0) := a7.cell rfl
  have r0 : w8.cell? ⟨N8, 0, none⟩ = some (.int .i64 1) := ha8.cell rfl
  have r3 : w8.cell? ⟨N8, 3, none⟩ = some (.int .i64 1) := ha8.cell rfl
  have HW8 := Lib.hid hw8
  clear hr7 hb7 hn7 ha8 hb8 a7 hw8 HA6 HA7 HB6 HB7 HJ6
  go_upto_region 4 with fail
  rw [HW8.out]
  go_wp2_with fail
  go_ret
  exact ⟨rfl, HB8.out⟩
end Go.Proofs.YtoemcdcabamgiaaDoor
