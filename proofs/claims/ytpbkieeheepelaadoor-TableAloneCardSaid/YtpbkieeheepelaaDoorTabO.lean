/- The walks of TableAlone's closure, of slices.IndexFunc and of slices.DeleteFunc with it. -/
import Derived.Test.YtpbkieeheepelaaDoorPrpQ
import Derived.Test.YtpbkieeheepelaaDoorPrpE
import Derived.Test.YtpbkieeheepelaaDoorKitD
import Derived.Laws.OwnMore
import Derived.Laws.IdiomCopy
import Derived.WalkLawsBesides
namespace Go.Proofs.YtpbkieeheepelaaDoor.WPlain
end Go.Proofs.YtpbkieeheepelaaDoor.WPlain
namespace Go.Proofs.YtpbkieeheepelaaDoor.QPlain
end Go.Proofs.YtpbkieeheepelaaDoor.QPlain
namespace Go.Proofs.YtpbkieeheepelaaDoor
open Go.RowKit WPlain QPlain

/-- is it another transaction's? -/
theorem other_any (k t v x xt : Int) (N : Nat) (w : World) (hc : w.cell? ⟨N, 0, none⟩ = some (.int .i64 xt)) :
    Calls Tryd.prog 19 #[.agg #[.int .i64 k, .int .i64 t, .int .i64 v, .int .i64 x], .pointer (some ⟨N, 0, none⟩)] w fun e w' => e = .returned (.bool (t != xt)) ∧ Below w.heap.size w w' := by
  have hb := (Below.refl w.heap.size w).alloc (Nat.le_refl _) (.cells #[.int .i64 k, .int .i64 t, .int .i64 v, .int .i64 x] 41)
  have hA := At.new w #[.int .i64 k, .int .i64 t, .int .i64 v, .int .i64 x] 41
  have e1 := hA.cell (i := 1) (v := .int .i64 t) rfl
  have c1 := ((Below.refl w.heap.size w).alloc (Nat.le_refl _) (.cells #[.int .i64 k, .int .i64 t, .int .i64 v, .int .i64 x] 41)).cell (p := ⟨N, 0, none⟩) (cell_lt hc)
  rw [hc] at c1
  clear hA
  go_enter Tryd.func19, Tryd.ntmps19
  go_wp2
  go_ret
  exact ⟨rfl, hb⟩
set_option maxRecDepth 100000 in
set_option maxHeartbeats 1000000 in
theorem index_any (g cap N : Nat) (h : List Ev) (xt : Int) (w : World) (hv : Evs w (.slice (some ⟨g, 0, none⟩) h.length cap) h) (hl : h.length ≤ 65536) (hc : w.cell? ⟨N, 0, none⟩ = some (.int .i64 xt)) :
    Calls Tryd.prog 32 #[.slice (some ⟨g, 0, none⟩) h.length cap, .func (.func 19) #[] #[.pointer (some ⟨N, 0, none⟩)]] w fun e w' => Below w.heap.size w w' ∧
      ((e = .returned (.int .i64 (-1)) ∧ ∀ y ∈ h, y.t = xt) ∨ ∃ i : Nat, e = .returned (.int .i64 i) ∧ i < h.length ∧ (∀ y ∈ h.take i, y.t = xt) ∧ ∀ y, h[i]? = some y → y.t ≠ xt) := by
  have hb0 := Below.refl w.heap.size w
  have HV := Lib.hid hv
  have HC := Lib.hid hc
  have hN := cell_lt hc
  clear hv hc
  go_enter Tryd.func32, Tryd.ntmps32
  go_wp2_with fail
  go_loopw [8] (fun x wr => ∃ k : Nat, k ≤ h.length ∧ x = .int .i64 k ∧ Hid (∀ y ∈ h.take k, y.t = xt) ∧ Hid (Below w.heap.size w wr)) (fun x _ => h.length - (intOf x).toNat)
  case atStart => exact ⟨0, by omega, rfl, (by intro y hy; simp at hy), hb0⟩
  case round =>
    clear hb0
    obtain ⟨k, hk, rfl, HA, HB⟩ := hrel
    by_cases hlt : k < h.length
    · have hv2 := HV.out.below HB.out (Nat.le_refl _)
      have hc2 := (HB.out.cell (p := ⟨N, 0, none⟩) hN).trans HC.out
      have HG : Hid (h[k]? = some h[k]) := List.getElem?_eq_getElem hlt
      have HT : Hid (h.take (k + 1) = h.take k ++ [h[k]]) := List.take_succ_eq_append_getElem hlt
      rcases hv2 with ⟨e0, _⟩ | ⟨l0, b, o, c', he, hbl, hcs⟩
      · rw [e0] at hlt; simp at hlt
      · obtain ⟨⟨rfl, rfl⟩, rfl⟩ : (g = b ∧ o = 0) ∧ cap = c' := by
          simp only [Value.slice.injEq, Option.some.injEq, Addr.mk.injEq, and_true, true_and] at he
          exact ⟨⟨he.1.1, he.1.2.symm⟩, he.2⟩
        clear he
        obtain ⟨c0, c1, c2, c3⟩ := hcs k hlt
        clear hcs
        generalize h[k] = ev at *
        have HCL := Lib.hid (other_any ev.k ev.t ev.v ev.x xt N wr hc2)
        clear hc2
        simp only [Nat.zero_add] at c0 c1 c2 c3
        by_cases het : ev.t = xt
        · have tb : (ev.t != xt) = false := by simp [het]
          rw [tb] at HCL
          have HA2 : Hid (∀ y ∈ h.take (k + 1), y.t = xt) := by
            intro y hy
            rw [HT.out] at hy
            rcases List.mem_append.1 hy with hy | hy
            · exact HA.out y hy
            · rw [List.mem_singleton.1 hy]; exact het
          clear tb het HG HT HA
          go_wp2_with (go_at_call 19; refine HCL.out.mono ?_; rintro e w3 ⟨rfl, hb3⟩)
          have HB3 := Lib.hid (HB.out.trans (hb3.mono HB.out.size))
          go_roundw
          case rel => exact ⟨k + 1, by omega, by go_num, HA2, HB3⟩
          case measure => simp [intOf]; omega
        · have tb : (ev.t != xt) = true := by simp [het]
          rw [tb] at HCL
          have HNE : Hid (∀ y, h[k]? = some y → y.t ≠ xt) := by
            intro y hy
            rw [HG.out] at hy
            rw [← Option.some.inj hy]; exact het
          clear tb het HG HT
          go_wp2_with (go_at_call 19; refine HCL.out.mono ?_; rintro e w3 ⟨rfl, hb3⟩)
          refine bodyPost_ret (v := .int .i64 k) (by simp [results, Tryd.results32, go_sem]) rfl ⟨HB.out.trans (hb3.mono HB.out.size), .inr ⟨k, rfl, hlt, HA.out, HNE.out⟩⟩
    · obtain rfl : k = h.length := by omega
      have HA2 : Hid (∀ y ∈ h, y.t = xt) := by have := HA.out; rwa [List.take_length] at this
      clear HA
      go_wp2
      refine bodyPost_ret (v := .int .i64 (-1)) (by simp [results, Tryd.results32, go_sem]) rfl ⟨HB.out, .inl ⟨rfl, HA2.out⟩⟩
theorem row_belowR {w w' : World} {B : Nat} {e : TypeId} {s : Nat} {v : Value} {n : Nat} {xs : List Value} (h : w.ownsRow B e s v n xs) (hb : Below w.heap.size w w') : w'.ownsRow B e s v n xs := by
  refine ⟨h.1, ?_⟩
  rcases h.2 with hn | ⟨g, cap, cur, rfl, hB, hgg, rest⟩
  · exact .inl hn
  · refine .inr ⟨g, cap, cur, rfl, hB, ?_, rest⟩
    rw [hb.block g (Array.getElem?_eq_some_iff.1 hgg).1]
    exact hgg
theorem evsCells_set : ∀ (H : List Ev) (i : Nat) (y : Ev), i < H.length → ((((evsCells H).set (i * 4) (.int .i64 y.k)).set (i * 4 + 1) (.int .i64 y.t)).set (i * 4 + 2) (.int .i64 y.v)).set (i * 4 + 3) (.int .i64 y.x) = evsCells (H.set i y) := by
  intro H
  induction H with
  | nil => intro i y hi; simp at hi
  | cons e r ih =>
    intro i y hi
    cases i with
    | zero => rfl
    | succ i =>
      have := ih i y (by simpa using hi)
      have hx : ∀ (l : List Value) (c : Nat) (u : Value), (evCells e ++ l).set ((i + 1) * 4 + c) u = evCells e ++ l.set (i * 4 + c) u := by
        intro l c u
        rw [List.set_append_right _ _ (by simp [evCells]; omega)]
        congr 2
        simp [evCells]
        omega
      show ((((evCells e ++ evsCells r).set ((i + 1) * 4 + 0) _).set ((i + 1) * 4 + 1) _).set ((i + 1) * 4 + 2) _).set ((i + 1) * 4 + 3) _ = evCells e ++ evsCells (r.set i y)
      rw [hx, hx, hx, hx, ← this]
      rfl
theorem row_cell {w : World} {B g cap n : Nat} {H : List Ev} (h : w.ownsRow B 41 4 (.slice (some ⟨g, 0, none⟩) n cap) n (evsCells H)) (hn : H.length = n) (j : Nat) (hj : j < n) (c : Nat) (hc : c < 4) : w.cell? ⟨g, j * 4 + c, none⟩ = (evCells (H[j]'(by omega)))[c]? := by
  rw [h.cellAt (j * 4 + c) (by omega)]
  exact evsCells_get H j (by omega) c hc
theorem row_four {w : World} {B g cap n : Nat} {H : List Ev} (h : w.ownsRow B 41 4 (.slice (some ⟨g, 0, none⟩) n cap) n (evsCells H)) (hn : H.length = n) (i : Nat) (hi : i < n) :
    ∃ o : Ev, w.cell? ⟨g, i * 4, none⟩ = some (.int .i64 o.k) ∧ w.cell? ⟨g, i * 4 + 1, none⟩ = some (.int .i64 o.t) ∧ w.cell? ⟨g, i * 4 + 2, none⟩ = some (.int .i64 o.v) ∧ w.cell? ⟨g, i * 4 + 3, none⟩ = some (.int .i64 o.x) :=
  ⟨H[i]'(by omega), row_cell h hn i hi 0 (by omega), row_cell h hn i hi 1 (by omega), row_cell h hn i hi 2 (by omega), row_cell h hn i hi 3 (by omega)⟩
theorem row_store {w : World} {B g cap n : Nat} {H : List Ev} (h : w.ownsRow B 41 4 (.slice (some ⟨g, 0, none⟩) n cap) n (evsCells H)) (hn : H.length = n) (i : Nat) (hi : i < n) (y : Ev) :
    ((((w.setCell ⟨g, i * 4, none⟩ (.int .i64 y.k)).setCell ⟨g, i * 4 + 1, none⟩ (.int .i64 y.t)).setCell ⟨g, i * 4 + 2, none⟩ (.int .i64 y.v)).setCell ⟨g, i * 4 + 3, none⟩ (.int .i64 y.x)).ownsRow B 41 4 (.slice (some ⟨g, 0, none⟩) n cap) n (evsCells (H.set i y)) ∧
    Below B w ((((w.setCell ⟨g, i * 4, none⟩ (.int .i64 y.k)).setCell ⟨g, i * 4 + 1, none⟩ (.int .i64 y.t)).setCell ⟨g, i * 4 + 2, none⟩ (.int .i64 y.v)).setCell ⟨g, i * 4 + 3, none⟩ (.int .i64 y.x)) := by
  have hg : B ≤ g := (h.lt g rfl).1
  have r4 := ((((h.stored (i * 4) (.int .i64 y.k)).1.stored (i * 4 + 1) (.int .i64 y.t)).1.stored (i * 4 + 2) (.int .i64 y.v)).1.stored (i * 4 + 3) (.int .i64 y.x)).1
  rw [evsCells_set H i y (by omega)] at r4
  exact ⟨r4, ((((Below.refl B w).setCell (p := ⟨g, i * 4, none⟩) hg _).setCell (p := ⟨g, i * 4 + 1, none⟩) hg _).setCell (p := ⟨g, i * 4 + 2, none⟩) hg _).setCell (p := ⟨g, i * 4 + 3, none⟩) hg _⟩
theorem below_cellsP {B b : Nat} {w : World} (hb : B ≤ b) : ∀ (vs : List Value) (o : Nat) (w' : World), Below B w w' → Below B w (w'.setCells b o vs) := by
  intro vs
  induction vs with
  | nil => intro o w' h; exact h
  | cons v r ih => intro o w' h; exact ih _ _ (h.setCell (p := ⟨b, o, none⟩) hb _)
/-- the cells of n events of nought -/
def zs (n : Nat) : List Value := (Builtin.zeroCells (Value.agg #[.int .i64 0, .int .i64 0, .int .i64 0, .int .i64 0]).cells n).toList
theorem zs_len (n : Nat) : (zs n).length = n * 4 := by simp [zs, Builtin.zeroCells, Value.cells]
theorem zs_one (n : Nat) : ∀ v ∈ zs n, v.oneCell' = true := by
  intro v hv
  simp only [zs, Builtin.zeroCells, Value.cells, Array.toList_map, List.mem_map] at hv
  obtain ⟨i, _, rfl⟩ := hv
  have h4 : (#[Value.int .i64 0, .int .i64 0, .int .i64 0, .int .i64 0] : Array Value).size = 4 := rfl
  rw [h4]
  have : i % 4 = 0 ∨ i % 4 = 1 ∨ i % 4 = 2 ∨ i % 4 = 3 := by omega
  rcases this with h | h | h | h <;> rw [h] <;> rfl
theorem clear_evs (w : World) (ty : TypeId) (g o n c : Nat) (hn : 0 < n) (hc : ∀ j, j < n * 4 → (w.cell? ⟨g, o + j, none⟩).isSome = true) (hf : ∀ j, w.frozen? ⟨g, o + j, none⟩ = false) :
    (Builtin.clear_ #[22] ty #[.slice (some ⟨g, o, none⟩) n c]).run Tryd.prog w = .ok (.tuple #[]) (w.setCells g o (zs n)) := by
  have hst := run_storeCells_cells (P := Tryd.prog) g o (zs n) 0 w (fun j hj => by rw [zs_len] at hj; exact hc j hj) (fun j _ => hf j) (zs_one n)
  simp only [Nat.add_zero] at hst
  obtain ⟨m, rfl⟩ : ∃ m, n = m + 1 := ⟨n - 1, by omega⟩
  unfold zs at hst ⊢
  simp [Builtin.clear_, run_underlying Tryd.underlying22, hst]
theorem ofT_more {h : List Ev} {j : Nat} (hj : j < h.length) (t : Int) : ofT (h.take (j + 1)) t = if h[j].t = t then ofT (h.take j) t ++ [h[j]] else ofT (h.take j) t := by
  unfold ofT
  rw [List.take_succ_eq_append_getElem hj, List.filter_append]
  simp only [List.filter_cons, List.filter_nil, beq_iff_eq]
  split
  · rfl
  · rw [List.append_nil]
theorem ofT_all {h : List Ev} {t : Int} (hall : ∀ y ∈ h, y.t = t) : ofT h t = h := by
  unfold ofT
  rw [List.filter_eq_self]
  intro y hy
  simpa using hall y hy
set_option maxRecDepth 100000 in
set_option maxHeartbeats 2000000 in
theorem delete_any (B g cap N : Nat) (h : List Ev) (xt : Int) (w : World) (hrow : w.ownsRow B 41 4 (.slice (some ⟨g, 0, none⟩) h.length cap) h.length (evsCells h)) (hl : h.length ≤ 65536) (hcap : h.length ≤ cap) (hN : N < B) (hB : B ≤ w.heap.size) (hc : w.cell? ⟨N, 0, none⟩ = some (.int .i64 xt)) :
    Calls Tryd.prog 17 #[.slice (some ⟨g, 0, none⟩) h.length cap, .func (.func 19) #[] #[.pointer (some ⟨N, 0, none⟩)]] w fun e w' => Below B w w' ∧ e = .returned (.slice (some ⟨g, 0, none⟩) (ofT h xt).length cap) ∧ Evs w' (.slice (some ⟨g, 0, none⟩) (ofT h xt).length cap) (ofT h xt) := by
  have hIX := index_any g cap N h xt w (Evs.of_row hrow) hl hc
  have HC := Lib.hid hc
  have HROW := Lib.hid hrow
  have HIX := Lib.hid hIX
  have hgB := (hrow.lt g rfl).1
  clear hrow hIX hc
  go_enter Tryd.func17, Tryd.ntmps17
  go_wp2_with fail
  refine HIX.out.mono ?_
  rintro e w1 ⟨hb1, hcase⟩
  have HB1 := Lib.hid (hb1.mono hB)
  have HROW1 := Lib.hid (row_belowR HROW.out hb1)
  clear hb1 HIX
  rcases hcase with ⟨rfl, hall⟩ | ⟨i0, rfl, hi0, hall, hne⟩
  · have HO : Hid (ofT h xt = h) := ofT_all hall
    clear hall
    go_wp2
    refine bodyPost_ret (v := .slice (some ⟨g, 0, none⟩) h.length cap) (by simp [results, Tryd.results17, go_sem]) rfl ⟨HB1.out, by rw [HO.out], ?_⟩
    rw [HO.out]
    exact Evs.of_row HROW1.out
  · have ht0 : ((i0 : Int) == -1) = false := by simp
    have H0 : Hid (h.take i0 = ofT (h.take (i0 + 1)) xt) := by
      unfold Hid
      rw [ofT_more hi0, if_neg (hne _ (List.getElem?_eq_getElem hi0))]
      exact (ofT_all hall).symm
    clear hall hne
    go_wp2_with fail
    go_loopw [5, 6] (fun x y wr => ∃ (i j : Nat) (H : List Ev), x = .int .i64 i ∧ y = .int .i64 j ∧ i < j ∧ j ≤ h.length ∧ Hid (H.length = h.length) ∧ Hid (wr.ownsRow B 41 4 (.slice (some ⟨g, 0, none⟩) h.length cap) h.length (evsCells H)) ∧ Hid (H.take i = ofT (h.take j) xt) ∧ Hid (H.drop j = h.drop j) ∧ Hid (Below B w wr)) (fun _ y _ => h.length - (intOf y).toNat)
    case atStart => exact ⟨i0, i0 + 1, h, rfl, rfl, by omega, by omega, rfl, HROW1, H0, rfl, HB1⟩
    case round =>
      clear H0 HROW1 HB1 ht0
      obtain ⟨i, j, H, rfl, rfl, hij, hj, hHl, HROW, HT, HD, HB⟩ := hrel
      have hhl := hHl.out
      by_cases hlt : j < h.length
      · have hjH : H[j]'(by omega) = h[j] := by
          have h1 := congrArg (·[0]?) HD.out
          simp only [List.getElem?_drop, Nat.add_zero] at h1
          rw [List.getElem?_eq_getElem (by omega), List.getElem?_eq_getElem hlt] at h1
          exact Option.some.inj h1
        have HM := Lib.hid (ofT_more hlt xt)
        have p0 := row_cell HROW.out hhl j hlt 0 (by omega)
        have p1 := row_cell HROW.out hhl j hlt 1 (by omega)
        have p2 := row_cell HROW.out hhl j hlt 2 (by omega)
        have p3 := row_cell HROW.out hhl j hlt 3 (by omega)
        rw [hjH] at p0 p1 p2 p3
        obtain ⟨y, hy⟩ : ∃ y, h[j] = y := ⟨_, rfl⟩
        rw [hy] at p0 p1 p2 p3
        rw [hy] at HM
        replace p0 : wr.cell? ⟨g, j * 4, none⟩ = some (.int .i64 y.k) := p0
        replace p1 : wr.cell? ⟨g, j * 4 + 1, none⟩ = some (.int .i64 y.t) := p1
        replace p2 : wr.cell? ⟨g, j * 4 + 2, none⟩ = some (.int .i64 y.v) := p2
        replace p3 : wr.cell? ⟨g, j * 4 + 3, none⟩ = some (.int .i64 y.x) := p3
        have HY := Lib.hid hy
        have hBr : B ≤ wr.heap.size := Nat.le_trans hB HB.out.size
        have hbA := (Below.refl wr.heap.size wr).alloc (Nat.le_refl _) (.cells #[.int .i64 y.k, .int .i64 y.t, .int .i64 y.v, .int .i64 y.x] 41)
        have HCW := Lib.hid ((hbA.cell (p := ⟨N, 0, none⟩) (Nat.lt_of_lt_of_le hN hBr)).trans ((HB.out.cell (p := ⟨N, 0, none⟩) hN).trans HC.out))
        have HB2 := Lib.hid (HB.out.trans (hbA.mono hBr))
        have HROW2 := Lib.hid (row_belowR HROW.out hbA)
        have hE := At.new wr #[.int .i64 y.k, .int .i64 y.t, .int .i64 y.v, .int .i64 y.x] 41
        have HE := Lib.hid hE
        have q0 := hE.cell (i := 0) (v := .int .i64 y.k) rfl
        have q1 := hE.cell (i := 1) (v := .int .i64 y.t) rfl
        have q2 := hE.cell (i := 2) (v := .int .i64 y.v) rfl
        have q3 := hE.cell (i := 3) (v := .int .i64 y.x) rfl
        have HCL := Lib.hid (other_any y.k y.t y.v y.x xt N _ HCW.out)
        clear hjH hy hbA hE hhl HCW
        by_cases het : y.t = xt
        · have tb : (y.t != xt) = false := by simp [het]
          rw [tb] at HCL
          have HOF : Hid (ofT (h.take (j + 1)) xt = ofT (h.take j) xt ++ [y]) := by
            unfold Hid
            rw [HM.out, if_pos het]
          clear tb het HM
          go_wp2_with (go_at_call 19; refine HCL.out.mono ?_; rintro e w4 ⟨rfl, hb4⟩; have hE4 := HE.out.below hb4 HE.out.lt; have k0 := hE4.cell (i := 0) (v := .int .i64 y.k) rfl; have k1 := hE4.cell (i := 1) (v := .int .i64 y.t) rfl; have k2 := hE4.cell (i := 2) (v := .int .i64 y.v) rfl; have k3 := hE4.cell (i := 3) (v := .int .i64 y.x) rfl; have hr4 := row_belowR HROW2.out hb4; obtain ⟨old, c0, c1, c2, c3⟩ := row_four hr4 hHl.out i (by omega); have z0 := hr4.frozenAt (i * 4); have z1 := hr4.frozenAt (i * 4 + 1); have z2 := hr4.frozenAt (i * 4 + 2); have z3 := hr4.frozenAt (i * 4 + 3))
          have hst := row_store hr4 hHl.out i (by omega) y
          have HR5 := Lib.hid hst.1
          have HB5 := Lib.hid ((HB2.out.trans (hb4.mono (Nat.le_trans hB HB2.out.size))).trans hst.2)
          have HHL5 : Hid ((H.set i y).length = h.length) := by unfold Hid; rw [List.length_set]; exact hHl.out
          have HT5 : Hid ((H.set i y).take (i + 1) = ofT (h.take (j + 1)) xt) := by
            unfold Hid
            rw [HOF.out, ← HT.out]
            have hiH : i < H.length := by have := hHl.out; omega
            rw [List.take_succ_eq_append_getElem (by rw [List.length_set]; exact hiH), List.getElem_set_self, List.take_set_of_le (Nat.le_refl _)]
          have HD5 : Hid ((H.set i y).drop (j + 1) = h.drop (j + 1)) := by
            unfold Hid
            have h1 := congrArg (List.drop 1) HD.out
            rw [List.drop_drop, List.drop_drop] at h1
            rw [List.drop_set, if_pos (by omega)]
            exact h1
          clear hst hr4 hb4 c0 c1 c2 c3 z0 z1 z2 z3 HOF HT HD HB HB2 HROW HROW2
          go_roundw
          case rel => exact ⟨i + 1, j + 1, H.set i y, by go_num, by go_num, by omega, by omega, HHL5, HR5, HT5, HD5, HB5⟩
          case measure => simp [intOf]; omega
        · have tb : (y.t != xt) = true := by simp [het]
          rw [tb] at HCL
          have HOF : Hid (ofT (h.take (j + 1)) xt = ofT (h.take j) xt) := by
            unfold Hid
            rw [HM.out, if_neg het]
          clear tb het HM
          go_wp2_with (go_at_call 19; refine HCL.out.mono ?_; rintro e w4 ⟨rfl, hb4⟩)
          have HR5 := Lib.hid (row_belowR HROW2.out hb4)
          have HB5 := Lib.hid (HB2.out.trans (hb4.mono (Nat.le_trans hB HB2.out.size)))
          have HT5 : Hid (H.take i = ofT (h.take (j + 1)) xt) := by unfold Hid; rw [HOF.out]; exact HT.out
          have HD5 : Hid (H.drop (j + 1) = h.drop (j + 1)) := by
            unfold Hid
            have h1 := congrArg (List.drop 1) HD.out
            rwa [List.drop_drop, List.drop_drop] at h1
          clear hb4 HOF HT HD HB HB2 HROW HROW2
          go_roundw
          case rel => exact ⟨i, j + 1, H, rfl, by go_num, by omega, by omega, hHl, HR5, HT5, HD5, HB5⟩
          case measure => simp [intOf]; omega
      · obtain rfl : j = h.length := by omega
        have hO := HT.out
        rw [List.take_length] at hO
        have hOl : (ofT h xt).length = i := by rw [← hO, List.length_take]; omega
        have hcl := fun ty => clear_evs wr ty g (i * 4) (h.length - i) (cap - i) (by omega) (fun j hj => by rw [HROW.out.cellAt _ (by omega), List.getElem?_eq_getElem (by rw [evsCells_len]; omega)]; rfl) (fun j => HROW.out.frozenAt _)
        have HBZ := Lib.hid (below_cellsP hgB (zs (h.length - i)) (i * 4) wr HB.out)
        have HEZ : Hid (Evs (wr.setCells g (i * 4) (zs (h.length - i))) (.slice (some ⟨g, 0, none⟩) (ofT h xt).length cap) (ofT h xt)) := by
          unfold Hid
          by_cases h0 : i = 0
          · have : ofT h xt = [] := List.length_eq_zero_iff.1 (by omega)
            rw [this]
            exact Evs.nil _ _ _
          · refine .inr ⟨by omega, g, 0, cap, rfl, ?_, fun x hx => ?_⟩
            · exact Nat.lt_of_lt_of_le (HROW.out.lt g rfl).2 ((below_cellsP (Nat.zero_le g) (zs (h.length - i)) (i * 4) wr (Below.refl 0 wr)).size)
            · have hxi : x < i := by omega
              have hxH : (ofT h xt)[x] = H[x]'(by omega) := by
                have h1 := congrArg (·[x]?) hO
                simp only [List.getElem?_take_of_lt hxi] at h1
                rw [List.getElem?_eq_getElem (by omega), List.getElem?_eq_getElem hx] at h1
                exact (Option.some.inj h1).symm
              have hcell : ∀ c, c < 4 → (wr.setCells g (i * 4) (zs (h.length - i))).cell? ⟨g, 0 + x * 4 + c, none⟩ = (evCells (H[x]'(by omega)))[c]? := by
                intro c hc
                rw [World.cell?_setCells_out g (zs (h.length - i)) (i * 4) wr ⟨g, 0 + x * 4 + c, none⟩ (fun _ _ => .inl (by show 0 + x * 4 + c < i * 4; omega)), Nat.zero_add]
                exact row_cell HROW.out hhl x (by omega) c hc
              rw [hxH]
              exact ⟨hcell 0 (by omega), hcell 1 (by omega), hcell 2 (by omega), hcell 3 (by omega)⟩
        have hi0 : (0 : Int) ≤ (i : Int) := by omega
        have hin : (i : Int) ≤ (h.length : Int) := by omega
        have hic : (i : Int) ≤ (cap : Int) := by omega
        have HOL := Lib.hid hOl
        clear hO HT HD HB HROW hOl hhl
        go_wp2
        exact bodyPost_ret (v := .slice (some ⟨g, 0, none⟩) i cap) (by simp [results, Tryd.results17, go_sem]) rfl ⟨HBZ.out, by rw [HOL.out], HEZ.out⟩
end Go.Proofs.YtpbkieeheepelaaDoor
