/- Merged: LaidK, KitD, PrpI, WalkK. -/
import Derived.Test.YtkliahdgciajjaaDoorRows
import Derived.Test.YtkliahdgciajjaaDoorMg2
import Derived.Test.YtkliahdgciajjaaDoorMg3
import Derived.Test.YtkliahdgciajjaaDoorMg1
import Derived.OpenShut
import Derived.FnData
import Derived.Laws.AppendOwnNone
import Derived.Lib.ItoaMem
import Derived.Lib.ItoaLen
import Derived.Lib.SmallJoins
/- From the row's condition on the table of kinds to what the walks ask. -/
namespace Go.Proofs.YtkliahdgciajjaaDoor.WPlain
end Go.Proofs.YtkliahdgciajjaaDoor.WPlain
namespace Go.Proofs.YtkliahdgciajjaaDoor
open Go.ChangeShapes Go.WideShapes Go.RowKit WPlain

def kindData {H : Type} (k : Nat) : DataW H := .agg [.lit (.string (kwords.getD k [])), .lit (.bool (hasV k)), .lit (.bool (hasX k))]
theorem kinds_data : (Rows.laid_recant_text_kinds : DataW Unit) = .agg ((List.range 10).map kindData) := by kernel_rfl
theorem cells_str : Tryd.prog.cellsOf 9 = 1 := by kernel_rfl
theorem cells_bool : Tryd.prog.cellsOf 4 = 1 := by kernel_rfl
theorem cells_kind : Tryd.prog.cellsOf 84 = 3 := by kernel_rfl

theorem take_one {α : Type} (l : List α) (i : Nat) (x : α) (h : (l.drop i).take 1 = [x]) : l[i]? = some x := by
  have h1 := congrArg (·[0]?) h
  simpa using h1
theorem kind_one {w : World} {base : Nat} {sp : Nat → Bool} {held : Bool} {fuel : Nat} {enc : TypeId × Value → Unit} {cs : List Value} {y : DataW Unit × List MemPlace} (k : Nat)
    (h : DataW.trod enc Tryd.prog w base sp held fuel 84 cs = some y) (hy : y.1 = kindData k) : cs[0]? = some (.string (kbytes k)) ∧ cs[1]? = some (.bool (hasV k)) ∧ cs[2]? = some (.bool (hasX k)) := by
  obtain ⟨ys, n, _, rfl, _, hl, hf⟩ := DataW.trod_struct Tryd.underlying84 h
  have hl3 : ys.length = 3 := hl
  have h0 : DataW.trod enc Tryd.prog w base sp held n 9 ((cs.drop 0).take (Tryd.prog.cellsOf 9)) = ys[0]? := hf 0 _ rfl
  have h1 : DataW.trod enc Tryd.prog w base sp held n 4 ((cs.drop 1).take (Tryd.prog.cellsOf 4)) = ys[1]? := hf 1 _ rfl
  have h2 : DataW.trod enc Tryd.prog w base sp held n 4 ((cs.drop 2).take (Tryd.prog.cellsOf 4)) = ys[2]? := hf 2 _ rfl
  rw [cells_str] at h0
  rw [cells_bool] at h1 h2
  rw [List.getElem?_eq_getElem (by omega)] at h0 h1 h2
  obtain ⟨s, c0, e0, _⟩ := DataW.trod_string Tryd.underlying9 h0
  obtain ⟨b1, c1, e1⟩ := DataW.trod_bool Tryd.underlying4 h1
  obtain ⟨b2, c2, e2⟩ := DataW.trod_bool Tryd.underlying4 h2
  have hm : ys.map (·.1) = [.lit (.string (kwords.getD k [])), .lit (.bool (hasV k)), .lit (.bool (hasX k))] := DataW.agg.inj hy
  have m0 : ys[0].1 = .lit (.string (kwords.getD k [])) := by have := congrArg (·[0]?) hm; simpa [List.getElem?_map, List.getElem?_eq_getElem, hl3] using this
  have m1 : ys[1].1 = .lit (.bool (hasV k)) := by have := congrArg (·[1]?) hm; simpa [List.getElem?_map, List.getElem?_eq_getElem, hl3] using this
  have m2 : ys[2].1 = .lit (.bool (hasX k)) := by have := congrArg (·[2]?) hm; simpa [List.getElem?_map, List.getElem?_eq_getElem, hl3] using this
  rw [e0] at m0
  rw [e1] at m1
  rw [e2] at m2
  simp only [DataW.lit.injEq, Lit.string.injEq, Lit.bool.injEq] at m0 m1 m2
  have hs : s = kbytes k := by unfold kbytes; rw [← m0]
  subst m1 m2 hs
  exact ⟨take_one _ _ _ c0, take_one _ _ _ c1, take_one _ _ _ c2⟩
theorem kinds_have {W w : World} {base : Nat} {sp : Nat → Bool} {held : Bool} {fuel : Nat} {enc : TypeId × Value → Unit} {cs : Array Value} {p : List MemPlace} {g : Nat}
    (hg : Tryd.prog.globalNamed "recant/text.kinds" = some g) (hv : W.var? Tryd.prog "recant/text.kinds" = some cs) (hd : DataW.trod enc Tryd.prog w base sp held fuel 85 cs.toList = some (Rows.laid_recant_text_kinds, p)) : HasK W := by
  obtain rfl : g = 0 := Option.some.inj (hg.symm.trans (by kernel_rfl))
  obtain ⟨xs, m, _, ex, _, hl, hel⟩ := DataW.trod_array Tryd.underlying85 hd
  have hm : xs.map (·.1) = (List.range 10).map kindData := by
    have := (Prod.mk.inj ex).1
    rw [kinds_data] at this
    exact (DataW.agg.inj this).symm
  have hk : ∀ k, k < 10 → cs.toList[k * 3]? = some (.string (kbytes k)) ∧ cs.toList[k * 3 + 1]? = some (.bool (hasV k)) ∧ cs.toList[k * 3 + 2]? = some (.bool (hasX k)) := by
    intro k hk
    have h1 := hel k hk
    rw [cells_kind, List.getElem?_eq_getElem (by omega)] at h1
    have h2 : xs[k].1 = kindData k := by
      have := congrArg (·[k]?) hm
      simpa [List.getElem?_map, List.getElem?_eq_getElem, hl, hk] using this
    obtain ⟨r0, r1, r2⟩ := kind_one k h1 h2
    simp only [List.getElem?_take, List.getElem?_drop] at r0 r1 r2
    exact ⟨by simpa using r0, by simpa using r1, by simpa using r2⟩
  intro j v hj
  rw [World.var?_cell hg hv j]
  have hj30 : j < 30 := by have := (Array.getElem?_eq_some_iff.1 hj).1; rw [kindCells_size] at this; exact this
  obtain ⟨q0, q1, q2⟩ := hk (j / 3) (by omega)
  obtain ⟨k0, k1, k2⟩ := kindCells_at (j / 3) (by omega)
  have hm3 : j % 3 = 0 ∨ j % 3 = 1 ∨ j % 3 = 2 := by omega
  rw [← Array.getElem?_toList]
  rcases hm3 with h | h | h
  · rw [show j / 3 * 3 = j from by omega] at q0 k0; rw [q0, ← k0, hj]
  · rw [show j / 3 * 3 + 1 = j from by omega] at q1 k1; rw [q1, ← k1, hj]
  · rw [show j / 3 * 3 + 2 = j from by omega] at q2 k2; rw [q2, ← k2, hj]
end Go.Proofs.YtkliahdgciajjaaDoor
/- Append of events, whatever the source. -/
namespace Go.Proofs.YtkliahdgciajjaaDoor.WPlain
end Go.Proofs.YtkliahdgciajjaaDoor.WPlain
namespace Go.Proofs.YtkliahdgciajjaaDoor
open Go.RowKit WPlain

theorem evs_oneCell (h : List Ev) : ∀ u ∈ evsCells h, u.oneCell' = true := by
  intro u hu
  simp only [evsCells, List.mem_flatMap] at hu
  obtain ⟨e, _, he⟩ := hu
  simp [evCells] at he
  rcases he with rfl | rfl | rfl | rfl <;> rfl
theorem addr_add (b o j : Nat) : (⟨b, o, none⟩ : Addr).add j = ⟨b, o + j, none⟩ := by unfold Addr.add; split <;> simp_all
theorem Evs.cells {w : World} {a : Addr} {n c : Nat} {h : List Ev} (hv : Evs w (.slice (some a) n c) h) : ∀ j u, (evsCells h)[j]? = some u → w.cell? (a.add j) = some u := by
  intro j u hu
  rcases hv with ⟨rfl, _⟩ | ⟨_, b, o, c', he, hlt, hc⟩
  · simp [evsCells] at hu
  · obtain ⟨rfl, rfl, rfl⟩ : a = ⟨b, o, none⟩ ∧ n = h.length ∧ c = c' := by simpa using he
    have hj : j < h.length * 4 := by
      have := (List.getElem?_eq_some_iff.1 hu).1
      rw [evsCells_len] at this
      exact this
    have hi : j / 4 < h.length := by omega
    obtain ⟨c0, c1, c2, c3⟩ := hc (j / 4) hi
    have hg := evsCells_get h (j / 4) hi (j % 4) (by omega)
    rw [show j / 4 * 4 + j % 4 = j from by omega, hu] at hg
    rw [addr_add]
    have hm : j % 4 = 0 ∨ j % 4 = 1 ∨ j % 4 = 2 ∨ j % 4 = 3 := by omega
    rcases hm with hm | hm | hm | hm
    · rw [hm] at hg; rw [show o + j = o + j / 4 * 4 from by omega, c0]; exact hg.symm
    · rw [hm] at hg; rw [show o + j = o + j / 4 * 4 + 1 from by omega, c1]; exact hg.symm
    · rw [hm] at hg; rw [show o + j = o + j / 4 * 4 + 2 from by omega, c2]; exact hg.symm
    · rw [hm] at hg; rw [show o + j = o + j / 4 * 4 + 3 from by omega, c3]; exact hg.symm
theorem Evs.length {w : World} {a : Option Addr} {n c : Nat} {h : List Ev} (hv : Evs w (.slice a n c) h) : n = h.length := by
  obtain ⟨a', c', he⟩ := hv.len
  simp at he
  exact he.2.1
theorem wpList_append_src {ops : Array Oper} {rest : List Oper} {o : Oper} {a : Act} {w : World} {Q : Exit → Act → World → Prop} (hgd : o.guard = none) (s x : Operand)
    (ho : o.op = .call { callee := .builtin .append, args := #[s, x], argTypes := #[22, 22] }) (base : Nat)
    (v : Value) (n : Nat) (xs : List Value) (hs : a.eval s = v) (hown : w.ownsRow base 53 4 v n xs)
    (v2 : Value) (h : List Ev) (hx : a.eval x = v2) (hv : Evs w v2 h) (hsrc : Src v2) (h63 : n + h.length ≤ 65536) (hbase : base ≤ w.heap.size)
    (hK : ∀ v' w', w'.ownsRow base 53 4 v' (n + h.length) (xs ++ evsCells h) → w.grownBy w' v.ownBlock → wpList Tryd.prog ops Q rest (a.put o.dst v') w') : wpList Tryd.prog ops Q (o :: rest) a w := by
  obtain ⟨j0, hj0, hy0, hy1', hy2'⟩ := info_parts info53
  rcases hsrc with rfl | ⟨ad, m, c, rfl⟩
  · have h0 : h = [] := List.length_eq_zero_iff.1 hv.length.symm
    subst h0
    have hrest := hK v w (by simpa [evsCells] using hown) ⟨rfl, rfl, rfl, Nat.le_refl _, fun _ _ _ => rfl⟩
    exact wpList_append_own_none hgd s x 22 ho base 53 j0 4 Tryd.underlying22 hj0 v n xs hs hown hx hrest
  · obtain rfl := hv.length
    refine wpList_append_own w hgd s x 22 ho base 53 j0 _ 4 32 Tryd.underlying22 hj0 hy0 hy1' hy2' rfl (by decide) v n xs hs hown ad h.length c (evsCells h) hx (evsCells_len h) hv.cells (evs_oneCell h) (by unfold maxLen; omega) (by omega) hbase ?_
    intro v' w' h2 h3 _
    exact hK v' w' h2 h3
end Go.Proofs.YtkliahdgciajjaaDoor
/- The walks of the reference's Last and May. -/
namespace Go.Proofs.YtkliahdgciajjaaDoor.WPlain
end Go.Proofs.YtkliahdgciajjaaDoor.WPlain
namespace Go.Proofs.YtkliahdgciajjaaDoor.QPlain
end Go.Proofs.YtkliahdgciajjaaDoor.QPlain
namespace Go.Proofs.YtkliahdgciajjaaDoor
open Go.RowKit WPlain QPlain

theorem last_take {h : List Ev} {k : Nat} (hk : k < h.length) (t : Int) : lastOf (h.take (k + 1)) t = if h[k].t = t then h[k].k else lastOf (h.take k) t := by
  rw [← lastOf_snoc, List.take_succ_eq_append_getElem hk]
set_option maxRecDepth 100000 in
set_option maxHeartbeats 1000000 in
theorem last_any (v : Value) (h : List Ev) (t : Int) (w : World) (hv : Evs w v h) (hl : h.length ≤ 65536) :
    Calls Tryd.prog 20 #[v, .int .i64 t] w fun e w' => e = .returned (.int .i64 (lastOf h t)) ∧ Below w.heap.size w w' := by
  have hb0 := Below.refl w.heap.size w
  have HV := Lib.hid hv
  obtain ⟨a, c, rfl⟩ := hv.len
  clear hv
  go_enter Tryd.func20, Tryd.ntmps20
  go_wp2_with fail
  go_loopw [5, 10] (fun y x wr => ∃ k : Nat, k ≤ h.length ∧ x = .int .i64 k ∧ y = .int .i64 (lastOf (h.take k) t) ∧ Hid (Below w.heap.size w wr)) (fun _ x _ => h.length - (intOf x).toNat)
  case atStart => exact ⟨0, by omega, rfl, rfl, hb0⟩
  case round =>
    clear hb0
    obtain ⟨k, hk, rfl, rfl, HB⟩ := hrel
    by_cases hlt : k < h.length
    · have HT := Lib.hid (last_take hlt t)
      have hv2 := HV.out.below HB.out (Nat.le_refl _)
      rcases hv2 with ⟨e0, _⟩ | ⟨l0, b, o, c', he, hbl, hc⟩
      · rw [e0] at hlt; simp at hlt
      · obtain ⟨rfl, rfl⟩ : a = some ⟨b, o, none⟩ ∧ c = c' := by simpa using he
        clear he
        obtain ⟨c0, c1, c2, c3⟩ := hc k hlt
        clear hc
        generalize h[k] = ev at *
        generalize lastOf (h.take k) t = y at *
        have HB1 := Lib.hid (HB.out.alloc HB.out.size (.cells #[.int .i64 ev.k, .int .i64 ev.t, .int .i64 ev.v, .int .i64 ev.x] 53))
        have hE := At.new wr #[.int .i64 ev.k, .int .i64 ev.t, .int .i64 ev.v, .int .i64 ev.x] 53
        have e0 := hE.cell (i := 0) (v := .int .i64 ev.k) rfl
        have e1 := hE.cell (i := 1) (v := .int .i64 ev.t) rfl
        clear hE HB
        by_cases het : ev.t = t
        · have HA : Hid (lastOf (h.take (k + 1)) t = ev.k) := by unfold Hid; rw [HT.out, if_pos het]
          have tq : ((ev.t : Int) == t) = true := by simp [het]
          clear het HT
          go_wp2
          go_roundw
          case rel => exact ⟨k + 1, by omega, by go_num, by rw [HA.out], HB1⟩
          case measure => simp [intOf]; omega
        · have HA : Hid (lastOf (h.take (k + 1)) t = y) := by unfold Hid; rw [HT.out, if_neg het]
          have tq : ((ev.t : Int) == t) = false := by simp [het]
          clear het HT
          go_wp2
          go_roundw
          case rel => exact ⟨k + 1, by omega, by go_num, by rw [HA.out], HB1⟩
          case measure => simp [intOf]; omega
    · obtain rfl : k = h.length := by omega
      rw [List.take_length]
      go_wp2
      go_ret
      exact ⟨rfl, HB.out⟩
set_option maxRecDepth 100000 in
set_option maxHeartbeats 4000000 in
theorem may_any (l k : Int) (hl : -1 ≤ l ∧ l < 10) (hk : 0 ≤ k ∧ k < 10) (w : World) :
    Calls Tryd.prog 27 #[.int .i64 l, .int .i64 k] w fun e w' => e = .returned (.bool (mayS l k)) ∧ w = w' := by
  rcases lasts hl with rfl | rfl | rfl | rfl | rfl | rfl | rfl | rfl | rfl | rfl | rfl
  all_goals
    clear hl
    rcases tenI hk with rfl | rfl | rfl | rfl | rfl | rfl | rfl | rfl | rfl | rfl
    all_goals
      clear hk
      go_enter Tryd.func27, Tryd.ntmps27
      go_wp2
      go_ret
      exact ⟨rfl, rfl⟩
end Go.Proofs.YtkliahdgciajjaaDoor
/- The walks of package word's Text and of the reference's Text and Number. -/
namespace Go.Proofs.YtkliahdgciajjaaDoor.WPlain
end Go.Proofs.YtkliahdgciajjaaDoor.WPlain
namespace Go.Proofs.YtkliahdgciajjaaDoor
open Go.RowKit WPlain

theorem refNumber_any (n : Int) (w : World) :
    Calls Tryd.prog 33 #[.int .i64 n] w fun e w' => e = .returned (.bool (inR n)) ∧ w = w' := by
  by_cases h1 : -2147483648 ≤ n
  · by_cases h2 : n ≤ 2147483647
    · have HT : Hid (inR n = true) := by unfold Hid inR; simp [h1, h2]
      go_enter Tryd.func33, Tryd.ntmps33
      go_wp2
      go_ret
      exact ⟨ret_bool HT.out.symm, rfl⟩
    · have HT : Hid (inR n = false) := by unfold Hid inR; simp [h2]
      have t2 : decide (n ≤ 2147483647) = false := by simp; omega
      go_enter Tryd.func33, Tryd.ntmps33
      go_wp2
      go_ret
      exact ⟨ret_bool HT.out.symm, rfl⟩
  · have HT : Hid (inR n = false) := by unfold Hid inR; simp [h1]
    have t2 : decide (-2147483648 ≤ n) = false := by simp; omega
    go_enter Tryd.func33, Tryd.ntmps33
    go_wp2
    go_ret
    exact ⟨ret_bool HT.out.symm, rfl⟩

end Go.Proofs.YtkliahdgciajjaaDoor
