/- From the row's condition on the table of kinds to what the walks ask. -/
import Derived.Test.YtpbkieeheepelaaDoorRows
import Derived.Test.YtpbkieeheepelaaDoorKitC
import Derived.OpenShut
import Derived.FnData
namespace Go.Proofs.YtpbkieeheepelaaDoor.WPlain
end Go.Proofs.YtpbkieeheepelaaDoor.WPlain
namespace Go.Proofs.YtpbkieeheepelaaDoor
open Go.ChangeShapes Go.WideShapes Go.RowKit WPlain

def kindData {H : Type} (k : Nat) : DataW H := .agg [.lit (.string (kwords.getD k [])), .lit (.bool (hasV k)), .lit (.bool (hasX k))]
theorem kinds_data : (Rows.laid_recant_text_kinds : DataW Unit) = .agg ((List.range 10).map kindData) := by kernel_rfl
theorem cells_str : Tryd.prog.cellsOf 9 = 1 := by kernel_rfl
theorem cells_bool : Tryd.prog.cellsOf 4 = 1 := by kernel_rfl
theorem cells_kind : Tryd.prog.cellsOf 78 = 3 := by kernel_rfl

theorem take_one {α : Type} (l : List α) (i : Nat) (x : α) (h : (l.drop i).take 1 = [x]) : l[i]? = some x := by
  have h1 := congrArg (·[0]?) h
  simpa using h1
theorem kind_one {w : World} {base : Nat} {sp : Nat → Bool} {held : Bool} {fuel : Nat} {enc : TypeId × Value → Unit} {cs : List Value} {y : DataW Unit × List MemPlace} (k : Nat)
    (h : DataW.trod enc Tryd.prog w base sp held fuel 78 cs = some y) (hy : y.1 = kindData k) : cs[0]? = some (.string (kbytes k)) ∧ cs[1]? = some (.bool (hasV k)) ∧ cs[2]? = some (.bool (hasX k)) := by
  obtain ⟨ys, n, _, rfl, _, hl, hf⟩ := DataW.trod_struct Tryd.underlying78 h
  have hl3 : ys.length = 3 := hl
  have h0 : DataW.trod enc Tryd.prog w base sp held n 9 ((cs.drop 0).take (Tryd.prog.cellsOf 9)) = ys[0]? := hf 0 _ rfl
  have h1 : DataW.trod enc Tryd.prog w base sp held n 4 ((cs.drop 1).take (Tryd.prog.cellsOf 4)) = ys[1]? := hf 1 _ rfl
  have h2 : DataW.trod enc Tryd.prog w base sp held n 4 ((cs.drop 2).take (Tryd.prog.cellsOf 4)) = ys[2]? := hf 2 _ rfl
  rw [cells_str] at h0
  rw [cells_bool] at h1 h2
  rw [List.getElem?_eq_getElem (by omega)] at h0 h1 h2
  obtain ⟨s, c0, e0, _⟩ := DataW.trod_string Tryd.underlying9 h0
  obtain ⟨b1, c1, e1⟩ := DataW.trod_bool Tryd.underlying4 h1
  obtain ⟨b2, c2, e2⟩ := DataW.trod_bool Tryd.underlying4 h2
  have hm : ys.map (·.1) = [.lit (.string (kwords.getD k [])), .lit (.bool (hasV k)), .lit (.bool (hasX k))] := DataW.agg.inj hy
  have m0 : ys[0].1 = .lit (.string (kwords.getD k [])) := by have := congrArg (·[0]?) hm; simpa [List.getElem?_map, List.getElem?_eq_getElem, hl3] using this
  have m1 : ys[1].1 = .lit (.bool (hasV k)) := by have := congrArg (·[1]?) hm; simpa [List.getElem?_map, List.getElem?_eq_getElem, hl3] using this
  have m2 : ys[2].1 = .lit (.bool (hasX k)) := by have := congrArg (·[2]?) hm; simpa [List.getElem?_map, List.getElem?_eq_getElem, hl3] using this
  rw [e0] at m0
  rw [e1] at m1
  rw [e2] at m2
  simp only [DataW.lit.injEq, Lit.string.injEq, Lit.bool.injEq] at m0 m1 m2
  have hs : s = kbytes k := by unfold kbytes; rw [← m0]
  subst m1 m2 hs
  exact ⟨take_one _ _ _ c0, take_one _ _ _ c1, take_one _ _ _ c2⟩
theorem kinds_have {W w : World} {base : Nat} {sp : Nat → Bool} {held : Bool} {fuel : Nat} {enc : TypeId × Value → Unit} {cs : Array Value} {p : List MemPlace} {g : Nat}
    (hg : Tryd.prog.globalNamed "recant/text.kinds" = some g) (hv : W.var? Tryd.prog "recant/text.kinds" = some cs) (hd : DataW.trod enc Tryd.prog w base sp held fuel 79 cs.toList = some (Rows.laid_recant_text_kinds, p)) : HasK W := by
  obtain rfl : g = 0 := Option.some.inj (hg.symm.trans (by kernel_rfl))
  obtain ⟨xs, m, _, ex, _, hl, hel⟩ := DataW.trod_array Tryd.underlying79 hd
  have hm : xs.map (·.1) = (List.range 10).map kindData := by
    have := (Prod.mk.inj ex).1
    rw [kinds_data] at this
    exact (DataW.agg.inj this).symm
  have hk : ∀ k, k < 10 → cs.toList[k * 3]? = some (.string (kbytes k)) ∧ cs.toList[k * 3 + 1]? = some (.bool (hasV k)) ∧ cs.toList[k * 3 + 2]? = some (.bool (hasX k)) := by
    intro k hk
    have h1 := hel k hk
    rw [cells_kind, List.getElem?_eq_getElem (by omega)] at h1
    have h2 : xs[k].1 = kindData k := by
      have := congrArg (·[k]?) hm
      simpa [List.getElem?_map, List.getElem?_eq_getElem, hl, hk] using this
    obtain ⟨r0, r1, r2⟩ := kind_one k h1 h2
    simp only [List.getElem?_take, List.getElem?_drop] at r0 r1 r2
    exact ⟨by simpa using r0, by simpa using r1, by simpa using r2⟩
  intro j v hj
  rw [World.var?_cell hg hv j]
  have hj30 : j < 30 := by have := (Array.getElem?_eq_some_iff.1 hj).1; rw [kindCells_size] at this; exact this
  obtain ⟨q0, q1, q2⟩ := hk (j / 3) (by omega)
  obtain ⟨k0, k1, k2⟩ := kindCells_at (j / 3) (by omega)
  have hm3 : j % 3 = 0 ∨ j % 3 = 1 ∨ j % 3 = 2 := by omega
  rw [← Array.getElem?_toList]
  rcases hm3 with h | h | h
  · rw [show j / 3 * 3 = j from by omega] at q0 k0; rw [q0, ← k0, hj]
  · rw [show j / 3 * 3 + 1 = j from by omega] at q1 k1; rw [q1, ← k1, hj]
  · rw [show j / 3 * 3 + 2 = j from by omega] at q2 k2; rw [q2, ← k2, hj]
end Go.Proofs.YtpbkieeheepelaaDoor
