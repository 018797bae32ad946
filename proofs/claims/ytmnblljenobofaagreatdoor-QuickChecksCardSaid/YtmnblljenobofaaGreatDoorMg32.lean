/- Merged: LaidK, OpenEv, OpenEn. -/
import Derived.Test.YtmnblljenobofaaGreatDoorRows
import Derived.Test.YtmnblljenobofaaGreatDoorMg3
import Derived.Test.YtmnblljenobofaaGreatDoorMg2
import Derived.OpenShut
import Derived.FnData
import Derived.Deep.Slices
import Derived.Deep.Fields
import Derived.ChangeSame
import Derived.Carry
import Derived.ProofKit
/- From the row's condition on the table of kinds to what the walks ask. -/
namespace Go.Proofs.YtmnblljenobofaaGreatDoor.WPlain
end Go.Proofs.YtmnblljenobofaaGreatDoor.WPlain
namespace Go.Proofs.YtmnblljenobofaaGreatDoor
open Go.ChangeShapes Go.WideShapes Go.RowKit WPlain

def kindData {H : Type} (k : Nat) : DataW H := .agg [.lit (.string (kwords.getD k [])), .lit (.bool (hasV k)), .lit (.bool (hasX k))]
theorem kinds_data : (Rows.laid_recant_text_kinds : DataW Unit) = .agg ((List.range 10).map kindData) := by kernel_rfl
theorem cells_str : Tryz.prog.cellsOf 9 = 1 := by kernel_rfl
theorem cells_bool : Tryz.prog.cellsOf 4 = 1 := by kernel_rfl
theorem cells_kind : Tryz.prog.cellsOf 168 = 3 := by kernel_rfl

theorem take_one {α : Type} (l : List α) (i : Nat) (x : α) (h : (l.drop i).take 1 = [x]) : l[i]? = some x := by
  have h1 := congrArg (·[0]?) h
  simpa using h1
theorem kind_one {w : World} {base : Nat} {sp : Nat → Bool} {held : Bool} {fuel : Nat} {enc : TypeId × Value → Unit} {cs : List Value} {y : DataW Unit × List MemPlace} (k : Nat)
    (h : DataW.trod enc Tryz.prog w base sp held fuel 168 cs = some y) (hy : y.1 = kindData k) : cs[0]? = some (.string (kbytes k)) ∧ cs[1]? = some (.bool (hasV k)) ∧ cs[2]? = some (.bool (hasX k)) := by
  obtain ⟨ys, n, _, rfl, _, hl, hf⟩ := DataW.trod_struct Tryz.underlying168 h
  have hl3 : ys.length = 3 := hl
  have h0 : DataW.trod enc Tryz.prog w base sp held n 9 ((cs.drop 0).take (Tryz.prog.cellsOf 9)) = ys[0]? := hf 0 _ rfl
  have h1 : DataW.trod enc Tryz.prog w base sp held n 4 ((cs.drop 1).take (Tryz.prog.cellsOf 4)) = ys[1]? := hf 1 _ rfl
  have h2 : DataW.trod enc Tryz.prog w base sp held n 4 ((cs.drop 2).take (Tryz.prog.cellsOf 4)) = ys[2]? := hf 2 _ rfl
  rw [cells_str] at h0
  rw [cells_bool] at h1 h2
  rw [List.getElem?_eq_getElem (by omega)] at h0 h1 h2
  obtain ⟨s, c0, e0, _⟩ := DataW.trod_string Tryz.underlying9 h0
  obtain ⟨b1, c1, e1⟩ := DataW.trod_bool Tryz.underlying4 h1
  obtain ⟨b2, c2, e2⟩ := DataW.trod_bool Tryz.underlying4 h2
  have hm : ys.map (·.1) = [.lit (.string (kwords.getD k [])), .lit (.bool (hasV k)), .lit (.bool (hasX k))] := DataW.agg.inj hy
  have m0 : ys[0].1 = .lit (.string (kwords.getD k [])) := by have := congrArg (·[0]?) hm; simpa [List.getElem?_map, List.getElem?_eq_getElem, hl3] using this
  have m1 : ys[1].1 = .lit (.bool (hasV k)) := by have := congrArg (·[1]?) hm; simpa [List.getElem?_map, List.getElem?_eq_getElem, hl3] using this
  have m2 : ys[2].1 = .lit (.bool (hasX k)) := by have := congrArg (·[2]?) hm; simpa [List.getElem?_map, List.getElem?_eq_getElem, hl3] using this
  rw [e0] at m0
  rw [e1] at m1
  rw [e2] at m2
  simp only [DataW.lit.injEq, Lit.string.injEq, Lit.bool.injEq] at m0 m1 m2
  have hs : s = kbytes k := by unfold kbytes; rw [← m0]
  subst m1 m2 hs
  exact ⟨take_one _ _ _ c0, take_one _ _ _ c1, take_one _ _ _ c2⟩
theorem kinds_have {W w : World} {base : Nat} {sp : Nat → Bool} {held : Bool} {fuel : Nat} {enc : TypeId × Value → Unit} {cs : Array Value} {p : List MemPlace} {g : Nat}
    (hg : Tryz.prog.globalNamed "recant/text.kinds" = some g) (hv : W.var? Tryz.prog "recant/text.kinds" = some cs) (hd : DataW.trod enc Tryz.prog w base sp held fuel 169 cs.toList = some (Rows.laid_recant_text_kinds, p)) : HasK W := by
  obtain rfl : g = 0 := Option.some.inj (hg.symm.trans (by kernel_rfl))
  obtain ⟨xs, m, _, ex, _, hl, hel⟩ := DataW.trod_array Tryz.underlying169 hd
  have hm : xs.map (·.1) = (List.range 10).map kindData := by
    have := (Prod.mk.inj ex).1
    rw [kinds_data] at this
    exact (DataW.agg.inj this).symm
  have hk : ∀ k, k < 10 → cs.toList[k * 3]? = some (.string (kbytes k)) ∧ cs.toList[k * 3 + 1]? = some (.bool (hasV k)) ∧ cs.toList[k * 3 + 2]? = some (.bool (hasX k)) := by
    intro k hk
    have h1 := hel k hk
    rw [cells_kind, List.getElem?_eq_getElem (by omega)] at h1
    have h2 : xs[k].1 = kindData k := by
      have := congrArg (·[k]?) hm
      simpa [List.getElem?_map, List.getElem?_eq_getElem, hl, hk] using this
    obtain ⟨r0, r1, r2⟩ := kind_one k h1 h2
    simp only [List.getElem?_take, List.getElem?_drop] at r0 r1 r2
    exact ⟨by simpa using r0, by simpa using r1, by simpa using r2⟩
  intro j v hj
  rw [World.var?_cell hg hv j]
  have hj30 : j < 30 := by have := (Array.getElem?_eq_some_iff.1 hj).1; rw [kindCells_size] at this; exact this
  obtain ⟨q0, q1, q2⟩ := hk (j / 3) (by omega)
  obtain ⟨k0, k1, k2⟩ := kindCells_at (j / 3) (by omega)
  have hm3 : j % 3 = 0 ∨ j % 3 = 1 ∨ j % 3 = 2 := by omega
  rw [← Array.getElem?_toList]
  rcases hm3 with h | h | h
  · rw [show j / 3 * 3 = j from by omega] at q0 k0; rw [q0, ← k0, hj]
  · rw [show j / 3 * 3 + 1 = j from by omega] at q1 k1; rw [q1, ← k1, hj]
  · rw [show j / 3 * 3 + 2 = j from by omega] at q2 k2; rw [q2, ← k2, hj]
end Go.Proofs.YtmnblljenobofaaGreatDoor
/- An argument that is a slice of events. -/
namespace Go.Proofs.YtmnblljenobofaaGreatDoor.WPlain
end Go.Proofs.YtmnblljenobofaaGreatDoor.WPlain
namespace Go.Proofs.YtmnblljenobofaaGreatDoor
open Go.ChangeShapes Go.WideShapes Go.RowKit Go.Deep WPlain

theorem cells_int : Tryz.prog.cellsOf 3 = 1 := by kernel_rfl
theorem cells_ev : Tryz.prog.cellsOf 53 = 4 := by kernel_rfl
theorem at_one {α : Type} (l : List α) (i : Nat) (x : α) (h : (l.drop i).take 1 = [x]) : l[i]? = some x := by
  have h1 := congrArg (·[0]?) h
  simpa using h1
/-- one event -/
theorem open_event {H : Type} {enc : TypeId × Value → H} {w : World} {base : Nat} {sp : Nat → Bool} {held : Bool} {fuel : Nat} {cs : List Value} {y : DataW H × List MemPlace}
    (h : DataW.trod enc Tryz.prog w base sp held fuel 53 cs = some y) : ∃ e : Ev, cs = evCells e := by
  obtain ⟨ys, n, _, rfl, hcl, hl, hf⟩ := DataW.trod_struct Tryz.underlying53 h
  rw [cells_ev] at hcl
  have hl4 : ys.length = 4 := hl
  have h0 : DataW.trod enc Tryz.prog w base sp held n 3 ((cs.drop 0).take (Tryz.prog.cellsOf 3)) = ys[0]? := hf 0 _ rfl
  have h1 : DataW.trod enc Tryz.prog w base sp held n 3 ((cs.drop 1).take (Tryz.prog.cellsOf 3)) = ys[1]? := hf 1 _ rfl
  have h2 : DataW.trod enc Tryz.prog w base sp held n 3 ((cs.drop 2).take (Tryz.prog.cellsOf 3)) = ys[2]? := hf 2 _ rfl
  have h3 : DataW.trod enc Tryz.prog w base sp held n 3 ((cs.drop 3).take (Tryz.prog.cellsOf 3)) = ys[3]? := hf 3 _ rfl
  rw [cells_int] at h0 h1 h2 h3
  rw [List.getElem?_eq_getElem (by omega)] at h0 h1 h2 h3
  obtain ⟨z0, c0, _, _⟩ := DataW.trod_int Tryz.underlying3 h0
  obtain ⟨z1, c1, _, _⟩ := DataW.trod_int Tryz.underlying3 h1
  obtain ⟨z2, c2, _, _⟩ := DataW.trod_int Tryz.underlying3 h2
  obtain ⟨z3, c3, _, _⟩ := DataW.trod_int Tryz.underlying3 h3
  refine ⟨⟨z0, z1, z2, z3⟩, ?_⟩
  have a0 := at_one _ _ _ c0
  have a1 := at_one _ _ _ c1
  have a2 := at_one _ _ _ c2
  have a3 := at_one _ _ _ c3
  apply List.ext_getElem?
  intro i
  by_cases hi : i < 4
  · have hc : i = 0 ∨ i = 1 ∨ i = 2 ∨ i = 3 := by omega
    rcases hc with rfl | rfl | rfl | rfl
    · rw [a0]; rfl
    · rw [a1]; rfl
    · rw [a2]; rfl
    · rw [a3]; rfl
  · rw [List.getElem?_eq_none (by omega), List.getElem?_eq_none (by simp [evCells]; omega)]

theorem addr_plus (b o j : Nat) : (⟨b, o, none⟩ : Addr).add j = ⟨b, o + j, none⟩ := by unfold Addr.add; split <;> simp_all
end Go.Proofs.YtmnblljenobofaaGreatDoor
/- Events among the arguments, and an event by value, as they are read. -/
namespace Go.Proofs.YtmnblljenobofaaGreatDoor.WPlain
end Go.Proofs.YtmnblljenobofaaGreatDoor.WPlain
namespace Go.Proofs.YtmnblljenobofaaGreatDoor
open Go.ChangeShapes Go.WideShapes Go.ChangeAt Go.RowKit
open Go.Deep WPlain
set_option maxRecDepth 100000 in
/-- events among the arguments, cut to their first N -/
theorem open_eventsN (N : Nat) {H : Type} {enc : TypeId × Value → H} {W w : World} {r : Reach} {b0 base : Nat} {sp : Nat → Bool} {held : Bool} {v : Value} {d : DataW H} {p : List MemPlace} (hv : Value.okWide Tryz.prog W r b0 22 v) (h : DataW.Trod enc Tryz.prog w base sp held 22 v d p) :
    ∃ (a : Option Addr) (n c : Nat) (E : List Ev), v = .slice a n c ∧ n ≤ c ∧ (a = none → c = 0) ∧ Evs w (.slice a (min (n : Int) N).toNat c) E := by
  obtain ⟨a, len, cap, rfl⟩ := okWide_slice Tryz.underlying22 hv
  obtain ⟨fuel, hf⟩ := h
  refine ⟨a, len, cap, ?_⟩
  rcases open_slice Tryz.underlying22 hf with ⟨hc, _⟩ | ⟨a', len', cap', m, n, D, Pl, hc, _, hle, hcm, hm, _, hi⟩
  · simp only [Value.cells, List.cons.injEq, Value.slice.injEq, and_true] at hc
    obtain ⟨rfl, rfl, rfl⟩ := hc
    exact ⟨[], rfl, Nat.le_refl _, fun _ => rfl, .inl ⟨rfl, _, _, rfl⟩⟩
  · simp only [Value.cells, List.cons.injEq, Value.slice.injEq, and_true] at hc
    obtain ⟨rfl, rfl, rfl⟩ := hc
    have hml : len ≤ m := by rw [hm]; split <;> omega
    obtain ⟨k, hk⟩ : ∃ k, k = (min (len : Int) N).toNat := ⟨_, rfl⟩
    have hkl : k ≤ len := by omega
    rw [← hk]
    by_cases h0 : 0 < k
    · have hev : ∀ i, i < k → ∃ e : Ev, ∀ j, j < 4 → w.cell? ((a'.add (i * 4)).add j) = (evCells e)[j]? := by
        intro i hik
        obtain ⟨cs', h1, h2⟩ := hi i (by omega)
        rw [cells_ev] at h1
        obtain ⟨e, rfl⟩ := open_event h2
        obtain ⟨_, _, hat⟩ := World.cells?_some h1
        refine ⟨e, fun j hj => ?_⟩
        have := hat j hj
        rw [this, List.getElem?_eq_getElem (by simp [evCells]; omega)]
      have hE : ∃ E : List Ev, E.length = k ∧ ∀ i (h : i < E.length) j, j < 4 → w.cell? ((a'.add (i * 4)).add j) = (evCells E[i])[j]? := by
        clear hk hkl h0
        induction k with
        | zero => exact ⟨[], rfl, fun i h => absurd h (Nat.not_lt_zero _)⟩
        | succ k ih =>
          obtain ⟨E, hEl, hE⟩ := ih (fun i hik => hev i (by omega))
          obtain ⟨e, he⟩ := hev k (by omega)
          refine ⟨E ++ [e], by simp [hEl], fun i h j hj => ?_⟩
          by_cases hik : i < E.length
          · rw [List.getElem_append_left hik]; exact hE i hik j hj
          · have : i = k := by simp at h; omega
            subst this
            rw [List.getElem_append_right (by omega)]
            simp only [hEl, Nat.sub_self, List.getElem_cons_zero]
            exact he j hj
      obtain ⟨E, hEl, hE⟩ := hE
      obtain ⟨b, o, spot⟩ := a'
      have hc00 := hE 0 (by omega) 0 (by omega)
      have hspot : spot = none := by
        have h1 : w.cell? ⟨b, o, spot⟩ = some (.int .i64 E[0].k) := by simpa [Addr.add, evCells] using hc00
        simpa using World.cell?_spot h1
      subst hspot
      refine ⟨E, rfl, hle, (fun hh => by cases hh), .inr ⟨by omega, b, o, cap, by rw [hEl], ?_, fun i hi => ?_⟩⟩
      · have h1 : w.cell? ⟨b, o, none⟩ = some (.int .i64 E[0].k) := by simpa [Addr.add, evCells] using hc00
        exact cell_lt h1
      · have q0 := hE i hi 0 (by omega)
        have q1 := hE i hi 1 (by omega)
        have q2 := hE i hi 2 (by omega)
        have q3 := hE i hi 3 (by omega)
        rw [addr_plus, addr_plus] at q0 q1 q2 q3
        exact ⟨q0, q1, q2, q3⟩
    · have : k = 0 := by omega
      exact ⟨[], rfl, hle, (fun hh => by cases hh), .inl ⟨rfl, _, _, by rw [this]⟩⟩
end Go.Proofs.YtmnblljenobofaaGreatDoor
