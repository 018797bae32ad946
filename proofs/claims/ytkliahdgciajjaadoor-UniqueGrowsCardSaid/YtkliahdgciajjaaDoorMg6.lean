/- Merged: OpenEv, OpenEn. -/
import Derived.Test.YtkliahdgciajjaaDoorRows
import Derived.Test.YtkliahdgciajjaaDoorMg1
import Derived.Deep.Slices
import Derived.Deep.Fields
import Derived.ChangeSame
import Derived.OpenShut
import Derived.Carry
import Derived.ProofKit
/- An argument that is a slice of events. -/
namespace Go.Proofs.YtkliahdgciajjaaDoor.WPlain
end Go.Proofs.YtkliahdgciajjaaDoor.WPlain
namespace Go.Proofs.YtkliahdgciajjaaDoor
open Go.ChangeShapes Go.WideShapes Go.RowKit Go.Deep WPlain

theorem cells_int : Tryd.prog.cellsOf 3 = 1 := by kernel_rfl
theorem cells_ev : Tryd.prog.cellsOf 53 = 4 := by kernel_rfl
theorem at_one {α : Type} (l : List α) (i : Nat) (x : α) (h : (l.drop i).take 1 = [x]) : l[i]? = some x := by
  have h1 := congrArg (·[0]?) h
  simpa using h1
/-- one event -/
theorem open_event {H : Type} {enc : TypeId × Value → H} {w : World} {base : Nat} {sp : Nat → Bool} {held : Bool} {fuel : Nat} {cs : List Value} {y : DataW H × List MemPlace}
    (h : DataW.trod enc Tryd.prog w base sp held fuel 53 cs = some y) : ∃ e : Ev, cs = evCells e := by
  obtain ⟨ys, n, _, rfl, hcl, hl, hf⟩ := DataW.trod_struct Tryd.underlying53 h
  rw [cells_ev] at hcl
  have hl4 : ys.length = 4 := hl
  have h0 : DataW.trod enc Tryd.prog w base sp held n 3 ((cs.drop 0).take (Tryd.prog.cellsOf 3)) = ys[0]? := hf 0 _ rfl
  have h1 : DataW.trod enc Tryd.prog w base sp held n 3 ((cs.drop 1).take (Tryd.prog.cellsOf 3)) = ys[1]? := hf 1 _ rfl
  have h2 : DataW.trod enc Tryd.prog w base sp held n 3 ((cs.drop 2).take (Tryd.prog.cellsOf 3)) = ys[2]? := hf 2 _ rfl
  have h3 : DataW.trod enc Tryd.prog w base sp held n 3 ((cs.drop 3).take (Tryd.prog.cellsOf 3)) = ys[3]? := hf 3 _ rfl
  rw [cells_int] at h0 h1 h2 h3
  rw [List.getElem?_eq_getElem (by omega)] at h0 h1 h2 h3
  obtain ⟨z0, c0, _, _⟩ := DataW.trod_int Tryd.underlying3 h0
  obtain ⟨z1, c1, _, _⟩ := DataW.trod_int Tryd.underlying3 h1
  obtain ⟨z2, c2, _, _⟩ := DataW.trod_int Tryd.underlying3 h2
  obtain ⟨z3, c3, _, _⟩ := DataW.trod_int Tryd.underlying3 h3
  refine ⟨⟨z0, z1, z2, z3⟩, ?_⟩
  have a0 := at_one _ _ _ c0
  have a1 := at_one _ _ _ c1
  have a2 := at_one _ _ _ c2
  have a3 := at_one _ _ _ c3
  apply List.ext_getElem?
  intro i
  by_cases hi : i < 4
  · have hc : i = 0 ∨ i = 1 ∨ i = 2 ∨ i = 3 := by omega
    rcases hc with rfl | rfl | rfl | rfl
    · rw [a0]; rfl
    · rw [a1]; rfl
    · rw [a2]; rfl
    · rw [a3]; rfl
  · rw [List.getElem?_eq_none (by omega), List.getElem?_eq_none (by simp [evCells]; omega)]

theorem addr_plus (b o j : Nat) : (⟨b, o, none⟩ : Addr).add j = ⟨b, o + j, none⟩ := by unfold Addr.add; split <;> simp_all
end Go.Proofs.YtkliahdgciajjaaDoor
/- Events among the arguments, and an event by value, as they are read. -/
namespace Go.Proofs.YtkliahdgciajjaaDoor.WPlain
end Go.Proofs.YtkliahdgciajjaaDoor.WPlain
namespace Go.Proofs.YtkliahdgciajjaaDoor
open Go.ChangeShapes Go.WideShapes Go.ChangeAt Go.RowKit
open Go.Deep WPlain
set_option maxRecDepth 100000 in
/-- events among the arguments, cut to their first N -/
theorem open_eventsN (N : Nat) {H : Type} {enc : TypeId × Value → H} {W w : World} {r : Reach} {b0 base : Nat} {sp : Nat → Bool} {held : Bool} {v : Value} {d : DataW H} {p : List MemPlace} (hv : Value.okWide Tryd.prog W r b0 22 v) (h : DataW.Trod enc Tryd.prog w base sp held 22 v d p) :
    ∃ (a : Option Addr) (n c : Nat) (E : List Ev), v = .slice a n c ∧ n ≤ c ∧ (a = none → c = 0) ∧ Evs w (.slice a (min (n : Int) N).toNat c) E := by
  obtain ⟨a, len, cap, rfl⟩ := okWide_slice Tryd.underlying22 hv
  obtain ⟨fuel, hf⟩ := h
  refine ⟨a, len, cap, ?_⟩
  rcases open_slice Tryd.underlying22 hf with ⟨hc, _⟩ | ⟨a', len', cap', m, n, D, Pl, hc, _, hle, hcm, hm, _, hi⟩
  · simp only [Value.cells, List.cons.injEq, Value.slice.injEq, and_true] at hc
    obtain ⟨rfl, rfl, rfl⟩ := hc
    exact ⟨[], rfl, Nat.le_refl _, fun _ => rfl, .inl ⟨rfl, _, _, rfl⟩⟩
  · simp only [Value.cells, List.cons.injEq, Value.slice.injEq, and_true] at hc
    obtain ⟨rfl, rfl, rfl⟩ := hc
    have hml : len ≤ m := by rw [hm]; split <;> omega
    obtain ⟨k, hk⟩ : ∃ k, k = (min (len : Int) N).toNat := ⟨_, rfl⟩
    have hkl : k ≤ len := by omega
    rw [← hk]
    by_cases h0 : 0 < k
    · have hev : ∀ i, i < k → ∃ e : Ev, ∀ j, j < 4 → w.cell? ((a'.add (i * 4)).add j) = (evCells e)[j]? := by
        intro i hik
        obtain ⟨cs', h1, h2⟩ := hi i (by omega)
        rw [cells_ev] at h1
        obtain ⟨e, rfl⟩ := open_event h2
        obtain ⟨_, _, hat⟩ := World.cells?_some h1
        refine ⟨e, fun j hj => ?_⟩
        have := hat j hj
        rw [this, List.getElem?_eq_getElem (by simp [evCells]; omega)]
      have hE : ∃ E : List Ev, E.length = k ∧ ∀ i (h : i < E.length) j, j < 4 → w.cell? ((a'.add (i * 4)).add j) = (evCells E[i])[j]? := by
        clear hk hkl h0
        induction k with
        | zero => exact ⟨[], rfl, fun i h => absurd h (Nat.not_lt_zero _)⟩
        | succ k ih =>
          obtain ⟨E, hEl, hE⟩ := ih (fun i hik => hev i (by omega))
          obtain ⟨e, he⟩ := hev k (by omega)
          refine ⟨E ++ [e], by simp [hEl], fun i h j hj => ?_⟩
          by_cases hik : i < E.length
          · rw [List.getElem_append_left hik]; exact hE i hik j hj
          · have : i = k := by simp at h; omega
            subst this
            rw [List.getElem_append_right (by omega)]
            simp only [hEl, Nat.sub_self, List.getElem_cons_zero]
            exact he j hj
      obtain ⟨E, hEl, hE⟩ := hE
      obtain ⟨b, o, spot⟩ := a'
      have hc00 := hE 0 (by omega) 0 (by omega)
      have hspot : spot = none := by
        have h1 : w.cell? ⟨b, o, spot⟩ = some (.int .i64 E[0].k) := by simpa [Addr.add, evCells] using hc00
        simpa using World.cell?_spot h1
      subst hspot
      refine ⟨E, rfl, hle, (fun hh => by cases hh), .inr ⟨by omega, b, o, cap, by rw [hEl], ?_, fun i hi => ?_⟩⟩
      · have h1 : w.cell? ⟨b, o, none⟩ = some (.int .i64 E[0].k) := by simpa [Addr.add, evCells] using hc00
        exact cell_lt h1
      · have q0 := hE i hi 0 (by omega)
        have q1 := hE i hi 1 (by omega)
        have q2 := hE i hi 2 (by omega)
        have q3 := hE i hi 3 (by omega)
        rw [addr_plus, addr_plus] at q0 q1 q2 q3
        exact ⟨q0, q1, q2, q3⟩
    · have : k = 0 := by omega
      exact ⟨[], rfl, hle, (fun hh => by cases hh), .inl ⟨rfl, _, _, by rw [this]⟩⟩
theorem open_event_wf {H : Type} {enc : TypeId × Value → H} {w : World} {base : Nat} {sp : Nat → Bool} {held : Bool} {fuel : Nat} {cs : List Value} {y : DataW H × List MemPlace}
    (h : DataW.trod enc Tryd.prog w base sp held fuel 53 cs = some y) : ∃ e : Ev, cs = evCells e ∧ (Lit.int .i64 e.t).wf = true := by
  obtain ⟨e, he⟩ := open_event h
  refine ⟨e, he, ?_⟩
  obtain ⟨ys, n, _, rfl, hcl, hl, hf⟩ := DataW.trod_struct Tryd.underlying53 h
  have hl4 : ys.length = 4 := hl
  have h1 : DataW.trod enc Tryd.prog w base sp held n 3 ((cs.drop 1).take (Tryd.prog.cellsOf 3)) = ys[1]? := hf 1 _ rfl
  rw [cells_int] at h1
  rw [List.getElem?_eq_getElem (by omega)] at h1
  obtain ⟨z1, c1, _, w1⟩ := DataW.trod_int Tryd.underlying3 h1
  have a1 := at_one _ _ _ c1
  rw [he] at a1
  have hz : z1 = e.t := by simpa [evCells, eq_comm] using a1
  rw [← hz]
  exact w1
set_option maxRecDepth 100000 in
theorem open_one {H : Type} {enc : TypeId × Value → H} {W w : World} {r : Reach} {b0 base : Nat} {sp : Nat → Bool} {held : Bool} {v : Value} {d : DataW H} {p : List MemPlace} (hv : Value.okWide Tryd.prog W r b0 53 v) (h : DataW.Trod enc Tryd.prog w base sp held 53 v d p) :
    ∃ k t u x : Int, v = .agg #[.int .i64 k, .int .i64 t, .int .i64 u, .int .i64 x] ∧ (Lit.int .i64 t).wf = true := by
  obtain ⟨cs, rfl, hsz⟩ := okWide_struct Tryd.underlying53 hv
  obtain ⟨fuel, hf⟩ := h
  obtain ⟨e, he, hw⟩ := open_event_wf hf
  refine ⟨e.k, e.t, e.v, e.x, ?_, hw⟩
  congr 1
  cases cs
  simpa [Value.cells, evCells] using he
end Go.Proofs.YtkliahdgciajjaaDoor
