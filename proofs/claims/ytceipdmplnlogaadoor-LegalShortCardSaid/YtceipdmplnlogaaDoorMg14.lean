/- Merged: OpenIn, OpenTx. -/
import Derived.Test.YtceipdmplnlogaaDoorMg7
import Derived.Test.YtceipdmplnlogaaDoorMg13
import Derived.Test.YtceipdmplnlogaaDoorMg11
import Derived.Carry
import Derived.ChangeSlices
import Derived.ChangeSame
import Derived.Deep.Slices
import Derived.Deep.Fields
import Derived.ProofKit
/- Numbers among the arguments, cut to their first N. -/
namespace Go.Proofs.YtceipdmplnlogaaDoor
open Go.ChangeShapes Go.WideShapes Go.RowKit

set_option maxRecDepth 100000 in
theorem open_intsN (N : Nat) {H : Type} {enc : TypeId × Value → H} {W w : World} {r : Reach} {b0 base : Nat} {sp : Nat → Bool} {held : Bool} {v : Value} {d : DataW H} {p : List MemPlace} (hv : Value.okWide Tryd.prog W r b0 23 v) (h : DataW.Trod enc Tryd.prog w base sp held 23 v d p) :
    ∃ (a : Option Addr) (n c : Nat) (row : List Int), v = .slice a n c ∧ n ≤ c ∧ Rd w (.slice a (min (n : Int) N).toNat c) (ints row) := by
  obtain ⟨a, len, cap, rfl⟩ := okWide_slice Tryd.underlying23 hv
  obtain ⟨fuel, hf⟩ := h
  rcases open_ints Tryd.underlying23 Tryd.underlying3 cells_int hf with ⟨hc, _⟩ | ⟨a', len', cap', zs, hc, _, hle, _, hzl, _, hat, _⟩
  · simp only [Value.cells, List.cons.injEq, Value.slice.injEq, and_true] at hc
    obtain ⟨rfl, rfl, rfl⟩ := hc
    exact ⟨none, 0, 0, [], rfl, Nat.le_refl _, .inl ⟨rfl, none, 0, by rw [show (min ((0 : Nat) : Int) N).toNat = 0 from by omega]⟩⟩
  · simp only [Value.cells, List.cons.injEq, Value.slice.injEq, and_true] at hc
    obtain ⟨rfl, rfl, rfl⟩ := hc
    have hml : len ≤ zs.length := by rw [hzl]; split <;> omega
    obtain ⟨k, hk⟩ : ∃ k, k = (min (len : Int) N).toNat := ⟨_, rfl⟩
    have hkl : k ≤ len := by omega
    refine ⟨some a', len, cap, zs.take k, rfl, hle, ?_⟩
    rw [← hk]
    by_cases h0 : 0 < k
    · obtain ⟨b, o, spot⟩ := a'
      have hspot : spot = none := by
        have := hat 0 (by omega)
        simpa [Addr.add] using World.cell?_spot this
      subst hspot
      refine .inr ⟨by rw [ints_len, List.length_take]; omega, b, o, cap, by rw [ints_len, List.length_take, Nat.min_eq_left (by omega)], fun i u hu => ?_⟩
      unfold ints at hu
      rw [List.getElem?_map, List.getElem?_take] at hu
      have hik : i < k := by
        by_cases hh : i < k
        · exact hh
        · rw [if_neg hh] at hu; cases hu
      rw [if_pos hik, List.getElem?_eq_getElem (by omega)] at hu
      have h1 := hat i (by omega)
      have hadd : (⟨b, o, none⟩ : Addr).add i = ⟨b, o + i, none⟩ := by unfold Addr.add; split <;> simp_all
      rw [hadd, List.getD_eq_getElem?_getD, List.getElem?_eq_getElem (by omega)] at h1
      rw [h1]
      simpa using hu
    · have : k = 0 := by omega
      subst this
      exact .inl ⟨rfl, _, _, rfl⟩
end Go.Proofs.YtceipdmplnlogaaDoor
/- Transactions among the arguments, as they are read. -/
namespace Go.Proofs.YtceipdmplnlogaaDoor.WPlain
end Go.Proofs.YtceipdmplnlogaaDoor.WPlain
namespace Go.Proofs.YtceipdmplnlogaaDoor.RPlain
end Go.Proofs.YtceipdmplnlogaaDoor.RPlain
namespace Go.Proofs.YtceipdmplnlogaaDoor
open Go.ChangeShapes Go.WideShapes Go.ChangeAt Go.RowKit
open Go.Deep WPlain RPlain

/-- a slice of elements of k cells, each of which reads as f of something: its first elements -/
theorem rows_read {α : Type} {H : Type} {enc : TypeId × Value → H} {w : World} {base : Nat} {sp : Nat → Bool} {held : Bool} {fuel : Nat} {t e : TypeId} {k : Nat} {f : α → List Value} {Q : α → Prop} {v : Value} {x : DataW H × List MemPlace}
    (ht : Tryd.prog.underlying t = some (.slice e)) (hk : Tryd.prog.cellsOf e = k) (hk0 : 0 < k) (hf : ∀ x, (f x).length = k)
    (hone : ∀ fuel cs y, DataW.trod enc Tryd.prog w base sp held fuel e cs = some y → ∃ x, cs = f x ∧ Q x)
    (h : DataW.trod enc Tryd.prog w base sp held fuel t [v] = some x) :
    ∃ (a : Option Addr) (n c : Nat), v = .slice a n c ∧ n ≤ c ∧ c ≤ maxLen ∧ (a = none → c = 0) ∧ ∀ m, m ≤ n → ∃ L : List α, L.length = m ∧ Rws k f w (.slice a m c) L ∧ ∀ x ∈ L, Q x := by
  rcases open_slice ht h with ⟨hc, _⟩ | ⟨a', len', cap', m', nn, D, Pl, hc, _, hle, hcm, hm, _, hi⟩
  · simp only [List.cons.injEq, and_true] at hc
    subst hc
    exact ⟨none, 0, 0, rfl, Nat.le_refl _, by unfold maxLen; omega, fun _ => rfl, fun m hm => ⟨[], by simp; omega, by rw [show m = 0 from by omega]; exact Rws.nil _ _ _, fun _ h => (List.not_mem_nil h).elim⟩⟩
  · simp only [List.cons.injEq, and_true] at hc
    subst hc
    refine ⟨some a', len', cap', rfl, hle, hcm, (fun hh => by cases hh), fun m hml => ?_⟩
    have hml2 : len' ≤ m' := by rw [hm]; split <;> omega
    have hev : ∀ i, i < m → ∃ x : α, Q x ∧ ∀ j, j < k → w.cell? ((a'.add (i * k)).add j) = (f x)[j]? := by
      intro i hik
      obtain ⟨cs', h1, h2⟩ := hi i (by omega)
      rw [hk] at h1
      obtain ⟨x, rfl, hq⟩ := hone _ _ _ h2
      obtain ⟨_, _, hat⟩ := World.cells?_some h1
      refine ⟨x, hq, fun j hj => ?_⟩
      have := hat j hj
      rw [this, List.getElem?_eq_getElem (by rw [hf]; exact hj)]
    have hE : ∃ E : List α, E.length = m ∧ (∀ x ∈ E, Q x) ∧ ∀ i (h : i < E.length) j, j < k → w.cell? ((a'.add (i * k)).add j) = (f E[i])[j]? := by
      clear hml hml2
      induction m with
      | zero => exact ⟨[], rfl, fun _ h => (List.not_mem_nil h).elim, fun i h => absurd h (Nat.not_lt_zero _)⟩
      | succ m ih =>
        obtain ⟨E, hEl, hEq, hE⟩ := ih (fun i hik => hev i (by omega))
        obtain ⟨e, hq, he⟩ := hev m (by omega)
        refine ⟨E ++ [e], by simp [hEl], fun x hx => ?_, fun i h j hj => ?_⟩
        · rcases List.mem_append.1 hx with hx | hx
          · exact hEq x hx
          · rw [List.mem_singleton.1 hx]; exact hq
        · by_cases hik : i < E.length
          · rw [List.getElem_append_left hik]; exact hE i hik j hj
          · have : i = m := by simp at h; omega
            subst this
            rw [List.getElem_append_right (by omega)]
            simp only [hEl, Nat.sub_self, List.getElem_cons_zero]
            exact he j hj
    obtain ⟨E, hEl, hEq, hE⟩ := hE
    refine ⟨E, hEl, ?_, hEq⟩
    by_cases h0 : 0 < E.length
    · obtain ⟨b, o, spot⟩ := a'
      have hc00 := hE 0 h0 0 hk0
      rw [List.getElem?_eq_getElem (by rw [hf]; exact hk0)] at hc00
      have hspot : spot = none := by
        have h1 := World.cell?_spot hc00
        simpa [Addr.add] using h1
      subst hspot
      have hb : b < w.heap.size := by
        have h1 := World.block_lt_of_cell? w _ hc00
        simpa [Addr.add] using h1
      refine .inr ⟨h0, b, o, cap', by rw [hEl], hb, fun i hi j u hj hu => ?_⟩
      have := hE i hi j hj
      rw [addr_plus, addr_plus, hu] at this
      exact this
    · have h00 : E = [] := List.length_eq_zero_iff.1 (by omega)
      subst h00
      simp at hEl
      subst hEl
      exact Rws.nil _ _ _
theorem cells_boolT : Tryd.prog.cellsOf 4 = 1 := by kernel_rfl
theorem cells_opT : Tryd.prog.cellsOf 47 = 3 := by kernel_rfl
theorem cells_opsT : Tryd.prog.cellsOf 38 = 1 := by kernel_rfl
theorem cells_txT : Tryd.prog.cellsOf 44 = 5 := by kernel_rfl
theorem open_op {H : Type} {enc : TypeId × Value → H} {w : World} {base : Nat} {sp : Nat → Bool} {held : Bool} (fuel : Nat) (cs : List Value) (y : DataW H × List MemPlace)
    (h : DataW.trod enc Tryd.prog w base sp held fuel 47 cs = some y) : ∃ o : Rwo, cs = opC o ∧ True := by
  obtain ⟨ys, n, _, rfl, hcl, hl, hf⟩ := DataW.trod_struct Tryd.underlying47 h
  rw [cells_opT] at hcl
  have hl3 : ys.length = 3 := hl
  have h0 : DataW.trod enc Tryd.prog w base sp held n 4 ((cs.drop 0).take (Tryd.prog.cellsOf 4)) = ys[0]? := hf 0 _ rfl
  have h1 : DataW.trod enc Tryd.prog w base sp held n 3 ((cs.drop 1).take (Tryd.prog.cellsOf 3)) = ys[1]? := hf 1 _ rfl
  have h2 : DataW.trod enc Tryd.prog w base sp held n 3 ((cs.drop 2).take (Tryd.prog.cellsOf 3)) = ys[2]? := hf 2 _ rfl
  rw [cells_boolT] at h0
  rw [cells_int] at h1 h2
  rw [List.getElem?_eq_getElem (by omega)] at h0 h1 h2
  obtain ⟨z0, c0, _⟩ := DataW.trod_bool Tryd.underlying4 h0
  obtain ⟨z1, c1, _, _⟩ := DataW.trod_int Tryd.underlying3 h1
  obtain ⟨z2, c2, _, _⟩ := DataW.trod_int Tryd.underlying3 h2
  refine ⟨⟨z0, z1, z2⟩, ?_, trivial⟩
  have a0 := at_one _ _ _ c0
  have a1 := at_one _ _ _ c1
  have a2 := at_one _ _ _ c2
  apply List.ext_getElem?
  intro i
  by_cases hi : i < 3
  · have hc : i = 0 ∨ i = 1 ∨ i = 2 := by omega
    rcases hc with rfl | rfl | rfl
    · rw [a0]; rfl
    · rw [a1]; rfl
    · rw [a2]; rfl
  · rw [List.getElem?_eq_none (by omega), List.getElem?_eq_none (by simp [opC]; omega)]
theorem open_tx {H : Type} {enc : TypeId × Value → H} {w : World} {base : Nat} {sp : Nat → Bool} {held : Bool} (fuel : Nat) (cs : List Value) (y : DataW H × List MemPlace)
    (h : DataW.trod enc Tryd.prog w base sp held fuel 44 cs = some y) : ∃ p : Tx × Value, cs = txC p ∧ Opv w p.2 p.1.o := by
  obtain ⟨ys, n, _, rfl, hcl, hl, hf⟩ := DataW.trod_struct Tryd.underlying44 h
  rw [cells_txT] at hcl
  have hl5 : ys.length = 5 := hl
  have h0 : DataW.trod enc Tryd.prog w base sp held n 3 ((cs.drop 0).take (Tryd.prog.cellsOf 3)) = ys[0]? := hf 0 _ rfl
  have h1 : DataW.trod enc Tryd.prog w base sp held n 3 ((cs.drop 1).take (Tryd.prog.cellsOf 3)) = ys[1]? := hf 1 _ rfl
  have h2 : DataW.trod enc Tryd.prog w base sp held n 3 ((cs.drop 2).take (Tryd.prog.cellsOf 3)) = ys[2]? := hf 2 _ rfl
  have h3 : DataW.trod enc Tryd.prog w base sp held n 3 ((cs.drop 3).take (Tryd.prog.cellsOf 3)) = ys[3]? := hf 3 _ rfl
  have h4 : DataW.trod enc Tryd.prog w base sp held n 38 ((cs.drop 4).take (Tryd.prog.cellsOf 38)) = ys[4]? := hf 4 _ rfl
  rw [cells_int] at h0 h1 h2 h3
  rw [cells_opsT] at h4
  rw [List.getElem?_eq_getElem (by omega)] at h0 h1 h2 h3 h4
  obtain ⟨z0, c0, _, _⟩ := DataW.trod_int Tryd.underlying3 h0
  obtain ⟨z1, c1, _, _⟩ := DataW.trod_int Tryd.underlying3 h1
  obtain ⟨z2, c2, _, _⟩ := DataW.trod_int Tryd.underlying3 h2
  obtain ⟨z3, c3, _, _⟩ := DataW.trod_int Tryd.underlying3 h3
  obtain ⟨u, hu⟩ : ∃ u, (cs.drop 4).take 1 = [u] := ⟨cs[4]'(by omega), by rw [List.drop_eq_getElem_cons (by omega)]; rfl⟩
  rw [hu] at h4
  obtain ⟨a, m, c, rfl, hmc, -, -, hr⟩ := rows_read Tryd.underlying38 cells_opT (by decide) opC_len (Q := fun _ => True) (fun fuel cs y h => open_op fuel cs y h) h4
  obtain ⟨L, hL, hR, _⟩ := hr m (Nat.le_refl _)
  refine ⟨(⟨z0, z1, z2, z3, L⟩, .slice a m c), ?_, hR, a, m, c, rfl, hmc⟩
  have a0 := at_one _ _ _ c0
  have a1 := at_one _ _ _ c1
  have a2 := at_one _ _ _ c2
  have a3 := at_one _ _ _ c3
  have a4 := at_one _ _ _ hu
  apply List.ext_getElem?
  intro i
  by_cases hi : i < 5
  · have hc : i = 0 ∨ i = 1 ∨ i = 2 ∨ i = 3 ∨ i = 4 := by omega
    rcases hc with rfl | rfl | rfl | rfl | rfl
    · rw [a0]; rfl
    · rw [a1]; rfl
    · rw [a2]; rfl
    · rw [a3]; rfl
    · rw [a4]; rfl
  · rw [List.getElem?_eq_none (by omega), List.getElem?_eq_none (by simp [txC]; omega)]
set_option maxRecDepth 100000 in
/-- transactions among the arguments, cut to their first N -/
theorem open_txs (N : Nat) {H : Type} {enc : TypeId × Value → H} {W w : World} {r : Reach} {b0 base : Nat} {sp : Nat → Bool} {held : Bool} {v : Value} {d : DataW H} {p : List MemPlace} (hv : Value.okWide Tryd.prog W r b0 32 v) (h : DataW.Trod enc Tryd.prog w base sp held 32 v d p) :
    ∃ (a : Option Addr) (n c : Nat) (l : List Tx), v = .slice a n c ∧ n ≤ c ∧ Txs w (.slice a (min (n : Int) N).toNat c) l := by
  obtain ⟨a, len, cap, rfl⟩ := okWide_slice Tryd.underlying32 hv
  obtain ⟨fuel, hf⟩ := h
  have hf' : DataW.trod enc Tryd.prog w base sp held fuel 32 [.slice a len cap] = some (d, p) := hf
  obtain ⟨a', n, c, he, hnc, -, -, hr⟩ := rows_read Tryd.underlying32 cells_txT (by decide) txC_len (Q := fun q => Opv w q.2 q.1.o) (fun fuel cs y h => open_tx fuel cs y h) hf'
  simp only [Value.slice.injEq] at he
  obtain ⟨rfl, rfl, rfl⟩ := he
  obtain ⟨L, hL, hR, hQ⟩ := hr (min (len : Int) N).toNat (by omega)
  exact ⟨a, len, cap, L.map (·.1), rfl, hnc, L, rfl, hR, hQ⟩
set_option maxRecDepth 100000 in
/-- a transaction among the arguments, by value -/
theorem open_txn {H : Type} {enc : TypeId × Value → H} {W w : World} {r : Reach} {b0 base : Nat} {sp : Nat → Bool} {held : Bool} {v : Value} {d : DataW H} {p : List MemPlace} (hv : Value.okWide Tryd.prog W r b0 44 v) (h : DataW.Trod enc Tryd.prog w base sp held 44 v d p) :
    ∃ (X : Tx) (a : Option Addr) (c : Nat), v = .agg #[.int .i64 X.n, .int .i64 X.f, .int .i64 X.l, .int .i64 X.s, .slice a X.o.length c] ∧ Opv w (.slice a X.o.length c) X.o := by
  obtain ⟨cs, rfl, hsz⟩ := okWide_struct Tryd.underlying44 hv
  obtain ⟨fuel, hf⟩ := h
  obtain ⟨q, hq, ho⟩ := open_tx _ _ _ hf
  obtain ⟨X, u⟩ := q
  dsimp only at ho
  obtain ⟨a, c, rfl, -⟩ := ho.len
  refine ⟨X, a, c, ?_, ho⟩
  congr 1
  cases cs
  simpa [Value.cells, txC] using hq
end Go.Proofs.YtceipdmplnlogaaDoor
