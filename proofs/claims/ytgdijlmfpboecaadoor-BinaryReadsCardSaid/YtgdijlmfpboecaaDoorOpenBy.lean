/- An argument that is a slice of bytes. -/
import Derived.Test.YtgdijlmfpboecaaDoorRows
import Derived.Test.YtgdijlmfpboecaaDoorKit
import Derived.Deep.Slices
import Derived.ChangeSame
import Derived.OpenShut
namespace Go.Proofs.YtgdijlmfpboecaaDoor
open Go.ChangeShapes Go.WideShapes Go.RowKit Go.Deep

theorem cells_byte : Tryd.prog.cellsOf 5 = 1 := by kernel_rfl

/-- bytes as cells -/
def bs (l : List Nat) : List Value := l.map (fun (c : Nat) => Value.int .u8 (c : Int))
theorem bs_get {l : List Nat} {i : Nat} {u : Value} (h : (bs l)[i]? = some u) : ∃ c, l[i]? = some c ∧ u = .int .u8 (c : Int) := by
  simp only [bs, List.getElem?_map, Option.map_eq_some_iff] at h
  obtain ⟨c, h1, h2⟩ := h
  exact ⟨c, h1, h2.symm⟩
theorem bs_at {l : List Nat} {i : Nat} (h : i < l.length) : (bs l)[i]? = some (.int .u8 (l[i] : Int)) := by simp [bs, h]
theorem bs_len (l : List Nat) : (bs l).length = l.length := by simp [bs]

set_option maxRecDepth 100000 in
theorem open_bytes {H : Type} {enc : TypeId × Value → H} {W w : World} {r : Reach} {b0 base : Nat} {sp : Nat → Bool} {held : Bool} {v : Value} {d : DataW H} {p : List MemPlace} (hv : Value.okWide Tryd.prog W r b0 22 v) (h : DataW.Trod enc Tryd.prog w base sp held 22 v d p) :
    ∃ (a : Option Addr) (c : Nat) (l : List Nat), v = .slice a l.length c ∧ l.length ≤ c ∧ c ≤ maxLen ∧ (a = none → c = 0) ∧ (∀ x ∈ l, x < 256) ∧ Rd w v (bs l) := by
  obtain ⟨a, len, cap, rfl⟩ := okWide_slice Tryd.underlying22 hv
  obtain ⟨fuel, hf⟩ := h
  rcases open_slice1 Tryd.underlying22 cells_byte hf with ⟨hc, _⟩ | ⟨a', len', cap', m, n, V, D, Pl, hc, _, hle, hcm, hm, _, hi⟩
  · simp only [Value.cells, List.cons.injEq, Value.slice.injEq, and_true] at hc
    obtain ⟨rfl, rfl, rfl⟩ := hc
    exact ⟨none, 0, [], rfl, Nat.le_refl _, Nat.zero_le _, fun _ => rfl, fun x hx => (by cases hx), .inl ⟨rfl, _, _, rfl⟩⟩
  · simp only [Value.cells, List.cons.injEq, Value.slice.injEq, and_true] at hc
    obtain ⟨rfl, rfl, rfl⟩ := hc
    have hml : len ≤ m := by rw [hm]; split <;> omega
    have hV : ∀ i, i < len → ∃ c : Nat, c < 256 ∧ w.cell? (a'.add i) = some (.int .u8 (c : Int)) := by
      intro i hil
      obtain ⟨h1, h2⟩ := hi i (by omega)
      obtain ⟨z, hz, _, hw⟩ := DataW.trod_int Tryd.underlying5 h2
      simp only [List.cons.injEq, and_true] at hz
      have hr : 0 ≤ z ∧ z < 256 := by
        have := bounds_u8 hw
        omega
      refine ⟨z.toNat, by omega, ?_⟩
      rw [h1, hz]
      congr 2
      omega
    have hE : ∀ k, k ≤ len → ∃ l : List Nat, l.length = k ∧ (∀ x ∈ l, x < 256) ∧ ∀ i (h : i < l.length), w.cell? (a'.add i) = some (.int .u8 (l[i] : Int)) := by
      intro k
      induction k with
      | zero => intro _; exact ⟨[], rfl, fun x hx => (by cases hx), fun i h => absurd h (Nat.not_lt_zero _)⟩
      | succ k ih =>
        intro hk
        obtain ⟨l, h1, h2, h3⟩ := ih (by omega)
        obtain ⟨c, hc1, hc2⟩ := hV k (by omega)
        refine ⟨l ++ [c], by simp [h1], fun x hx => ?_, fun i hi => ?_⟩
        · rcases List.mem_append.1 hx with hx | hx
          · exact h2 x hx
          · simp at hx; omega
        · by_cases hil : i < l.length
          · rw [List.getElem_append_left hil]; exact h3 i hil
          · have : i = k := by simp at hi; omega
            subst this
            rw [List.getElem_append_right (by omega)]
            simp only [h1, Nat.sub_self, List.getElem_cons_zero]
            exact hc2
    obtain ⟨l, h1, h2, h3⟩ := hE len (Nat.le_refl _)
    subst h1
    refine ⟨some a', cap, l, rfl, hle, hcm, fun h => (by cases h), h2, ?_⟩
    by_cases h0 : 0 < l.length
    · obtain ⟨b, o, spot⟩ := a'
      have hspot : spot = none := by
        have := h3 0 h0
        simpa [Addr.add] using World.cell?_spot this
      subst hspot
      refine .inr ⟨by rw [bs_len]; exact h0, b, o, cap, by rw [bs_len], fun i u hu => ?_⟩
      obtain ⟨c, hc1, rfl⟩ := bs_get hu
      obtain ⟨hil, hc2⟩ := List.getElem?_eq_some_iff.1 hc1
      have := h3 i hil
      rw [hc2] at this
      have hadd : (⟨b, o, none⟩ : Addr).add i = ⟨b, o + i, none⟩ := by unfold Addr.add; split <;> simp_all
      rw [hadd] at this
      exact this
    · have : l = [] := List.length_eq_zero_iff.1 (by omega)
      subst this
      exact .inl ⟨rfl, _, _, rfl⟩
/-- cut to its first k -/
theorem Rd.cut {w : World} {a : Option Addr} {n c : Nat} {xs : List Value} (h : Rd w (.slice a n c) xs) (k : Nat) (hk : k ≤ n) : Rd w (.slice a k c) (xs.take k) := by
  rcases h with ⟨rfl, a', c', he⟩ | ⟨h0, b, o, c', he, hc⟩
  · simp only [Value.slice.injEq] at he
    obtain ⟨_, rfl, _⟩ := he
    exact .inl ⟨by simp, _, _, by rw [show k = 0 from by omega]⟩
  · simp only [Value.slice.injEq] at he
    obtain ⟨rfl, rfl, rfl⟩ := he
    by_cases hk0 : 0 < k
    · refine .inr ⟨by simp; omega, b, o, c, by simp; omega, fun i u hu => ?_⟩
      rw [List.getElem?_take] at hu
      split at hu
      · exact hc i u hu
      · cases hu
    · have : k = 0 := by omega
      subst this
      exact .inl ⟨by simp, _, _, rfl⟩
end Go.Proofs.YtgdijlmfpboecaaDoor
