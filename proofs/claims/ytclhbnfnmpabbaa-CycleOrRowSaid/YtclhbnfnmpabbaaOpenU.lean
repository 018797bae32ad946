/- An argument that is a slice of uint32, cut to its first N. -/
import Derived.Test.YtclhbnfnmpabbaaOrdE
import Derived.Deep.Slices
import Derived.ChangeSame
import Derived.OpenShut
namespace Go.Proofs.Ytclhbnfnmpabbaa
open Go.ChangeShapes Go.WideShapes Go.RowKit Go.Deep

theorem cells_u32 : Try.prog.cellsOf 39 = 1 := by kernel_rfl
set_option maxRecDepth 100000 in
theorem open_u32N (N : Nat) {H : Type} {enc : TypeId × Value → H} {W w : World} {r : Reach} {b0 base : Nat} {sp : Nat → Bool} {held : Bool} {v : Value} {d : DataW H} {p : List MemPlace} (hv : Value.okWide Try.prog W r b0 22 v) (h : DataW.Trod enc Try.prog w base sp held 22 v d p) :
    ∃ (a : Option Addr) (n c : Nat) (L : List Nat), v = .slice a n c ∧ n ≤ c ∧ Rd w (.slice a (min (n : Int) N).toNat c) (u32s L) ∧ ∀ x ∈ L, x < 4294967296 := by
  obtain ⟨a, len, cap, rfl⟩ := okWide_slice Try.underlying22 hv
  obtain ⟨fuel, hf⟩ := h
  rcases open_slice1 Try.underlying22 cells_u32 hf with ⟨hc, _⟩ | ⟨a', len', cap', m, n, V, D, Pl, hc, _, hle, hcm, hm, _, hi⟩
  · simp only [Value.cells, List.cons.injEq, Value.slice.injEq, and_true] at hc
    obtain ⟨rfl, rfl, rfl⟩ := hc
    exact ⟨none, 0, 0, [], rfl, Nat.le_refl _, .inl ⟨rfl, none, 0, by rw [show (min ((0 : Nat) : Int) N).toNat = 0 from by omega]⟩, fun x hx => (by cases hx)⟩
  · simp only [Value.cells, List.cons.injEq, Value.slice.injEq, and_true] at hc
    obtain ⟨rfl, rfl, rfl⟩ := hc
    have hml : len ≤ m := by rw [hm]; split <;> omega
    have hV : ∀ i, i < len → ∃ c : Nat, c < 4294967296 ∧ w.cell? (a'.add i) = some (.int .u32 (c : Int)) := by
      intro i hil
      obtain ⟨h1, h2⟩ := hi i (by omega)
      obtain ⟨z, hz, _, hw⟩ := DataW.trod_int Try.underlying39 h2
      simp only [List.cons.injEq, and_true] at hz
      have hr : 0 ≤ z ∧ z < 4294967296 := by
        have := bounds_u32 hw
        omega
      refine ⟨z.toNat, by omega, ?_⟩
      rw [h1, hz]
      congr 2
      omega
    obtain ⟨k, hk⟩ : ∃ k, k = (min (len : Int) N).toNat := ⟨_, rfl⟩
    have hkl : k ≤ len := by omega
    have hE : ∀ k, k ≤ len → ∃ l : List Nat, l.length = k ∧ (∀ x ∈ l, x < 4294967296) ∧ ∀ i (h : i < l.length), w.cell? (a'.add i) = some (.int .u32 (l[i] : Int)) := by
      intro k
      induction k with
      | zero => intro _; exact ⟨[], rfl, fun x hx => (by cases hx), fun i h => absurd h (Nat.not_lt_zero _)⟩
      | succ k ih =>
        intro hk
        obtain ⟨l, h1, h2, h3⟩ := ih (by omega)
        obtain ⟨c, hc1, hc2⟩ := hV k (by omega)
        refine ⟨l ++ [c], by simp [h1], fun x hx => ?_, fun i hi => ?_⟩
        · rcases List.mem_append.1 hx with hx | hx
          · exact h2 x hx
          · simp at hx; omega
        · by_cases hil : i < l.length
          · rw [List.getElem_append_left hil]; exact h3 i hil
          · have : i = k := by simp at hi; omega
            subst this
            rw [List.getElem_append_right (by omega)]
            simp only [h1, Nat.sub_self, List.getElem_cons_zero]
            exact hc2
    obtain ⟨l, h1, h2, h3⟩ := hE k hkl
    refine ⟨some a', len, cap, l, rfl, hle, ?_, h2⟩
    rw [← hk, ← h1]
    have hlu : (u32s l).length = l.length := by simp [u32s]
    by_cases h0 : 0 < l.length
    · obtain ⟨b, o, spot⟩ := a'
      have hspot : spot = none := by
        have := h3 0 h0
        simpa [Addr.add] using World.cell?_spot this
      subst hspot
      refine .inr ⟨by rw [hlu]; exact h0, b, o, cap, by rw [hlu], fun i u hu => ?_⟩
      have hil : i < l.length := by have := (List.getElem?_eq_some_iff.1 hu).1; rwa [hlu] at this
      have hu2 : u = .int .u32 (l[i] : Int) := by
        unfold u32s at hu
        rw [List.getElem?_map, List.getElem?_eq_getElem hil] at hu
        exact (Option.some.inj hu).symm
      have := h3 i hil
      have hadd : (⟨b, o, none⟩ : Addr).add i = ⟨b, o + i, none⟩ := by unfold Addr.add; split <;> simp_all
      rw [hadd] at this
      rw [hu2]
      exact this
    · have h00 : l = [] := List.length_eq_zero_iff.1 (by omega)
      subst h00
      exact .inl ⟨rfl, _, _, rfl⟩
end Go.Proofs.Ytclhbnfnmpabbaa
