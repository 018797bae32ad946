/- Numbers among the arguments, cut to their first N. -/
import Derived.Test.YtmnblljenobofaaGreatDoorMg32
import Derived.Test.YtmnblljenobofaaGreatDoorOrdE
import Derived.Carry
import Derived.ChangeSlices
import Derived.ChangeSame
import Derived.BigQuiet
namespace Go.Proofs.YtmnblljenobofaaGreatDoor
open Go.ChangeShapes Go.WideShapes Go.RowKit

set_option maxRecDepth 100000 in
theorem open_intsN (N : Nat) {H : Type} {enc : TypeId × Value → H} {W w : World} {r : Reach} {b0 base : Nat} {sp : Nat → Bool} {held : Bool} {v : Value} {d : DataW H} {p : List MemPlace} (hv : Value.okWide Tryz.prog W r b0 24 v) (h : DataW.Trod enc Tryz.prog w base sp held 24 v d p) :
    ∃ (a : Option Addr) (n c : Nat) (row : List Int), v = .slice a n c ∧ n ≤ c ∧ Rd w (.slice a (min (n : Int) N).toNat c) (ints row) := by
  obtain ⟨a, len, cap, rfl⟩ := okWide_slice Tryz.underlying24 hv
  obtain ⟨fuel, hf⟩ := h
  rcases open_ints Tryz.underlying24 Tryz.underlying3 cells_int hf with ⟨hc, _⟩ | ⟨a', len', cap', zs, hc, _, hle, _, hzl, _, hat, _⟩
  · simp only [Value.cells, List.cons.injEq, Value.slice.injEq, and_true] at hc
    obtain ⟨rfl, rfl, rfl⟩ := hc
    exact ⟨none, 0, 0, [], rfl, Nat.le_refl _, .inl ⟨rfl, none, 0, by rw [show (min ((0 : Nat) : Int) N).toNat = 0 from by omega]⟩⟩
  · simp only [Value.cells, List.cons.injEq, Value.slice.injEq, and_true] at hc
    obtain ⟨rfl, rfl, rfl⟩ := hc
    have hml : len ≤ zs.length := by rw [hzl]; split <;> omega
    obtain ⟨k, hk⟩ : ∃ k, k = (min (len : Int) N).toNat := ⟨_, rfl⟩
    have hkl : k ≤ len := by omega
    refine ⟨some a', len, cap, zs.take k, rfl, hle, ?_⟩
    rw [← hk]
    by_cases h0 : 0 < k
    · obtain ⟨b, o, spot⟩ := a'
      have hspot : spot = none := by
        have := hat 0 (by omega)
        simpa [Addr.add] using World.cell?_spot this
      subst hspot
      refine .inr ⟨by rw [ints_len, List.length_take]; omega, b, o, cap, by rw [ints_len, List.length_take, Nat.min_eq_left (by omega)], fun i u hu => ?_⟩
      unfold ints at hu
      rw [List.getElem?_map, List.getElem?_take] at hu
      have hik : i < k := by
        by_cases hh : i < k
        · exact hh
        · rw [if_neg hh] at hu; cases hu
      rw [if_pos hik, List.getElem?_eq_getElem (by omega)] at hu
      have h1 := hat i (by omega)
      have hadd : (⟨b, o, none⟩ : Addr).add i = ⟨b, o + i, none⟩ := by unfold Addr.add; split <;> simp_all
      rw [hadd, List.getD_eq_getElem?_getD, List.getElem?_eq_getElem (by omega)] at h1
      rw [h1]
      simpa using hu
    · have : k = 0 := by omega
      subst this
      exact .inl ⟨rfl, _, _, rfl⟩
end Go.Proofs.YtmnblljenobofaaGreatDoor
