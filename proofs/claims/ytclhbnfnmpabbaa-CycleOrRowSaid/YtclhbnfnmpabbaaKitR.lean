/- Small laws of memory, of no program: a slice whose elements take k cells each, whatever the elements. -/
import Derived.Test.YtclhbnfnmpabbaaKit
import Derived.Laws.NewBlocks
namespace Go.Proofs.Ytclhbnfnmpabbaa
open Go.RowKit

theorem flat_len {α : Type} {f : α → List Value} {k : Nat} (hf : ∀ x, (f x).length = k) (l : List α) : (l.flatMap f).length = l.length * k := by
  induction l with
  | nil => simp
  | cons e r ih => rw [List.flatMap_cons, List.length_append, ih, hf, List.length_cons, Nat.add_mul]; omega
theorem flat_get {α : Type} {f : α → List Value} {k : Nat} (hf : ∀ x, (f x).length = k) : ∀ (l : List α) (i : Nat) (hi : i < l.length) (j : Nat), j < k → (l.flatMap f)[i * k + j]? = (f l[i])[j]? := by
  intro l
  induction l with
  | nil => intro i hi; simp at hi
  | cons e r ih =>
    intro i hi j hj
    rw [List.flatMap_cons]
    cases i with
    | zero => rw [List.getElem?_append_left (by rw [hf]; omega)]; simp
    | succ i =>
      rw [List.getElem?_append_right (by rw [hf, Nat.add_mul]; omega), hf, show (i + 1) * k + j - k = i * k + j from by rw [Nat.add_mul]; omega]
      simpa using ih i (by simpa using hi) j hj
/-- a slice value reads as a list of elements of k cells -/
def Rws {α : Type} (k : Nat) (f : α → List Value) (w : World) (v : Value) (l : List α) : Prop :=
  (l = [] ∧ ∃ a c, v = .slice a 0 c) ∨
  (0 < l.length ∧ ∃ b o c, v = .slice (some ⟨b, o, none⟩) l.length c ∧ b < w.heap.size ∧ ∀ i (hi : i < l.length) j u, j < k → (f l[i])[j]? = some u → w.cell? ⟨b, o + i * k + j, none⟩ = some u)
section
variable {α : Type} {k : Nat} {f : α → List Value} {w : World} {v : Value} {l : List α}
theorem Rws.len (h : Rws k f w v l) : ∃ a c, v = .slice a l.length c := by
  rcases h with ⟨rfl, a, c, rfl⟩ | ⟨_, b, o, c, rfl, _⟩
  · exact ⟨_, _, rfl⟩
  · exact ⟨_, _, rfl⟩
theorem Rws.length {a : Option Addr} {n c : Nat} (h : Rws k f w (.slice a n c) l) : n = l.length := by
  obtain ⟨a', c', he⟩ := h.len
  simp at he
  exact he.2.1
theorem Rws.nil (w : World) (a : Option Addr) (c : Nat) : Rws k f w (.slice a 0 c) [] := .inl ⟨rfl, _, _, rfl⟩
theorem Rws.below {w' : World} {B : Nat} (h : Rws k f w v l) (hb : Below B w w') (hB : w.heap.size ≤ B) : Rws k f w' v l := by
  rcases h with h0 | ⟨h0, b, o, c, rfl, hlt, hc⟩
  · exact .inl h0
  · refine .inr ⟨h0, b, o, c, rfl, Nat.lt_of_lt_of_le hlt hb.size, fun i hi j u hj hu => ?_⟩
    exact (hb.cell (p := ⟨b, _, none⟩) (Nat.lt_of_lt_of_le hlt hB)).trans (hc i hi j u hj hu)
theorem Rws.cut {a : Option Addr} {n c : Nat} (h : Rws k f w (.slice a n c) l) (m : Nat) (hm : m ≤ l.length) : Rws k f w (.slice a m c) (l.take m) := by
  have htl : (l.take m).length = m := by rw [List.length_take]; omega
  by_cases h0 : m = 0
  · subst h0
    exact .inl ⟨by simp, _, _, rfl⟩
  · rcases h with ⟨e0, _⟩ | ⟨_, b, o, c', he, hlt, hc⟩
    · rw [e0] at hm; simp at hm; omega
    · simp only [Value.slice.injEq] at he
      obtain ⟨rfl, rfl, rfl⟩ := he
      refine .inr ⟨by omega, b, o, c, by rw [htl], hlt, fun i hi j u hj hu => ?_⟩
      rw [List.getElem_take] at hu
      exact hc i (by omega) j u hj hu
theorem Rws.of_row {B : Nat} {e : TypeId} (hf : ∀ x, (f x).length = k) (h : w.ownsRow B e k v l.length (l.flatMap f)) : Rws k f w v l := by
  rcases h.2 with ⟨rfl, hn⟩ | ⟨g, cap, cur, rfl, hb, hg, hn, hm, hs, ht⟩
  · have h0 : l = [] := List.length_eq_zero_iff.1 hn
    subst h0
    exact Rws.nil _ _ _
  · by_cases h0 : 0 < l.length
    · have hadd : ∀ i, (⟨g, 0, none⟩ : Addr).add i = ⟨g, 0 + i, none⟩ := by intro i; unfold Addr.add; split <;> simp_all
      refine .inr ⟨h0, g, 0, cap, rfl, (Array.getElem?_eq_some_iff.1 hg).1, fun i hi j u hj hu => ?_⟩
      have := h.cells (g := g) rfl (i * k + j) u ((flat_get hf l i hi j hj).trans hu)
      rw [hadd] at this
      rw [Nat.add_assoc]
      exact this
    · have : l = [] := List.length_eq_zero_iff.1 (by omega)
      subst this
      exact Rws.nil _ _ _
theorem Rws.cells {a : Addr} {n c : Nat} (hf : ∀ x, (f x).length = k) (h : Rws k f w (.slice (some a) n c) l) : ∀ j u, (l.flatMap f)[j]? = some u → w.cell? (a.add j) = some u := by
  intro j u hu
  rcases h with ⟨rfl, _⟩ | ⟨_, b, o, c', he, hlt, hc⟩
  · simp at hu
  · obtain ⟨rfl, rfl, rfl⟩ : a = ⟨b, o, none⟩ ∧ n = l.length ∧ c = c' := by simpa using he
    have hj : j < l.length * k := by
      have := (List.getElem?_eq_some_iff.1 hu).1
      rwa [flat_len hf] at this
    have hk : 0 < k := by
      rcases Nat.eq_zero_or_pos k with h0 | h0
      · rw [h0] at hj; omega
      · exact h0
    have hi : j / k < l.length := Nat.div_lt_of_lt_mul (by rw [Nat.mul_comm]; exact hj)
    have hm : j % k < k := Nat.mod_lt _ hk
    have hjd : j / k * k + j % k = j := by rw [Nat.mul_comm]; exact Nat.div_add_mod j k
    have hg := flat_get hf l (j / k) hi (j % k) hm
    rw [hjd, hu] at hg
    have := hc (j / k) hi (j % k) u hm hg.symm
    rw [show (⟨b, o, none⟩ : Addr).add j = ⟨b, o + j, none⟩ from by unfold Addr.add; split <;> simp_all]
    rw [Nat.add_assoc, hjd] at this
    exact this
end
end Go.Proofs.Ytclhbnfnmpabbaa
