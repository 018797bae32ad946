/- The walks of the reference's whole and All. -/
import Derived.Test.YtclhbnfnmpabbaaExtN
namespace Go.Proofs.Ytclhbnfnmpabbaa.RPlain
end Go.Proofs.Ytclhbnfnmpabbaa.RPlain
namespace Go.Proofs.Ytclhbnfnmpabbaa
open Go.RowKit RPlain

theorem cell_slice_at (w : World) (o : Value) (t : TypeId) : ∀ j u, [o][j]? = some u → (w.alloc (.cells #[o] t)).cell? ((⟨w.heap.size, 0, none⟩ : Addr).add j) = some u := cell_one_at w o t
theorem one_sl (a : Option Addr) (n c : Nat) : ∀ u ∈ [Value.slice a n c], u.oneCell' = true := by intro u hu; simp at hu; subst hu; rfl
theorem own_nil_rows {w : World} {B : Nat} (hB : B ≤ w.heap.size) : (w.alloc (.cells #[] 23)).ownsRow B 23 1 (.slice (some ⟨w.heap.size, 0, none⟩) 0 0) 0 [] :=
  World.ownsRow_made (e := 23) (size := 1) w #[] 0 hB (by unfold maxLen; omega) (by simp)
theorem RowsO.at_ {B : Nat} {w : World} {vs : List Value} {rows : List (List Nat)} (h : RowsO B w vs rows) {i : Nat} (hi : i < rows.length) {v : Value} (hv : vs[i]? = some v) : w.ownsRow B 3 1 v rows[i].length (nats rows[i]) := by
  have hi' : i < vs.length := by rw [h.1]; exact hi
  rw [List.getElem?_eq_getElem hi', Option.some.injEq] at hv
  rw [← hv]
  exact h.2 i hi hi'
theorem own_less {w : World} {B B' : Nat} {e : TypeId} {s : Nat} {v : Value} {n : Nat} {xs : List Value} (h : w.ownsRow B e s v n xs) (hB : B' ≤ B) : w.ownsRow B' e s v n xs := by
  refine ⟨h.1, ?_⟩
  rcases h.2 with h0 | ⟨g, cap, cur, h1, h2, h3⟩
  · exact .inl h0
  · exact .inr ⟨g, cap, cur, h1, Nat.le_trans hB h2, h3⟩
theorem keeps_on {A r : List Nat} (h : keepsR A r = true) (k : Nat) : keepsR A (r ++ [k]) = nxt A r k := by
  unfold keepsR at *
  rw [stepsP_snoc, h]; rfl
def lvlS (A : List Nat) (s : Nat) : List (List Nat) := extP A.length (nxt A) s []
theorem lvl_facts {A : List Nat} (hal : A.length ≤ 6) {s : Nat} (hs : s ≤ A.length) : (lvlS A s).length ≤ 46656 ∧ ∀ r ∈ lvlS A s, r.length ≤ 6 ∧ (∀ k ∈ r, k < A.length) ∧ keepsR A r = true := by
  constructor
  · have h1 := ext_len A.length (nxt A) s []
    have h2 : A.length ^ s ≤ 6 ^ s := Nat.pow_le_pow_left hal _
    have h3 : 6 ^ s ≤ 6 ^ 6 := Nat.pow_le_pow_right (by decide) (by omega)
    unfold lvlS
    omega
  · intro r hr
    obtain ⟨h1, h2, h3⟩ := ext_mem hr
    exact ⟨by omega, h2, h3⟩
theorem go_bound {A : List Nat} (hal : A.length ≤ 6) {s : Nat} (hs : s < A.length) {q : Nat} (hq : q < (lvlS A s).length) {k : Nat} (hk : k ≤ A.length) : (goAll A (lvlS A s) q ++ goOn A (lvlS A s)[q] k).length ≤ 46656 := by
  have h1 := (lvl_facts hal (s := s + 1) (by omega)).1
  have h2 := goAll_le A (lvlS A s) (q + 1)
  have h3 : (goAll A (lvlS A s) (lvlS A s).length).length = (lvlS A (s + 1)).length := congrArg List.length (goAll_ext A s)
  rw [goAll_snoc hq, List.length_append] at h2
  have h4 := goOn_le A (lvlS A s)[q] hk
  rw [List.length_append]
  omega
end Go.Proofs.Ytclhbnfnmpabbaa
