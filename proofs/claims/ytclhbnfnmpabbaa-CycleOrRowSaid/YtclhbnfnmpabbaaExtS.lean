/- ExtendRises' walk. -/
import Derived.Test.YtclhbnfnmpabbaaExtR
import Derived.Test.YtclhbnfnmpabbaaExtQ
namespace Go.Proofs.Ytclhbnfnmpabbaa.RPlain
end Go.Proofs.Ytclhbnfnmpabbaa.RPlain
namespace Go.Proofs.Ytclhbnfnmpabbaa
open Go.RowKit RPlain

theorem fact_le : ∀ {j : Nat}, j ≤ 7 → factN j ≤ 5040 := by
  intro j hj
  have h : ∀ j, j < 8 → factN j ≤ 5040 := by decide
  exact h j (by omega)
theorem mod_place (i : Int) {n : Nat} (hn : 0 < n) (h8 : n ≤ 8) : ∃ I : Nat, (wrap64 (i.tmod (n : Int) + (n : Int))).tmod (n : Int) = (I : Int) ∧ I < n := by
  have hp1 : i.tmod (n : Int) < (n : Int) := Int.tmod_lt_of_pos _ (by omega)
  have hp2 : -(n : Int) < i.tmod (n : Int) := Int.lt_tmod_of_pos _ (by omega)
  generalize i.tmod (n : Int) = p at *
  rw [IntWalk.wrap64_in (p + n) (by omega)]
  obtain ⟨t, ht⟩ : ∃ t : Nat, p + n = (t : Int) := ⟨(p + n).toNat, by omega⟩
  refine ⟨t % n, ?_, Nat.mod_lt t hn⟩
  rw [ht]
  exact (Int.ofNat_tmod t n).symm
theorem rowU_at {w : World} {B g c : Nat} {L : List Nat} (h : w.ownsRow B 39 1 (.slice (some ⟨g, 0, none⟩) L.length c) L.length (u32s L)) :
    ∃ cur, At w g cur 39 ∧ ∀ i (hi : i < L.length), cur[i]? = some (.int .u32 (L[i] : Int)) := by
  rcases h.2 with ⟨he, _⟩ | ⟨g', cap, cur, he, hb, hg, hn, hm, hs, ht⟩
  · simp at he
  · simp only [Value.slice.injEq, Option.some.injEq, Addr.mk.injEq, and_true, true_and] at he
    obtain ⟨rfl, rfl⟩ := he
    refine ⟨cur, hg, fun i hi => ?_⟩
    have h1 : (cur.toList.take (L.length * 1))[i]? = (u32s L)[i]? := by rw [ht]
    rw [List.getElem?_take_of_lt (by omega)] at h1
    rw [← Array.getElem?_toList, h1]
    exact u32s_get hi
theorem wrap_nat32 (z : Nat) (h : z < 4294967296) : IntKind.u32.wrap (z : Int) = (z : Int) := IntWalk.u32_in _ (by omega)
/-- an order with one thing more -/
def setA (A : List Nat) (I K : Nat) : List Nat := A.set I (A.getD I 0 ||| 2 ^ K)
theorem setA_len (A : List Nat) (I K : Nat) : (setA A I K).length = A.length := by simp [setA]
theorem setA_bit {A : List Nat} {I K : Nat} (hI : I < A.length) (hK : K < A.length) (hb : ∀ a ∈ A, a < 2 ^ A.length) : ∀ x ∈ setA A I K, x < 2 ^ A.length := by
  intro x hx
  obtain ⟨j, hj, he⟩ := List.mem_iff_getElem.1 hx
  unfold setA at he hj
  rw [List.length_set] at hj
  rw [List.getElem_set] at he
  split at he
  · rw [← he]
    refine Nat.or_lt_two_pow ?_ (Nat.pow_lt_pow_right (by decide) hK)
    rw [List.getD_eq_getElem?_getD, List.getElem?_eq_getElem hI]
    exact hb _ (List.getElem_mem hI)
  · rw [← he]
    exact hb _ (List.getElem_mem hj)
theorem setA_lt {A : List Nat} {I K : Nat} (hI : I < A.length) (hK : K < A.length) (hal : A.length ≤ 6) (hb : ∀ a ∈ A, a < 2 ^ A.length) : ∀ x ∈ setA A I K, x < 4294967296 := fun x hx =>
  Nat.lt_of_lt_of_le (setA_bit hI hK hb x hx) (Nat.pow_le_pow_right (n := 2) (i := A.length) (j := 32) (by decide) (by omega))
theorem setA_more {A : List Nat} {I : Nat} (hI : I < A.length) (K a b : Nat) (h : aft A a b = true) : aft (setA A I K) a b = true := by
  unfold aft at *
  unfold setA
  rw [List.getD_eq_getElem?_getD] at *
  rw [List.getElem?_set]
  split
  · rename_i he
    subst he
    rw [Option.getD_some, Nat.testBit_or, List.getD_eq_getElem?_getD, h]
    rfl
  · exact h
theorem setA_may {A : List Nat} {I K : Nat} (hI : I < A.length) (hK : K < A.length) (hal : A.length ≤ 6) (hb : ∀ a ∈ A, a < 2 ^ A.length) : mayE (setA A I K) = 0 ∨ mayE (setA A I K) = 8 := by
  have h1 : ¬ (6 < (setA A I K).length ∨ ((setA A I K).any fun x => decide (2 ^ (setA A I K).length ≤ x)) = true) := by
    rw [setA_len]
    rintro (h | h)
    · omega
    · obtain ⟨x, hx, hd⟩ := List.any_eq_true.1 h
      have h2 := setA_bit hI hK hb x hx
      have h3 := of_decide_eq_true hd
      omega
  unfold mayE
  rw [if_neg h1]
  split
  · exact .inr rfl
  · exact .inl rfl
theorem rd_setA {A : List Nat} {w : World} {g c I K pw ax : Nat} {cur : Array Value} (hat : At w g cur 39) (hcu : ∀ i (hi : i < A.length), cur[i]? = some (.int .u32 (A[i] : Int))) (hI : I < A.length) (hpw : 2 ^ K = pw) (hax : A[I] = ax) :
    Rd (w.setCell ⟨g, I, none⟩ (.int .u32 ((ax ||| pw : Nat) : Int))).drew (.slice (some ⟨g, 0, none⟩) A.length c) (u32s (setA A I K)) := by
  have h2 : At (w.setCell ⟨g, I, none⟩ (.int .u32 ((ax ||| pw : Nat) : Int))).drew g (cur.setIfInBounds I (.int .u32 ((ax ||| pw : Nat) : Int))) 39 := hat.set I _
  have hl : (u32s (setA A I K)).length = A.length := by rw [u32s_len, setA_len]
  refine .inr ⟨by omega, g, 0, c, by rw [hl], fun i u hu => ?_⟩
  have hi : i < A.length := by have := (List.getElem?_eq_some_iff.1 hu).1; omega
  rw [Nat.zero_add]
  refine h2.cell ?_
  rw [u32s_get (by rw [setA_len]; exact hi), Option.some.injEq] at hu
  rw [Array.getElem?_setIfInBounds, ← hu]
  unfold setA
  have hci : i < cur.size := (Array.getElem?_eq_some_iff.1 (hcu i hi)).1
  by_cases h : I = i
  · subst h
    rw [if_pos rfl, if_pos hci]
    simp only [List.getElem_set_self]
    rw [List.getD_eq_getElem?_getD, List.getElem?_eq_getElem hI, Option.getD_some, hax, hpw]
  · rw [if_neg h, hcu i hi, List.getElem_set_ne h]
/-- what holds of the rows that the program tells -/
structure RowsR (A : List Nat) (rows : List (List Nat)) (vs : List Value) (b o : Nat) (w : World) : Prop where
  len : vs.length = rows.length
  cell : ∀ q (hq : q < rows.length), ∃ ra rc, w.cell? ⟨b, o + q, none⟩ = some (.slice ra rows[q].length rc) ∧ Rd w (.slice ra rows[q].length rc) (nats rows[q])
theorem RowsR.below {A : List Nat} {rows : List (List Nat)} {vs : List Value} {b o : Nat} {w w' : World} (h : RowsR A rows vs b o w) (hb : Below w.heap.size w w') : RowsR A rows vs b o w' :=
  ⟨h.len, fun q hq => by obtain ⟨ra, rc, h1, h2⟩ := h.cell q hq; exact ⟨ra, rc, cell_on hb h1, h2.below hb (Nat.le_refl _)⟩⟩
end Go.Proofs.Ytclhbnfnmpabbaa
