/- slices.Clone at ints; a row with two neighbours turned. -/
import Derived.Test.YtceipdmplnlogaaDoorLegL
import Derived.Test.YtceipdmplnlogaaDoorLegF
import Derived.Test.YtceipdmplnlogaaDoorShelf
namespace Go.Proofs.YtceipdmplnlogaaDoor.WPlain
end Go.Proofs.YtceipdmplnlogaaDoor.WPlain
namespace Go.Proofs.YtceipdmplnlogaaDoor.QPlain
end Go.Proofs.YtceipdmplnlogaaDoor.QPlain
namespace Go.Proofs.YtceipdmplnlogaaDoor.RPlain
end Go.Proofs.YtceipdmplnlogaaDoor.RPlain
namespace Go.Proofs.YtceipdmplnlogaaDoor.RPlain
open WPlain QPlain

/-- a row with its places k and k + 1 turned -/
def swapAt {α : Type} (l : List α) (k : Nat) : List α := match l[k]?, l[k + 1]? with | some a, some b => (l.set k b).set (k + 1) a | _, _ => l
theorem swapAt_eq {α : Type} {l : List α} {k : Nat} (hk : k + 1 < l.length) : swapAt l k = l.take k ++ l[k + 1] :: l[k] :: l.drop (k + 2) := by
  unfold swapAt
  rw [List.getElem?_eq_getElem hk, List.getElem?_eq_getElem (show k < l.length by omega)]
  refine List.ext_getElem (by simp; omega) fun i h1 h2 => ?_
  rw [List.getElem_set, List.getElem_set]
  by_cases h3 : k + 1 = i
  · subst h3
    rw [if_pos rfl, List.getElem_append_right (by rw [List.length_take]; omega)]
    simp only [List.length_take, show k + 1 - min k l.length = 1 from by omega, List.getElem_cons_succ, List.getElem_cons_zero]
  · rw [if_neg h3]
    by_cases h4 : k = i
    · subst h4
      rw [if_pos rfl, List.getElem_append_right (by rw [List.length_take]; omega)]
      simp only [List.length_take, show k - min k l.length = 0 from by omega, List.getElem_cons_zero]
    · rw [if_neg h4]
      by_cases h5 : i < k
      · rw [List.getElem_append_left (by rw [List.length_take]; omega), List.getElem_take]
      · obtain ⟨j, rfl⟩ : ∃ j, i = k + 2 + j := ⟨i - k - 2, by omega⟩
        rw [List.getElem_append_right (by rw [List.length_take]; omega)]
        simp only [List.length_take, show k + 2 + j - min k l.length = j + 2 from by omega, List.getElem_cons_succ, List.getElem_drop]
theorem swapAt_len {α : Type} (l : List α) (k : Nat) : (swapAt l k).length = l.length := by
  unfold swapAt
  split <;> simp
theorem split_two {α : Type} {l : List α} {k : Nat} (hk : k + 1 < l.length) : l = l.take k ++ l[k] :: l[k + 1] :: l.drop (k + 2) := by
  have h1 : l.drop k = l[k] :: l[k + 1] :: l.drop (k + 2) := by
    rw [List.drop_eq_getElem_cons (by omega), List.drop_eq_getElem_cons (by omega)]
  rw [← h1, List.take_append_drop]
theorem swapAt_perm {α : Type} {l : List α} {k : Nat} (hk : k + 1 < l.length) : (swapAt l k).Perm l := by
  rw [swapAt_eq hk]
  conv => rhs; rw [split_two hk]
  exact List.Perm.append_left _ (List.Perm.swap ..)
theorem swapAt_map {α β : Type} (f : α → β) {l : List α} {k : Nat} (hk : k + 1 < l.length) : swapAt (l.map f) k = (swapAt l k).map f := by
  rw [swapAt_eq hk, swapAt_eq (by rw [List.length_map]; exact hk)]
  simp
theorem errL_swap {h : List Ev} {row : List Int} {k : Nat} (hk : k + 1 < row.length) (h0 : errL h row = 0) : errL h (swapAt row k) = 0 := by
  obtain ⟨h1, h2, h3⟩ := errL_zero h0
  have hp := swapAt_perm hk
  have h4 : thereS (tableS h) (swapAt row k) = true := (thereS_iff _ _).2 fun i hi => (thereS_iff _ _).1 h2 i (hp.mem_iff.1 hi)
  have h5 : (swapAt row k).Nodup := hp.symm.pairwise h3 (fun {a b} hab => Ne.symm hab)
  unfold errL
  rw [if_pos h1, if_pos h4, if_pos h5]
theorem apart_of {l : List Tx} {a b : Nat} (h : ∀ o ∈ opsAt l a, (opsAt l b).any (fun p => p.v == o.v) = false) : apart l a b := fun o ho p hp hc => by
  have := List.any_eq_false.1 (h o ho) p hp
  simp at this
  exact this hc
theorem swap_all {l : List Tx} {rn : List Nat} {k : Nat} (hk : k + 1 < rn.length) (h : apart l rn[k] rn[k + 1]) (c : Nat) :
    behindS l c zeroM (swapAt rn k) = behindS l c zeroM rn ∧ (legalS l c rn = rn.length ↔ legalS l c (swapAt rn k) = rn.length) := by
  have h1 := swap_legal h c (rn.take k) (rn.drop (k + 2)) zeroM
  rw [← split_two hk, ← swapAt_eq hk, swapAt_len] at h1
  exact ⟨h1.1.symm, h1.2⟩
end Go.Proofs.YtceipdmplnlogaaDoor.RPlain
namespace Go.Proofs.YtceipdmplnlogaaDoor
open Go.RowKit WPlain QPlain RPlain

theorem cloneI_any (a : Option Addr) (n c : Nat) (xs : List Int) (w : World) (hv : Rd w (.slice a n c) (ints xs)) (hl : xs.length ≤ 65536) :
    Calls Tryd.prog 21 #[.slice a n c] w fun e w' => ∃ v', e = .returned v' ∧ w'.ownsRow w.heap.size 3 1 v' xs.length (ints xs) ∧ Below w.heap.size w w' := by
  have hln : n = xs.length := by
    obtain ⟨_, _, he⟩ := hv.len
    simp only [Value.slice.injEq, ints_len] at he
    exact he.2.1
  subst hln
  cases a with
  | none =>
    have h0 : xs = [] := by
      rcases hv with ⟨h, _⟩ | ⟨_, b, o, c', he, _⟩
      · simpa [ints] using h
      · simp at he
    subst h0
    refine (Tryd.slices_Clone_int_nil _ c w).mono ?_
    rintro e w' ⟨rfl, rfl⟩
    exact ⟨_, rfl, World.ownsRow_nil _ _ _ _, Below.refl _ _⟩
  | some a =>
    rcases hv with ⟨h, _⟩ | ⟨h0, b, o, c', he, hc⟩
    · have h0 : xs = [] := by simpa [ints] using h
      subst h0
      refine (Tryd.slices_Clone_int_zero a c w).mono ?_
      rintro e w' ⟨v', rfl, h1, -, hb⟩
      exact ⟨_, rfl, h1, hb⟩
    · simp only [Value.slice.injEq, Option.some.injEq] at he
      obtain ⟨rfl, -, rfl⟩ := he
      refine (Tryd.slices_Clone_int b o xs.length c xs w (Nat.le_refl _) (by omega) (fun j hj => hc j _ (by unfold ints; rw [List.getElem?_map, List.getElem?_eq_getElem hj, List.getD_eq_getElem?_getD, List.getElem?_eq_getElem hj]; rfl))).mono ?_
      rintro e w' ⟨v', rfl, h1, -, hb⟩
      rw [List.take_length] at h1
      exact ⟨_, rfl, h1, hb⟩
/-- a row of the call's own: its block -/
theorem row_at {w : World} {B : Nat} {v : Value} {xs : List Int} (h : w.ownsRow B 3 1 v xs.length (ints xs)) (h0 : 0 < xs.length) :
    ∃ g cap cur, v = .slice (some ⟨g, 0, none⟩) xs.length cap ∧ B ≤ g ∧ At w g cur 3 ∧ xs.length ≤ cap ∧ ∀ i (hi : i < xs.length), cur[i]? = some (.int .i64 xs[i]) := by
  rcases h.2 with ⟨rfl, hn⟩ | ⟨g, cap, cur, rfl, hb, hg, hn, hm, hs, ht⟩
  · omega
  · refine ⟨g, cap, cur, rfl, hb, hg, hn, fun i hi => ?_⟩
    have h1 : (cur.toList.take (xs.length * 1))[i]? = (ints xs)[i]? := by rw [ht]
    rw [List.getElem?_take_of_lt (by omega)] at h1
    rw [← Array.getElem?_toList, h1]
    unfold ints
    rw [List.getElem?_map, List.getElem?_eq_getElem hi]
    rfl
theorem Rd.of_cells {w : World} {b : Nat} {cur : Array Value} {xs : List Int} (c : Nat) (h : At w b cur 3) (hx : ∀ i (hi : i < xs.length), cur[i]? = some (.int .i64 xs[i])) : Rd w (.slice (some ⟨b, 0, none⟩) xs.length c) (ints xs) := by
  by_cases h0 : 0 < xs.length
  · refine .inr ⟨by rw [ints_len]; exact h0, b, 0, c, by rw [ints_len], fun i u hu => ?_⟩
    have hi : i < xs.length := by have := (List.getElem?_eq_some_iff.1 hu).1; rwa [ints_len] at this
    rw [Nat.zero_add]
    refine h.cell ?_
    rw [hx i hi, ← hu]
    unfold ints
    rw [List.getElem?_map, List.getElem?_eq_getElem hi]
    rfl
  · have : xs = [] := List.length_eq_zero_iff.1 (by omega)
    subst this
    exact .inl ⟨rfl, _, _, rfl⟩
end Go.Proofs.YtceipdmplnlogaaDoor
