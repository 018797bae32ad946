/- Plain words: rows whose places are there once; a row's bits; eight values. -/
import Derived.Test.YtceipdmplnlogaaDoorLegA
import Derived.Test.YtceipdmplnlogaaDoorMg13
import Derived.Test.YtceipdmplnlogaaDoorMg4
namespace Go.Proofs.YtceipdmplnlogaaDoor.WPlain
end Go.Proofs.YtceipdmplnlogaaDoor.WPlain
namespace Go.Proofs.YtceipdmplnlogaaDoor.QPlain
end Go.Proofs.YtceipdmplnlogaaDoor.QPlain
namespace Go.Proofs.YtceipdmplnlogaaDoor.RPlain
end Go.Proofs.YtceipdmplnlogaaDoor.RPlain
namespace Go.Proofs.YtceipdmplnlogaaDoor.RPlain
open WPlain QPlain

/-- the error of a row of events -/
def errL (h : List Ev) (row : List Int) : Nat := if (checkS h).2 = 0 then (if thereS (tableS h) row = true then (if row.Nodup then 0 else 1) else 7) else (checkS h).2
theorem errL_zero {h : List Ev} {row : List Int} (h0 : errL h row = 0) : (checkS h).2 = 0 ∧ thereS (tableS h) row = true ∧ row.Nodup := by
  unfold errL at h0
  by_cases h1 : (checkS h).2 = 0
  · rw [if_pos h1] at h0
    cases ht : thereS (tableS h) row with
    | true =>
      rw [ht, if_pos rfl] at h0
      by_cases hn : row.Nodup
      · exact ⟨h1, rfl, hn⟩
      · rw [if_neg hn] at h0; exact absurd h0 (by decide)
    | false => rw [ht] at h0; simp at h0
  · rw [if_neg h1] at h0; exact absurd h0 h1
theorem nodup_cast (rn : List Nat) : (rn.map (fun x : Nat => (x : Int))).Nodup ↔ rn.Nodup := by
  unfold List.Nodup
  rw [List.pairwise_map]
  constructor
  · exact fun h => h.imp fun {a b} hab => by omega
  · exact fun h => h.imp fun {a b} hab => by omega
theorem nodupL_le : ∀ (l1 l2 : List Nat), l1.Nodup → (∀ x ∈ l1, x ∈ l2) → l1.length ≤ l2.length := by
  intro l1
  induction l1 with
  | nil => intro _ _ _; simp
  | cons x r ih =>
    intro l2 hn hs
    obtain ⟨hx, hr⟩ := List.nodup_cons.1 hn
    have h1 := ih (l2.erase x) hr (fun y hy => (List.mem_erase_of_ne (show y ≠ x from fun hc => hx (by rw [← hc]; exact hy))).2 (hs y (List.mem_cons_of_mem _ hy)))
    have hm := hs x (List.mem_cons_self ..)
    have h2 := List.length_erase_of_mem hm
    have h3 := List.length_pos_of_mem hm
    rw [List.length_cons]
    omega
theorem errL_nil {h : List Ev} {row : List Int} (h0 : errL h row = 0) : ∃ rn : List Nat, row = rn.map (fun x : Nat => (x : Int)) ∧ (∀ b ∈ rn, b < (tableS h).length) ∧ rn.Nodup ∧ rn.length ≤ 6 := by
  obtain ⟨h1, h2, h3⟩ := errL_zero h0
  obtain ⟨rn, rfl, hr⟩ := row_nats h2
  have hn : rn.Nodup := (nodup_cast rn).1 h3
  refine ⟨rn, rfl, hr, hn, ?_⟩
  have h6 := table_six h1
  have h7 : rn.length ≤ (List.range (tableS h).length).length := nodupL_le rn _ hn fun b hb => List.mem_range.2 (hr b hb)
  rw [List.length_range] at h7
  omega
theorem nodup_next {α : Type} {l : List α} {k : Nat} (hk : k < l.length) (h : (l.take k).Nodup) (hn : l[k] ∉ l.take k) : (l.take (k + 1)).Nodup := by
  rw [List.take_succ_eq_append_getElem hk]
  refine List.nodup_append.2 ⟨h, by simp, fun a ha b hb => ?_⟩
  rw [List.mem_singleton.1 hb]
  rintro rfl
  exact hn ha
theorem nodup_not {α : Type} {l : List α} {k : Nat} (hk : k < l.length) (hm : l[k] ∈ l.take k) : ¬ l.Nodup := by
  intro h
  rw [← List.take_append_drop k l, List.drop_eq_getElem_cons hk] at h
  exact (List.nodup_append.1 h).2.2 _ hm _ (List.mem_cons_self ..) rfl
/-- bits of any number -/
theorem and_powL (n p : Nat) : n &&& 2 ^ p = 0 ↔ n.testBit p = false := by
  constructor
  · intro h
    have h1 : (n &&& 2 ^ p).testBit p = false := by rw [h]; exact Nat.zero_testBit p
    rw [Nat.testBit_and, Nat.testBit_two_pow_self, Bool.and_true] at h1
    exact h1
  · intro h
    refine Nat.eq_of_testBit_eq fun j => ?_
    rw [Nat.testBit_and, Nat.zero_testBit, Nat.testBit_two_pow]
    by_cases hj : p = j
    · subst hj; rw [h]; rfl
    · simp [hj]
theorem ahead_in (rn : List Nat) (p : Nat) : aheadN rn &&& 2 ^ p = 0 ↔ p ∉ rn := by
  rw [and_powL, ← aheadN_bit, Bool.not_eq_true]
/-- what an Op makes of a memory -/
def stepO (M : Int → Int) (o : Rwo) : Int → Int := if o.w = true then putM M o.v o.x else M
theorem with_take {M : Int → Int} {ops : List Rwo} {k : Nat} (hk : k < ops.length) : withM M (ops.take (k + 1)) = stepO (withM M (ops.take k)) ops[k] := by
  rw [List.take_succ_eq_append_getElem hk, withM_app]
  rfl
def okOps (ops : List Rwo) : Prop := ∀ o ∈ ops, 0 ≤ o.v ∧ o.v ≤ 7
theorem askedE_any (h : List Ev) (t : Int) {p : Ev → Prop} (h0 : p ⟨0, 0, 0, 0⟩) (h1 : ∀ e ∈ h, p e) : p (askedOf h t) := by
  revert h1
  refine rev_ind (p := fun h => (∀ e ∈ h, p e) → p (askedOf h t)) ?_ ?_ h
  · intro _; exact h0
  · intro g e ih h1
    rw [askedOf_snoc]
    split
    · exact h1 e (by simp)
    · exact ih fun x hx => h1 x (List.mem_append_left _ hx)
theorem ops_any (h : List Ev) (t : Int) (h1 : ∀ e ∈ h, 0 ≤ e.v ∧ e.v ≤ 7) : okOps (opsOf h t) := by
  revert h1
  refine rev_ind (p := fun h => (∀ e ∈ h, 0 ≤ e.v ∧ e.v ≤ 7) → okOps (opsOf h t)) ?_ ?_ h
  · intro _ o ho; simp [opsOf] at ho
  · intro g e ih h1 o ho
    rw [opsOf_snoc] at ho
    have hg : ∀ e ∈ g, 0 ≤ e.v ∧ e.v ≤ 7 := fun x hx => h1 x (List.mem_append_left _ hx)
    rcases List.mem_append.1 ho with ho | ho
    · exact ih hg o ho
    · have ha := askedE_any g t (p := fun e => 0 ≤ e.v ∧ e.v ≤ 7) ⟨by decide, by decide⟩ hg
      split at ho
      · unfold opStep at ho
        split at ho
        · rw [List.mem_singleton.1 ho]; exact ha
        · split at ho
          · rw [List.mem_singleton.1 ho]; exact ha
          · cases ho
      · cases ho
theorem table_ops {h : List Ev} (h0 : (checkS h).2 = 0) : ∀ X ∈ tableS h, okOps X.o ∧ X.o.length ≤ 60 := by
  intro X hX
  obtain ⟨t, _, rfl⟩ := List.mem_map.1 hX
  have hr := (check_agree h0).1
  have h60 := (right_evs hr).1
  refine ⟨ops_any h t fun e he => ?_, ?_⟩
  · simp only [right, Bool.and_eq_true, decide_eq_true_eq, List.all_eq_true] at hr
    have := hr.1.2 e he
    simp only [evOk, inB, Bool.and_eq_true, decide_eq_true_eq] at this
    omega
  · show (opsOf h t).length ≤ 60
    rw [ops_len]
    exact Nat.le_trans (List.length_filter_le _ _) h60
theorem opsAtL_get {l : List Tx} {i : Nat} (hi : i < l.length) : opsAt l i = l[i].o := by
  unfold opsAt
  rw [List.getElem?_eq_getElem hi]
theorem legal_next {l : List Tx} {c : Nat} {M : Int → Int} {rn : List Nat} {k : Nat} (hk : k < rn.length) (h : legalG l c M (rn.take k) = k) (ho : ownS (behindS l c M (rn.take k)) (opsAt l rn[k]) = (opsAt l rn[k]).length) : legalG l c M (rn.take (k + 1)) = k + 1 := by
  have hl : (rn.take k).length = k := by rw [List.length_take]; omega
  rw [List.take_succ_eq_append_getElem hk, legal_app, hl, if_pos h, legalG, if_pos ho, legalG]
theorem legal_stop {l : List Tx} {c : Nat} {M : Int → Int} {rn : List Nat} {k : Nat} (hk : k < rn.length) (h : legalG l c M (rn.take k) = k) (ho : ¬ ownS (behindS l c M (rn.take k)) (opsAt l rn[k]) = (opsAt l rn[k]).length) : legalG l c M rn = k := by
  have hl : (rn.take k).length = k := by rw [List.length_take]; omega
  have h1 := legal_app l c (rn.take k) (rn.drop k) M
  rw [List.take_append_drop, hl, if_pos h, List.drop_eq_getElem_cons hk, legalG, if_neg ho, Nat.add_zero] at h1
  exact h1
theorem behind_take {l : List Tx} {c : Nat} {M : Int → Int} {rn : List Nat} {k : Nat} (hk : k < rn.length) : behindS l c M (rn.take (k + 1)) = stepM l c (behindS l c M (rn.take k)) rn[k] := by
  rw [List.take_succ_eq_append_getElem hk, behind_app]
  rfl
end Go.Proofs.YtceipdmplnlogaaDoor.RPlain
namespace Go.Proofs.YtceipdmplnlogaaDoor
open Go.RowKit WPlain QPlain RPlain

/-- a memory's cells -/
def memC (M : Int → Int) : Array Value := #[.int .i64 (M 0), .int .i64 (M 1), .int .i64 (M 2), .int .i64 (M 3), .int .i64 (M 4), .int .i64 (M 5), .int .i64 (M 6), .int .i64 (M 7)]
theorem memC_put (M : Int → Int) (x : Int) : ∀ v : Nat, v < 8 → (memC M).setIfInBounds v (.int .i64 x) = memC (putM M v x)
  | 0, _ | 1, _ | 2, _ | 3, _ | 4, _ | 5, _ | 6, _ | 7, _ => by simp [memC, putM]
  | n + 8, h => by omega
end Go.Proofs.YtceipdmplnlogaaDoor
