/- Plain words: values that tell who wrote them. -/
import Derived.Test.YtkliahdgciajjaaDoorLegA
import Derived.Test.YtkliahdgciajjaaDoorMg11
namespace Go.Proofs.YtkliahdgciajjaaDoor.WPlain
end Go.Proofs.YtkliahdgciajjaaDoor.WPlain
namespace Go.Proofs.YtkliahdgciajjaaDoor.QPlain
end Go.Proofs.YtkliahdgciajjaaDoor.QPlain
namespace Go.Proofs.YtkliahdgciajjaaDoor.RPlain
open WPlain QPlain

def ownsB (ops : List Rwo) (v : Int) : Bool := ops.any fun o => o.w && decide (o.v = v)
def writesB (ops : List Rwo) (v x : Int) : Bool := ops.any fun o => o.w && decide (o.v = v) && decide (o.x = x)
def uniqueS (l : List Tx) : Bool := (List.range l.length).all fun i => (opsAt l i).all fun o => !o.w || (!decide (o.x = 0) && (List.range l.length).all fun k => decide (k = i) || !writesB (opsAt l k) o.v o.x)
def srcS (l : List Tx) (t i : Nat) : Int := match (opsAt l t)[i]? with
  | none => 0
  | some o => if o.w = true ∨ ownsB ((opsAt l t).take i) o.v = true then (t : Int) else if o.x = 0 then -1
    else match (List.range l.length).find? (fun k => !decide (k = t) && writesB (opsAt l k) o.v o.x) with | some k => (k : Int) | none => -2
def sourcesS (l : List Tx) : List (List Int) := (List.range l.length).map fun t => (List.range (opsAt l t).length).map (srcS l t)

theorem writes_iff {ops : List Rwo} {v x : Int} : writesB ops v x = true ↔ ∃ o ∈ ops, o.w = true ∧ o.v = v ∧ o.x = x := by
  unfold writesB
  rw [List.any_eq_true]
  simp [and_assoc]
theorem owns_iff {ops : List Rwo} {v : Int} : ownsB ops v = true ↔ ∃ o ∈ ops, o.w = true ∧ o.v = v := by
  unfold ownsB
  rw [List.any_eq_true]
  simp
/-- values are unique -/
structure Uniq (l : List Tx) : Prop where
  zero : ∀ i, i < l.length → ∀ o ∈ opsAt l i, o.w = true → o.x ≠ 0
  one : ∀ i k, i < l.length → k < l.length → ∀ v x, writesB (opsAt l i) v x = true → writesB (opsAt l k) v x = true → i = k
theorem unique_iff {l : List Tx} : uniqueS l = true ↔ Uniq l := by
  unfold uniqueS
  simp only [List.all_eq_true, List.mem_range, Bool.or_eq_true, Bool.and_eq_true, Bool.not_eq_true', decide_eq_true_eq, decide_eq_false_iff_not]
  constructor
  · intro h
    refine ⟨fun i hi o ho hw => ?_, fun i k hi hk v x h1 h2 => ?_⟩
    · rcases h i hi o ho with hc | hc
      · rw [hw] at hc; cases hc
      · exact hc.1
    · obtain ⟨o, ho, hw, hv, hx⟩ := writes_iff.1 h1
      rcases h i hi o ho with hc | hc
      · rw [hw] at hc; cases hc
      · rcases hc.2 k hk with h3 | h3
        · exact h3.symm
        · rw [hv, hx, h2] at h3; cases h3
  · intro h i hi o ho
    cases hw : o.w with
    | false => exact .inl rfl
    | true =>
      refine .inr ⟨h.zero i hi o ho hw, fun k hk => ?_⟩
      cases hb : writesB (opsAt l k) o.v o.x with
      | false => exact .inr rfl
      | true => exact .inl (h.one k i hk hi _ _ hb (writes_iff.2 ⟨o, ho, hw, rfl, rfl⟩))
/-- a table up to a place -/
structure Upto (m l : List Tx) : Prop where
  len : m.length ≤ l.length
  ops : ∀ i, i < m.length → opsAt m i <+: opsAt l i
theorem writes_pre {a b : List Rwo} (h : a <+: b) {v x : Int} (hw : writesB a v x = true) : writesB b v x = true := by
  obtain ⟨o, ho, hp⟩ := writes_iff.1 hw
  exact writes_iff.2 ⟨o, h.subset ho, hp⟩
theorem Uniq.upto {m l : List Tx} (h : Uniq l) (hu : Upto m l) : Uniq m :=
  ⟨fun i hi o ho hw => h.zero i (by have := hu.len; omega) o ((hu.ops i hi).subset ho) hw, fun i k hi hk v x h1 h2 => h.one i k (by have := hu.len; omega) (by have := hu.len; omega) v x (writes_pre (hu.ops i hi) h1) (writes_pre (hu.ops k hk) h2)⟩
theorem find_one {n t : Nat} {p : Nat → Bool} {k : Nat} (hk : k < n) (hne : k ≠ t) (hp : p k = true) (hone : ∀ j, j < n → p j = true → j = k) : (List.range n).find? (fun k => !decide (k = t) && p k) = some k := by
  have hsome : ((List.range n).find? (fun k => !decide (k = t) && p k)).isSome = true := by
    rw [List.find?_isSome]
    exact ⟨k, List.mem_range.2 hk, by simp [hne, hp]⟩
  obtain ⟨j, hj⟩ := Option.isSome_iff_exists.1 hsome
  have h1 := List.find?_some hj
  have h2 := List.mem_range.1 (List.mem_of_find?_eq_some hj)
  rw [Bool.and_eq_true] at h1
  rw [hj, hone j h2 h1.2]
/-- sources up to a place -/
theorem src_upto {m l : List Tx} (h : Uniq l) (hu : Upto m l) {t i : Nat} (ht : t < m.length) (hi : i < (opsAt m t).length) :
    srcS m t i = srcS l t i ∨ (srcS m t i = -2 ∧ 0 ≤ srcS l t i ∧ srcS l t i ≠ (t : Int)) := by
  obtain ⟨b, hb⟩ := hu.ops t ht
  have hget : (opsAt l t)[i]? = (opsAt m t)[i]? := by rw [← hb, List.getElem?_append_left hi]
  have htake : (opsAt l t).take i = (opsAt m t).take i := by rw [← hb, List.take_append_of_le_length (by omega)]
  have hlen := hu.len
  unfold srcS
  rw [hget, htake, List.getElem?_eq_getElem hi]
  dsimp only
  generalize (opsAt m t)[i] = o
  by_cases h1 : o.w = true ∨ ownsB ((opsAt m t).take i) o.v = true
  · rw [if_pos h1, if_pos h1]; exact .inl rfl
  · rw [if_neg h1, if_neg h1]
    by_cases h2 : o.x = 0
    · rw [if_pos h2, if_pos h2]; exact .inl rfl
    · rw [if_neg h2, if_neg h2]
      cases hm : (List.range m.length).find? (fun k => !decide (k = t) && writesB (opsAt m k) o.v o.x) with
      | some k =>
        have h3 := List.find?_some hm
        have h4 := List.mem_range.1 (List.mem_of_find?_eq_some hm)
        rw [Bool.and_eq_true] at h3
        have h5 := writes_pre (hu.ops k h4) h3.2
        rw [find_one (p := fun k => writesB (opsAt l k) o.v o.x) (k := k) (by omega) (by simpa using h3.1) h5 (fun j hj hp => h.one j k hj (by omega) _ _ hp h5)]
        exact .inl rfl
      | none =>
        cases hl : (List.range l.length).find? (fun k => !decide (k = t) && writesB (opsAt l k) o.v o.x) with
        | none => exact .inl rfl
        | some k =>
          have h3 := List.find?_some hl
          rw [Bool.and_eq_true] at h3
          have hne : k ≠ t := by simpa using h3.1
          exact .inr ⟨rfl, by dsimp only; omega, by dsimp only; omega⟩
theorem opsAt_tab (h : List Ev) {i : Nat} (hi : i < (namesOf h).length) : opsAt (tableS h) i = opsOf h (namesOf h)[i] := by
  unfold opsAt
  rw [List.getElem?_eq_getElem (by rw [tableS_len]; exact hi), tableS_get hi]
  rfl
theorem upto_table (h : List Ev) (k : Nat) : Upto (tableS (h.take k)) (tableS h) := by
  have hcut := names_cut h k
  refine ⟨by rw [tableS_len, tableS_len]; exact hcut.1, fun i hi => ?_⟩
  have hi1 : i < (namesOf (h.take k)).length := by rw [tableS_len] at hi; exact hi
  have hi2 : i < (namesOf h).length := by have := hcut.1; omega
  rw [opsAt_tab _ hi1, opsAt_tab _ hi2, ← hcut.2 i hi1 hi2]
  have := (tx_more (h.take k) (h.drop k) _ (List.getElem_mem hi1)).2.2
  rwa [List.take_append_drop] at this
end Go.Proofs.YtkliahdgciajjaaDoor.RPlain
