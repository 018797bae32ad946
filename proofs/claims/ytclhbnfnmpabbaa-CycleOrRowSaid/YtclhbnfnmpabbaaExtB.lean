/- Plain words: ways from place to place, and why an order may not be. -/
import Derived.Test.YtclhbnfnmpabbaaExtA
namespace Go.Proofs.Ytclhbnfnmpabbaa.RPlain

/-- one place more, if it can be come to from what is there -/
def addW (L : List Nat) (out : List Nat) (k : Nat) : List Nat := if (out.any fun x => aft L x k) = true ∧ out.contains k = false then out ++ [k] else out
def stepW (L : List Nat) (n : Nat) (out : List Nat) : List Nat := (List.range n).foldl (addW L) out
def startW (L : List Nat) (n i : Nat) : List Nat := (List.range n).filter fun k => aft L i k
def waysG (L : List Nat) (n : Nat) : Nat → List Nat → List Nat
  | 0, out => out
  | s + 1, out => waysG L n s (stepW L n out)
def waysS (L : List Nat) (i : Nat) : List Nat := waysG L L.length (L.length - 1) (startW L L.length i)
def mayE (L : List Nat) : Nat := if 6 < L.length ∨ (L.any fun a => decide (2 ^ L.length ≤ a)) = true then 1 else if ((List.range L.length).any fun i => (waysS L i).contains i) = true then 8 else 0

theorem addW_pre (L out : List Nat) (k : Nat) : out <+: addW L out k := by
  unfold addW
  split
  · exact List.prefix_append _ _
  · exact List.prefix_refl _
theorem fold_pre (L : List Nat) : ∀ (l out : List Nat), out <+: l.foldl (addW L) out := by
  intro l
  induction l with
  | nil => intro out; exact List.prefix_refl _
  | cons k r ih => intro out; exact (addW_pre L out k).trans (ih _)
theorem fold_same (L : List Nat) : ∀ (l out : List Nat), (l.foldl (addW L) out).length = out.length → ∀ k ∈ l, addW L out k = out := by
  intro l
  induction l with
  | nil => intro out _ k hk; cases hk
  | cons x r ih =>
    intro out h k hk
    have h1 := (addW_pre L out x).length_le
    have h2 := (fold_pre L r (addW L out x)).length_le
    rw [List.foldl_cons] at h
    have h3 : addW L out x = out := ((addW_pre L out x).eq_of_length (by omega)).symm
    rcases List.mem_cons.1 hk with rfl | hk
    · exact h3
    · rw [h3] at h
      exact ih out h k hk
/-- nothing more can be come to -/
def Closed (L out : List Nat) : Prop := ∀ x ∈ out, ∀ k, k < L.length → aft L x k = true → k ∈ out
theorem addW_closed {L out : List Nat} (h : ∀ k, k < L.length → addW L out k = out) : Closed L out := by
  intro x hx k hk he
  by_cases hm : k ∈ out
  · exact hm
  · have h1 := h k hk
    unfold addW at h1
    rw [if_pos ⟨List.any_eq_true.2 ⟨x, hx, he⟩, by simpa using hm⟩] at h1
    have := congrArg List.length h1
    simp at this
theorem closed_add {L out : List Nat} (hc : Closed L out) {k : Nat} (hk : k < L.length) : addW L out k = out := by
  unfold addW
  rw [if_neg]
  rintro ⟨h1, h2⟩
  obtain ⟨x, hx, he⟩ := List.any_eq_true.1 h1
  have := hc x hx k hk he
  simp [this] at h2
theorem closed_step {L out : List Nat} (hc : Closed L out) : stepW L L.length out = out := by
  unfold stepW
  have : ∀ l : List Nat, (∀ k ∈ l, k < L.length) → l.foldl (addW L) out = out := by
    intro l
    induction l with
    | nil => intro _; rfl
    | cons k r ih => intro h; rw [List.foldl_cons, closed_add hc (h k (List.mem_cons_self ..))]; exact ih fun x hx => h x (List.mem_cons_of_mem _ hx)
  exact this _ fun k hk => List.mem_range.1 hk
/-- places that can be come to from one -/
structure Way (L : List Nat) (i : Nat) (out : List Nat) : Prop where
  nodup : out.Nodup
  lt : ∀ k ∈ out, k < L.length
  way : ∀ k ∈ out, Relation.TransGen (Edge L) i k
  first : ∀ k, k < L.length → aft L i k = true → k ∈ out
theorem Way.add {L : List Nat} {i : Nat} {out : List Nat} (h : Way L i out) {k : Nat} (hk : k < L.length) : Way L i (addW L out k) := by
  unfold addW
  split
  · rename_i hc
    obtain ⟨x, hx, he⟩ := List.any_eq_true.1 hc.1
    have hm : k ∉ out := by simpa using hc.2
    refine ⟨List.nodup_append.2 ⟨h.nodup, by simp, fun a ha b hb => ?_⟩, fun y hy => ?_, fun y hy => ?_, fun y hy hb => List.mem_append_left _ (h.first y hy hb)⟩
    · rw [List.mem_singleton.1 hb]; exact fun hc => hm (hc ▸ ha)
    · rcases List.mem_append.1 hy with hy | hy
      · exact h.lt y hy
      · rw [List.mem_singleton.1 hy]; exact hk
    · rcases List.mem_append.1 hy with hy | hy
      · exact h.way y hy
      · rw [List.mem_singleton.1 hy]; exact (h.way x hx).tail ⟨h.lt x hx, hk, he⟩
  · exact h
theorem Way.step {L : List Nat} {i : Nat} {out : List Nat} (h : Way L i out) : Way L i (stepW L L.length out) := by
  unfold stepW
  have : ∀ (l out : List Nat), (∀ k ∈ l, k < L.length) → Way L i out → Way L i (l.foldl (addW L) out) := by
    intro l
    induction l with
    | nil => intro out _ h; exact h
    | cons k r ih => intro out hl h; exact ih _ (fun x hx => hl x (List.mem_cons_of_mem _ hx)) (h.add (hl k (List.mem_cons_self ..)))
  exact this _ _ (fun k hk => List.mem_range.1 hk) h
theorem Way.start {L : List Nat} {i : Nat} (hi : i < L.length) : Way L i (startW L L.length i) := by
  refine ⟨List.nodup_range.filter _, fun k hk => ?_, fun k hk => ?_, fun k hk hb => ?_⟩
  · exact List.mem_range.1 (List.mem_filter.1 hk).1
  · have h1 := List.mem_filter.1 hk
    exact .single ⟨hi, List.mem_range.1 h1.1, h1.2⟩
  · exact List.mem_filter.2 ⟨List.mem_range.2 hk, hb⟩
theorem step_grows {L out : List Nat} : Closed L out ∨ out.length < (stepW L L.length out).length := by
  by_cases h : (stepW L L.length out).length = out.length
  · exact .inl (addW_closed fun k hk => fold_same L _ _ h k (List.mem_range.2 hk))
  · have := (fold_pre L (List.range L.length) out).length_le
    exact .inr (by unfold stepW at h ⊢; omega)
theorem waysG_spec {L : List Nat} {i : Nat} : ∀ (s m : Nat) (out : List Nat), Way L i out → (Closed L out ∨ m ≤ out.length) → Way L i (waysG L L.length s out) ∧ (Closed L (waysG L L.length s out) ∨ m + s ≤ (waysG L L.length s out).length) := by
  intro s
  induction s with
  | zero => intro m out h hc; exact ⟨h, hc⟩
  | succ s ih =>
    intro m out h hc
    rw [waysG]
    have h1 : Closed L (stepW L L.length out) ∨ m + 1 ≤ (stepW L L.length out).length := by
      rcases step_grows (L := L) (out := out) with hg | hg
      · rw [closed_step hg]; exact .inl hg
      · rcases hc with hc | hc
        · rw [closed_step hc]; exact .inl hc
        · exact .inr (by omega)
    have h2 := ih (m + 1) _ h.step h1
    exact ⟨h2.1, h2.2.imp_right fun h => by omega⟩
theorem ways_spec {L : List Nat} {i : Nat} (hi : i < L.length) : Way L i (waysS L i) ∧ Closed L (waysS L i) := by
  unfold waysS
  have h0 : Closed L (startW L L.length i) ∨ 1 ≤ (startW L L.length i).length := by
    by_cases h : (startW L L.length i).length = 0
    · left
      intro x hx
      rw [List.length_eq_zero_iff.1 h] at hx
      cases hx
    · exact .inr (by omega)
  obtain ⟨h1, h2⟩ := waysG_spec (L.length - 1) 1 _ (Way.start hi) h0
  refine ⟨h1, h2.elim id fun h => ?_⟩
  intro x _ k hk _
  have hle := nodup_le _ (List.range L.length) h1.nodup (fun y hy => List.mem_range.2 (h1.lt y hy))
  rw [List.length_range] at hle
  exact nodup_full _ _ h1.nodup h1.lt (by omega) k hk
theorem ways_iff {L : List Nat} {i k : Nat} (hi : i < L.length) : k ∈ waysS L i ↔ Relation.TransGen (Edge L) i k := by
  obtain ⟨h1, h2⟩ := ways_spec hi
  constructor
  · exact h1.way k
  · intro h
    induction h with
    | single h => exact h1.first _ h.2.1 h.2.2
    | tail _ h ih => exact h2 _ ih _ h.2.1 h.2.2
theorem trans_lt {L : List Nat} {a b : Nat} (h : Relation.TransGen (Edge L) a b) : a < L.length := by
  induction h with
  | single h => exact h.1
  | tail _ _ ih => exact ih
theorem free_iff (L : List Nat) : ((List.range L.length).any fun i => (waysS L i).contains i) = false ↔ Free L := by
  rw [List.any_eq_false]
  constructor
  · intro h a ha
    have hlt := trans_lt ha
    exact h a (List.mem_range.2 hlt) (by simpa using (ways_iff hlt).2 ha)
  · intro h i hi hc
    have hlt := List.mem_range.1 hi
    exact h i ((ways_iff hlt).1 (by simpa using hc))
theorem mayE_zero {L : List Nat} : mayE L = 0 ↔ L.length ≤ 6 ∧ (∀ a ∈ L, a < 2 ^ L.length) ∧ Free L := by
  unfold mayE
  by_cases h : 6 < L.length ∨ (L.any fun a => decide (2 ^ L.length ≤ a)) = true
  · rw [if_pos h]
    constructor
    · intro hc; cases hc
    · rintro ⟨h1, h2, _⟩
      rcases h with h | h
      · omega
      · obtain ⟨a, ha, hb⟩ := List.any_eq_true.1 h
        have := h2 a ha
        simp at hb
        omega
  · rw [if_neg h]
    have h1 : L.length ≤ 6 := by
      have := fun hc => h (.inl hc)
      omega
    have h2 : ∀ a ∈ L, a < 2 ^ L.length := fun a ha => by
      have := fun hc => h (.inr (List.any_eq_true.2 ⟨a, ha, hc⟩))
      simp at this
      exact this
    rw [← free_iff]
    cases hb : ((List.range L.length).any fun i => (waysS L i).contains i) with
    | true => simp
    | false => simp [h1]; exact h2
/-- level by level -/
theorem ext_snoc (n : Nat) (p : List Nat → Nat → Bool) : ∀ (s : Nat) (row : List Nat), extP n p (s + 1) row = (extP n p s row).flatMap fun r => ((List.range n).filter (p r)).map fun k => r ++ [k] := by
  have hone : ∀ (row : List Nat) (l : List Nat), (l.flatMap fun k => if p row k = true then [row ++ [k]] else []) = (l.filter (p row)).map fun k => row ++ [k] := by
    intro row l
    induction l with
    | nil => rfl
    | cons k r ih =>
      rw [List.flatMap_cons, ih, List.filter_cons]
      split <;> rfl
  intro s
  induction s with
  | zero =>
    intro row
    rw [extP, extP, List.flatMap_cons, List.flatMap_nil, List.append_nil]
    exact hone row _
  | succ s ih =>
    intro row
    rw [extP, extP, List.flatMap_assoc]
    refine congrArg (fun f => (List.range n).flatMap f) (funext fun k => ?_)
    by_cases hp : p row k = true
    · rw [if_pos hp, if_pos hp, ih]
    · rw [if_neg hp, if_neg hp]; rfl
end Go.Proofs.Ytclhbnfnmpabbaa.RPlain
