/- Plain words: events are well formed, just if those of each transaction are. -/
import Derived.Test.YtnggadcoepieaaaDoorPrpM
namespace Go.Proofs.YtnggadcoepieaaaDoor.WPlain
end Go.Proofs.YtnggadcoepieaaaDoor.WPlain
namespace Go.Proofs.YtnggadcoepieaaaDoor.QPlain
open WPlain

/-- the state behind one transaction's events -/
def trS (o : Option Nat) (l : List Ev) : Option Nat := l.foldl (fun o e => o.bind fun s => mv s e.k.toNat) o
/-- the events of a transaction -/
def ofT (h : List Ev) (t : Int) : List Ev := h.filter fun e => e.t == t
theorem trS_none : ∀ l, trS none l = none := by
  intro l
  induction l with
  | nil => rfl
  | cons e r ih => exact ih
theorem flw_tr : ∀ (h : List Ev) (F : Int → Nat) (i : Nat), (flw F i h).2.2 = true ↔ ∀ t, (trS (some (F t)) (ofT h t)).isSome = true := by
  intro h
  induction h with
  | nil => intro F i; exact ⟨fun _ _ => rfl, fun _ => rfl⟩
  | cons e r ih =>
    intro F i
    cases hm : mv (F e.t) e.k.toNat with
    | none =>
      rw [flw_none hm]
      constructor
      · intro hc; simp at hc
      · intro hall
        have := hall e.t
        unfold ofT at this
        rw [List.filter_cons_of_pos (by simp)] at this
        have h2 : trS (some (F e.t)) (e :: r.filter fun x => x.t == e.t) = trS none (r.filter fun x => x.t == e.t) := by
          show trS ((some (F e.t)).bind fun s => mv s e.k.toNat) _ = _
          rw [Option.bind_some, hm]
        rw [h2, trS_none] at this
        simp at this
    | some s =>
      rw [flw_some hm, ih]
      constructor
      · intro hall t
        have := hall t
        unfold ofT at this ⊢
        by_cases ht : t = e.t
        · subst ht
          rw [List.filter_cons_of_pos (by simp)]
          have h2 : trS (some (F e.t)) (e :: r.filter fun x => x.t == e.t) = trS (some s) (r.filter fun x => x.t == e.t) := by
            show trS ((some (F e.t)).bind fun s => mv s e.k.toNat) _ = _
            rw [Option.bind_some, hm]
          rw [h2]
          unfold upd at this
          rwa [if_pos rfl] at this
        · rw [List.filter_cons_of_neg (by simp; exact fun hc => ht hc.symm)]
          unfold upd at this
          rwa [if_neg ht] at this
      · intro hall t
        have := hall t
        unfold ofT at this ⊢
        by_cases ht : t = e.t
        · subst ht
          rw [List.filter_cons_of_pos (by simp)] at this
          have h2 : trS (some (F e.t)) (e :: r.filter fun x => x.t == e.t) = trS (some s) (r.filter fun x => x.t == e.t) := by
            show trS ((some (F e.t)).bind fun s => mv s e.k.toNat) _ = _
            rw [Option.bind_some, hm]
          rw [h2] at this
          unfold upd
          rwa [if_pos rfl]
        · rw [List.filter_cons_of_neg (by simp; exact fun hc => ht hc.symm)] at this
          unfold upd
          rwa [if_neg ht]
theorem ofT_ofT (h : List Ev) (t u : Int) : ofT (ofT h t) u = if u = t then ofT h t else [] := by
  unfold ofT
  rw [List.filter_filter]
  split
  · rename_i hu
    subst hu
    exact List.filter_congr (fun x _ => by simp)
  · rename_i hu
    rw [List.filter_eq_nil_iff]
    intro x _
    simp
    intro h1 h2
    exact hu (by omega)
theorem names_one (t : Int) : ∀ l : List Ev, (∀ e ∈ l, e.t = t) → (namesOf l).length ≤ 1 := by
  intro l hl
  have hg : ∀ (l : List Ev) (a : List Int), (∀ e ∈ l, e.t = t) → (a = [] ∨ a = [t]) → (l.foldl (fun a e => addName a e.t) a = [] ∨ l.foldl (fun a e => addName a e.t) a = [t]) := by
    intro l
    induction l with
    | nil => intro a _ ha; exact ha
    | cons e r ih =>
      intro a hl ha
      simp only [List.foldl_cons]
      refine ih _ (fun x hx => hl x (List.mem_cons_of_mem _ hx)) ?_
      rw [hl e (List.mem_cons_self ..)]
      rcases ha with rfl | rfl
      · exact .inr rfl
      · right
        unfold addName
        simp
  rcases hg l [] hl (.inl rfl) with h | h
  · unfold namesOf; rw [h]; simp
  · unfold namesOf; rw [h]; simp
theorem right_ofT {h : List Ev} (hr : right h = true) (t : Int) : right (ofT h t) = true := by
  have h1 := names_one t (ofT h t) (fun e he => by unfold ofT at he; rw [List.mem_filter] at he; simpa using he.2)
  simp only [right, Bool.and_eq_true, decide_eq_true_eq, List.all_eq_true] at hr ⊢
  refine ⟨⟨?_, fun e he => hr.1.2 e ?_⟩, by omega⟩
  · unfold ofT
    have := List.length_filter_le (fun e : Ev => e.t == t) h
    omega
  · unfold ofT at he
    exact (List.mem_filter.1 he).1
theorem checkS_ok {h : List Ev} (hr : right h = true) : ((checkS h).2 = 0 ↔ (flw0 h).2.2 = true) ∧ ((checkS h).2 = 0 → (checkS h).1 = h.length) := by
  unfold checkS
  rw [if_pos hr]
  cases (flw0 h).2.2 <;> simp
theorem each_ok {h : List Ev} (hr : right h = true) : h.all (fun x => decide ((checkS (ofT h x.t)).2 = 0)) = decide ((checkS h).2 = 0) := by
  rw [Bool.eq_iff_iff, decide_eq_true_iff, (checkS_ok hr).1, List.all_eq_true]
  unfold flw0
  rw [flw_tr]
  constructor
  · intro hall t
    by_cases hx : ∃ x ∈ h, x.t = t
    · obtain ⟨x, hx, rfl⟩ := hx
      have h1 := hall x hx
      rw [decide_eq_true_iff, (checkS_ok (right_ofT hr x.t)).1] at h1
      unfold flw0 at h1
      rw [flw_tr] at h1
      have h2 := h1 x.t
      rwa [ofT_ofT, if_pos rfl] at h2
    · have : ofT h t = [] := by
        unfold ofT
        rw [List.filter_eq_nil_iff]
        intro x hx' hc
        exact hx ⟨x, hx', by simpa using hc⟩
      rw [this]
      rfl
  · intro hall x _
    rw [decide_eq_true_iff, (checkS_ok (right_ofT hr x.t)).1]
    unfold flw0
    rw [flw_tr]
    intro u
    rw [ofT_ofT]
    split
    · exact hall x.t
    · rfl
end Go.Proofs.YtnggadcoepieaaaDoor.QPlain
