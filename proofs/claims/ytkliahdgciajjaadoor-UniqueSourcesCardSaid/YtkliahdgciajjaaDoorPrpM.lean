/- Plain words: what is well formed is so up to any place; and goes on so. -/
import Derived.Test.YtkliahdgciajjaaDoorMg3
namespace Go.Proofs.YtkliahdgciajjaaDoor.WPlain
end Go.Proofs.YtkliahdgciajjaaDoor.WPlain
namespace Go.Proofs.YtkliahdgciajjaaDoor.QPlain
open WPlain

theorem flw_ok : ∀ (a : List Ev) (F : Int → Nat) (i : Nat), ((flw F i a).2.2 = true → (flw F i a).2.1 = i + a.length) ∧ ((flw F i a).2.2 = false → i ≤ (flw F i a).2.1 ∧ (flw F i a).2.1 < i + a.length) := by
  intro a
  induction a with
  | nil => intro F i; exact ⟨fun _ => rfl, fun h => by simp [flw] at h⟩
  | cons e r ih =>
    intro F i
    cases hm : mv (F e.t) e.k.toNat with
    | none =>
      rw [flw_none hm]
      exact ⟨fun h => by simp at h, fun _ => ⟨Nat.le_refl _, by simp⟩⟩
    | some s =>
      rw [flw_some hm]
      obtain ⟨h1, h2⟩ := ih (upd F e.t s) (i + 1)
      simp only [List.length_cons]
      exact ⟨fun h => by have := h1 h; omega, fun h => by have := h2 h; omega⟩
theorem flw_app : ∀ (a b : List Ev) (F : Int → Nat) (i : Nat), flw F i (a ++ b) = if (flw F i a).2.2 = true then flw (flw F i a).1 (flw F i a).2.1 b else flw F i a := by
  intro a
  induction a with
  | nil => intro b F i; rw [List.nil_append]; exact (if_pos rfl).symm
  | cons e r ih =>
    intro b F i
    rw [List.cons_append]
    cases hm : mv (F e.t) e.k.toNat with
    | none => rw [flw_none hm, flw_none hm]; exact (if_neg (by simp)).symm
    | some s => rw [flw_some hm, flw_some hm]; exact ih b _ _
theorem right_take {h : List Ev} (hr : right h = true) (k : Nat) : right (h.take k) = true := by
  have hnm : ∀ (g h : List Ev), (namesOf h).length ≤ (namesOf (h ++ g)).length := by
    intro g
    induction g with
    | nil => intro h; simp
    | cons e r ih =>
      intro h
      have h1 := ih (h ++ [e])
      rw [List.append_assoc] at h1
      have h2 : (namesOf h).length ≤ (namesOf (h ++ [e])).length := by
        rw [namesOf_snoc]; unfold addName; split <;> simp
      exact Nat.le_trans h2 h1
  have h3 := hnm (h.drop k) (h.take k)
  rw [List.take_append_drop] at h3
  simp only [right, Bool.and_eq_true, decide_eq_true_eq, List.all_eq_true] at hr ⊢
  refine ⟨⟨?_, fun e he => hr.1.2 e (List.mem_of_mem_take he)⟩, by omega⟩
  rw [List.length_take]; omega
/-- up to a place -/
theorem check_take {h : List Ev} (hr : right h = true) {k : Nat} (hk : k ≤ h.length) :
    ((checkS h).2 = 0 ∧ (checkS h).1 = h.length ∧ (checkS (h.take k)) = (k, 0)) ∨
    ((checkS h).2 = 6 ∧ k ≤ (checkS h).1 ∧ (checkS (h.take k)) = (k, 0)) ∨
    ((checkS h).2 = 6 ∧ (checkS h).1 < k ∧ (checkS (h.take k)) = ((checkS h).1, 6)) := by
  have htl : (h.take k).length = k := by rw [List.length_take]; omega
  have hsp := flw_app (h.take k) (h.drop k) (fun _ => 0) 0
  rw [List.take_append_drop] at hsp
  have hA := flw_ok (h.take k) (fun _ => 0) 0
  have hB := flw_ok h (fun _ => 0) 0
  unfold checkS
  rw [if_pos hr, if_pos (right_take hr k)]
  unfold flw0
  rw [htl]
  rw [htl] at hA
  cases h1 : (flw (fun _ => 0) 0 (h.take k)).2.2 with
  | true =>
    rw [if_pos h1] at hsp
    have hd := flw_ok (h.drop k) (flw (fun _ => 0) 0 (h.take k)).1 (flw (fun _ => 0) 0 (h.take k)).2.1
    have hp := hA.1 h1
    cases h2 : (flw (fun _ => 0) 0 h).2.2 with
    | true => exact .inl ⟨by simp, by simp, by simp⟩
    | false =>
      refine .inr (.inl ⟨by simp, ?_, by simp⟩)
      rw [← hsp] at hd
      have := (hd.2 h2).1
      simp
      omega
  | false =>
    rw [if_neg (by rw [h1]; simp)] at hsp
    have hp := (hA.2 h1).2
    refine .inr (.inr ⟨?_, ?_, ?_⟩)
    · rw [hsp, h1]; simp
    · rw [hsp, h1]; simp; omega
    · rw [hsp, h1]; simp
/-- an event more -/
theorem check_snoc {h : List Ev} {e : Ev} (hr : right (h ++ [e]) = true) :
    right h = true ∧ (((checkS h).2 = 6 ∧ checkS (h ++ [e]) = checkS h) ∨
    ((checkS h).2 = 0 ∧ ((checkS (h ++ [e])).2 = 0 ↔ e.k ∈ kindsS ((flw0 h).1 e.t)) ∧ ((checkS (h ++ [e])).2 ≠ 0 → checkS (h ++ [e]) = (h.length, 6)))) := by
  have hrh : right h = true := by have := right_take hr h.length; rwa [List.take_left' rfl] at this
  have hek := ((right_evs hr).2 e (by simp)).1
  have hag := @check_agree h
  have hok := flw_ok h (fun _ => 0) 0
  have hsp := flw_app h [e] (fun _ => 0) 0
  refine ⟨hrh, ?_⟩
  unfold checkS at hag ⊢
  rw [if_pos hrh] at hag
  rw [if_pos hr, if_pos hrh]
  unfold flw0 at hag ⊢
  cases h1 : (flw (fun _ => 0) 0 h).2.2 with
  | true =>
    rw [if_pos h1] at hsp
    rw [h1] at hag
    obtain ⟨_, hA, _⟩ := hag rfl
    refine .inr ⟨by simp, ?_⟩
    have hp := hok.1 h1
    have h8 : (flw (fun _ => 0) 0 h).1 e.t < 8 := by
      rw [hA e.t]
      unfold stOfL
      (repeat' split) <;> decide
    obtain ⟨kk, hkk⟩ : ∃ kk : Nat, e.k = (kk : Int) := ⟨e.k.toNat, by omega⟩
    have hkt : e.k.toNat = kk := by rw [hkk]; exact Int.toNat_natCast kk
    have hmem : e.k ∈ kindsS ((flw (fun _ => 0) 0 h).1 e.t) ↔ (mv ((flw (fun _ => 0) 0 h).1 e.t) kk).isSome = true := by
      rw [kinds_has h8, hkk, row_has h8 (by omega)]
    rw [hmem]
    cases hm : mv ((flw (fun _ => 0) 0 h).1 e.t) kk with
    | none =>
      rw [flw_none (by rw [hkt]; exact hm)] at hsp
      rw [hsp]
      simp
      omega
    | some s =>
      rw [flw_some (by rw [hkt]; exact hm)] at hsp
      rw [hsp]
      simp [flw]
  | false =>
    rw [if_neg (by rw [h1]; simp)] at hsp
    refine .inl ⟨by simp, ?_⟩
    rw [hsp, h1]
    rfl
end Go.Proofs.YtkliahdgciajjaaDoor.QPlain
