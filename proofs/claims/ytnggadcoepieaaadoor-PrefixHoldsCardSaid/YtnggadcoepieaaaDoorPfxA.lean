/- Plain words: rows of events that are alike, name by name. -/
import Derived.Test.YtnggadcoepieaaaDoorTabP
import Derived.Test.YtnggadcoepieaaaDoorPrpQ
namespace Go.Proofs.YtnggadcoepieaaaDoor.WPlain
end Go.Proofs.YtnggadcoepieaaaDoor.WPlain
namespace Go.Proofs.YtnggadcoepieaaaDoor.QPlain
end Go.Proofs.YtnggadcoepieaaaDoor.QPlain
namespace Go.Proofs.YtnggadcoepieaaaDoor.RPlain
open WPlain QPlain

/-- are two rows of events alike? -/
def alikeS (a b : List Ev) : Bool := ((namesOf a).all fun t => decide (ofT a t = ofT b t)) && decide (a.length = b.length)
theorem sum_of {ns : List Int} (hn : ns.Nodup) : ∀ b : List Ev, (ns.map fun t => (ofT b t).length).sum = (b.filter fun e => ns.contains e.t).length := by
  intro b
  induction b with
  | nil =>
    simp only [ofT, List.filter_nil, List.length_nil]
    induction ns with
    | nil => rfl
    | cons x r ih => rw [List.map_cons, List.sum_cons, ih (List.nodup_cons.1 hn).2]
  | cons e r ih =>
    have hone : ∀ ns : List Int, ns.Nodup → (ns.map fun t => (ofT (e :: r) t).length).sum = (ns.map fun t => (ofT r t).length).sum + (if ns.contains e.t = true then 1 else 0) := by
      intro ns
      induction ns with
      | nil => intro _; rfl
      | cons x q ihq =>
        intro hnd
        obtain ⟨hx, hq⟩ := List.nodup_cons.1 hnd
        rw [List.map_cons, List.sum_cons, List.map_cons, List.sum_cons, ihq hq]
        have h1 : (ofT (e :: r) x).length = (ofT r x).length + (if e.t = x then 1 else 0) := by
          unfold ofT
          rw [List.filter_cons]
          by_cases he : e.t = x
          · simp [he]
          · simp [he]
        rw [h1]
        by_cases he : e.t = x
        · subst he
          have hnc : q.contains e.t = false := by simpa using hx
          rw [if_pos rfl, List.contains_cons, hnc]
          simp
          omega
        · have hne : (e.t == x) = false := by simpa using he
          rw [if_neg he, List.contains_cons, hne, Bool.false_or]
          omega
    rw [hone ns hn, ih, List.filter_cons]
    split <;> simp
theorem mem_ofT {h : List Ev} {e : Ev} (he : e ∈ h) : e ∈ ofT h e.t := by unfold ofT; rw [List.mem_filter]; exact ⟨he, by simp⟩
theorem ofT_mem {h : List Ev} {e : Ev} {t : Int} (he : e ∈ ofT h t) : e ∈ h ∧ e.t = t := by unfold ofT at he; rw [List.mem_filter] at he; exact ⟨he.1, by simpa using he.2⟩
theorem names_filter (h : List Ev) : (h.filter fun e => (namesOf h).contains e.t) = h := by
  rw [List.filter_eq_self]
  intro e he
  have := (mem_names h e.t).2 ⟨e, he, rfl⟩
  simpa using this
/-- all transactions' events together are all -/
theorem all_sum (h : List Ev) : ((namesOf h).map fun t => (ofT h t).length).sum = h.length := by rw [sum_of (names_nodup h), names_filter]
theorem ofT_none {h : List Ev} {t : Int} (ht : t ∉ namesOf h) : ofT h t = [] := by
  unfold ofT
  rw [List.filter_eq_nil_iff]
  intro e he hc
  exact ht ((mem_names h t).2 ⟨e, he, by simpa using hc⟩)
theorem len_of {a b : List Ev} (h : ∀ t, ofT a t = ofT b t) : a.length ≤ b.length := by
  have h1 := all_sum a
  have h2 := sum_of (names_nodup a) b
  have h3 : ((namesOf a).map fun t => (ofT a t).length) = ((namesOf a).map fun t => (ofT b t).length) := List.map_congr_left fun t _ => by rw [h t]
  rw [h3, h2] at h1
  rw [← h1]
  exact List.length_filter_le _ _
theorem alike_iff (a b : List Ev) : alikeS a b = true ↔ ∀ t, ofT a t = ofT b t := by
  unfold alikeS
  simp only [Bool.and_eq_true, List.all_eq_true, decide_eq_true_eq]
  constructor
  · rintro ⟨h1, hl⟩ t
    by_cases ht : t ∈ namesOf a
    · exact h1 t ht
    · have h2 := all_sum a
      have h3 : ((namesOf a).map fun t => (ofT a t).length) = ((namesOf a).map fun t => (ofT b t).length) := List.map_congr_left fun t ht => by rw [h1 t ht]
      rw [h3, sum_of (names_nodup a) b, hl] at h2
      have h4 := List.length_filter_eq_length_iff.1 h2
      rw [ofT_none ht, ofT_none]
      intro hc
      obtain ⟨e, he, rfl⟩ := (mem_names b t).1 hc
      exact ht (by simpa using h4 e he)
  · intro h
    exact ⟨fun t _ => h t, Nat.le_antisymm (len_of h) (len_of fun t => (h t).symm)⟩
theorem alike_refl (a : List Ev) : alikeS a a = true := (alike_iff a a).2 fun _ => rfl
theorem alike_symm (a b : List Ev) : alikeS a b = alikeS b a := by
  rw [Bool.eq_iff_iff, alike_iff, alike_iff]
  exact ⟨fun h t => (h t).symm, fun h t => (h t).symm⟩
theorem alike_trans {a b c : List Ev} (h1 : alikeS a b = true) (h2 : alikeS b c = true) : alikeS a c = true := by
  rw [alike_iff] at *
  exact fun t => (h1 t).trans (h2 t)
theorem alike_len {a b : List Ev} (h : alikeS a b = true) : a.length = b.length := by
  unfold alikeS at h
  simp only [Bool.and_eq_true, decide_eq_true_eq] at h
  exact h.2
theorem alike_mem {a b : List Ev} (h : alikeS a b = true) {e : Ev} (he : e ∈ b) : e ∈ a := by
  rw [alike_iff] at h
  have h1 := mem_ofT he
  rw [← h e.t] at h1
  exact (ofT_mem h1).1
theorem nodup_len : ∀ (l1 l2 : List Int), l1.Nodup → (∀ x ∈ l1, x ∈ l2) → l1.length ≤ l2.length := by
  intro l1
  induction l1 with
  | nil => intro _ _ _; simp
  | cons x r ih =>
    intro l2 hn hs
    obtain ⟨hx, hr⟩ := List.nodup_cons.1 hn
    have h1 := ih (l2.erase x) hr (fun y hy => (List.mem_erase_of_ne (show y ≠ x from fun hc => hx (by rw [← hc]; exact hy))).2 (hs y (List.mem_cons_of_mem _ hy)))
    have hm := hs x (List.mem_cons_self ..)
    have h2 := List.length_erase_of_mem hm
    have h3 := List.length_pos_of_mem hm
    rw [List.length_cons]
    omega
theorem alike_names {a b : List Ev} (h : alikeS a b = true) : (namesOf b).length ≤ (namesOf a).length := by
  refine nodup_len _ _ (names_nodup b) fun t ht => ?_
  obtain ⟨e, he, rfl⟩ := (mem_names b t).1 ht
  exact (mem_names a e.t).2 ⟨e, alike_mem h he, rfl⟩
/-- what is alike with what is well formed is so -/
theorem alike_check {a b : List Ev} (h : alikeS a b = true) (hc : (checkS a).2 = 0) : (checkS b).2 = 0 := by
  have hr := (check_agree hc).1
  have hrb : right b = true := by
    simp only [right, Bool.and_eq_true, decide_eq_true_eq, List.all_eq_true] at hr ⊢
    exact ⟨⟨by rw [← alike_len h]; exact hr.1.1, fun e he => hr.1.2 e (alike_mem h he)⟩, Nat.le_trans (alike_names h) hr.2⟩
  rw [(checkS_ok hrb).1]
  rw [(checkS_ok hr).1] at hc
  unfold flw0 at hc ⊢
  rw [flw_tr] at hc ⊢
  intro t
  rw [← (alike_iff a b).1 h t]
  exact hc t
end Go.Proofs.YtnggadcoepieaaaDoor.RPlain
