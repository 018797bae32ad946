/- Merged: CmpA, CmpB. -/
import Derived.Test.YtoemcdcabamgiaaDoorMg10
/- Plain words: choices, and completions. -/
namespace Go.Proofs.YtoemcdcabamgiaaDoor.WPlain
end Go.Proofs.YtoemcdcabamgiaaDoor.WPlain
namespace Go.Proofs.YtoemcdcabamgiaaDoor.QPlain
end Go.Proofs.YtoemcdcabamgiaaDoor.QPlain
namespace Go.Proofs.YtoemcdcabamgiaaDoor.RPlain
open WPlain QPlain

/-- how a transaction is ended, if it is to commit or not -/
def endS (h : List Ev) (t : Int) (b : Bool) : List Ev :=
  if lastOf h t = 7 ∨ lastOf h t = 9 then [] else if lastOf h t = 6 ∧ b = true then [⟨7, t, 0, 0⟩]
  else if lastOf h t = 1 ∨ lastOf h t = 3 ∨ lastOf h t = 5 then [⟨8, t, 0, 0⟩, ⟨9, t, 0, 0⟩] else [⟨9, t, 0, 0⟩]
def tailG (h : List Ev) (n : Nat) : Nat → List Int → List Ev
  | _, [] => []
  | i, t :: r => endS h t (n.testBit i) ++ tailG h n (i + 1) r
def completeS (h : List Ev) (n : Nat) : List Ev := h ++ tailG h n 0 (namesOf h)
/-- is a number a choice? all choices -/
def okBit (s : Int) (b : Bool) : Bool := if b = true then decide (s = 1) || decide (s = 2) else !decide (s = 2)
def choiceG (n : Nat) : Nat → List Tx → Bool
  | _, [] => true
  | i, X :: r => okBit X.s (n.testBit i) && choiceG n (i + 1) r
def choiceS (l : List Tx) (n : Nat) : Bool := choiceG n 0 l && decide (n < 2 ^ l.length)
def choicesS (l : List Tx) : List Nat := (List.range 64).filter (choiceS l)

theorem tailG_snoc (h : List Ev) (n : Nat) : ∀ (ns : List Int) (i : Nat) (t : Int), tailG h n i (ns ++ [t]) = tailG h n i ns ++ endS h t (n.testBit (i + ns.length)) := by
  intro ns
  induction ns with
  | nil => intro i t; simp [tailG]
  | cons x r ih => intro i t; rw [List.cons_append, tailG, tailG, ih, List.append_assoc, List.length_cons, show i + 1 + r.length = i + (r.length + 1) from by omega]
theorem endS_t {h : List Ev} {t : Int} {b : Bool} {e : Ev} (he : e ∈ endS h t b) : e = ⟨7, t, 0, 0⟩ ∨ e = ⟨8, t, 0, 0⟩ ∨ e = ⟨9, t, 0, 0⟩ := by
  unfold endS at he
  split at he
  · cases he
  · split at he
    · exact .inl (List.mem_singleton.1 he)
    · split at he
      · rcases List.mem_cons.1 he with he | he
        · exact .inr (.inl he)
        · exact .inr (.inr (List.mem_singleton.1 he))
      · exact .inr (.inr (List.mem_singleton.1 he))
theorem endS_len (h : List Ev) (t : Int) (b : Bool) : (endS h t b).length ≤ 2 := by
  unfold endS
  split
  · simp
  · split
    · simp
    · split <;> simp
theorem tailG_len (h : List Ev) (n : Nat) : ∀ (ns : List Int) (i : Nat), (tailG h n i ns).length ≤ 2 * ns.length := by
  intro ns
  induction ns with
  | nil => intro i; simp [tailG]
  | cons x r ih =>
    intro i
    have h1 := endS_len h x (n.testBit i)
    have h2 := ih (i + 1)
    rw [tailG, List.length_append, List.length_cons]
    omega
theorem tailG_mem {h : List Ev} {n : Nat} {e : Ev} : ∀ {ns : List Int} {i : Nat}, e ∈ tailG h n i ns → e.t ∈ ns ∧ (e = ⟨7, e.t, 0, 0⟩ ∨ e = ⟨8, e.t, 0, 0⟩ ∨ e = ⟨9, e.t, 0, 0⟩) := by
  intro ns
  induction ns with
  | nil => intro i he; cases he
  | cons x r ih =>
    intro i he
    rw [tailG] at he
    rcases List.mem_append.1 he with he | he
    · have h1 := endS_t he
      have hx : e.t = x := by rcases h1 with h1 | h1 | h1 <;> rw [h1]
      rw [hx]
      exact ⟨List.mem_cons_self .., h1⟩
    · have h1 := ih he
      exact ⟨List.mem_cons_of_mem _ h1.1, h1.2⟩
theorem ofT_append (a b : List Ev) (t : Int) : ofT (a ++ b) t = ofT a t ++ ofT b t := List.filter_append ..
theorem ofT_endS (h : List Ev) (t u : Int) (b : Bool) : ofT (endS h t b) u = if u = t then endS h t b else [] := by
  unfold ofT
  by_cases hu : u = t
  · subst hu
    rw [if_pos rfl, List.filter_eq_self]
    intro e he
    rcases endS_t he with rfl | rfl | rfl <;> simp
  · rw [if_neg hu, List.filter_eq_nil_iff]
    intro e he
    rcases endS_t he with rfl | rfl | rfl <;> simp <;> exact fun hc => hu hc.symm
theorem ofT_tail_none (h : List Ev) (n : Nat) {t : Int} {ns : List Int} {i : Nat} (ht : t ∉ ns) : ofT (tailG h n i ns) t = [] := by
  unfold ofT
  rw [List.filter_eq_nil_iff]
  intro e he hc
  exact ht (by have := (tailG_mem he).1; rwa [show e.t = t from by simpa using hc] at this)
theorem ofT_tail (h : List Ev) (n : Nat) : ∀ {ns : List Int} {i j : Nat}, ns.Nodup → ∀ (hj : j < ns.length), ofT (tailG h n i ns) ns[j] = endS h ns[j] (n.testBit (i + j)) := by
  intro ns
  induction ns with
  | nil => intro i j _ hj; exact absurd hj (by simp)
  | cons x r ih =>
    intro i j hn hj
    obtain ⟨hx, hr⟩ := List.nodup_cons.1 hn
    rw [tailG, ofT_append, ofT_endS]
    cases j with
    | zero =>
      rw [List.getElem_cons_zero, if_pos rfl, ofT_tail_none h n hx, List.append_nil, Nat.add_zero]
    | succ j =>
      have hj' : j < r.length := by simpa using hj
      rw [List.getElem_cons_succ, if_neg (fun hc => hx (by rw [← hc]; exact List.getElem_mem hj')), List.nil_append, ih hr hj', show i + 1 + j = i + (j + 1) from by omega]
theorem names_same {h : List Ev} : ∀ g : List Ev, (∀ e ∈ g, e.t ∈ namesOf h) → namesOf (h ++ g) = namesOf h := by
  intro g
  refine rev_ind (p := fun g => (∀ e ∈ g, e.t ∈ namesOf h) → namesOf (h ++ g) = namesOf h) ?_ ?_ g
  · intro _; rw [List.append_nil]
  · intro g e ih hall
    have h1 := ih (fun x hx => hall x (List.mem_append_left _ hx))
    rw [← List.append_assoc, names_old (by rw [h1]; exact hall e (by simp)), h1]
theorem complete_names (h : List Ev) (n : Nat) : namesOf (completeS h n) = namesOf h := names_same _ fun _ he => (tailG_mem he).1
theorem last_ofT (h : List Ev) (t : Int) : lastOf h t = lastOf (ofT h t) t := (alone_last h t).1.symm
/-- the last event of a transaction, behind its end -/
theorem complete_last (h : List Ev) (n : Nat) {j : Nat} (hj : j < (namesOf h).length) :
    lastOf (completeS h n) (namesOf h)[j] = if lastOf h (namesOf h)[j] = 7 ∨ (lastOf h (namesOf h)[j] = 6 ∧ n.testBit j = true) then 7 else 9 := by
  have h1 := ofT_tail h n (i := 0) (names_nodup h) hj
  rw [Nat.zero_add] at h1
  rw [last_ofT, completeS, ofT_append, h1]
  generalize (namesOf h)[j] = t at *
  generalize n.testBit j = b at *
  have hl := last_ofT h t
  unfold endS
  by_cases h79 : lastOf h t = 7 ∨ lastOf h t = 9
  · rw [if_pos h79, List.append_nil, ← hl]
    rcases h79 with h7 | h9
    · rw [h7]; simp
    · rw [h9]; simp
  · rw [if_neg h79]
    by_cases h6 : lastOf h t = 6 ∧ b = true
    · rw [if_pos h6, lastOf_snoc, if_pos rfl, if_pos (.inr h6)]
    · have h3 : ¬ (lastOf h t = 7 ∨ (lastOf h t = 6 ∧ b = true)) := fun hc => hc.elim (fun hc => h79 (.inl hc)) h6
      rw [if_neg h6, if_neg h3]
      by_cases h5 : lastOf h t = 1 ∨ lastOf h t = 3 ∨ lastOf h t = 5
      · rw [if_pos h5, show ([⟨8, t, 0, 0⟩, ⟨9, t, 0, 0⟩] : List Ev) = [⟨8, t, 0, 0⟩] ++ [⟨9, t, 0, 0⟩] from rfl, ← List.append_assoc, lastOf_snoc, if_pos rfl]
      · rw [if_neg h5, lastOf_snoc, if_pos rfl]
/-- the end may come -/
theorem end_goes {h : List Ev} {t : Int} (hr : -1 ≤ lastOf h t ∧ lastOf h t < 10) (hne : lastOf h t ≠ -1) (b : Bool) : (trS (some (stOfL (lastOf h t))) (endS h t b)).isSome = true := by
  unfold endS
  generalize lastOf h t = k at *
  rcases lasts hr with rfl | rfl | rfl | rfl | rfl | rfl | rfl | rfl | rfl | rfl | rfl <;> first | exact absurd rfl hne | (cases b <;> rfl)
theorem last_some {h : List Ev} {t : Int} (hh : ∀ e ∈ h, 0 ≤ e.k ∧ e.k < 10) (ht : t ∈ namesOf h) : lastOf h t ≠ -1 := by
  revert ht hh
  refine rev_ind (p := fun h => (∀ e ∈ h, 0 ≤ e.k ∧ e.k < 10) → t ∈ namesOf h → lastOf h t ≠ -1) ?_ ?_ h
  · intro _ ht; simp [namesOf] at ht
  · intro h e ih hh ht
    rw [lastOf_snoc]
    by_cases he : e.t = t
    · rw [if_pos he]
      have := hh e (by simp)
      omega
    · rw [if_neg he]
      refine ih (fun x hx => hh x (List.mem_append_left _ hx)) ?_
      rcases (mem_names_snoc h e t).1 ht with hm | hm
      · exact hm
      · exact absurd hm.symm he
theorem name_range {h : List Ev} (hr : right h = true) {t : Int} (ht : t ∈ namesOf h) : 0 ≤ t ∧ t ≤ 9999 := by
  obtain ⟨e, he, rfl⟩ := (mem_names h t).1 ht
  exact ((right_evs hr).2 e he).2
theorem complete_right {h : List Ev} (hr : right h = true) (n : Nat) (hl : (completeS h n).length ≤ 60) : right (completeS h n) = true := by
  have h0 := hr
  simp only [right, Bool.and_eq_true, decide_eq_true_eq, List.all_eq_true] at hr ⊢
  refine ⟨⟨hl, fun e he => ?_⟩, by rw [complete_names]; exact hr.2⟩
  rcases List.mem_append.1 he with he | he
  · exact hr.1.2 e he
  · obtain ⟨hm, hf⟩ := tailG_mem he
    have hb := name_range h0 hm
    generalize e.t = t at *
    have hb' : inB t 0 9999 = true := by simp [inB]; exact hb
    rcases hf with rfl | rfl | rfl <;> simp [evOk, hasV, hasX, inB] <;> simpa using hb
/-- a completion is well formed -/
theorem complete_check {h : List Ev} (hc : (checkS h).2 = 0) (n : Nat) (hl : (completeS h n).length ≤ 60) : (checkS (completeS h n)).2 = 0 ∧ (checkS (completeS h n)).1 = (completeS h n).length := by
  obtain ⟨hr, hA, hok⟩ := check_agree hc
  have hk := (right_evs hr).2
  have hcr := complete_right hr n hl
  have h2 := checkS_ok hcr
  have h3 : (checkS (completeS h n)).2 = 0 := by
    rw [h2.1]
    unfold flw0 completeS
    rw [flw_app]
    unfold flw0 at hok hA
    rw [if_pos hok, flw_tr]
    intro t
    rw [hA t]
    by_cases ht : t ∈ namesOf h
    · obtain ⟨j, hj, rfl⟩ := List.getElem_of_mem ht
      rw [ofT_tail h n (names_nodup h) hj]
      exact end_goes (lastOf_range (fun e he => (hk e he).1) _) (last_some (fun e he => (hk e he).1) ht) _
    · rw [ofT_tail_none h n ht]; rfl
  exact ⟨h3, h2.2 h3⟩
theorem complete_take (h : List Ev) (n : Nat) : (completeS h n).take h.length = h := by unfold completeS; rw [List.take_left']; rfl
theorem after_same (ns : List Int) (f g : Int → Tx) (hall : ∀ t ∈ ns, ∀ u ∈ ns, bfr (f t) (f u) = bfr (g t) (g u)) : afterS (ns.map f) = afterS (ns.map g) := by
  unfold afterS
  rw [List.map_map, List.map_map]
  refine List.map_congr_left fun t ht => ?_
  show afterN (ns.map f) (f t) = afterN (ns.map g) (g t)
  unfold afterN
  rw [List.length_map, List.length_map]
  refine bitsN_congr _ fun k hk => ?_
  rw [List.getElem?_map, List.getElem?_map, List.getElem?_eq_getElem hk]
  exact hall t ht _ (List.getElem_mem hk)
/-- what was before what is so still -/
theorem complete_after {h : List Ev} (hc : (checkS h).2 = 0) (n : Nat) (hl : (completeS h n).length ≤ 60) : afterS (tableS (completeS h n)) = afterS (tableS h) := by
  have h1 := (complete_check hc n hl).1
  have hle : h.length ≤ (completeS h n).length := by unfold completeS; rw [List.length_append]; omega
  have hT : tableS (completeS h n) = (namesOf h).map (txOf (completeS h n)) := by unfold tableS; rw [complete_names]
  rw [hT]
  refine after_same _ _ _ fun t _ u hu => ?_
  have h5 := bfr_take h1 hle (t := t) (u := u) (by rw [complete_take]; exact hu)
  rw [complete_take] at h5
  exact h5
/-- states behind a completion -/
theorem choice_at {n : Nat} : ∀ {l : List Tx} {i j : Nat}, choiceG n i l = true → ∀ (hj : j < l.length), okBit l[j].s (n.testBit (i + j)) = true := by
  intro l
  induction l with
  | nil => intro i j _ hj; exact absurd hj (by simp)
  | cons X r ih =>
    intro i j hc hj
    rw [choiceG, Bool.and_eq_true] at hc
    cases j with
    | zero => exact hc.1
    | succ j =>
      rw [List.getElem_cons_succ, show i + (j + 1) = i + 1 + j from by omega]
      exact ih hc.2 (by simpa using hj)
theorem complete_state {h : List Ev} (n : Nat) (hn : choiceS (tableS h) n = true) {j : Nat} (hj : j < (namesOf h).length) :
    ((txOf (completeS h n) (namesOf h)[j]).s = 2 ↔ n.testBit j = true) ∧ 2 ≤ (txOf (completeS h n) (namesOf h)[j]).s := by
  have h1 : choiceG n 0 (tableS h) = true := by unfold choiceS at hn; rw [Bool.and_eq_true] at hn; exact hn.1
  have h2 := choice_at h1 (j := j) (by rw [tableS_len]; exact hj)
  rw [tableS_get hj, Nat.zero_add] at h2
  unfold txOf at h2 ⊢
  dsimp only at h2 ⊢
  rw [complete_last h n hj]
  generalize lastOf h (namesOf h)[j] = k at *
  generalize n.testBit j = b at *
  unfold stateS okBit at *
  cases b
  · by_cases h7 : k = 7
    · subst h7; simp at h2
    · simp [h7]
  · by_cases h7 : k = 7
    · simp [h7]
    · by_cases h6 : k = 6
      · simp [h6]
      · by_cases h9 : k = 9
        · subst h9; simp at h2
        · simp [h7, h6, h9] at h2
end Go.Proofs.YtoemcdcabamgiaaDoor.RPlain
/- Plain words: how many choices there are, the first and the last. -/
namespace Go.Proofs.YtoemcdcabamgiaaDoor.WPlain
end Go.Proofs.YtoemcdcabamgiaaDoor.WPlain
namespace Go.Proofs.YtoemcdcabamgiaaDoor.QPlain
end Go.Proofs.YtoemcdcabamgiaaDoor.QPlain
namespace Go.Proofs.YtoemcdcabamgiaaDoor.RPlain
open WPlain QPlain

def isOpen (X : Tx) : Bool := decide (X.s = 1)
def openN (l : List Tx) : Nat := (l.filter isOpen).length
theorem choiceG_snoc (m : Nat) : ∀ (l : List Tx) (i : Nat) (X : Tx), choiceG m i (l ++ [X]) = (choiceG m i l && okBit X.s (m.testBit (i + l.length))) := by
  intro l
  induction l with
  | nil => intro i X; simp [choiceG]
  | cons Y r ih => intro i X; rw [List.cons_append, choiceG, choiceG, ih, List.length_cons, show i + 1 + r.length = i + (r.length + 1) from by omega, Bool.and_assoc]
theorem choiceG_congr {m m' : Nat} : ∀ (l : List Tx) (i : Nat), (∀ j, j < i + l.length → m.testBit j = m'.testBit j) → choiceG m i l = choiceG m' i l := by
  intro l
  induction l with
  | nil => intro i _; rfl
  | cons Y r ih =>
    intro i h
    rw [List.length_cons] at h
    rw [choiceG, choiceG, ih (i + 1) (fun j hj => h j (by omega)), h i (by omega)]
def chL (l : List Tx) : List Nat := (List.range (2 ^ l.length)).filter fun m => choiceG m 0 l
theorem chL_snoc (l : List Tx) (X : Tx) : chL (l ++ [X]) = (if X.s = 2 then [] else chL l) ++ (if X.s = 1 ∨ X.s = 2 then (chL l).map (2 ^ l.length + ·) else []) := by
  unfold chL
  rw [List.length_append, List.length_singleton, Nat.pow_succ, Nat.mul_two, List.range_add, List.filter_append, List.filter_map]
  have h1 : ∀ m ∈ List.range (2 ^ l.length), choiceG m 0 (l ++ [X]) = (choiceG m 0 l && !decide (X.s = 2)) := fun m hm => by
    have hlt := List.mem_range.1 hm
    rw [choiceG_snoc, Nat.zero_add, Nat.testBit_lt_two_pow hlt]
    rfl
  have h2 : ∀ m ∈ List.range (2 ^ l.length), ((fun m => choiceG m 0 (l ++ [X])) ∘ (2 ^ l.length + ·)) m = (choiceG m 0 l && (decide (X.s = 1) || decide (X.s = 2))) := fun m hm => by
    have hlt := List.mem_range.1 hm
    show choiceG (2 ^ l.length + m) 0 (l ++ [X]) = _
    rw [choiceG_snoc, Nat.zero_add, Nat.testBit_two_pow_add_eq, Nat.testBit_lt_two_pow hlt, choiceG_congr (m' := m) l 0 (fun j hj => Nat.testBit_two_pow_add_gt (by omega) m)]
    rfl
  rw [List.filter_congr h1, List.filter_congr h2]
  congr 1
  · by_cases h : X.s = 2
    · simp [h]
    · simp [h]
  · by_cases h : X.s = 1 ∨ X.s = 2
    · rw [if_pos h]
      have : (decide (X.s = 1) || decide (X.s = 2)) = true := by simpa using h
      rw [this]
      simp
    · rw [if_neg h]
      have : (decide (X.s = 1) || decide (X.s = 2)) = false := by simpa using h
      rw [this]
      simp
theorem snocT {p : List Tx → Prop} (h0 : p []) (h1 : ∀ l X, p l → p (l ++ [X])) (l : List Tx) : p l := by
  rw [← List.reverse_reverse l]
  induction l.reverse with
  | nil => exact h0
  | cons e r ih => rw [List.reverse_cons]; exact h1 _ _ ih
theorem chL_len (l : List Tx) : (chL l).length = 2 ^ openN l := by
  refine snocT (p := fun l => (chL l).length = 2 ^ openN l) rfl ?_ l
  intro l X ih
  rw [chL_snoc, List.length_append]
  unfold openN at *
  rw [List.filter_append, List.length_append]
  by_cases h1 : X.s = 1
  · rw [if_neg (by omega), if_pos (.inl h1), List.length_map, ih]
    have : [X].filter isOpen = [X] := by simp [isOpen, h1]
    rw [this, List.length_singleton, Nat.pow_succ]
    omega
  · have : [X].filter isOpen = [] := by simp [isOpen, h1]
    rw [this, List.length_nil, Nat.add_zero]
    by_cases h2 : X.s = 2
    · rw [if_pos h2, if_pos (.inr h2), List.length_map, ih]; simp
    · rw [if_neg h2, if_neg (by omega), ih]; simp
theorem choices_chL {l : List Tx} (h6 : l.length ≤ 6) : choicesS l = chL l := by
  unfold choicesS chL choiceS
  have hp : 2 ^ l.length ≤ 64 := Nat.pow_le_pow_right (n := 2) (i := l.length) (j := 6) (by decide) h6
  obtain ⟨d, hd⟩ : ∃ d, 64 = 2 ^ l.length + d := ⟨64 - 2 ^ l.length, by omega⟩
  rw [hd, List.range_add, List.filter_append]
  have h1 : ((List.range d).map (2 ^ l.length + ·)).filter (fun n => choiceG n 0 l && decide (n < 2 ^ l.length)) = [] := by
    rw [List.filter_eq_nil_iff]
    intro m hm
    obtain ⟨x, _, rfl⟩ := List.mem_map.1 hm
    simp
  rw [h1, List.append_nil]
  refine List.filter_congr fun m hm => ?_
  rw [decide_eq_true (List.mem_range.1 hm), Bool.and_true]
theorem chL_rise (l : List Tx) : (chL l).Pairwise (· < ·) := List.Pairwise.filter _ List.pairwise_lt_range
theorem mem_chL {l : List Tx} {m : Nat} : m ∈ chL l ↔ m < 2 ^ l.length ∧ choiceG m 0 l = true := by unfold chL; rw [List.mem_filter, List.mem_range]
/-- those that must be in, those that may -/
def loN (l : List Tx) : Nat := bitsN (fun k => match l[k]? with | some X => decide (X.s = 2) | none => false) l.length
def hiN (l : List Tx) : Nat := bitsN (fun k => match l[k]? with | some X => decide (X.s = 1) || decide (X.s = 2) | none => false) l.length
theorem choiceG_of {m : Nat} : ∀ {l : List Tx} {i : Nat}, (∀ j (hj : j < l.length), okBit l[j].s (m.testBit (i + j)) = true) → choiceG m i l = true := by
  intro l
  induction l with
  | nil => intro i _; rfl
  | cons X r ih =>
    intro i h
    rw [choiceG, Bool.and_eq_true]
    refine ⟨h 0 (by simp), ih fun j hj => ?_⟩
    have := h (j + 1) (by simpa using hj)
    rwa [List.getElem_cons_succ, show i + (j + 1) = i + 1 + j from by omega] at this
theorem lo_mem (l : List Tx) : loN l ∈ chL l := by
  refine mem_chL.2 ⟨bitsN_lt _ _, choiceG_of fun j hj => ?_⟩
  unfold loN
  rw [Nat.zero_add, bitsN_test, List.getElem?_eq_getElem hj, decide_eq_true hj]
  by_cases h : l[j].s = 2 <;> simp [okBit, h]
theorem hi_mem (l : List Tx) : hiN l ∈ chL l := by
  refine mem_chL.2 ⟨bitsN_lt _ _, choiceG_of fun j hj => ?_⟩
  unfold hiN
  rw [Nat.zero_add, bitsN_test, List.getElem?_eq_getElem hj, decide_eq_true hj]
  by_cases h : l[j].s = 2
  · simp [okBit, h]
  · by_cases h1 : l[j].s = 1 <;> simp [okBit, h, h1]
theorem lo_in {l : List Tx} {m : Nat} (hm : m ∈ chL l) : m &&& loN l = loN l := by
  refine Nat.eq_of_testBit_eq fun j => ?_
  rw [Nat.testBit_and]
  unfold loN
  rw [bitsN_test]
  by_cases hj : j < l.length
  · have h1 := choice_at (mem_chL.1 hm).2 hj
    rw [Nat.zero_add] at h1
    rw [List.getElem?_eq_getElem hj, decide_eq_true hj]
    by_cases h : l[j].s = 2
    · cases hb : m.testBit j with
      | true => simp [h]
      | false => rw [hb] at h1; simp [okBit, h] at h1
    · simp [h]
  · simp [hj]
theorem in_hi {l : List Tx} {m : Nat} (hm : m ∈ chL l) : m &&& hiN l = m := by
  refine Nat.eq_of_testBit_eq fun j => ?_
  rw [Nat.testBit_and]
  unfold hiN
  rw [bitsN_test]
  by_cases hj : j < l.length
  · have h1 := choice_at (mem_chL.1 hm).2 hj
    rw [Nat.zero_add] at h1
    rw [List.getElem?_eq_getElem hj, decide_eq_true hj]
    cases hb : m.testBit j with
    | false => simp
    | true => rw [hb] at h1; simpa [okBit] using h1
  · have : m.testBit j = false := Nat.testBit_lt_two_pow (Nat.lt_of_lt_of_le (mem_chL.1 hm).1 (Nat.pow_le_pow_right (by decide) (by omega)))
    rw [this, Bool.false_and]
theorem chL_pos (l : List Tx) : 0 < (chL l).length := List.length_pos_of_mem (lo_mem l)
theorem rise_get {l : List Nat} (h : l.Pairwise (· < ·)) {i j : Nat} (hi : i ≤ j) (hj : j < l.length) : l[i]'(by omega) ≤ l[j] := by
  by_cases he : i = j
  · subst he; exact Nat.le_refl _
  · exact Nat.le_of_lt (List.pairwise_iff_getElem.1 h i j (by omega) hj (by omega))
theorem chL_first (l : List Tx) : (chL l)[0]'(chL_pos l) = loN l := by
  have hm := List.getElem_mem (chL_pos l)
  have h1 : loN l ≤ (chL l)[0]'(chL_pos l) := by have := lo_in hm; rw [← this]; exact Nat.and_le_left
  obtain ⟨j, hj, he⟩ := List.getElem_of_mem (lo_mem l)
  have h2 := rise_get (chL_rise l) (Nat.zero_le j) hj
  omega
theorem chL_last (l : List Tx) : (chL l)[(chL l).length - 1]'(by have := chL_pos l; omega) = hiN l := by
  have hlt : (chL l).length - 1 < (chL l).length := by have := chL_pos l; omega
  have hm := List.getElem_mem hlt
  have h1 : (chL l)[(chL l).length - 1]'hlt ≤ hiN l := by have := in_hi hm; rw [← this]; exact Nat.and_le_right
  obtain ⟨j, hj, he⟩ := List.getElem_of_mem (hi_mem l)
  have h2 := rise_get (chL_rise l) (show j ≤ (chL l).length - 1 by omega) hlt
  omega
/-- how many bits are 1, of the first six -/
def pcN (m : Nat) : Nat := ((List.range 6).filter m.testBit).length
theorem cnt_range (q : Tx → Bool) (l : List Tx) : ((List.range l.length).filter fun k => match l[k]? with | some X => q X | none => false).length = (l.filter q).length := by
  refine snocT (p := fun l => ((List.range l.length).filter fun k => match l[k]? with | some X => q X | none => false).length = (l.filter q).length) rfl ?_ l
  intro l X ih
  rw [List.length_append, List.length_singleton, List.range_succ, List.filter_append, List.length_append, List.filter_append, List.length_append]
  have h1 : ∀ k ∈ List.range l.length, (match (l ++ [X])[k]? with | some X => q X | none => false) = (match l[k]? with | some X => q X | none => false) := fun k hk => by
    rw [List.getElem?_append_left (List.mem_range.1 hk)]
  rw [List.filter_congr h1, ih]
  congr 1
  have h2 : (l ++ [X])[l.length]? = some X := by simp
  cases hq : q X <;> simp [hq]
theorem pc_bits (q : Tx → Bool) {l : List Tx} (h6 : l.length ≤ 6) : pcN (bitsN (fun k => match l[k]? with | some X => q X | none => false) l.length) = (l.filter q).length := by
  rw [← cnt_range]
  unfold pcN
  obtain ⟨d, hd⟩ : ∃ d, 6 = l.length + d := ⟨6 - l.length, by omega⟩
  rw [hd, List.range_add, List.filter_append]
  have h1 : ((List.range d).map (l.length + ·)).filter (bitsN (fun k => match l[k]? with | some X => q X | none => false) l.length).testBit = [] := by
    rw [List.filter_eq_nil_iff]
    intro m hm
    obtain ⟨x, _, rfl⟩ := List.mem_map.1 hm
    rw [bitsN_test]
    simp
  rw [h1, List.append_nil]
  congr 1
  refine List.filter_congr fun k hk => ?_
  rw [bitsN_test, decide_eq_true (List.mem_range.1 hk), Bool.true_and]
theorem pc_open {l : List Tx} (h6 : l.length ≤ 6) : pcN (hiN l) = pcN (loN l) + openN l := by
  unfold hiN loN openN
  rw [pc_bits (fun X => decide (X.s = 1) || decide (X.s = 2)) h6, pc_bits (fun X => decide (X.s = 2)) h6]
  clear h6
  induction l with
  | nil => rfl
  | cons X r ih =>
    rw [List.filter_cons, List.filter_cons, List.filter_cons]
    by_cases h1 : X.s = 1
    · simp [isOpen, h1, ih]; omega
    · by_cases h2 : X.s = 2
      · simp [isOpen, h2, ih]; omega
      · simp [isOpen, h1, h2, ih]
end Go.Proofs.YtoemcdcabamgiaaDoor.RPlain
