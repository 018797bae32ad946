/- Merged: OrdF, OrdG, CmpA. -/
import Derived.Test.YtjefmfbncjdofaaDoorOrdE
import Derived.Test.YtjefmfbncjdofaaDoorMg9
import Derived.BigQuiet
/- The walks of package order's afterOf, Before and Keeps. -/
namespace Go.Proofs.YtjefmfbncjdofaaDoor.WPlain
end Go.Proofs.YtjefmfbncjdofaaDoor.WPlain
namespace Go.Proofs.YtjefmfbncjdofaaDoor.QPlain
end Go.Proofs.YtjefmfbncjdofaaDoor.QPlain
namespace Go.Proofs.YtjefmfbncjdofaaDoor.RPlain
end Go.Proofs.YtjefmfbncjdofaaDoor.RPlain
namespace Go.Proofs.YtjefmfbncjdofaaDoor
open Go.RowKit WPlain QPlain RPlain

/-- is there no transaction of a place? -/
def noneB (n : Nat) (x : Int) : Bool := decide (x < 0) || decide ((n : Int) ≤ x)
theorem none_there (l : List Tx) (row : List Int) : row.any (noneB l.length) = !(thereS l row) := by
  unfold thereS
  rw [List.not_all_eq_any_not]
  refine congrArg (fun p => row.any p) (funext fun x => ?_)
  unfold noneB
  by_cases h1 : x < 0
  · simp [h1]
  · by_cases h2 : (l.length : Int) ≤ x
    · simp [h1, h2]
    · simp [h1, h2]; omega
/-- the error of places of events -/
def errP (h : List Ev) (row : List Int) : Nat := if (checkS h).2 = 0 then (if thereS (tableS h) row = true then 0 else 7) else (checkS h).2
end Go.Proofs.YtjefmfbncjdofaaDoor
/- The walks of package order's Before and Keeps. -/
namespace Go.Proofs.YtjefmfbncjdofaaDoor.WPlain
end Go.Proofs.YtjefmfbncjdofaaDoor.WPlain
namespace Go.Proofs.YtjefmfbncjdofaaDoor.QPlain
end Go.Proofs.YtjefmfbncjdofaaDoor.QPlain
namespace Go.Proofs.YtjefmfbncjdofaaDoor.RPlain
end Go.Proofs.YtjefmfbncjdofaaDoor.RPlain
namespace Go.Proofs.YtjefmfbncjdofaaDoor.RPlain
open WPlain QPlain

/-- places that are there are numbers -/
theorem row_nats {l : List Tx} {row : List Int} (h : thereS l row = true) : ∃ rn : List Nat, row = rn.map (fun x : Nat => (x : Int)) ∧ ∀ b ∈ rn, b < l.length := by
  have h1 := (thereS_iff l row).1 h
  refine ⟨row.map Int.toNat, ?_, ?_⟩
  · refine List.ext_getElem (by simp) fun i h2 h3 => ?_
    have := (h1 row[i] (List.getElem_mem h2)).1
    simp
    omega
  · intro b hb
    obtain ⟨x, hx, rfl⟩ := List.mem_map.1 hb
    have := h1 x hx
    omega
theorem take_getElem_mem {α : Type} {l : List α} {k : Nat} {b : α} (h : b ∈ l.take k) : ∃ (j : Nat) (hj : j < l.length), j < k ∧ l[j] = b := by
  obtain ⟨j, hj, rfl⟩ := List.mem_take_iff_getElem.1 h
  exact ⟨j, by omega, by omega, rfl⟩
theorem clash_next {l : List Tx} {rn : List Nat} (hr : ∀ b ∈ rn, b < l.length) {k : Nat} (hk : k < rn.length) (h : okTo l (rn.map (fun x : Nat => (x : Int))) k)
    (hp : rn[k] < l.length) (hz : aheadN (rn.take k) &&& (2 ^ rn[k] ||| afterN l l[rn[k]]) = 0) : okTo l (rn.map (fun x : Nat => (x : Int))) (k + 1) := by
  refine okTo_next (by simpa using hk) h fun b hb => ?_
  have h1 := (clash_iff l (rn.take k) (fun b hb => hr b (List.mem_of_mem_take hb)) hp).1 hz rn[b] (List.mem_take_iff_getElem.2 ⟨b, by omega, rfl⟩)
  simpa using h1
theorem clash_not {l : List Tx} {rn : List Nat} (hr : ∀ b ∈ rn, b < l.length) {k : Nat} (hk : k < rn.length)
    (hp : rn[k] < l.length) (hz : aheadN (rn.take k) &&& (2 ^ rn[k] ||| afterN l l[rn[k]]) ≠ 0) : keepsS l (rn.map (fun x : Nat => (x : Int))) = false := by
  by_cases hall : ∀ b ∈ rn.take k, badP l (rn[k] : Int) (b : Int) = false
  · exact absurd ((clash_iff l (rn.take k) (fun b hb => hr b (List.mem_of_mem_take hb)) hp).2 hall) hz
  · simp only [Classical.not_forall] at hall
    obtain ⟨b, hb, hbad⟩ := hall
    obtain ⟨j, hj, hjk, rfl⟩ := take_getElem_mem hb
    refine keeps_not (i := k) (j := j) (by simpa using hk) hjk ?_
    simpa using hbad
theorem pow_32 {n x : Nat} (hn : n ≤ 6) (hx : x < 2 ^ n) : x < 4294967296 :=
  Nat.lt_of_lt_of_le hx (Nat.pow_le_pow_right (n := 2) (i := n) (j := 32) (by decide) (by omega))
theorem two_32 {n k : Nat} (hn : n ≤ 6) (hk : k < n) : 2 ^ k < 4294967296 := Nat.pow_lt_pow_right (a := 2) (m := k) (n := 32) (by decide) (by omega)
end Go.Proofs.YtjefmfbncjdofaaDoor.RPlain
namespace Go.Proofs.YtjefmfbncjdofaaDoor
open Go.RowKit WPlain QPlain RPlain

/-- what Before answers; what Keeps does -/
def befS (h : List Ev) (i k : Int) : Bool := if errP h [i, k] = 0 then bfrAt (tableS h) i.toNat k.toNat else false
def kepS (h : List Ev) (row : List Int) : Bool := if errP h row = 0 then keepsS (tableS h) row else false
theorem errP_zero {h : List Ev} {row : List Int} (h0 : errP h row = 0) : (checkS h).2 = 0 ∧ thereS (tableS h) row = true := by
  unfold errP at h0
  by_cases h1 : (checkS h).2 = 0
  · rw [if_pos h1] at h0
    refine ⟨h1, ?_⟩
    cases ht : thereS (tableS h) row with
    | true => rfl
    | false => rw [ht] at h0; simp at h0
  · rw [if_neg h1] at h0
    exact absurd h0 h1
theorem bit_all (k : Nat) (hk : k < 32) : Hid (∀ w, Calls Tryd.prog 67 #[.int .i64 (k : Int)] w fun e w' => e = .returned (.int .u32 ((2 ^ k : Nat) : Int)) ∧ w' = w) := fun w => bit_any k hk w
end Go.Proofs.YtjefmfbncjdofaaDoor
/- Plain words: choices, and completions. -/
namespace Go.Proofs.YtjefmfbncjdofaaDoor.WPlain
end Go.Proofs.YtjefmfbncjdofaaDoor.WPlain
namespace Go.Proofs.YtjefmfbncjdofaaDoor.QPlain
end Go.Proofs.YtjefmfbncjdofaaDoor.QPlain
namespace Go.Proofs.YtjefmfbncjdofaaDoor.RPlain
open WPlain QPlain

/-- how a transaction is ended, if it is to commit or not -/
def endS (h : List Ev) (t : Int) (b : Bool) : List Ev :=
  if lastOf h t = 7 ∨ lastOf h t = 9 then [] else if lastOf h t = 6 ∧ b = true then [⟨7, t, 0, 0⟩]
  else if lastOf h t = 1 ∨ lastOf h t = 3 ∨ lastOf h t = 5 then [⟨8, t, 0, 0⟩, ⟨9, t, 0, 0⟩] else [⟨9, t, 0, 0⟩]
def tailG (h : List Ev) (n : Nat) : Nat → List Int → List Ev
  | _, [] => []
  | i, t :: r => endS h t (n.testBit i) ++ tailG h n (i + 1) r
def completeS (h : List Ev) (n : Nat) : List Ev := h ++ tailG h n 0 (namesOf h)
/-- is a number a choice? all choices -/
def okBit (s : Int) (b : Bool) : Bool := if b = true then decide (s = 1) || decide (s = 2) else !decide (s = 2)
def choiceG (n : Nat) : Nat → List Tx → Bool
  | _, [] => true
  | i, X :: r => okBit X.s (n.testBit i) && choiceG n (i + 1) r
def choiceS (l : List Tx) (n : Nat) : Bool := choiceG n 0 l && decide (n < 2 ^ l.length)
def choicesS (l : List Tx) : List Nat := (List.range 64).filter (choiceS l)

theorem tailG_snoc (h : List Ev) (n : Nat) : ∀ (ns : List Int) (i : Nat) (t : Int), tailG h n i (ns ++ [t]) = tailG h n i ns ++ endS h t (n.testBit (i + ns.length)) := by
  intro ns
  induction ns with
  | nil => intro i t; simp [tailG]
  | cons x r ih => intro i t; rw [List.cons_append, tailG, tailG, ih, List.append_assoc, List.length_cons, show i + 1 + r.length = i + (r.length + 1) from by omega]
theorem endS_t {h : List Ev} {t : Int} {b : Bool} {e : Ev} (he : e ∈ endS h t b) : e = ⟨7, t, 0, 0⟩ ∨ e = ⟨8, t, 0, 0⟩ ∨ e = ⟨9, t, 0, 0⟩ := by
  unfold endS at he
  split at he
  · cases he
  · split at he
    · exact .inl (List.mem_singleton.1 he)
    · split at he
      · rcases List.mem_cons.1 he with he | he
        · exact .inr (.inl he)
        · exact .inr (.inr (List.mem_singleton.1 he))
      · exact .inr (.inr (List.mem_singleton.1 he))
theorem endS_len (h : List Ev) (t : Int) (b : Bool) : (endS h t b).length ≤ 2 := by
  unfold endS
  split
  · simp
  · split
    · simp
    · split <;> simp
theorem tailG_len (h : List Ev) (n : Nat) : ∀ (ns : List Int) (i : Nat), (tailG h n i ns).length ≤ 2 * ns.length := by
  intro ns
  induction ns with
  | nil => intro i; simp [tailG]
  | cons x r ih =>
    intro i
    have h1 := endS_len h x (n.testBit i)
    have h2 := ih (i + 1)
    rw [tailG, List.length_append, List.length_cons]
    omega
theorem tailG_mem {h : List Ev} {n : Nat} {e : Ev} : ∀ {ns : List Int} {i : Nat}, e ∈ tailG h n i ns → e.t ∈ ns ∧ (e = ⟨7, e.t, 0, 0⟩ ∨ e = ⟨8, e.t, 0, 0⟩ ∨ e = ⟨9, e.t, 0, 0⟩) := by
  intro ns
  induction ns with
  | nil => intro i he; cases he
  | cons x r ih =>
    intro i he
    rw [tailG] at he
    rcases List.mem_append.1 he with he | he
    · have h1 := endS_t he
      have hx : e.t = x := by rcases h1 with h1 | h1 | h1 <;> rw [h1]
      rw [hx]
      exact ⟨List.mem_cons_self .., h1⟩
    · have h1 := ih he
      exact ⟨List.mem_cons_of_mem _ h1.1, h1.2⟩
theorem ofT_append (a b : List Ev) (t : Int) : ofT (a ++ b) t = ofT a t ++ ofT b t := List.filter_append ..
theorem ofT_endS (h : List Ev) (t u : Int) (b : Bool) : ofT (endS h t b) u = if u = t then endS h t b else [] := by
  unfold ofT
  by_cases hu : u = t
  · subst hu
    rw [if_pos rfl, List.filter_eq_self]
    intro e he
    rcases endS_t he with rfl | rfl | rfl <;> simp
  · rw [if_neg hu, List.filter_eq_nil_iff]
    intro e he
    rcases endS_t he with rfl | rfl | rfl <;> simp <;> exact fun hc => hu hc.symm
theorem ofT_tail_none (h : List Ev) (n : Nat) {t : Int} {ns : List Int} {i : Nat} (ht : t ∉ ns) : ofT (tailG h n i ns) t = [] := by
  unfold ofT
  rw [List.filter_eq_nil_iff]
  intro e he hc
  exact ht (by have := (tailG_mem he).1; rwa [show e.t = t from by simpa using hc] at this)
theorem ofT_tail (h : List Ev) (n : Nat) : ∀ {ns : List Int} {i j : Nat}, ns.Nodup → ∀ (hj : j < ns.length), ofT (tailG h n i ns) ns[j] = endS h ns[j] (n.testBit (i + j)) := by
  intro ns
  induction ns with
  | nil => intro i j _ hj; exact absurd hj (by simp)
  | cons x r ih =>
    intro i j hn hj
    obtain ⟨hx, hr⟩ := List.nodup_cons.1 hn
    rw [tailG, ofT_append, ofT_endS]
    cases j with
    | zero =>
      rw [List.getElem_cons_zero, if_pos rfl, ofT_tail_none h n hx, List.append_nil, Nat.add_zero]
    | succ j =>
      have hj' : j < r.length := by simpa using hj
      rw [List.getElem_cons_succ, if_neg (fun hc => hx (by rw [← hc]; exact List.getElem_mem hj')), List.nil_append, ih hr hj', show i + 1 + j = i + (j + 1) from by omega]
theorem names_same {h : List Ev} : ∀ g : List Ev, (∀ e ∈ g, e.t ∈ namesOf h) → namesOf (h ++ g) = namesOf h := by
  intro g
  refine rev_ind (p := fun g => (∀ e ∈ g, e.t ∈ namesOf h) → namesOf (h ++ g) = namesOf h) ?_ ?_ g
  · intro _; rw [List.append_nil]
  · intro g e ih hall
    have h1 := ih (fun x hx => hall x (List.mem_append_left _ hx))
    rw [← List.append_assoc, names_old (by rw [h1]; exact hall e (by simp)), h1]
theorem complete_names (h : List Ev) (n : Nat) : namesOf (completeS h n) = namesOf h := names_same _ fun _ he => (tailG_mem he).1
theorem last_ofT (h : List Ev) (t : Int) : lastOf h t = lastOf (ofT h t) t := (alone_last h t).1.symm
/-- the last event of a transaction, behind its end -/
theorem complete_last (h : List Ev) (n : Nat) {j : Nat} (hj : j < (namesOf h).length) :
    lastOf (completeS h n) (namesOf h)[j] = if lastOf h (namesOf h)[j] = 7 ∨ (lastOf h (namesOf h)[j] = 6 ∧ n.testBit j = true) then 7 else 9 := by
  have h1 := ofT_tail h n (i := 0) (names_nodup h) hj
  rw [Nat.zero_add] at h1
  rw [last_ofT, completeS, ofT_append, h1]
  generalize (namesOf h)[j] = t at *
  generalize n.testBit j = b at *
  have hl := last_ofT h t
  unfold endS
  by_cases h79 : lastOf h t = 7 ∨ lastOf h t = 9
  · rw [if_pos h79, List.append_nil, ← hl]
    rcases h79 with h7 | h9
    · rw [h7]; simp
    · rw [h9]; simp
  · rw [if_neg h79]
    by_cases h6 : lastOf h t = 6 ∧ b = true
    · rw [if_pos h6, lastOf_snoc, if_pos rfl, if_pos (.inr h6)]
    · have h3 : ¬ (lastOf h t = 7 ∨ (lastOf h t = 6 ∧ b = true)) := fun hc => hc.elim (fun hc => h79 (.inl hc)) h6
      rw [if_neg h6, if_neg h3]
      by_cases h5 : lastOf h t = 1 ∨ lastOf h t = 3 ∨ lastOf h t = 5
      · rw [if_pos h5, show ([⟨8, t, 0, 0⟩, ⟨9, t, 0, 0⟩] : List Ev) = [⟨8, t, 0, 0⟩] ++ [⟨9, t, 0, 0⟩] from rfl, ← List.append_assoc, lastOf_snoc, if_pos rfl]
      · rw [if_neg h5, lastOf_snoc, if_pos rfl]
/-- the end may come -/
theorem end_goes {h : List Ev} {t : Int} (hr : -1 ≤ lastOf h t ∧ lastOf h t < 10) (hne : lastOf h t ≠ -1) (b : Bool) : (trS (some (stOfL (lastOf h t))) (endS h t b)).isSome = true := by
  unfold endS
  generalize lastOf h t = k at *
  rcases lasts hr with rfl | rfl | rfl | rfl | rfl | rfl | rfl | rfl | rfl | rfl | rfl <;> first | exact absurd rfl hne | (cases b <;> rfl)
theorem last_some {h : List Ev} {t : Int} (hh : ∀ e ∈ h, 0 ≤ e.k ∧ e.k < 10) (ht : t ∈ namesOf h) : lastOf h t ≠ -1 := by
  revert ht hh
  refine rev_ind (p := fun h => (∀ e ∈ h, 0 ≤ e.k ∧ e.k < 10) → t ∈ namesOf h → lastOf h t ≠ -1) ?_ ?_ h
  · intro _ ht; simp [namesOf] at ht
  · intro h e ih hh ht
    rw [lastOf_snoc]
    by_cases he : e.t = t
    · rw [if_pos he]
      have := hh e (by simp)
      omega
    · rw [if_neg he]
      refine ih (fun x hx => hh x (List.mem_append_left _ hx)) ?_
      rcases (mem_names_snoc h e t).1 ht with hm | hm
      · exact hm
      · exact absurd hm.symm he
theorem name_range {h : List Ev} (hr : right h = true) {t : Int} (ht : t ∈ namesOf h) : 0 ≤ t ∧ t ≤ 9999 := by
  obtain ⟨e, he, rfl⟩ := (mem_names h t).1 ht
  exact ((right_evs hr).2 e he).2
theorem complete_right {h : List Ev} (hr : right h = true) (n : Nat) (hl : (completeS h n).length ≤ 60) : right (completeS h n) = true := by
  have h0 := hr
  simp only [right, Bool.and_eq_true, decide_eq_true_eq, List.all_eq_true] at hr ⊢
  refine ⟨⟨hl, fun e he => ?_⟩, by rw [complete_names]; exact hr.2⟩
  rcases List.mem_append.1 he with he | he
  · exact hr.1.2 e he
  · obtain ⟨hm, hf⟩ := tailG_mem he
    have hb := name_range h0 hm
    generalize e.t = t at *
    have hb' : inB t 0 9999 = true := by simp [inB]; exact hb
    rcases hf with rfl | rfl | rfl <;> simp [evOk, hasV, hasX, inB] <;> simpa using hb
/-- a completion is well formed -/
theorem complete_check {h : List Ev} (hc : (checkS h).2 = 0) (n : Nat) (hl : (completeS h n).length ≤ 60) : (checkS (completeS h n)).2 = 0 ∧ (checkS (completeS h n)).1 = (completeS h n).length := by
  obtain ⟨hr, hA, hok⟩ := check_agree hc
  have hk := (right_evs hr).2
  have hcr := complete_right hr n hl
  have h2 := checkS_ok hcr
  have h3 : (checkS (completeS h n)).2 = 0 := by
    rw [h2.1]
    unfold flw0 completeS
    rw [flw_app]
    unfold flw0 at hok hA
    rw [if_pos hok, flw_tr]
    intro t
    rw [hA t]
    by_cases ht : t ∈ namesOf h
    · obtain ⟨j, hj, rfl⟩ := List.getElem_of_mem ht
      rw [ofT_tail h n (names_nodup h) hj]
      exact end_goes (lastOf_range (fun e he => (hk e he).1) _) (last_some (fun e he => (hk e he).1) ht) _
    · rw [ofT_tail_none h n ht]; rfl
  exact ⟨h3, h2.2 h3⟩
theorem complete_take (h : List Ev) (n : Nat) : (completeS h n).take h.length = h := by unfold completeS; rw [List.take_left']; rfl
theorem after_same (ns : List Int) (f g : Int → Tx) (hall : ∀ t ∈ ns, ∀ u ∈ ns, bfr (f t) (f u) = bfr (g t) (g u)) : afterS (ns.map f) = afterS (ns.map g) := by
  unfold afterS
  rw [List.map_map, List.map_map]
  refine List.map_congr_left fun t ht => ?_
  show afterN (ns.map f) (f t) = afterN (ns.map g) (g t)
  unfold afterN
  rw [List.length_map, List.length_map]
  refine bitsN_congr _ fun k hk => ?_
  rw [List.getElem?_map, List.getElem?_map, List.getElem?_eq_getElem hk]
  exact hall t ht _ (List.getElem_mem hk)
/-- what was before what is so still -/
theorem complete_after {h : List Ev} (hc : (checkS h).2 = 0) (n : Nat) (hl : (completeS h n).length ≤ 60) : afterS (tableS (completeS h n)) = afterS (tableS h) := by
  have h1 := (complete_check hc n hl).1
  have hle : h.length ≤ (completeS h n).length := by unfold completeS; rw [List.length_append]; omega
  have hT : tableS (completeS h n) = (namesOf h).map (txOf (completeS h n)) := by unfold tableS; rw [complete_names]
  rw [hT]
  refine after_same _ _ _ fun t _ u hu => ?_
  have h5 := bfr_take h1 hle (t := t) (u := u) (by rw [complete_take]; exact hu)
  rw [complete_take] at h5
  exact h5
/-- states behind a completion -/
theorem choice_at {n : Nat} : ∀ {l : List Tx} {i j : Nat}, choiceG n i l = true → ∀ (hj : j < l.length), okBit l[j].s (n.testBit (i + j)) = true := by
  intro l
  induction l with
  | nil => intro i j _ hj; exact absurd hj (by simp)
  | cons X r ih =>
    intro i j hc hj
    rw [choiceG, Bool.and_eq_true] at hc
    cases j with
    | zero => exact hc.1
    | succ j =>
      rw [List.getElem_cons_succ, show i + (j + 1) = i + 1 + j from by omega]
      exact ih hc.2 (by simpa using hj)
theorem complete_state {h : List Ev} (n : Nat) (hn : choiceS (tableS h) n = true) {j : Nat} (hj : j < (namesOf h).length) :
    ((txOf (completeS h n) (namesOf h)[j]).s = 2 ↔ n.testBit j = true) ∧ 2 ≤ (txOf (completeS h n) (namesOf h)[j]).s := by
  have h1 : choiceG n 0 (tableS h) = true := by unfold choiceS at hn; rw [Bool.and_eq_true] at hn; exact hn.1
  have h2 := choice_at h1 (j := j) (by rw [tableS_len]; exact hj)
  rw [tableS_get hj, Nat.zero_add] at h2
  unfold txOf at h2 ⊢
  dsimp only at h2 ⊢
  rw [complete_last h n hj]
  generalize lastOf h (namesOf h)[j] = k at *
  generalize n.testBit j = b at *
  unfold stateS okBit at *
  cases b
  · by_cases h7 : k = 7
    · subst h7; simp at h2
    · simp [h7]
  · by_cases h7 : k = 7
    · simp [h7]
    · by_cases h6 : k = 6
      · simp [h6]
      · by_cases h9 : k = 9
        · subst h9; simp at h2
        · simp [h7, h6, h9] at h2
end Go.Proofs.YtjefmfbncjdofaaDoor.RPlain
