/- Merged: LegA, TabB, OrdA, TabP. -/
import Derived.Test.YtpjfhdljagkefaaDoorMg2
/- Plain words: memories, and rows that read what they may. -/
namespace Go.Proofs.YtpjfhdljagkefaaDoor.WPlain
end Go.Proofs.YtpjfhdljagkefaaDoor.WPlain
namespace Go.Proofs.YtpjfhdljagkefaaDoor.QPlain
end Go.Proofs.YtpjfhdljagkefaaDoor.QPlain
namespace Go.Proofs.YtpjfhdljagkefaaDoor.RPlain
open WPlain QPlain

def putM (M : Int → Int) (v x : Int) : Int → Int := fun u => if u = v then x else M u
def withM (M : Int → Int) (ops : List Rwo) : Int → Int := ops.foldl (fun M o => if o.w = true then putM M o.v o.x else M) M
/-- the place of the first read that is not of what it may -/
def ownS : (Int → Int) → List Rwo → Nat
  | _, [] => 0
  | M, o :: r => if o.w = true then 1 + ownS (putM M o.v o.x) r else if M o.v = o.x then 1 + ownS M r else 0
def opsAt (l : List Tx) (i : Nat) : List Rwo := match l[i]? with | some X => X.o | none => []
def stepM (l : List Tx) (c : Nat) (M : Int → Int) (i : Nat) : Int → Int := if c.testBit i = true then withM M (opsAt l i) else M
def behindS (l : List Tx) (c : Nat) (M : Int → Int) (row : List Nat) : Int → Int := row.foldl (stepM l c) M
def legalG (l : List Tx) (c : Nat) : (Int → Int) → List Nat → Nat
  | _, [] => 0
  | M, i :: r => if ownS M (opsAt l i) = (opsAt l i).length then 1 + legalG l c (stepM l c M i) r else 0
def zeroM : Int → Int := fun _ => 0
def legalS (l : List Tx) (c : Nat) (row : List Nat) : Nat := legalG l c zeroM row

theorem withM_cons (M : Int → Int) (o : Rwo) (r : List Rwo) : withM M (o :: r) = withM (if o.w = true then putM M o.v o.x else M) r := rfl
theorem withM_app (M : Int → Int) (a b : List Rwo) : withM M (a ++ b) = withM (withM M a) b := List.foldl_append ..
theorem behind_cons (l : List Tx) (c : Nat) (M : Int → Int) (i : Nat) (r : List Nat) : behindS l c M (i :: r) = behindS l c (stepM l c M i) r := rfl
theorem behind_app (l : List Tx) (c : Nat) (M : Int → Int) (a b : List Nat) : behindS l c M (a ++ b) = behindS l c (behindS l c M a) b := List.foldl_append ..
theorem own_le : ∀ (ops : List Rwo) (M : Int → Int), ownS M ops ≤ ops.length := by
  intro ops
  induction ops with
  | nil => intro M; exact Nat.le_refl _
  | cons o r ih =>
    intro M
    rw [ownS, List.length_cons]
    split
    · have := ih (putM M o.v o.x); omega
    · split
      · have := ih M; omega
      · omega
/-- read by read -/
def readOk (M : Int → Int) (ops : List Rwo) (i : Nat) : Prop := match ops[i]? with | some o => o.w = true ∨ withM M (ops.take i) o.v = o.x | none => True
theorem own_reads : ∀ (ops : List Rwo) (M : Int → Int), (∀ j, j < ownS M ops → readOk M ops j) ∧ (ownS M ops < ops.length → ¬ readOk M ops (ownS M ops)) := by
  intro ops
  induction ops with
  | nil => intro M; exact ⟨fun j hj => absurd hj (Nat.not_lt_zero _), fun h => absurd h (Nat.lt_irrefl _)⟩
  | cons o r ih =>
    intro M
    have hsucc : ∀ M', (if o.w = true then putM M o.v o.x else M) = M' → ∀ j, readOk M (o :: r) (j + 1) ↔ readOk M' r j := fun M' hM j => by
      unfold readOk
      rw [List.getElem?_cons_succ, List.take_succ_cons, withM_cons, hM]
    rw [ownS]
    by_cases hw : o.w = true
    · rw [if_pos hw]
      have h1 := ih (putM M o.v o.x)
      have h2 := hsucc _ (if_pos hw)
      refine ⟨fun j hj => ?_, fun hlt => ?_⟩
      · cases j with
        | zero => exact .inl hw
        | succ j => exact (h2 j).2 (h1.1 j (by omega))
      · rw [Nat.add_comm, h2]
        rw [List.length_cons] at hlt
        exact h1.2 (by omega)
    · rw [if_neg hw]
      by_cases hr : M o.v = o.x
      · rw [if_pos hr]
        have h1 := ih M
        have h2 := hsucc _ (if_neg hw)
        refine ⟨fun j hj => ?_, fun hlt => ?_⟩
        · cases j with
          | zero => exact .inr hr
          | succ j => exact (h2 j).2 (h1.1 j (by omega))
        · rw [Nat.add_comm, h2]
          rw [List.length_cons] at hlt
          exact h1.2 (by omega)
      · rw [if_neg hr]
        refine ⟨fun j hj => absurd hj (Nat.not_lt_zero _), fun _ h => ?_⟩
        rcases h with h | h
        · exact hw h
        · exact hr h
theorem own_is {M : Int → Int} {ops : List Rwo} {k : Nat} (hk : k ≤ ops.length) (h1 : ∀ j, j < k → readOk M ops j) (h2 : k < ops.length → ¬ readOk M ops k) : ownS M ops = k := by
  obtain ⟨g1, g2⟩ := own_reads ops M
  have hle := own_le ops M
  rcases Nat.lt_trichotomy (ownS M ops) k with h | h | h
  · exact absurd (h1 _ h) (g2 (by omega))
  · exact h
  · exact absurd (g1 _ h) (h2 (by omega))
theorem legal_le (l : List Tx) (c : Nat) : ∀ (row : List Nat) (M : Int → Int), legalG l c M row ≤ row.length := by
  intro row
  induction row with
  | nil => intro M; exact Nat.le_refl _
  | cons i r ih =>
    intro M
    rw [legalG, List.length_cons]
    split
    · have := ih (stepM l c M i); omega
    · omega
/-- a shorter row is legal as far as it goes -/
theorem legal_take (l : List Tx) (c : Nat) : ∀ (row : List Nat) (k : Nat) (M : Int → Int), legalG l c M (row.take k) = min (legalG l c M row) k := by
  intro row
  induction row with
  | nil => intro k M; simp [legalG]
  | cons i r ih =>
    intro k M
    cases k with
    | zero => simp [legalG]
    | succ k =>
      rw [List.take_succ_cons, legalG, legalG, ih k]
      split
      · omega
      · omega
theorem legal_app (l : List Tx) (c : Nat) : ∀ (a b : List Nat) (M : Int → Int), legalG l c M (a ++ b) = if legalG l c M a = a.length then a.length + legalG l c (behindS l c M a) b else legalG l c M a := by
  intro a
  induction a with
  | nil => intro b M; simp [legalG, behindS]
  | cons i r ih =>
    intro b M
    rw [List.cons_append, legalG, legalG, ih, behind_cons, List.length_cons]
    have h1 := legal_le l c r (stepM l c M i)
    by_cases ho : ownS M (opsAt l i) = (opsAt l i).length
    · rw [if_pos ho, if_pos ho]
      by_cases hr : legalG l c (stepM l c M i) r = r.length
      · rw [if_pos hr, if_pos (by omega)]; omega
      · rw [if_neg hr, if_neg (by omega)]
    · rw [if_neg ho, if_neg ho, if_neg (by omega)]
theorem legal_all (l : List Tx) (c : Nat) (i : Nat) (r : List Nat) (M : Int → Int) : legalG l c M (i :: r) = (i :: r).length ↔ ownS M (opsAt l i) = (opsAt l i).length ∧ legalG l c (stepM l c M i) r = r.length := by
  have h1 := legal_le l c r (stepM l c M i)
  rw [legalG, List.length_cons]
  by_cases ho : ownS M (opsAt l i) = (opsAt l i).length
  · rw [if_pos ho]; omega
  · rw [if_neg ho]; omega
/-- those that are not committed leave the memory -/
theorem behind_filter (l : List Tx) (c : Nat) : ∀ (row : List Nat) (M : Int → Int), behindS l c M (row.filter c.testBit) = behindS l c M row := by
  intro row
  induction row with
  | nil => intro M; rfl
  | cons i r ih =>
    intro M
    rw [behind_cons, List.filter_cons]
    by_cases hb : c.testBit i = true
    · rw [if_pos hb, behind_cons, ih]
    · rw [if_neg hb, ih]
      unfold stepM
      rw [if_neg hb]
def apart (l : List Tx) (a b : Nat) : Prop := ∀ o ∈ opsAt l a, ∀ p ∈ opsAt l b, p.v ≠ o.v
theorem apart.symm {l : List Tx} {a b : Nat} (h : apart l a b) : apart l b a := fun o ho p hp hc => h p hp o ho hc.symm
end Go.Proofs.YtpjfhdljagkefaaDoor.RPlain
/- Plain words: transactions up to a place; alone. -/
namespace Go.Proofs.YtpjfhdljagkefaaDoor.WPlain
end Go.Proofs.YtpjfhdljagkefaaDoor.WPlain
namespace Go.Proofs.YtpjfhdljagkefaaDoor.QPlain
end Go.Proofs.YtpjfhdljagkefaaDoor.QPlain
namespace Go.Proofs.YtpjfhdljagkefaaDoor.RPlain
open WPlain QPlain

theorem fst_range {h : List Ev} {t : Int} (ht : t ∈ namesOf h) : 0 ≤ fstOf h t ∧ fstOf h t < h.length := by
  have hne := (not_congr (fst_names h t)).2 (fun hc => hc ht)
  unfold fstOf at *
  cases h1 : h.findIdx? (fun e => e.t == t) with
  | none => rw [h1] at hne; simp at hne
  | some i =>
    obtain ⟨hi, _⟩ := List.findIdx?_eq_some_iff_getElem.1 h1
    simp
    omega
theorem fst_keep {h : List Ev} {t : Int} (e : Ev) (ht : t ∈ namesOf h) : fstOf (h ++ [e]) t = fstOf h t := by
  rw [fstOf_snoc, if_neg (fun hc => ((fst_names h t).1 hc) ht)]
theorem fst_new {h : List Ev} {e : Ev} (ht : e.t ∉ namesOf h) : fstOf (h ++ [e]) e.t = (h.length : Int) := by
  rw [fstOf_snoc, if_pos ((fst_names h e.t).2 ht), if_pos rfl]
theorem fst_lst (h : List Ev) (t : Int) (ht : t ∈ namesOf h) : fstOf h t ≤ lstOf h t ∧ lstOf h t < h.length := by
  revert ht
  refine rev_ind (p := fun h => t ∈ namesOf h → fstOf h t ≤ lstOf h t ∧ lstOf h t < h.length) ?_ ?_ h
  · simp [namesOf]
  · intro h e ih ht
    rw [lstOf_snoc, List.length_append, List.length_singleton]
    by_cases he : e.t = t
    · rw [if_pos he]
      by_cases hm : t ∈ namesOf h
      · rw [fst_keep e hm]
        have := (fst_range hm).2
        omega
      · subst he
        rw [fst_new hm]
        omega
    · rw [if_neg he]
      rcases (mem_names_snoc h e t).1 ht with hm | hm
      · rw [fst_keep e hm]
        have := ih hm
        omega
      · exact absurd hm.symm he
/-- is it an answer of a transaction, with a read or a write? -/
def answers (t : Int) (e : Ev) : Bool := e.t == t && (e.k == 3 || e.k == 5)
theorem ops_len (h : List Ev) (t : Int) : (opsOf h t).length = (h.filter (answers t)).length := by
  refine rev_ind (p := fun h => (opsOf h t).length = (h.filter (answers t)).length) ?_ ?_ h
  · simp [opsOf]
  · intro h e ih
    rw [opsOf_snoc, List.length_append, ih, List.filter_append, List.length_append]
    congr 1
    unfold answers opStep
    by_cases he : e.t = t
    · rw [if_pos he]
      by_cases h3 : e.k = 3
      · simp [h3, he]
      · by_cases h5 : e.k = 5
        · simp [h5, he]
        · simp [h3, h5, he]
    · rw [if_neg he]
      simp [he]
theorem tableS_len (h : List Ev) : (tableS h).length = (namesOf h).length := by simp [tableS]
theorem tableS_get {h : List Ev} {i : Nat} (hi : i < (namesOf h).length) : (tableS h)[i]'(by rw [tableS_len]; exact hi) = txOf h ((namesOf h)[i]) := by simp [tableS]
/-- one event more -/
theorem ops_none {h : List Ev} {t : Int} (ht : t ∉ namesOf h) : opsOf h t = [] := by
  have h1 := ops_len h t
  have h2 : h.filter (answers t) = [] := by
    rw [List.filter_eq_nil_iff]
    intro e he hc
    unfold answers at hc
    simp only [Bool.and_eq_true, beq_iff_eq] at hc
    exact ht ((mem_names h t).2 ⟨e, he, hc.1⟩)
  rw [h2] at h1
  exact List.length_eq_zero_iff.1 h1
theorem txOf_other (h : List Ev) (e : Ev) {t : Int} (ht : t ∈ namesOf h) (hne : e.t ≠ t) : txOf (h ++ [e]) t = txOf h t := by
  unfold txOf
  rw [fst_keep e ht, lstOf_snoc, if_neg hne, lastOf_snoc, if_neg hne, opsOf_snoc, if_neg hne, List.append_nil]
theorem txOf_mine (h : List Ev) (e : Ev) (ht : e.t ∈ namesOf h) : txOf (h ++ [e]) e.t = ⟨e.t, fstOf h e.t, h.length, stateS e.k, opsOf h e.t ++ opStep (askedOf h e.t) e⟩ := by
  unfold txOf
  rw [fst_keep e ht, lstOf_snoc, if_pos rfl, lastOf_snoc, if_pos rfl, opsOf_snoc, if_pos rfl]
theorem txOf_first (h : List Ev) (e : Ev) (ht : e.t ∉ namesOf h) : txOf (h ++ [e]) e.t = ⟨e.t, h.length, h.length, stateS e.k, opStep (askedOf h e.t) e⟩ := by
  unfold txOf
  rw [fst_new ht, lstOf_snoc, if_pos rfl, lastOf_snoc, if_pos rfl, opsOf_snoc, if_pos rfl, ops_none ht, List.nil_append]
end Go.Proofs.YtpjfhdljagkefaaDoor.RPlain
/- Plain words: what is before what. -/
namespace Go.Proofs.YtpjfhdljagkefaaDoor.WPlain
end Go.Proofs.YtpjfhdljagkefaaDoor.WPlain
namespace Go.Proofs.YtpjfhdljagkefaaDoor.QPlain
end Go.Proofs.YtpjfhdljagkefaaDoor.QPlain
namespace Go.Proofs.YtpjfhdljagkefaaDoor.RPlain
open WPlain QPlain

/-- is one transaction before another? -/
def bfr (a b : Tx) : Bool := (decide (a.s = 2) || decide (a.s = 3)) && decide (a.l < b.f)
theorem bfr_self (h : List Ev) {t : Int} (ht : t ∈ namesOf h) : bfr (txOf h t) (txOf h t) = false := by
  have := (fst_lst h t ht).1
  unfold bfr txOf
  simp
  omega
theorem bfr_trans (h : List Ev) {a b c : Int} (hb : b ∈ namesOf h) (h1 : bfr (txOf h a) (txOf h b) = true) (h2 : bfr (txOf h b) (txOf h c) = true) : bfr (txOf h a) (txOf h c) = true := by
  have := (fst_lst h b hb).1
  unfold bfr txOf at *
  simp only [Bool.and_eq_true, decide_eq_true_eq] at *
  exact ⟨h1.1, by omega⟩
end Go.Proofs.YtpjfhdljagkefaaDoor.RPlain
/- Plain words: what well-formed events tell of their transactions. -/
namespace Go.Proofs.YtpjfhdljagkefaaDoor.WPlain
end Go.Proofs.YtpjfhdljagkefaaDoor.WPlain
namespace Go.Proofs.YtpjfhdljagkefaaDoor.QPlain
end Go.Proofs.YtpjfhdljagkefaaDoor.QPlain
namespace Go.Proofs.YtpjfhdljagkefaaDoor.RPlain
open WPlain QPlain

theorem asked_at (g : List Ev) (t : Int) (ht : t ∈ namesOf g) : ∃ l : Nat, lstOf g t = (l : Int) ∧ ∃ hl : l < g.length, g[l] = askedOf g t := by
  revert ht
  refine rev_ind (p := fun g => t ∈ namesOf g → ∃ l : Nat, lstOf g t = (l : Int) ∧ ∃ hl : l < g.length, g[l] = askedOf g t) ?_ ?_ g
  · simp [namesOf]
  · intro g e ih ht
    rw [lstOf_snoc, askedOf_snoc]
    by_cases he : e.t = t
    · rw [if_pos he, if_pos he]
      exact ⟨g.length, rfl, by simp, by simp⟩
    · rw [if_neg he, if_neg he]
      rcases (mem_names_snoc g e t).1 ht with hm | hm
      · obtain ⟨l, h1, h2, h3⟩ := ih hm
        exact ⟨l, h1, by rw [List.length_append]; omega, by rw [List.getElem_append_left h2]; exact h3⟩
      · exact absurd hm.symm he
theorem last_none (g : List Ev) (t : Int) (ht : t ∉ namesOf g) : lastOf g t = -1 := by
  revert ht
  refine rev_ind (p := fun g => t ∉ namesOf g → lastOf g t = -1) ?_ ?_ g
  · intro _; rfl
  · intro g e ih ht
    rw [mem_names_snoc, not_or] at ht
    rw [lastOf_snoc, if_neg (fun hc => ht.2 hc.symm)]
    exact ih ht.1
theorem firstG_may : ∀ (r pre : List Ev), firstG pre r = (pre ++ r).length → ∀ j (hj : j < r.length), mayS (lastOf (pre ++ r.take j) r[j].t) r[j].k = true := by
  intro r
  induction r with
  | nil => intro pre _ j hj; simp at hj
  | cons e r ih =>
    intro pre hf j hj
    by_cases hm : mayS (lastOf pre e.t) e.k = true
    · have h1 : firstG pre (e :: r) = firstG (pre ++ [e]) r := by unfold firstG; rw [if_pos hm]; cases r <;> rfl
      rw [h1] at hf
      cases j with
      | zero => simpa using hm
      | succ j =>
        have := ih (pre ++ [e]) (by simpa using hf) j (by simpa using hj)
        simpa using this
    · have h1 : firstG pre (e :: r) = pre.length := by unfold firstG; rw [if_neg hm]
      rw [h1] at hf
      simp at hf
theorem check_may {h : List Ev} (hc : (checkS h).2 = 0) (j : Nat) (hj : j < h.length) : mayS (lastOf (h.take j) h[j].t) h[j].k = true := by
  have hr := (check_agree hc).1
  have hf := check_first hr
  have h1 : firstS h = h.length := by
    by_cases he : firstS h = h.length
    · exact he
    · rw [if_neg he] at hf
      rw [hf] at hc
      simp at hc
  unfold firstS at h1
  simpa using firstG_may h [] (by simpa using h1) j hj
/-- the first event of a transaction begins it -/
theorem check_begin {h : List Ev} (hc : (checkS h).2 = 0) (j : Nat) (hj : j < h.length) (ht : h[j].t ∉ namesOf (h.take j)) : h[j].k = 0 := by
  have := check_may hc j hj
  rw [last_none _ _ ht] at this
  simpa [mayS] using this
theorem opStep_zero (a e : Ev) (h : e.k = 0) : opStep a e = [] := by unfold opStep; rw [if_neg (by omega), if_neg (by omega)]
theorem ops_le (h : List Ev) (t : Int) : (opsOf h t).length ≤ h.length := by rw [ops_len]; exact List.length_filter_le _ _
theorem names_old {g : List Ev} {e : Ev} (hm : e.t ∈ namesOf g) : namesOf (g ++ [e]) = namesOf g := by
  rw [namesOf_snoc]
  unfold addName
  rw [if_pos (by simpa using hm)]
theorem names_new {g : List Ev} {e : Ev} (hm : e.t ∉ namesOf g) : namesOf (g ++ [e]) = namesOf g ++ [e.t] := by
  rw [namesOf_snoc]
  unfold addName
  rw [if_neg (by simpa using hm)]
theorem tx_old {g : List Ev} {e : Ev} (hm : e.t ∈ namesOf g) : ∀ u ∈ namesOf g, txOf (g ++ [e]) u = if u = e.t then ⟨e.t, fstOf g e.t, g.length, stateS e.k, opsOf g e.t ++ opStep (askedOf g e.t) e⟩ else txOf g u := by
  intro u hu
  by_cases he : u = e.t
  · rw [if_pos he, he, txOf_mine g e hm]
  · rw [if_neg he]
    exact txOf_other g e hu (fun hc => he hc.symm)
theorem tx_new {g : List Ev} {e : Ev} (hm : e.t ∉ namesOf g) (h0 : e.k = 0) : ∀ u ∈ namesOf g ++ [e.t], txOf (g ++ [e]) u = if u = e.t then ⟨e.t, g.length, g.length, stateS e.k, []⟩ else txOf g u := by
  intro u hu
  by_cases he : u = e.t
  · rw [if_pos he, he, txOf_first g e hm, opStep_zero _ _ h0]
  · rw [if_neg he]
    rcases List.mem_append.1 hu with hu | hu
    · exact txOf_other g e hu (fun hc => he hc.symm)
    · exact absurd (List.mem_singleton.1 hu) he
end Go.Proofs.YtpjfhdljagkefaaDoor.RPlain
