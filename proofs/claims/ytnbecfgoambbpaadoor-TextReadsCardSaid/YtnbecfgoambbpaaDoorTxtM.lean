/- Plain facts of parsing: no program in sight. -/
import Derived.Test.YtnbecfgoambbpaaDoorTxtL
namespace Go.Proofs.YtnbecfgoambbpaaDoor.WPlain

theorem addName_of (a : List Int) (n : Int) (h : a.contains n = false) : (addName a n).length = a.length + 1 := by unfold addName; rw [if_neg (by rw [h]; simp)]; simp
theorem foldl_names_ge (x : List Ev) : ∀ a : List Int, a.length ≤ (x.foldl (fun a e => addName a e.t) a).length := by
  induction x with
  | nil => intro a; simp
  | cons e r ih => intro a; exact Nat.le_trans (addName_ge a e.t) (ih _)
theorem names_mono (h x : List Ev) : (namesOf h).length ≤ (namesOf (h ++ x)).length := by
  unfold namesOf; rw [List.foldl_append]; exact foldl_names_ge x _
/-- what numsOf says when all is well -/
theorem numsOf_ok (L : Ln) (k : Nat) (h : List Ev) (he : (numsOf L k h).2.2 = 0) :
    (numAt L 1 0 9999).2 = 0 ∧ tooMany (numAt L 1 0 9999).1 h = false ∧ (numsOf L k h).1.t = (numAt L 1 0 9999).1 := by
  unfold numsOf at *
  by_cases h1 : (numAt L 1 0 9999).2 = 0
  · rw [if_neg (by simpa using h1)] at he ⊢
    cases hm : tooMany (numAt L 1 0 9999).1 h with
    | true => rw [if_pos hm] at he; simp at he
    | false =>
      rw [hm] at he
      rw [if_neg (by simp)] at he
      rw [if_neg (by simp)]
      refine ⟨h1, rfl, ?_⟩
      repeat' split
      all_goals first | rfl | skip
      all_goals
        exfalso
        repeat' split at he
        all_goals first | (exact absurd he ‹_›) | simp_all
  · rw [if_pos h1] at he; exact absurd he h1
theorem numsOf_other (L : Ln) (k : Nat) (h h' : List Ev) (h1 : tooMany (numAt L 1 0 9999).1 h = false) (h2 : tooMany (numAt L 1 0 9999).1 h' = false) : numsOf L k h' = numsOf L k h := by
  unfold numsOf
  rw [h1, h2]
theorem evOf_ok (L : Ln) (h : List Ev) (he : (evOf L h).2.2 = 0) :
    h.length ≠ 60 ∧ kindIx (L.ws.headD []) ≠ 10 ∧ (numsOf L (kindIx (L.ws.headD [])) h).2.2 = 0 ∧ ¬ (numsOf L (kindIx (L.ws.headD [])) h).2.1 < L.ws.length ∧ evOf L h = ((numsOf L (kindIx (L.ws.headD [])) h).1, 0, 0) := by
  unfold evOf at he ⊢
  by_cases h60 : h.length = 60
  · rw [if_pos h60] at he; simp at he
  · rw [if_neg h60] at he ⊢
    by_cases hk : kindIx (L.ws.headD []) = 10
    · rw [if_pos hk] at he; simp at he
    · rw [if_neg hk] at he ⊢
      by_cases h0 : (numsOf L (kindIx (L.ws.headD [])) h).2.2 = 0
      · rw [if_pos h0] at he ⊢
        by_cases hn : (numsOf L (kindIx (L.ws.headD [])) h).2.1 < L.ws.length
        · rw [if_pos hn] at he; simp at he
        · rw [if_neg hn]; exact ⟨h60, hk, h0, hn, rfl⟩
      · rw [if_neg h0] at he; exact absurd he h0
theorem evOf_other (L : Ln) (h h' : List Ev) (he : (evOf L h).2.2 = 0) (h60 : h'.length ≠ 60) (hm : tooMany (evOf L h).1.t h' = false) : evOf L h' = evOf L h := by
  obtain ⟨_, hk, h0, hn, hev⟩ := evOf_ok L h he
  obtain ⟨_, hm1, ht⟩ := numsOf_ok L _ h h0
  rw [hev] at hm ⊢
  simp only [] at hm
  rw [ht] at hm
  unfold evOf
  rw [if_neg h60, if_neg hk, numsOf_other L _ h h' hm1 hm, if_pos h0, if_neg hn]
theorem evOf_many (L : Ln) (h : List Ev) (he : (evOf L h).2.2 = 0) : tooMany (evOf L h).1.t h = false := by
  obtain ⟨_, hk, h0, hn, hev⟩ := evOf_ok L h he
  obtain ⟨_, hm1, ht⟩ := numsOf_ok L _ h h0
  rw [hev]
  simp only []
  rw [ht]
  exact hm1
/-- a name more than six would be seven -/
theorem many_of_names (h : List Ev) (e : Ev) (h6 : (namesOf (h ++ [e])).length ≤ 6) : tooMany e.t h = false := by
  unfold tooMany
  cases hc : (namesOf h).contains e.t with
  | true => simp
  | false =>
    rw [namesOf_snoc, addName_of _ _ hc] at h6
    have : ((namesOf h).length == 6) = false := by simp; omega
    rw [this]; rfl
theorem names_of_many (h : List Ev) (e : Ev) (h6 : (namesOf h).length ≤ 6) (hm : tooMany e.t h = false) : (namesOf (h ++ [e])).length ≤ 6 := by
  rw [namesOf_snoc]
  unfold tooMany at hm
  cases hc : (namesOf h).contains e.t with
  | true => unfold addName; rw [if_pos hc]; exact h6
  | false =>
    rw [hc] at hm
    rw [addName_of _ _ hc]
    simp at hm
    omega

theorem parseL_err0 (ls : List (List UInt8)) : ∀ (b : Nat) (h : List Ev), (parseL ls b h).2.2 = 0 → (parseL ls b h).2.1 = 0 ∧ ∃ x, (parseL ls b h).1 = h ++ x := by
  induction ls with
  | nil => intro b h _; exact ⟨rfl, [], by simp [parseL]⟩
  | cons p r ih =>
    intro b h he
    by_cases hw : (words (lineOf p)).length = 0
    · rw [parseL_skip p r b h hw] at he ⊢; exact ih _ _ he
    · by_cases h0 : (evOf (lnOf p) h).2.2 = 0
      · rw [parseL_ok p r b h hw h0] at he ⊢
        obtain ⟨h1, x, hx⟩ := ih _ _ he
        exact ⟨h1, [(evOf (lnOf p) h).1] ++ x, by rw [hx]; simp⟩
      · rw [parseL_err p r b h hw h0] at he; exact absurd he h0
theorem parseL_fail (ls : List (List UInt8)) : ∀ (b : Nat) (h : List Ev), (parseL ls b h).2.2 ≠ 0 → (parseL ls b h).1 = [] := by
  induction ls with
  | nil => intro b h he; exact absurd rfl he
  | cons p r ih =>
    intro b h he
    by_cases hw : (words (lineOf p)).length = 0
    · rw [parseL_skip p r b h hw] at he ⊢; exact ih _ _ he
    · by_cases h0 : (evOf (lnOf p) h).2.2 = 0
      · rw [parseL_ok p r b h hw h0] at he ⊢; exact ih _ _ he
      · rw [parseL_err p r b h hw h0]
theorem parse_fail (s : List UInt8) (h : (parse s).2.2 ≠ 0) : (parse s).1 = [] := by
  unfold parse at *
  split
  · rfl
  · rename_i h3; rw [if_neg h3] at h; exact parseL_fail _ _ _ h
theorem parseL_60 (ls : List (List UInt8)) : ∀ (b : Nat) (h : List Ev), h.length ≤ 60 → (parseL ls b h).1.length ≤ 60 := by
  induction ls with
  | nil => intro b h hh; exact hh
  | cons p r ih =>
    intro b h hh
    by_cases hw : (words (lineOf p)).length = 0
    · rw [parseL_skip p r b h hw]; exact ih _ _ hh
    · by_cases h0 : (evOf (lnOf p) h).2.2 = 0
      · rw [parseL_ok p r b h hw h0]
        have := evOf_60 _ _ h0
        exact ih _ _ (by simp; omega)
      · rw [parseL_err p r b h hw h0]; simp
theorem parse_60 (s : List UInt8) : (parse s).1.length ≤ 60 := by
  unfold parse
  split
  · simp
  · exact parseL_60 _ _ _ (by simp)
theorem parse_at (s : List UInt8) (h : (parse s).2.2 = 0) : (parse s).2.1 = 0 := by
  unfold parse at *
  split
  · rfl
  · rename_i h3; rw [if_neg h3] at h; exact (parseL_err0 _ _ _ h).1

theorem parseL_append (l1 l2 : List (List UInt8)) : ∀ (b : Nat) (h : List Ev), (parseL l1 b h).2.2 = 0 → ∃ b', parseL (l1 ++ l2) b h = parseL l2 b' (parseL l1 b h).1 := by
  induction l1 with
  | nil => intro b h _; exact ⟨b, rfl⟩
  | cons p r ih =>
    intro b h he
    by_cases hw : (words (lineOf p)).length = 0
    · rw [parseL_skip p r b h hw] at he ⊢
      rw [List.cons_append, parseL_skip p (r ++ l2) b h hw]
      exact ih _ _ he
    · by_cases h0 : (evOf (lnOf p) h).2.2 = 0
      · rw [parseL_ok p r b h hw h0] at he ⊢
        rw [List.cons_append, parseL_ok p (r ++ l2) b h hw h0]
        exact ih _ _ he
      · rw [parseL_err p r b h hw h0] at he; exact absurd he h0
/-- behind other events the same ones are told, if these are not too many -/
theorem parseL_behind (ls : List (List UInt8)) (G : List Ev) : ∀ (b b' : Nat) (h x : List Ev), parseL ls b h = (h ++ x, 0, 0) → (G ++ h ++ x).length ≤ 60 → (namesOf (G ++ h ++ x)).length ≤ 6 → parseL ls b' (G ++ h) = (G ++ h ++ x, 0, 0) := by
  induction ls with
  | nil =>
    intro b b' h x hp _ _
    simp only [parseL, Prod.mk.injEq] at hp
    have : x = [] := by have := congrArg List.length hp.1; simp at this; exact this
    subst this
    simp [parseL]
  | cons p r ih =>
    intro b b' h x hp h60 h6
    by_cases hw : (words (lineOf p)).length = 0
    · rw [parseL_skip p r b h hw] at hp
      rw [parseL_skip p r b' (G ++ h) hw]
      exact ih _ _ h x hp h60 h6
    · by_cases h0 : (evOf (lnOf p) h).2.2 = 0
      · rw [parseL_ok p r b h hw h0] at hp
        obtain ⟨_, y, hy⟩ := parseL_err0 r _ (h ++ [(evOf (lnOf p) h).1]) (by rw [hp])
        rw [hp] at hy
        simp only [List.append_assoc, List.append_cancel_left_eq] at hy
        subst hy
        have e1 : G ++ h ++ ([(evOf (lnOf p) h).1] ++ y) = (G ++ h ++ [(evOf (lnOf p) h).1]) ++ y := by simp
        have hl : (G ++ h).length ≠ 60 := by
          intro hc
          rw [e1, List.length_append, List.length_append, hc] at h60
          simp at h60
          omega
        have hm : tooMany (evOf (lnOf p) h).1.t (G ++ h) = false := by
          apply many_of_names
          rw [e1] at h6
          exact Nat.le_trans (names_mono _ y) h6
        have hev := evOf_other (lnOf p) h (G ++ h) h0 hl hm
        rw [parseL_ok p r b' (G ++ h) hw (by rw [hev]; exact h0), hev, List.append_assoc G h]
        have := ih (b + p.length + 1) (b' + p.length + 1) (h ++ [(evOf (lnOf p) h).1]) y (by rw [hp]; simp) (by rw [← List.append_assoc, ← e1]; exact h60) (by rw [← List.append_assoc, ← e1]; exact h6)
        rw [this]
        simp
      · rw [parseL_err p r b h hw h0] at hp
        simp only [Prod.mk.injEq] at hp
        exact absurd hp.2.2 h0
theorem lines_join (a b : List UInt8) : linesOf (a ++ 10 :: b) = linesOf a ++ linesOf b := by
  induction a with
  | nil => rw [List.nil_append, linesOf_nl]; rfl
  | cons c r ih =>
    by_cases hc : c = 10
    · subst hc; rw [List.cons_append, linesOf_nl, linesOf_nl, ih]; rfl
    · cases h : linesOf r with
      | nil => exact absurd h (linesOf_ne r)
      | cons l t =>
        rw [List.cons_append, linesOf_other c r l t hc h]
        rw [h] at ih
        rw [linesOf_other c _ l (t ++ linesOf b) hc (by rw [ih]; rfl)]
        rfl
theorem parse_join (a b : List UInt8) (ha : (parse a).2.2 = 0) (hb : (parse b).2.2 = 0) (hr : right ((parse a).1 ++ (parse b).1) = true) (hl : a.length + b.length ≤ 2999) :
    parse (a ++ 10 :: b) = ((parse a).1 ++ (parse b).1, 0, 0) := by
  unfold parse at ha hb hr ⊢
  rw [if_neg (by omega)] at ha hb hr
  rw [if_neg (by omega)] at hr
  rw [if_neg (by simp; omega), if_neg (by omega), if_neg (by omega), lines_join]
  obtain ⟨b', hb'⟩ := parseL_append (linesOf a) (linesOf b) 0 [] ha
  rw [hb']
  obtain ⟨h0, x, hx⟩ := parseL_err0 (linesOf b) 0 [] hb
  have hp : parseL (linesOf b) 0 [] = ([] ++ x, 0, 0) := Prod.ext (by rw [hx]) (Prod.ext h0 hb)
  have hq := parseL_behind (linesOf b) (parseL (linesOf a) 0 []).1 0 b' [] x hp
  simp only [right, Bool.and_eq_true, decide_eq_true_eq] at hr
  rw [hx] at hr ⊢
  simp only [List.append_nil, List.nil_append] at hq hr ⊢
  exact hq hr.1.1 hr.2
end Go.Proofs.YtnbecfgoambbpaaDoor.WPlain
