/- Plain words: what each transaction saw. -/
import Derived.Test.YtpjfhdljagkefaaDoorMg8
import Derived.Test.YtpjfhdljagkefaaDoorMg7
namespace Go.Proofs.YtpjfhdljagkefaaDoor.WPlain
end Go.Proofs.YtpjfhdljagkefaaDoor.WPlain
namespace Go.Proofs.YtpjfhdljagkefaaDoor.QPlain
end Go.Proofs.YtpjfhdljagkefaaDoor.QPlain
namespace Go.Proofs.YtpjfhdljagkefaaDoor.RPlain
open WPlain QPlain

/-- may a transaction have seen a set, of a choice? -/
def mayW (l : List Tx) (t set c : Nat) : Bool := (List.range l.length).all fun i =>
  if set.testBit i = true then !decide (i = t) && c.testBit i && !bfrAt l t i
  else decide (i = t) || !c.testBit i || (List.range l.length).all fun k => !((decide (k = t) || set.testBit k) && bfrAt l i k)
def setL (n set : Nat) : List Nat := (List.range n).filter set.testBit
def nxtW (l : List Tx) (set : Nat) (row : List Nat) (k : Nat) : Bool := set.testBit k && row.all fun b => !decide (k = b) && !bfrAt l k b
def rowsW (l : List Tx) (set : Nat) : List (List Nat) := extP l.length (nxtW l set) (setL l.length set).length []
def pairsW (l : List Tx) (t c : Nat) : List (Nat × List Nat) := (List.range (c + 1)).flatMap fun set => if mayW l t set c = true ∧ set < 2 ^ l.length then (rowsW l set).map fun r => (set, r) else []
def tellW (l : List Tx) (t c : Nat) (row : List Nat) : Bool := decide (row.length < legalS l c (row ++ [t]))
def oneG (B : Nat) (l : List Tx) (t c : Nat) : List (Nat × List Nat) → Nat → Nat × Nat × List Nat × Nat
  | [], s => (1, 0, [], s)
  | p :: r, s => if s = B then (2, 0, [], s) else if tellW l t c p.2 = true then (0, p.1, p.2, s + 1) else oneG B l t c r (s + 1)
def oneS (B : Nat) (l : List Tx) (t c s : Nat) : Nat × Nat × List Nat × Nat := oneG B l t c (pairsW l t c) s
def ownG (B : Nat) (l : List Tx) (c : Nat) : List Nat → Nat → Nat × List (Nat × List Nat × Nat) × Nat
  | [], s => (0, [], s)
  | t :: r, s => if c.testBit t = true then ownG B l c r s else if (oneS B l t c s).1 ≠ 0 then ((oneS B l t c s).1, [], (oneS B l t c s).2.2.2)
    else if (ownG B l c r (oneS B l t c s).2.2.2).1 ≠ 0 then ((ownG B l c r (oneS B l t c s).2.2.2).1, [], (ownG B l c r (oneS B l t c s).2.2.2).2.2)
    else (0, ((oneS B l t c s).2.1, (oneS B l t c s).2.2.1, (oneS B l t c s).2.2.2 - s) :: (ownG B l c r (oneS B l t c s).2.2.2).2.1, (ownG B l c r (oneS B l t c s).2.2.2).2.2)
def choiceW (B : Nat) (l : List Tx) (c s : Nat) : Nat × List Nat × List (Nat × List Nat × Nat) × Nat :=
  if (fromS B l c c (l.length + 1) [] s).1 ≠ 0 then ((fromS B l c c (l.length + 1) [] s).1, [], [], (fromS B l c c (l.length + 1) [] s).2.2)
  else if (ownG B l c (List.range l.length) (fromS B l c c (l.length + 1) [] s).2.2).1 ≠ 0 then ((ownG B l c (List.range l.length) (fromS B l c c (l.length + 1) [] s).2.2).1, [], [], (ownG B l c (List.range l.length) (fromS B l c c (l.length + 1) [] s).2.2).2.2)
  else (0, (fromS B l c c (l.length + 1) [] s).2.1, (ownG B l c (List.range l.length) (fromS B l c c (l.length + 1) [] s).2.2).2)
def worldG (B : Nat) (l : List Tx) : List Nat → Nat → Nat × Nat × List Nat × List (Nat × List Nat × Nat) × Nat
  | [], s => (1, 0, [], [], s)
  | c :: r, s => if (choiceW B l c s).1 = 1 then worldG B l r (choiceW B l c s).2.2.2 else ((choiceW B l c s).1, (if (choiceW B l c s).1 = 0 then c else 0), (choiceW B l c s).2)
def worldS (B : Nat) (l : List Tx) : Nat × Nat × List Nat × List (Nat × List Nat × Nat) × Nat := worldG B l (choicesS l) 0

theorem may_iff {l : List Tx} {t set c : Nat} : mayW l t set c = true ↔ (∀ i, i < l.length → set.testBit i = true → i ≠ t ∧ c.testBit i = true ∧ bfrAt l t i = false) ∧
    ∀ i, i < l.length → set.testBit i = false → i ≠ t → c.testBit i = true → ∀ k, k < l.length → (k = t ∨ set.testBit k = true) → bfrAt l i k = false := by
  unfold mayW
  rw [List.all_eq_true]
  constructor
  · intro h
    refine ⟨fun i hi hs => ?_, fun i hi hs hne hc k hk hkt => ?_⟩
    · have h1 := h i (List.mem_range.2 hi)
      rw [if_pos hs] at h1
      simp only [Bool.and_eq_true, Bool.not_eq_true', decide_eq_false_iff_not] at h1
      exact ⟨h1.1.1, h1.1.2, h1.2⟩
    · have h1 := h i (List.mem_range.2 hi)
      rw [if_neg (by rw [hs]; simp), decide_eq_false hne, hc] at h1
      simp only [Bool.false_or, Bool.not_true, List.all_eq_true] at h1
      have h2 := h1 k (List.mem_range.2 hk)
      cases hb : bfrAt l i k with
      | false => rfl
      | true =>
        rw [hb] at h2
        rcases hkt with rfl | hkt
        · simp at h2
        · rw [hkt] at h2; simp at h2
  · rintro ⟨h1, h2⟩ i hi
    have hi' := List.mem_range.1 hi
    by_cases hs : set.testBit i = true
    · rw [if_pos hs]
      obtain ⟨a, b, c'⟩ := h1 i hi' hs
      simp [a, b, c']
    · rw [if_neg hs]
      by_cases hne : i = t
      · simp [hne]
      · by_cases hc : c.testBit i = true
        · simp only [Bool.or_eq_true, List.all_eq_true]
          right
          intro k hk
          by_cases hkt : k = t ∨ set.testBit k = true
          · rw [h2 i hi' (by simpa using hs) hne hc k (List.mem_range.1 hk) hkt]; simp
          · have h3 : (decide (k = t) || set.testBit k) = false := by
              simp only [not_or] at hkt
              rw [decide_eq_false hkt.1, Bool.false_or]
              simpa using hkt.2
            rw [h3]; rfl
        · have : c.testBit i = false := by simpa using hc
          simp [this]
theorem setL_mem {n set k : Nat} : k ∈ setL n set ↔ k < n ∧ set.testBit k = true := by unfold setL; rw [List.mem_filter, List.mem_range]
theorem stepsW_iff (l : List Tx) (set : Nat) : ∀ (t row : List Nat), stepsP (nxtW l set) row t = true ↔ (∀ k ∈ t, set.testBit k = true) ∧ (t.Pairwise fun b a => a ≠ b ∧ bfrAt l a b = false) ∧ ∀ b ∈ row, ∀ a ∈ t, a ≠ b ∧ bfrAt l a b = false := by
  intro t
  induction t with
  | nil => intro row; simp [stepsP]
  | cons k r ih =>
    intro row
    have hn : nxtW l set row k = true ↔ set.testBit k = true ∧ ∀ b ∈ row, k ≠ b ∧ bfrAt l k b = false := by
      unfold nxtW
      rw [Bool.and_eq_true, List.all_eq_true]
      simp
    rw [stepsP, Bool.and_eq_true, hn, ih, List.pairwise_cons]
    constructor
    · rintro ⟨⟨h0, h1⟩, h2, h3, h4⟩
      refine ⟨fun x hx => ?_, ⟨fun a ha => h4 k (by simp) a ha, h3⟩, fun b hb a ha => ?_⟩
      · rcases List.mem_cons.1 hx with rfl | hx
        · exact h0
        · exact h2 x hx
      · rcases List.mem_cons.1 ha with rfl | ha
        · exact h1 b hb
        · exact h4 b (List.mem_append_left _ hb) a ha
    · rintro ⟨h0, ⟨h1, h2⟩, h3⟩
      refine ⟨⟨h0 k (List.mem_cons_self ..), fun b hb => h3 b hb k (List.mem_cons_self ..)⟩, fun x hx => h0 x (List.mem_cons_of_mem _ hx), h2, fun b hb a ha => ?_⟩
      rcases List.mem_append.1 hb with hb | hb
      · exact h3 b hb a (List.mem_cons_of_mem _ ha)
      · rw [List.mem_singleton.1 hb]; exact h1 a ha
/-- the rows of a set -/
theorem rowsW_mem {l : List Tx} {set : Nat} {row : List Nat} : row ∈ rowsW l set ↔ row.Nodup ∧ (∀ k, k ∈ row ↔ k < l.length ∧ set.testBit k = true) ∧ row.Pairwise fun b a => bfrAt l a b = false := by
  unfold rowsW
  rw [ext_filter]
  have hn : (setL l.length set).Nodup := List.nodup_range.filter _
  constructor
  · intro h
    obtain ⟨t, ht, rfl⟩ := List.mem_map.1 h
    rw [List.mem_filter, allT_mem, stepsW_iff] at ht
    obtain ⟨⟨h1, h2⟩, h3, h4, _⟩ := ht
    rw [List.nil_append]
    have hnd : t.Nodup := h4.imp fun h hc => h.1 hc.symm
    refine ⟨hnd, fun k => ⟨fun hk => ⟨h2 k hk, h3 k hk⟩, fun hk => ?_⟩, h4.imp fun h => h.2⟩
    by_cases hm : k ∈ t
    · exact hm
    · have := nodup_le (k :: t) (setL l.length set) (List.nodup_cons.2 ⟨hm, hnd⟩) fun x hx => by
        rcases List.mem_cons.1 hx with rfl | hx
        · exact setL_mem.2 hk
        · exact setL_mem.2 ⟨h2 x hx, h3 x hx⟩
      rw [List.length_cons] at this
      omega
  · rintro ⟨h1, h2, h3⟩
    refine List.mem_map.2 ⟨row, ?_, rfl⟩
    rw [List.mem_filter, allT_mem, stepsW_iff]
    refine ⟨⟨?_, fun k hk => ((h2 k).1 hk).1⟩, fun k hk => ((h2 k).1 hk).2, (List.pairwise_and_iff.2 ⟨h1, h3⟩).imp fun h => ⟨fun hc => h.1 hc.symm, h.2⟩, fun b hb => by cases hb⟩
    refine Nat.le_antisymm (nodup_le _ _ h1 fun x hx => setL_mem.2 ((h2 x).1 hx)) (nodup_le _ _ hn fun x hx => (h2 x).2 (setL_mem.1 hx))
theorem pairsW_mem {l : List Tx} {t c set : Nat} {row : List Nat} : (set, row) ∈ pairsW l t c ↔ set ≤ c ∧ mayW l t set c = true ∧ set < 2 ^ l.length ∧ row ∈ rowsW l set := by
  unfold pairsW
  rw [List.mem_flatMap]
  constructor
  · rintro ⟨x, hx, hp⟩
    have hx' := List.mem_range.1 hx
    by_cases hm : mayW l t x c = true ∧ x < 2 ^ l.length
    · rw [if_pos hm] at hp
      obtain ⟨r, hr, he⟩ := List.mem_map.1 hp
      rw [Prod.mk.injEq] at he
      obtain ⟨rfl, rfl⟩ := he
      exact ⟨by omega, hm.1, hm.2, hr⟩
    · rw [if_neg hm] at hp; cases hp
  · rintro ⟨h1, h2, h3, h4⟩
    refine ⟨set, List.mem_range.2 (by omega), ?_⟩
    rw [if_pos ⟨h2, h3⟩]
    exact List.mem_map.2 ⟨row, h4, rfl⟩
theorem tell_iff {l : List Tx} {t c : Nat} {row : List Nat} : tellW l t c row = true ↔ legalS l c (row ++ [t]) = (row ++ [t]).length := by
  unfold tellW legalS
  have := legal_le l c (row ++ [t]) zeroM
  rw [List.length_append, List.length_singleton] at this ⊢
  rw [decide_eq_true_eq]
  omega
/-- what the search for one tells -/
theorem one_tells {B : Nat} {l : List Tx} {t c : Nat} : ∀ (ps : List (Nat × List Nat)) (s : Nat), s ≤ B →
    ((oneG B l t c ps s).1 = 0 ∨ (oneG B l t c ps s).1 = 1 ∨ (oneG B l t c ps s).1 = 2) ∧ s ≤ (oneG B l t c ps s).2.2.2 ∧ (oneG B l t c ps s).2.2.2 ≤ B ∧ (oneG B l t c ps s).2.2.2 ≤ s + ps.length ∧
      ((oneG B l t c ps s).1 = 2 → B < s + ps.length) ∧ ((oneG B l t c ps s).1 = 0 → ((oneG B l t c ps s).2.1, (oneG B l t c ps s).2.2.1) ∈ ps ∧ tellW l t c (oneG B l t c ps s).2.2.1 = true) ∧
      ((oneG B l t c ps s).1 = 1 → ∀ p ∈ ps, tellW l t c p.2 = false) := by
  intro ps
  induction ps with
  | nil => intro s hs; exact ⟨.inr (.inl rfl), Nat.le_refl _, hs, Nat.le_refl _, fun h => (by cases h), fun h => (by cases h), fun _ p hp => (by cases hp)⟩
  | cons p r ih =>
    intro s hs
    rw [oneG]
    by_cases hB : s = B
    · rw [if_pos hB]
      exact ⟨.inr (.inr rfl), Nat.le_refl _, hs, Nat.le_add_right _ _, fun _ => by rw [List.length_cons]; omega, fun h => (by cases h), fun h => (by cases h)⟩
    · rw [if_neg hB]
      by_cases ht : tellW l t c p.2 = true
      · rw [if_pos ht]
        exact ⟨.inl rfl, Nat.le_succ _, by dsimp only; omega, by rw [List.length_cons]; dsimp only; omega, fun h => (by cases h), fun _ => ⟨List.mem_cons_self .., ht⟩, fun h => (by cases h)⟩
      · rw [if_neg ht]
        obtain ⟨g1, g2, g3, g4, g5, g6, g7⟩ := ih (s + 1) (by omega)
        rw [List.length_cons]
        refine ⟨g1, by omega, g3, by omega, fun h => by have := g5 h; omega, fun h => ⟨List.mem_cons_of_mem _ (g6 h).1, (g6 h).2⟩, fun h x hx => ?_⟩
        rcases List.mem_cons.1 hx with rfl | hx
        · simpa using ht
        · exact g7 h x hx
/-- all of the others -/
def sumW (l : List Tx) (c : Nat) (ts : List Nat) : Nat := (ts.map fun t => if c.testBit t = true then 0 else (pairsW l t c).length).sum
def sawW (l : List Tx) (c t : Nat) : Prop := ∃ p ∈ pairsW l t c, tellW l t c p.2 = true
theorem own_tells {B : Nat} {l : List Tx} {c : Nat} : ∀ (ts : List Nat) (s : Nat), s ≤ B →
    ((ownG B l c ts s).1 = 0 ∨ (ownG B l c ts s).1 = 1 ∨ (ownG B l c ts s).1 = 2) ∧ s ≤ (ownG B l c ts s).2.2 ∧ (ownG B l c ts s).2.2 ≤ B ∧ (ownG B l c ts s).2.2 ≤ s + sumW l c ts ∧
      ((ownG B l c ts s).1 = 2 → B < s + sumW l c ts) ∧ ((ownG B l c ts s).1 ≠ 0 → (ownG B l c ts s).2.1 = []) ∧
      ((ownG B l c ts s).1 = 0 → (ownG B l c ts s).2.1.length = (ts.filter fun t => !c.testBit t).length ∧ ∀ j (hj : j < (ownG B l c ts s).2.1.length) (hj2 : j < (ts.filter fun t => !c.testBit t).length),
        (((ownG B l c ts s).2.1[j]).1, ((ownG B l c ts s).2.1[j]).2.1) ∈ pairsW l (ts.filter fun t => !c.testBit t)[j] c ∧ tellW l (ts.filter fun t => !c.testBit t)[j] c ((ownG B l c ts s).2.1[j]).2.1 = true) ∧
      ((ownG B l c ts s).1 = 1 → ∃ t ∈ ts, c.testBit t = false ∧ ¬ sawW l c t) := by
  intro ts
  induction ts with
  | nil => intro s hs; exact ⟨.inl rfl, Nat.le_refl _, hs, Nat.le_add_right _ _, fun h => (by cases h), fun h => absurd rfl h, fun _ => ⟨rfl, fun j hj => absurd hj (by simp [ownG])⟩, fun h => (by cases h)⟩
  | cons t r ih =>
    intro s hs
    rw [ownG]
    by_cases hc : c.testBit t = true
    · rw [if_pos hc]
      obtain ⟨g1, g2, g3, g4, g5, g6, g7, g8⟩ := ih s hs
      have hsum : sumW l c (t :: r) = sumW l c r := by unfold sumW; rw [List.map_cons, List.sum_cons, if_pos hc, Nat.zero_add]
      have hfil : (t :: r).filter (fun t => !c.testBit t) = r.filter fun t => !c.testBit t := by rw [List.filter_cons, hc]; rfl
      rw [hsum, hfil]
      refine ⟨g1, g2, g3, g4, g5, g6, g7, fun h => ?_⟩
      obtain ⟨x, hx, h1⟩ := g8 h
      exact ⟨x, List.mem_cons_of_mem _ hx, h1⟩
    · rw [if_neg hc]
      have hcf : c.testBit t = false := by simpa using hc
      have hsum : sumW l c (t :: r) = (pairsW l t c).length + sumW l c r := by unfold sumW; rw [List.map_cons, List.sum_cons, if_neg hc]
      have hfil : (t :: r).filter (fun t => !c.testBit t) = t :: r.filter fun t => !c.testBit t := by rw [List.filter_cons, hcf]; rfl
      obtain ⟨a1, a2, a3, a4, a5, a6, a7⟩ := one_tells (B := B) (l := l) (t := t) (c := c) (pairsW l t c) s hs
      rw [hsum, hfil]
      change _ at a1
      by_cases hv : (oneS B l t c s).1 ≠ 0
      · rw [if_pos hv]
        refine ⟨a1, a2, a3, by have : (oneS B l t c s).2.2.2 ≤ _ := a4; dsimp only; omega, fun h => by have := a5 h; omega, fun _ => rfl, fun h => absurd h hv, fun h => ⟨t, List.mem_cons_self .., hcf, ?_⟩⟩
        rintro ⟨p, hp, hpt⟩
        rw [a7 h p hp] at hpt
        cases hpt
      · rw [if_neg hv]
        obtain ⟨g1, g2, g3, g4, g5, g6, g7, g8⟩ := ih (oneS B l t c s).2.2.2 a3
        have a4' : (oneS B l t c s).2.2.2 ≤ s + (pairsW l t c).length := a4
        have a2' : s ≤ (oneS B l t c s).2.2.2 := a2
        by_cases hw : (ownG B l c r (oneS B l t c s).2.2.2).1 ≠ 0
        · rw [if_pos hw]
          refine ⟨g1, by dsimp only; omega, g3, by dsimp only; omega, fun h => by have := g5 h; omega, fun _ => rfl, fun h => absurd h hw, fun h => ?_⟩
          obtain ⟨x, hx, h1⟩ := g8 h
          exact ⟨x, List.mem_cons_of_mem _ hx, h1⟩
        · rw [if_neg hw]
          have hw0 : (ownG B l c r (oneS B l t c s).2.2.2).1 = 0 := by simpa using hw
          have hv0 : (oneS B l t c s).1 = 0 := by simpa using hv
          obtain ⟨e1, e2⟩ := g7 hw0
          have hone := a6 hv0
          refine ⟨.inl rfl, by dsimp only; omega, g3, by dsimp only; omega, fun h => (by cases h), fun h => absurd rfl h, fun _ => ⟨by rw [List.length_cons, List.length_cons, e1], fun j hj hj2 => ?_⟩, fun h => (by cases h)⟩
          cases j with
          | zero => exact hone
          | succ j => exact e2 j (by simpa using hj) (by simpa using hj2)
end Go.Proofs.YtpjfhdljagkefaaDoor.RPlain
