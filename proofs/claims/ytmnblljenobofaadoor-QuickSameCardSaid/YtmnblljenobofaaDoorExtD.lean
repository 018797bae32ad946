/- Plain words: the program's rows (places left as bits), and its look for ways back. -/
import Derived.Test.YtmnblljenobofaaDoorMg6
namespace Go.Proofs.YtmnblljenobofaaDoor.RPlain

/-- a number without the bits of another -/
def lessN (a b : Nat) : Nat := a &&& (4294967295 - b)
theorem lessN_test {a b : Nat} (ha : a < 4294967296) (hb : b < 4294967296) (k : Nat) : (lessN a b).testBit k = (a.testBit k && !b.testBit k) := by
  have h1 : (4294967295 - b).testBit k = (decide (k < 32) && !b.testBit k) := by
    have := Nat.testBit_two_pow_sub_succ (x := b) (n := 32) hb k
    rwa [show 2 ^ 32 - (b + 1) = 4294967295 - b from by omega] at this
  unfold lessN
  rw [Nat.testBit_and, h1]
  by_cases hk : k < 32
  · rw [decide_eq_true hk, Bool.true_and]
  · have : a.testBit k = false := Nat.testBit_lt_two_pow (Nat.lt_of_lt_of_le ha (Nat.pow_le_pow_right (n := 2) (i := 32) (by decide) (by omega)))
    rw [this]; rfl
theorem lessN_le (a b : Nat) : lessN a b ≤ a := Nat.and_le_left
/-- what may come next: of the places left those that none of those left is before, up to a place -/
def nextS (A : List Nat) (left : Nat) : Nat → Nat
  | 0 => left
  | j + 1 => if left.testBit j = true then lessN (nextS A left j) (A.getD j 0) else nextS A left j
theorem nextS_le (A : List Nat) (left : Nat) : ∀ j, nextS A left j ≤ left := by
  intro j
  induction j with
  | zero => exact Nat.le_refl _
  | succ j ih =>
    rw [nextS]
    split
    · exact Nat.le_trans (lessN_le _ _) ih
    · exact ih
theorem nextS_test {A : List Nat} {left : Nat} (hA : ∀ a ∈ A, a < 4294967296) (hl : left < 4294967296) : ∀ (j k : Nat), (nextS A left j).testBit k = (left.testBit k && (List.range j).all fun i => !left.testBit i || !aft A i k) := by
  intro j
  induction j with
  | zero => intro k; simp [nextS]
  | succ j ih =>
    intro k
    have hg : A.getD j 0 < 4294967296 := by
      rw [List.getD_eq_getElem?_getD]
      cases h : A[j]? with
      | none => decide
      | some a => exact hA a (List.mem_of_getElem? h)
    rw [nextS, List.range_succ, List.all_append, ← Bool.and_assoc, ← ih]
    split
    · rename_i hb
      rw [lessN_test (Nat.lt_of_le_of_lt (nextS_le _ _ _) hl) hg]
      simp [hb, aft]
    · rename_i hb
      simp [hb]
/-- the places left behind a row -/
def leftA (n : Nat) (row : List Nat) : Nat := row.foldl (fun acc k => lessN acc (2 ^ k)) (2 ^ n - 1)
theorem leftA_snoc (n : Nat) (row : List Nat) (k : Nat) : leftA n (row ++ [k]) = lessN (leftA n row) (2 ^ k) := by simp [leftA]
theorem leftA_lt {n : Nat} (hn : n ≤ 6) (row : List Nat) : leftA n row < 64 := by
  have h0 : 2 ^ n ≤ 2 ^ 6 := Nat.pow_le_pow_right (by decide) hn
  have hp : 0 < 2 ^ n := Nat.two_pow_pos n
  have : ∀ (r : List Nat) (x : Nat), x < 64 → r.foldl (fun acc k => lessN acc (2 ^ k)) x < 64 := by
    intro r
    induction r with
    | nil => intro x h; exact h
    | cons k t ih => intro x h; exact ih _ (Nat.lt_of_le_of_lt (lessN_le _ _) h)
  exact this row _ (by omega)
theorem left_fold (j : Nat) : ∀ (row : List Nat) (x : Nat), x < 64 → (∀ k ∈ row, k < 32) → (row.foldl (fun acc k => lessN acc (2 ^ k)) x).testBit j = (x.testBit j && !row.contains j) := by
  intro row
  induction row with
  | nil => intro x _ _; simp
  | cons k r ih =>
    intro x hx h
    have hp : 2 ^ k < 4294967296 := Nat.pow_lt_pow_right (a := 2) (m := k) (n := 32) (by decide) (h k (List.mem_cons_self ..))
    rw [List.foldl_cons, ih _ (Nat.lt_of_le_of_lt (lessN_le _ _) hx) (fun y hy => h y (List.mem_cons_of_mem _ hy)), lessN_test (by omega) hp, Nat.testBit_two_pow, List.contains_cons]
    by_cases hj : j = k
    · subst hj; simp
    · have h1 : ¬ k = j := fun e => hj e.symm
      have h2 : (j == k) = false := by simpa using hj
      rw [h2, decide_eq_false h1]
      simp
theorem leftA_test {n : Nat} (hn : n ≤ 6) (row : List Nat) (j : Nat) (h : ∀ k ∈ row, k < n) : (leftA n row).testBit j = (decide (j < n) && !row.contains j) := by
  have h0 : 2 ^ n ≤ 2 ^ 6 := Nat.pow_le_pow_right (by decide) hn
  have hp : 0 < 2 ^ n := Nat.two_pow_pos n
  unfold leftA
  rw [left_fold j row _ (by omega) (fun k hk => by have := h k hk; omega), Nat.testBit_two_pow_sub_one]
theorem leftA_zero {n : Nat} (hn : n ≤ 6) {row : List Nat} (hd : row.Nodup) (hlt : ∀ k ∈ row, k < n) : leftA n row = 0 ↔ row.length = n := by
  constructor
  · intro h
    have h1 := nodup_le (List.range n) row List.nodup_range fun x hx => by
      have h2 := leftA_test hn row x hlt
      rw [h, Nat.zero_testBit, decide_eq_true (List.mem_range.1 hx), Bool.true_and] at h2
      simpa using h2.symm
    have h2 := nodup_le row (List.range n) hd fun x hx => List.mem_range.2 (hlt x hx)
    rw [List.length_range] at h1 h2
    omega
  · intro h
    refine Nat.eq_of_testBit_eq fun j => ?_
    rw [leftA_test hn row j hlt, Nat.zero_testBit]
    by_cases hj : j < n
    · have := nodup_full row n hd hlt h j hj
      simp [this]
    · simp [hj]
/-- may a place come next? -/
def nxR (A : List Nat) (row : List Nat) (k : Nat) : Bool := !row.contains k && (List.range A.length).all fun j => row.contains j || !aft A j k
theorem next_test {A : List Nat} (hn : A.length ≤ 6) (hA : ∀ a ∈ A, a < 4294967296) {row : List Nat} (hlt : ∀ k ∈ row, k < A.length) {k : Nat} (hk : k < A.length) :
    (nextS A (leftA A.length row) A.length).testBit k = nxR A row k := by
  have h64 := leftA_lt hn row
  rw [nextS_test hA (by omega), leftA_test hn row k hlt, decide_eq_true hk, Bool.true_and]
  unfold nxR
  congr 1
  rw [Bool.eq_iff_iff, List.all_eq_true, List.all_eq_true]
  refine forall_congr' fun j => forall_congr' fun hj => ?_
  rw [leftA_test hn row j hlt, decide_eq_true (List.mem_range.1 hj), Bool.true_and, Bool.not_not]
def rowsS (A : List Nat) : List (List Nat) := extP A.length (nxR A) A.length []
theorem stepsR_iff {A : List Nat} (hself : ∀ a, a < A.length → aft A a a = false) : ∀ (t row : List Nat), (row ++ t).length = A.length → (∀ k ∈ row ++ t, k < A.length) → row.Nodup →
    (stepsP (nxR A) row t = true ↔ t.Pairwise (goes A) ∧ ∀ b ∈ row, ∀ a ∈ t, a ≠ b) := by
  intro t
  induction t with
  | nil => intro row _ _ _; simp [stepsP]
  | cons k r ih =>
    intro row hl hlt hd
    have happ : row ++ [k] ++ r = row ++ k :: r := by simp
    rw [stepsP, Bool.and_eq_true]
    constructor
    · rintro ⟨h1, h2⟩
      unfold nxR at h1
      rw [Bool.and_eq_true, List.all_eq_true] at h1
      obtain ⟨h1a, h1b⟩ := h1
      have hkr : k ∉ row := by simpa using h1a
      have h3 := (ih (row ++ [k]) (by rw [happ]; exact hl) (by rw [happ]; exact hlt) (List.nodup_append.2 ⟨hd, by simp, fun a ha b hb => by rw [List.mem_singleton.1 hb]; exact fun e => hkr (e ▸ ha)⟩)).1 h2
      refine ⟨List.pairwise_cons.2 ⟨fun a ha => ⟨fun e => h3.2 k (by simp) a ha e, ?_⟩, h3.1⟩, fun b hb a ha => ?_⟩
      · have hal : a < A.length := hlt a (by simp [ha])
        have h4 := h1b a (List.mem_range.2 hal)
        have hna : a ∉ row := fun hc => h3.2 a (List.mem_append_left _ hc) a ha rfl
        simpa [hna] using h4
      · rcases List.mem_cons.1 ha with rfl | ha
        · exact fun e => hkr (e ▸ hb)
        · exact h3.2 b (List.mem_append_left _ hb) a ha
    · rintro ⟨h1, h2⟩
      obtain ⟨h1a, h1b⟩ := List.pairwise_cons.1 h1
      have hkr : k ∉ row := fun hc => h2 k hc k (List.mem_cons_self ..) rfl
      have hd2 : (row ++ [k]).Nodup := List.nodup_append.2 ⟨hd, by simp, fun a ha b hb => by rw [List.mem_singleton.1 hb]; exact fun e => hkr (e ▸ ha)⟩
      refine ⟨?_, (ih (row ++ [k]) (by rw [happ]; exact hl) (by rw [happ]; exact hlt) hd2).2 ⟨h1b, fun b hb a ha => ?_⟩⟩
      · unfold nxR
        rw [Bool.and_eq_true, List.all_eq_true]
        refine ⟨by simpa using hkr, fun j hj => ?_⟩
        have hall : (row ++ k :: r).Nodup := by
          rw [List.nodup_append]
          exact ⟨hd, goes_nodup h1, fun a ha b hb e => h2 a ha b hb e.symm⟩
        have hm := nodup_full (row ++ k :: r) A.length hall hlt hl j (List.mem_range.1 hj)
        rcases List.mem_append.1 hm with hm | hm
        · simp [hm]
        · rcases List.mem_cons.1 hm with rfl | hm
          · rw [hself j (List.mem_range.1 hj)]; simp
          · rw [(h1a j hm).2]; simp
      · rcases List.mem_append.1 hb with hb | hb
        · exact h2 b hb a (List.mem_cons_of_mem _ ha)
        · rw [List.mem_singleton.1 hb]; exact (h1a a ha).1
theorem rowsS_eq {A : List Nat} (hself : ∀ a, a < A.length → aft A a a = false) : rowsS A = allS A := by
  unfold rowsS allS
  refine ext_same A.length fun t hl hlt => ?_
  rw [Bool.eq_iff_iff, stepsR_iff hself t [] (by simpa using hl) (by simpa using hlt) List.nodup_nil, steps_iff]
  simp
theorem self_free {A : List Nat} (hf : Free A) : ∀ a, a < A.length → aft A a a = false := fun a ha => by
  cases h : aft A a a with
  | false => rfl
  | true => exact absurd (.single ⟨ha, ha, h⟩) (hf a)
/-- ways back lie among the places left -/
def Back (A : List Nat) (left : Nat) : Prop := left < 64 ∧ (∀ a, Relation.TransGen (Edge A) a a → left.testBit a = true) ∧ ∀ k, left.testBit k = true → k < A.length
theorem back_start {A : List Nat} (hn : A.length ≤ 6) : Back A (2 ^ A.length - 1) := by
  have h0 : 2 ^ A.length ≤ 2 ^ 6 := Nat.pow_le_pow_right (by decide) hn
  have hp : 0 < 2 ^ A.length := Nat.two_pow_pos _
  refine ⟨by omega, fun a ha => ?_, fun k hk => ?_⟩
  · rw [Nat.testBit_two_pow_sub_one, decide_eq_true (trans_lt ha)]
  · rw [Nat.testBit_two_pow_sub_one] at hk
    exact of_decide_eq_true hk
theorem back_step {A : List Nat} {left : Nat} (hA : ∀ a ∈ A, a < 4294967296) (h : Back A left) : Back A (lessN left (nextS A left A.length)) := by
  obtain ⟨h1, h2, h3⟩ := h
  have hnl := nextS_le A left A.length
  have hlt : ∀ k, (lessN left (nextS A left A.length)).testBit k = (left.testBit k && !(nextS A left A.length).testBit k) := fun k => lessN_test (by omega) (by omega) k
  refine ⟨Nat.lt_of_le_of_lt (lessN_le _ _) h1, fun a ha => ?_, fun k hk => ?_⟩
  · rw [hlt, h2 a ha, Bool.true_and, nextS_test hA (by omega), h2 a ha, Bool.true_and]
    -- the one ahead of it on the way
    obtain ⟨b, hb, hba⟩ : ∃ b, Relation.TransGen (Edge A) b b ∧ Edge A b a := by
      cases ha with
      | single h => exact ⟨a, .single h, h⟩
      | tail h1 h2 => exact ⟨_, Relation.TransGen.trans (.single h2) h1, h2⟩
    have : ((List.range A.length).all fun i => !left.testBit i || !aft A i a) = false := by
      rw [List.all_eq_false]
      refine ⟨b, List.mem_range.2 hba.1, ?_⟩
      rw [h2 b hb, hba.2.2]
      decide
    rw [this]; rfl
  · rw [hlt, Bool.and_eq_true] at hk
    exact h3 k hk.1
theorem lessN_less {a b : Nat} (ha : a < 64) (hb : b ≤ a) (h0 : b ≠ 0) (hs : ∀ k, b.testBit k = true → a.testBit k = true) : lessN a b < a := by
  refine Nat.lt_of_le_of_ne (lessN_le _ _) fun he => ?_
  refine h0 (Nat.eq_of_testBit_eq fun k => ?_)
  rw [Nat.zero_testBit]
  cases hk : b.testBit k with
  | false => rfl
  | true =>
    have h1 := lessN_test (a := a) (b := b) (by omega) (by omega) k
    rw [he, hs k hk, hk] at h1
    exact absurd h1 (by decide)
theorem next_sub {A : List Nat} {left : Nat} (hA : ∀ a ∈ A, a < 4294967296) (h : left < 64) {k : Nat} (hk : (nextS A left A.length).testBit k = true) : left.testBit k = true := by
  rw [nextS_test hA (by omega), Bool.and_eq_true] at hk
  exact hk.1
theorem back_end {A : List Nat} {left : Nat} (hA : ∀ a ∈ A, a < 4294967296) (h : Back A left) (h0 : nextS A left A.length = 0) : Free A ↔ left = 0 := by
  obtain ⟨h1, h2, h3⟩ := h
  constructor
  · intro hf
    refine Nat.eq_of_testBit_eq fun k => ?_
    rw [Nat.zero_testBit]
    cases hk : left.testBit k with
    | false => rfl
    | true =>
      obtain ⟨z, hz, hmin⟩ := has_min (L := A) (S := (List.range A.length).filter left.testBit) hf (fun x hx => List.mem_range.1 (List.mem_filter.1 hx).1) _ k (List.mem_filter.2 ⟨List.mem_range.2 (h3 k hk), hk⟩) (Nat.le_refl _)
      have hzl := (List.mem_filter.1 hz).2
      have h4 := nextS_test hA (show left < 4294967296 by omega) A.length z
      rw [h0, Nat.zero_testBit, hzl, Bool.true_and] at h4
      have : ((List.range A.length).all fun i => !left.testBit i || !aft A i z) = true := by
        rw [List.all_eq_true]
        intro i hi
        cases hb : left.testBit i with
        | false => rfl
        | true => rw [hmin i (List.mem_filter.2 ⟨hi, hb⟩)]; rfl
      rw [this] at h4
      exact absurd h4 (by decide)
  · intro he a ha
    have := h2 a ha
    rw [he, Nat.zero_testBit] at this
    exact absurd this (by decide)
theorem nxR_not {A row : List Nat} {k : Nat} (h : nxR A row k = true) : k ∉ row := by
  unfold nxR at h
  rw [Bool.and_eq_true] at h
  simpa using h.1
/-- no number has a bit that is no place's -/
theorem more_iff {a n : Nat} (hn : n ≤ 6) (ha : a < 4294967296) : lessN a (2 ^ n - 1) = 0 ↔ a < 2 ^ n := by
  have h0 : 2 ^ n ≤ 2 ^ 6 := Nat.pow_le_pow_right (by decide) hn
  have hp : 0 < 2 ^ n := Nat.two_pow_pos n
  constructor
  · intro h
    refine Nat.lt_pow_two_of_testBit a fun k hk => ?_
    have h1 := lessN_test ha (show 2 ^ n - 1 < 4294967296 by omega) k
    rw [h, Nat.zero_testBit, Nat.testBit_two_pow_sub_one, decide_eq_false (by omega)] at h1
    simpa using h1.symm
  · intro h
    refine Nat.eq_of_testBit_eq fun k => ?_
    rw [Nat.zero_testBit, lessN_test ha (by omega), Nat.testBit_two_pow_sub_one]
    by_cases hk : k < n
    · simp [hk]
    · have : a.testBit k = false := Nat.testBit_lt_two_pow (Nat.lt_of_lt_of_le h (Nat.pow_le_pow_right (by decide) (by omega)))
      rw [this]; rfl
end Go.Proofs.YtmnblljenobofaaDoor.RPlain
