/- Merged: ExtD, ExtE, ExtF. -/
import Derived.Test.YtmnblljenobofaaGreatDoorMg5
import Derived.Test.YtmnblljenobofaaGreatDoorMg14
import Derived.Test.YtmnblljenobofaaGreatDoorMg11
import Derived.Test.YtmnblljenobofaaGreatDoorOrdE
import Derived.Test.YtmnblljenobofaaGreatDoorMg2
import Derived.Test.YtmnblljenobofaaGreatDoorMg3
import Derived.Laws.BitsAllLaws
/- Plain words: the program's rows (places left as bits), and its look for ways back. -/
namespace Go.Proofs.YtmnblljenobofaaGreatDoor.RPlain

/-- a number without the bits of another -/
def lessN (a b : Nat) : Nat := a &&& (4294967295 - b)
theorem lessN_test {a b : Nat} (ha : a < 4294967296) (hb : b < 4294967296) (k : Nat) : (lessN a b).testBit k = (a.testBit k && !b.testBit k) := by
  have h1 : (4294967295 - b).testBit k = (decide (k < 32) && !b.testBit k) := by
    have := Nat.testBit_two_pow_sub_succ (x := b) (n := 32) hb k
    rwa [show 2 ^ 32 - (b + 1) = 4294967295 - b from by omega] at this
  unfold lessN
  rw [Nat.testBit_and, h1]
  by_cases hk : k < 32
  · rw [decide_eq_true hk, Bool.true_and]
  · have : a.testBit k = false := Nat.testBit_lt_two_pow (Nat.lt_of_lt_of_le ha (Nat.pow_le_pow_right (n := 2) (i := 32) (by decide) (by omega)))
    rw [this]; rfl
theorem lessN_le (a b : Nat) : lessN a b ≤ a := Nat.and_le_left
/-- what may come next: of the places left those that none of those left is before, up to a place -/
def nextS (A : List Nat) (left : Nat) : Nat → Nat
  | 0 => left
  | j + 1 => if left.testBit j = true then lessN (nextS A left j) (A.getD j 0) else nextS A left j
theorem nextS_le (A : List Nat) (left : Nat) : ∀ j, nextS A left j ≤ left := by
  intro j
  induction j with
  | zero => exact Nat.le_refl _
  | succ j ih =>
    rw [nextS]
    split
    · exact Nat.le_trans (lessN_le _ _) ih
    · exact ih
theorem nextS_test {A : List Nat} {left : Nat} (hA : ∀ a ∈ A, a < 4294967296) (hl : left < 4294967296) : ∀ (j k : Nat), (nextS A left j).testBit k = (left.testBit k && (List.range j).all fun i => !left.testBit i || !aft A i k) := by
  intro j
  induction j with
  | zero => intro k; simp [nextS]
  | succ j ih =>
    intro k
    have hg : A.getD j 0 < 4294967296 := by
      rw [List.getD_eq_getElem?_getD]
      cases h : A[j]? with
      | none => decide
      | some a => exact hA a (List.mem_of_getElem? h)
    rw [nextS, List.range_succ, List.all_append, ← Bool.and_assoc, ← ih]
    split
    · rename_i hb
      rw [lessN_test (Nat.lt_of_le_of_lt (nextS_le _ _ _) hl) hg]
      simp [hb, aft]
    · rename_i hb
      simp [hb]
/-- the places left behind a row -/
def leftA (n : Nat) (row : List Nat) : Nat := row.foldl (fun acc k => lessN acc (2 ^ k)) (2 ^ n - 1)
theorem leftA_snoc (n : Nat) (row : List Nat) (k : Nat) : leftA n (row ++ [k]) = lessN (leftA n row) (2 ^ k) := by simp [leftA]
theorem leftA_lt {n : Nat} (hn : n ≤ 6) (row : List Nat) : leftA n row < 64 := by
  have h0 : 2 ^ n ≤ 2 ^ 6 := Nat.pow_le_pow_right (by decide) hn
  have hp : 0 < 2 ^ n := Nat.two_pow_pos n
  have : ∀ (r : List Nat) (x : Nat), x < 64 → r.foldl (fun acc k => lessN acc (2 ^ k)) x < 64 := by
    intro r
    induction r with
    | nil => intro x h; exact h
    | cons k t ih => intro x h; exact ih _ (Nat.lt_of_le_of_lt (lessN_le _ _) h)
  exact this row _ (by omega)
theorem left_fold (j : Nat) : ∀ (row : List Nat) (x : Nat), x < 64 → (∀ k ∈ row, k < 32) → (row.foldl (fun acc k => lessN acc (2 ^ k)) x).testBit j = (x.testBit j && !row.contains j) := by
  intro row
  induction row with
  | nil => intro x _ _; simp
  | cons k r ih =>
    intro x hx h
    have hp : 2 ^ k < 4294967296 := Nat.pow_lt_pow_right (a := 2) (m := k) (n := 32) (by decide) (h k (List.mem_cons_self ..))
    rw [List.foldl_cons, ih _ (Nat.lt_of_le_of_lt (lessN_le _ _) hx) (fun y hy => h y (List.mem_cons_of_mem _ hy)), lessN_test (by omega) hp, Nat.testBit_two_pow, List.contains_cons]
    by_cases hj : j = k
    · subst hj; simp
    · have h1 : ¬ k = j := fun e => hj e.symm
      have h2 : (j == k) = false := by simpa using hj
      rw [h2, decide_eq_false h1]
      simp
theorem leftA_test {n : Nat} (hn : n ≤ 6) (row : List Nat) (j : Nat) (h : ∀ k ∈ row, k < n) : (leftA n row).testBit j = (decide (j < n) && !row.contains j) := by
  have h0 : 2 ^ n ≤ 2 ^ 6 := Nat.pow_le_pow_right (by decide) hn
  have hp : 0 < 2 ^ n := Nat.two_pow_pos n
  unfold leftA
  rw [left_fold j row _ (by omega) (fun k hk => by have := h k hk; omega), Nat.testBit_two_pow_sub_one]
theorem leftA_zero {n : Nat} (hn : n ≤ 6) {row : List Nat} (hd : row.Nodup) (hlt : ∀ k ∈ row, k < n) : leftA n row = 0 ↔ row.length = n := by
  constructor
  · intro h
    have h1 := nodup_le (List.range n) row List.nodup_range fun x hx => by
      have h2 := leftA_test hn row x hlt
      rw [h, Nat.zero_testBit, decide_eq_true (List.mem_range.1 hx), Bool.true_and] at h2
      simpa using h2.symm
    have h2 := nodup_le row (List.range n) hd fun x hx => List.mem_range.2 (hlt x hx)
    rw [List.length_range] at h1 h2
    omega
  · intro h
    refine Nat.eq_of_testBit_eq fun j => ?_
    rw [leftA_test hn row j hlt, Nat.zero_testBit]
    by_cases hj : j < n
    · have := nodup_full row n hd hlt h j hj
      simp [this]
    · simp [hj]
/-- may a place come next? -/
def nxR (A : List Nat) (row : List Nat) (k : Nat) : Bool := !row.contains k && (List.range A.length).all fun j => row.contains j || !aft A j k
theorem next_test {A : List Nat} (hn : A.length ≤ 6) (hA : ∀ a ∈ A, a < 4294967296) {row : List Nat} (hlt : ∀ k ∈ row, k < A.length) {k : Nat} (hk : k < A.length) :
    (nextS A (leftA A.length row) A.length).testBit k = nxR A row k := by
  have h64 := leftA_lt hn row
  rw [nextS_test hA (by omega), leftA_test hn row k hlt, decide_eq_true hk, Bool.true_and]
  unfold nxR
  congr 1
  rw [Bool.eq_iff_iff, List.all_eq_true, List.all_eq_true]
  refine forall_congr' fun j => forall_congr' fun hj => ?_
  rw [leftA_test hn row j hlt, decide_eq_true (List.mem_range.1 hj), Bool.true_and, Bool.not_not]
def rowsS (A : List Nat) : List (List Nat) := extP A.length (nxR A) A.length []
theorem stepsR_iff {A : List Nat} (hself : ∀ a, a < A.length → aft A a a = false) : ∀ (t row : List Nat), (row ++ t).length = A.length → (∀ k ∈ row ++ t, k < A.length) → row.Nodup →
    (stepsP (nxR A) row t = true ↔ t.Pairwise (goes A) ∧ ∀ b ∈ row, ∀ a ∈ t, a ≠ b) := by
  intro t
  induction t with
  | nil => intro row _ _ _; simp [stepsP]
  | cons k r ih =>
    intro row hl hlt hd
    have happ : row ++ [k] ++ r = row ++ k :: r := by simp
    rw [stepsP, Bool.and_eq_true]
    constructor
    · rintro ⟨h1, h2⟩
      unfold nxR at h1
      rw [Bool.and_eq_true, List.all_eq_true] at h1
      obtain ⟨h1a, h1b⟩ := h1
      have hkr : k ∉ row := by simpa using h1a
      have h3 := (ih (row ++ [k]) (by rw [happ]; exact hl) (by rw [happ]; exact hlt) (List.nodup_append.2 ⟨hd, by simp, fun a ha b hb => by rw [List.mem_singleton.1 hb]; exact fun e => hkr (e ▸ ha)⟩)).1 h2
      refine ⟨List.pairwise_cons.2 ⟨fun a ha => ⟨fun e => h3.2 k (by simp) a ha e, ?_⟩, h3.1⟩, fun b hb a ha => ?_⟩
      · have hal : a < A.length := hlt a (by simp [ha])
        have h4 := h1b a (List.mem_range.2 hal)
        have hna : a ∉ row := fun hc => h3.2 a (List.mem_append_left _ hc) a ha rfl
        simpa [hna] using h4
      · rcases List.mem_cons.1 ha with rfl | ha
        · exact fun e => hkr (e ▸ hb)
        · exact h3.2 b (List.mem_append_left _ hb) a ha
    · rintro ⟨h1, h2⟩
      obtain ⟨h1a, h1b⟩ := List.pairwise_cons.1 h1
      have hkr : k ∉ row := fun hc => h2 k hc k (List.mem_cons_self ..) rfl
      have hd2 : (row ++ [k]).Nodup := List.nodup_append.2 ⟨hd, by simp, fun a ha b hb => by rw [List.mem_singleton.1 hb]; exact fun e => hkr (e ▸ ha)⟩
      refine ⟨?_, (ih (row ++ [k]) (by rw [happ]; exact hl) (by rw [happ]; exact hlt) hd2).2 ⟨h1b, fun b hb a ha => ?_⟩⟩
      · unfold nxR
        rw [Bool.and_eq_true, List.all_eq_true]
        refine ⟨by simpa using hkr, fun j hj => ?_⟩
        have hall : (row ++ k :: r).Nodup := by
          rw [List.nodup_append]
          exact ⟨hd, goes_nodup h1, fun a ha b hb e => h2 a ha b hb e.symm⟩
        have hm := nodup_full (row ++ k :: r) A.length hall hlt hl j (List.mem_range.1 hj)
        rcases List.mem_append.1 hm with hm | hm
        · simp [hm]
        · rcases List.mem_cons.1 hm with rfl | hm
          · rw [hself j (List.mem_range.1 hj)]; simp
          · rw [(h1a j hm).2]; simp
      · rcases List.mem_append.1 hb with hb | hb
        · exact h2 b hb a (List.mem_cons_of_mem _ ha)
        · rw [List.mem_singleton.1 hb]; exact (h1a a ha).1
theorem rowsS_eq {A : List Nat} (hself : ∀ a, a < A.length → aft A a a = false) : rowsS A = allS A := by
  unfold rowsS allS
  refine ext_same A.length fun t hl hlt => ?_
  rw [Bool.eq_iff_iff, stepsR_iff hself t [] (by simpa using hl) (by simpa using hlt) List.nodup_nil, steps_iff]
  simp
theorem self_free {A : List Nat} (hf : Free A) : ∀ a, a < A.length → aft A a a = false := fun a ha => by
  cases h : aft A a a with
  | false => rfl
  | true => exact absurd (.single ⟨ha, ha, h⟩) (hf a)
/-- ways back lie among the places left -/
def Back (A : List Nat) (left : Nat) : Prop := left < 64 ∧ (∀ a, Relation.TransGen (Edge A) a a → left.testBit a = true) ∧ ∀ k, left.testBit k = true → k < A.length
theorem back_start {A : List Nat} (hn : A.length ≤ 6) : Back A (2 ^ A.length - 1) := by
  have h0 : 2 ^ A.length ≤ 2 ^ 6 := Nat.pow_le_pow_right (by decide) hn
  have hp : 0 < 2 ^ A.length := Nat.two_pow_pos _
  refine ⟨by omega, fun a ha => ?_, fun k hk => ?_⟩
  · rw [Nat.testBit_two_pow_sub_one, decide_eq_true (trans_lt ha)]
  · rw [Nat.testBit_two_pow_sub_one] at hk
    exact of_decide_eq_true hk
theorem back_step {A : List Nat} {left : Nat} (hA : ∀ a ∈ A, a < 4294967296) (h : Back A left) : Back A (lessN left (nextS A left A.length)) := by
  obtain ⟨h1, h2, h3⟩ := h
  have hnl := nextS_le A left A.length
  have hlt : ∀ k, (lessN left (nextS A left A.length)).testBit k = (left.testBit k && !(nextS A left A.length).testBit k) := fun k => lessN_test (by omega) (by omega) k
  refine ⟨Nat.lt_of_le_of_lt (lessN_le _ _) h1, fun a ha => ?_, fun k hk => ?_⟩
  · rw [hlt, h2 a ha, Bool.true_and, nextS_test hA (by omega), h2 a ha, Bool.true_and]
    -- the one ahead of it on the way
    obtain ⟨b, hb, hba⟩ : ∃ b, Relation.TransGen (Edge A) b b ∧ Edge A b a := by
      cases ha with
      | single h => exact ⟨a, .single h, h⟩
      | tail h1 h2 => exact ⟨_, Relation.TransGen.trans (.single h2) h1, h2⟩
    have : ((List.range A.length).all fun i => !left.testBit i || !aft A i a) = false := by
      rw [List.all_eq_false]
      refine ⟨b, List.mem_range.2 hba.1, ?_⟩
      rw [h2 b hb, hba.2.2]
      decide
    rw [this]; rfl
  · rw [hlt, Bool.and_eq_true] at hk
    exact h3 k hk.1
theorem lessN_less {a b : Nat} (ha : a < 64) (hb : b ≤ a) (h0 : b ≠ 0) (hs : ∀ k, b.testBit k = true → a.testBit k = true) : lessN a b < a := by
  refine Nat.lt_of_le_of_ne (lessN_le _ _) fun he => ?_
  refine h0 (Nat.eq_of_testBit_eq fun k => ?_)
  rw [Nat.zero_testBit]
  cases hk : b.testBit k with
  | false => rfl
  | true =>
    have h1 := lessN_test (a := a) (b := b) (by omega) (by omega) k
    rw [he, hs k hk, hk] at h1
    exact absurd h1 (by decide)
theorem next_sub {A : List Nat} {left : Nat} (hA : ∀ a ∈ A, a < 4294967296) (h : left < 64) {k : Nat} (hk : (nextS A left A.length).testBit k = true) : left.testBit k = true := by
  rw [nextS_test hA (by omega), Bool.and_eq_true] at hk
  exact hk.1
theorem back_end {A : List Nat} {left : Nat} (hA : ∀ a ∈ A, a < 4294967296) (h : Back A left) (h0 : nextS A left A.length = 0) : Free A ↔ left = 0 := by
  obtain ⟨h1, h2, h3⟩ := h
  constructor
  · intro hf
    refine Nat.eq_of_testBit_eq fun k => ?_
    rw [Nat.zero_testBit]
    cases hk : left.testBit k with
    | false => rfl
    | true =>
      obtain ⟨z, hz, hmin⟩ := has_min (L := A) (S := (List.range A.length).filter left.testBit) hf (fun x hx => List.mem_range.1 (List.mem_filter.1 hx).1) _ k (List.mem_filter.2 ⟨List.mem_range.2 (h3 k hk), hk⟩) (Nat.le_refl _)
      have hzl := (List.mem_filter.1 hz).2
      have h4 := nextS_test hA (show left < 4294967296 by omega) A.length z
      rw [h0, Nat.zero_testBit, hzl, Bool.true_and] at h4
      have : ((List.range A.length).all fun i => !left.testBit i || !aft A i z) = true := by
        rw [List.all_eq_true]
        intro i hi
        cases hb : left.testBit i with
        | false => rfl
        | true => rw [hmin i (List.mem_filter.2 ⟨hi, hb⟩)]; rfl
      rw [this] at h4
      exact absurd h4 (by decide)
  · intro he a ha
    have := h2 a ha
    rw [he, Nat.zero_testBit] at this
    exact absurd this (by decide)
theorem nxR_not {A row : List Nat} {k : Nat} (h : nxR A row k = true) : k ∉ row := by
  unfold nxR at h
  rw [Bool.and_eq_true] at h
  simpa using h.1
/-- no number has a bit that is no place's -/
theorem more_iff {a n : Nat} (hn : n ≤ 6) (ha : a < 4294967296) : lessN a (2 ^ n - 1) = 0 ↔ a < 2 ^ n := by
  have h0 : 2 ^ n ≤ 2 ^ 6 := Nat.pow_le_pow_right (by decide) hn
  have hp : 0 < 2 ^ n := Nat.two_pow_pos n
  constructor
  · intro h
    refine Nat.lt_pow_two_of_testBit a fun k hk => ?_
    have h1 := lessN_test ha (show 2 ^ n - 1 < 4294967296 by omega) k
    rw [h, Nat.zero_testBit, Nat.testBit_two_pow_sub_one, decide_eq_false (by omega)] at h1
    simpa using h1.symm
  · intro h
    refine Nat.eq_of_testBit_eq fun k => ?_
    rw [Nat.zero_testBit, lessN_test ha (by omega), Nat.testBit_two_pow_sub_one]
    by_cases hk : k < n
    · simp [hk]
    · have : a.testBit k = false := Nat.testBit_lt_two_pow (Nat.lt_of_lt_of_le h (Nat.pow_le_pow_right (by decide) (by omega)))
      rw [this]; rfl
end Go.Proofs.YtmnblljenobofaaGreatDoor.RPlain
/- The walks of package extend's bit, placesOf, nextOf, goesBack, check. -/
namespace Go.Proofs.YtmnblljenobofaaGreatDoor.RPlain
end Go.Proofs.YtmnblljenobofaaGreatDoor.RPlain
namespace Go.Proofs.YtmnblljenobofaaGreatDoor
open Go.RowKit RPlain

theorem u32s_len (L : List Nat) : (u32s L).length = L.length := by simp [u32s]
theorem u32s_get {L : List Nat} {k : Nat} (h : k < L.length) : (u32s L)[k]? = some (.int .u32 (L[k] : Int)) := by
  unfold u32s
  rw [List.getElem?_map, List.getElem?_eq_getElem h]; rfl
theorem extBit_any (k : Nat) (hk : k < 32) (w : World) : Calls Tryz.prog 127 #[.int .i64 (k : Int)] w fun e w' => e = .returned (.int .u32 ((2 ^ k : Nat) : Int)) ∧ w' = w := by
  go_enter Tryz.func127, Tryz.ntmps127
  go_wp2
  go_ret
  exact ⟨by rw [pow_u32 hk]; rfl, rfl⟩
theorem placesOf_any (a : Option Addr) (n c : Nat) (hn : n < 32) (w : World) : Calls Tryz.prog 111 #[.slice a n c] w fun e w' => e = .returned (.int .u32 ((2 ^ n - 1 : Nat) : Int)) ∧ w' = w := by
  have hb := extBit_any n hn w
  have hp : 0 < 2 ^ n := Nat.two_pow_pos n
  have hlt : 2 ^ n < 4294967296 := Nat.pow_lt_pow_right (a := 2) (m := n) (n := 32) (by decide) hn
  generalize 2 ^ n = z at *
  go_enter Tryz.func111, Tryz.ntmps111
  go_wp2_with fail
  refine hb.mono ?_
  rintro e w1 ⟨rfl, rfl⟩
  go_wp2
  go_ret
  exact ⟨ret_int (by omega), rfl⟩
theorem and_pow2 (n k : Nat) : n &&& 2 ^ k = if n.testBit k = true then 2 ^ k else 0 := by
  refine Nat.eq_of_testBit_eq fun i => ?_
  rw [Nat.testBit_and, Nat.testBit_two_pow]
  split
  · rename_i h
    rw [Nat.testBit_two_pow]
    by_cases hi : k = i
    · subst hi; simp [h]
    · simp [hi]
  · rename_i h
    rw [Nat.zero_testBit]
    by_cases hi : k = i
    · subst hi; simpa using h
    · simp [hi]
set_option maxRecDepth 100000 in
set_option maxHeartbeats 1000000 in
theorem nextOf_any (v : Value) (A : List Nat) (left : Nat) (w : World) (hv : Rd w v (u32s A)) (hn : A.length ≤ 6) (hA : ∀ a ∈ A, a < 4294967296) (hl : left < 64) :
    Calls Tryz.prog 128 #[v, .int .u32 (left : Int)] w fun e w' => e = .returned (.int .u32 ((nextS A left A.length : Nat) : Int)) ∧ w' = w := by
  have HV := Lib.hid hv
  obtain ⟨a, c, rfl⟩ := hv.len
  rw [u32s_len] at HV ⊢
  have HA := Lib.hid hA
  clear hv hA
  go_enter Tryz.func128, Tryz.ntmps128
  go_wp2_with fail
  go_loopw [5, 11] (fun y x wr => ∃ k : Nat, k ≤ A.length ∧ x = .int .i64 k ∧ y = .int .u32 ((nextS A left k : Nat) : Int) ∧ wr = w) (fun _ x _ => A.length - (intOf x).toNat)
  case atStart => exact ⟨0, by omega, rfl, rfl, rfl⟩
  case round =>
    obtain ⟨k, hk, rfl, rfl, rfl⟩ := hrel
    by_cases hlt : k < A.length
    · obtain ⟨b, o, c', he, hb, hc⟩ := HV.out.opened (by rw [u32s_len]; omega)
      have hck := hc k _ (u32s_get hlt)
      simp only [Value.slice.injEq] at he
      obtain ⟨rfl, -, rfl⟩ := he
      clear hc
      have hak := HA.out _ (List.getElem_mem hlt)
      have hle := nextS_le A left k
      have hkb := extBit_any k (by omega)
      have hlt3 : 2 ^ k < 4294967296 := Nat.pow_lt_pow_right (a := 2) (m := k) (n := 32) (by decide) (by omega)
      have hand := u32_and_nat left (2 ^ k) (by omega) hlt3
      have hap := and_pow2 left k
      have hpos : 0 < 2 ^ k := Nat.two_pow_pos k
      have hstep : nextS A left (k + 1) = if left.testBit k = true then lessN (nextS A left k) A[k] else nextS A left k := by
        rw [nextS, List.getD_eq_getElem?_getD, List.getElem?_eq_getElem hlt]; rfl
      have HST := Lib.hid hstep
      generalize A[k] = y at *
      generalize nextS A left k = nx at *
      obtain ⟨nx', hnx'⟩ : ∃ z, nextS A left (k + 1) = z := ⟨_, rfl⟩
      have HNX' := Lib.hid hnx'
      rw [hnx'] at HST
      clear hnx'
      have hano := u32_andNot_nat nx y (by omega) hak
      have hln : nx &&& (4294967295 - y) = lessN nx y := rfl
      rw [hln] at hano
      generalize lessN nx y = ly at *
      clear hstep hln
      obtain ⟨pw, hpw⟩ : ∃ pw, 2 ^ k = pw := ⟨_, rfl⟩
      rw [hpw] at hkb hlt3 hand hap hpos
      clear hpw
      cases hb : left.testBit k with
      | true =>
        rw [hb, if_pos rfl] at hap
        rw [hap] at hand
        have he := HST.out
        rw [hb, if_pos rfl] at he
        subst he
        clear HST hap
        have tq : ((pw : Int) != 0) = true := by simp; omega
        go_wp2_with (go_at_call 127; refine (hkb _).mono ?_; rintro e w3 ⟨rfl, rfl⟩)
        go_roundw
        case rel => exact ⟨k + 1, by omega, by go_num, by rw [HNX'.out], trivial⟩
        case measure => simp [intOf]; omega
      | false =>
        rw [hb, if_neg (by decide)] at hap
        rw [hap] at hand
        have he := HST.out
        rw [hb, if_neg (by decide)] at he
        subst he
        clear HST hap
        go_wp2_with (go_at_call 127; refine (hkb _).mono ?_; rintro e w3 ⟨rfl, rfl⟩)
        go_roundw
        case rel => exact ⟨k + 1, by omega, by go_num, by rw [HNX'.out], trivial⟩
        case measure => simp [intOf]; omega
    · obtain rfl : k = A.length := by omega
      go_wp2
      go_ret
      exact ⟨rfl, rfl⟩
set_option maxRecDepth 100000 in
set_option maxHeartbeats 1000000 in
theorem goesBack_any (v : Value) (A : List Nat) (w : World) (hv : Rd w v (u32s A)) (hn : A.length ≤ 6) (hA : ∀ a ∈ A, a < 4294967296) :
    Calls Tryz.prog 113 #[v] w fun e w' => (∃ b, e = .returned (.bool b) ∧ (b = false ↔ Free A)) ∧ w' = w := by
  have HV := Lib.hid hv
  obtain ⟨a, c, rfl⟩ := hv.len
  rw [u32s_len] at HV ⊢
  have HA := Lib.hid hA
  have HNX := Lib.hid (fun left (hl : left < 64) => nextOf_any (.slice a A.length c) A left w HV.out hn HA.out hl)
  have hp := placesOf_any a A.length c (by omega) w
  have HB0 := Lib.hid (back_start (A := A) hn)
  have hn0 := HNX.out _ HB0.out.1
  clear hv hA HV
  have HST := Lib.hid (fun left (h : Back A left) => back_step HA.out h)
  have HEN := Lib.hid (fun left (h : Back A left) => back_end HA.out h)
  have HSU := Lib.hid (fun left (h : left < 64) k => next_sub (A := A) (k := k) HA.out h)
  obtain ⟨l0, hl0⟩ : ∃ z, 2 ^ A.length - 1 = z := ⟨_, rfl⟩
  rw [hl0] at hp HB0 hn0
  clear hl0
  go_enter Tryz.func113, Tryz.ntmps113
  go_wp2_with fail
  refine hp.mono ?_
  rintro e w1 ⟨rfl, hw1⟩
  obtain rfl : w = w1 := hw1.symm
  go_wp2_with fail
  refine hn0.mono ?_
  rintro e w1 ⟨rfl, hw1⟩
  obtain rfl : w = w1 := hw1.symm
  clear hn0 hp
  go_wp2_with fail
  go_loopw [3, 4] (fun x y wr => ∃ p : Nat, x = .int .u32 (p : Int) ∧ y = .int .u32 ((nextS A p A.length : Nat) : Int) ∧ Hid (Back A p) ∧ wr = w) (fun x _ _ => (intOf x).toNat)
  case atStart => exact ⟨l0, rfl, rfl, HB0, rfl⟩
  case round =>
    clear HB0
    obtain ⟨p, rfl, rfl, HP, rfl⟩ := hrel
    have h64 := HP.out.1
    by_cases h0 : nextS A p A.length = 0
    · have HE := Lib.hid (HEN.out p HP.out h0)
      rw [h0]
      by_cases hp0 : p = 0
      · have HF : Hid (Free A) := HE.out.2 hp0
        subst hp0
        clear HE
        go_wp2
        go_ret
        exact ⟨⟨_, rfl, by simp [HF.out]⟩, rfl⟩
      · have HF : Hid (¬ Free A) := fun hf => hp0 (HE.out.1 hf)
        have tq : ((p : Int) != 0) = true := by simp; omega
        clear HE
        go_wp2
        go_ret
        exact ⟨⟨_, rfl, by simp [HF.out]⟩, rfl⟩
    · have hle := nextS_le A p A.length
      have HL : Hid (lessN p (nextS A p A.length) < p) := lessN_less h64 hle h0 (fun k => HSU.out p h64 k)
      have HB2 := Lib.hid (HST.out p HP.out)
      have hcall := HNX.out _ HB2.out.1
      have hano := u32_andNot_nat p (nextS A p A.length) (by omega) (by omega)
      have hln : p &&& (4294967295 - nextS A p A.length) = lessN p (nextS A p A.length) := rfl
      rw [hln] at hano
      obtain ⟨q, hq⟩ : ∃ q, lessN p (nextS A p A.length) = q := ⟨_, rfl⟩
      rw [hq] at HL HB2 hcall hano
      have tq : (((nextS A p A.length : Nat) : Int) != 0) = true := by simp; omega
      clear hln hq
      generalize nextS A p A.length = nx at *
      go_wp2_with fail
      refine hcall.mono ?_
      rintro e w1 ⟨rfl, rfl⟩
      go_wp2
      go_roundw
      case rel => exact ⟨q, rfl, rfl, HB2, trivial⟩
      case measure =>
        have := HL.out
        simp [intOf]; omega
end Go.Proofs.YtmnblljenobofaaGreatDoor
/- The walks of package extend's check, with IndexFunc and ContainsFunc at its closure. -/
namespace Go.Proofs.YtmnblljenobofaaGreatDoor.RPlain
end Go.Proofs.YtmnblljenobofaaGreatDoor.RPlain
namespace Go.Proofs.YtmnblljenobofaaGreatDoor
open Go.RowKit RPlain

/-- has a number a bit that is no place's? -/
def moreB (p : Nat) (x : Nat) : Bool := lessN x p != 0
theorem isMore_any (x p P : Nat) (w : World) (hx : x < 4294967296) (hp : p < 4294967296) (hc : w.cell? ⟨P, 0, none⟩ = some (.int .u32 (p : Int))) :
    Calls Tryz.prog 112 #[.int .u32 (x : Int), .pointer (some ⟨P, 0, none⟩)] w fun e w' => e = .returned (.bool (moreB p x)) ∧ w' = w := by
  have hano := u32_andNot_nat x p hx hp
  have hln : x &&& (4294967295 - p) = lessN x p := rfl
  rw [hln] at hano
  have HF : Hid (moreB p x = decide (lessN x p ≠ 0)) := by unfold Hid moreB; rw [Bool.eq_iff_iff]; simp
  generalize lessN x p = z at *
  go_enter Tryz.func112, Tryz.ntmps112
  go_wp2
  go_ret
  exact ⟨ret_bool (by rw [HF.out, Bool.eq_iff_iff]; simp), rfl⟩
set_option maxRecDepth 100000 in
set_option maxHeartbeats 1000000 in
theorem indexM_any (v : Value) (A : List Nat) (p P : Nat) (w : World) (hv : Rd w v (u32s A)) (hl : A.length ≤ 65536) (hA : ∀ a ∈ A, a < 4294967296) (hp : p < 4294967296) (hc : w.cell? ⟨P, 0, none⟩ = some (.int .u32 (p : Int))) :
    Calls Tryz.prog 124 #[v, .func (.func 112) #[] #[.pointer (some ⟨P, 0, none⟩)]] w fun e w' => (∃ z : Int, e = .returned (.int .i64 z) ∧ decide (0 ≤ z) = A.any (moreB p)) ∧ w' = w := by
  have HV := Lib.hid hv
  have HA := Lib.hid hA
  have HCL := Lib.hid (fun x (hx : x < 4294967296) => isMore_any x p P w hx hp hc)
  obtain ⟨va, vc, rfl⟩ := hv.len
  rw [u32s_len] at HV ⊢
  clear hv hc hA
  go_enter Tryz.func124, Tryz.ntmps124
  go_wp2_with fail
  go_loopw [8] (fun x wr => ∃ k : Nat, k ≤ A.length ∧ x = .int .i64 k ∧ Hid ((A.take k).any (moreB p) = false) ∧ wr = w) (fun x _ => A.length - (intOf x).toNat)
  case atStart => exact ⟨0, by omega, rfl, rfl, rfl⟩
  case round =>
    obtain ⟨k, hk, rfl, HT0, rfl⟩ := hrel
    by_cases hlt : k < A.length
    · have HT : Hid (A.take (k + 1) = A.take k ++ [A[k]]) := List.take_succ_eq_append_getElem hlt
      have HM : Hid (A[k] ∈ A) := List.getElem_mem hlt
      obtain ⟨b, o, c', he, hbl, hcs⟩ := HV.out.opened (by rw [u32s_len]; omega)
      simp only [Value.slice.injEq] at he
      obtain ⟨rfl, -, rfl⟩ := he
      have hck := hcs k _ (u32s_get hlt)
      have HC2 := Lib.hid (HCL.out A[k] (HA.out _ HM.out))
      clear hcs
      generalize A[k] = y at *
      cases hnb : moreB p y with
      | false =>
        rw [hnb] at HC2
        have HA2 : Hid ((A.take (k + 1)).any (moreB p) = false) := by
          unfold Hid
          rw [HT.out, List.any_append, HT0.out]
          simp [hnb]
        clear hnb HT HM HT0
        go_wp2_with (go_at_call 112; refine HC2.out.mono ?_; rintro e w3 ⟨rfl, rfl⟩)
        go_roundw
        case rel => exact ⟨k + 1, by omega, by go_num, HA2, trivial⟩
        case measure => simp [intOf]; omega
      | true =>
        rw [hnb] at HC2
        have HA2 : Hid (A.any (moreB p) = true) := List.any_eq_true.2 ⟨y, HM.out, hnb⟩
        clear hnb HT HM HT0
        go_wp2_with (go_at_call 112; refine HC2.out.mono ?_; rintro e w3 ⟨rfl, rfl⟩)
        go_ret
        exact ⟨⟨_, rfl, by rw [HA2.out]; exact decide_eq_true (by omega)⟩, rfl⟩
    · obtain rfl : k = A.length := by omega
      have HA2 : Hid (A.any (moreB p) = false) := by have := HT0.out; rwa [List.take_length] at this
      clear HT0
      go_wp2
      go_ret
      exact ⟨⟨_, rfl, by rw [HA2.out]; rfl⟩, rfl⟩
theorem containsM_any (v : Value) (A : List Nat) (p P : Nat) (w : World) (hv : Rd w v (u32s A)) (hl : A.length ≤ 65536) (hA : ∀ a ∈ A, a < 4294967296) (hp : p < 4294967296) (hc : w.cell? ⟨P, 0, none⟩ = some (.int .u32 (p : Int))) :
    Calls Tryz.prog 100 #[v, .func (.func 112) #[] #[.pointer (some ⟨P, 0, none⟩)]] w fun e w' => e = .returned (.bool (A.any (moreB p))) ∧ w' = w := by
  have HI := Lib.hid (indexM_any v A p P w hv hl hA hp hc)
  clear hv hl hc hA hp
  go_enter Tryz.func100, Tryz.ntmps100
  go_wp2_with fail
  refine HI.out.mono ?_
  rintro e w1 ⟨⟨z, rfl, hz⟩, rfl⟩
  go_wp2
  all_goals go_ret
  all_goals exact ⟨ret_bool (by rw [← hz]), rfl⟩
theorem more_any {A : List Nat} (hn : A.length ≤ 6) (hA : ∀ a ∈ A, a < 4294967296) : A.any (moreB (2 ^ A.length - 1)) = A.any fun a => decide (2 ^ A.length ≤ a) := by
  rw [Bool.eq_iff_iff, List.any_eq_true, List.any_eq_true]
  refine exists_congr fun a => and_congr_right fun ha => ?_
  have h := more_iff (n := A.length) hn (hA a ha)
  unfold moreB
  simp only [bne_iff_ne, ne_eq, decide_eq_true_eq, h]
  omega
set_option maxRecDepth 100000 in
set_option maxHeartbeats 1000000 in
theorem checkX_any (v : Value) (A : List Nat) (w : World) (hv : Rd w v (u32s A)) (hA : ∀ a ∈ A, a < 4294967296) (hl : A.length ≤ 65536) :
    Calls Tryz.prog 84 #[v] w fun e w' => e = .returned (.int .i64 ((mayE A : Nat) : Int)) ∧ Below w.heap.size w w' := by
  have HV := Lib.hid hv
  have HA := Lib.hid hA
  obtain ⟨a, c, rfl⟩ := hv.len
  rw [u32s_len] at HV ⊢
  clear hv hA
  have hun : mayE A = if 6 < A.length ∨ (A.any fun x => decide (2 ^ A.length ≤ x)) = true then 1 else if ((List.range A.length).any fun i => (waysS A i).contains i) = true then 8 else 0 := rfl
  by_cases h6 : 6 < A.length
  · rw [if_pos (.inl h6)] at hun
    rw [hun]
    clear hun
    go_enter Tryz.func84, Tryz.ntmps84
    go_wp2
    go_ret
    exact ⟨rfl, Below.refl _ _⟩
  · have hn : A.length ≤ 6 := by omega
    have hp := placesOf_any a A.length c (by omega) w
    have h64 := leftA_lt hn []
    have hl0 : leftA A.length [] = 2 ^ A.length - 1 := rfl
    rw [hl0] at h64
    have hMore := more_any hn HA.out
    obtain ⟨l0, hl0'⟩ : ∃ z, 2 ^ A.length - 1 = z := ⟨_, rfl⟩
    rw [hl0'] at hp h64 hMore
    have HB := (Below.refl w.heap.size w).alloc (Nat.le_refl _) (.cells #[.int .u32 (l0 : Int)] 23)
    have HC := Lib.hid (containsM_any (.slice a A.length c) A l0 w.heap.size (w.alloc (.cells #[.int .u32 (l0 : Int)] 23)) (HV.out.below HB (Nat.le_refl _)) hl HA.out (by omega) ((At.new w _ _).cell (i := 0) rfl))
    rw [hMore] at HC
    have HG := Lib.hid (goesBack_any (.slice a A.length c) A (w.alloc (.cells #[.int .u32 (l0 : Int)] 23)) (HV.out.below HB (Nat.le_refl _)) hn HA.out)
    have hfree := free_iff A
    clear hl0 hl0' hMore
    cases hm : A.any fun x => decide (2 ^ A.length ≤ x) with
    | true =>
      rw [hm] at HC
      rw [if_pos (.inr hm)] at hun
      rw [hun]
      clear hun hm HG hfree
      go_enter Tryz.func84, Tryz.ntmps84
      go_wp2_with fail
      refine hp.mono ?_
      rintro e w1 ⟨rfl, hw1⟩
      obtain rfl : w = w1 := hw1.symm
      go_wp2_with fail
      refine HC.out.mono ?_
      rintro e w1 ⟨rfl, rfl⟩
      go_wp2
      go_ret
      exact ⟨rfl, HB⟩
    | false =>
      rw [hm] at HC
      rw [if_neg (by rw [hm]; simp; omega)] at hun
      clear hm
      go_enter Tryz.func84, Tryz.ntmps84
      go_wp2_with fail
      refine hp.mono ?_
      rintro e w1 ⟨rfl, hw1⟩
      obtain rfl : w = w1 := hw1.symm
      go_wp2_with fail
      refine HC.out.mono ?_
      rintro e w1 ⟨rfl, hw2⟩
      obtain rfl : w.alloc (.cells #[.int .u32 (l0 : Int)] 23) = w1 := hw2.symm
      go_wp2_with fail
      refine HG.out.mono ?_
      rintro e w1 ⟨⟨b, rfl, hb⟩, hw2⟩
      obtain rfl : w.alloc (.cells #[.int .u32 (l0 : Int)] 23) = w1 := hw2.symm
      cases b with
      | true =>
        have hnf : ¬ Free A := fun hf => absurd (hb.2 hf) (by decide)
        have h8 : mayE A = 8 := by
          rw [hun, if_pos]
          cases hc : ((List.range A.length).any fun i => (waysS A i).contains i) with
          | true => rfl
          | false => exact absurd (hfree.1 hc) hnf
        clear hun hfree hb hnf
        go_wp2
        go_ret
        exact ⟨ret_int (by rw [h8]; rfl), HB⟩
      | false =>
        have h8 : mayE A = 0 := by
          rw [hun, if_neg]
          rw [hfree.2 (hb.1 rfl)]
          decide
        clear hun hfree hb
        go_wp2
        go_ret
        exact ⟨ret_int (by rw [h8]; rfl), HB⟩
end Go.Proofs.YtmnblljenobofaaGreatDoor
