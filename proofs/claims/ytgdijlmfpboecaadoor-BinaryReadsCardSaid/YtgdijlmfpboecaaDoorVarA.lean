/- Plain words of numbers' bytes: no program in sight. -/
namespace Go.Proofs.YtgdijlmfpboecaaDoor.VPlain

/-- a number's bytes, lowest first -/
def nb (n : Nat) : List Nat := if n < 128 then [n] else (n % 128 + 128) :: nb (n / 128)
termination_by n
decreasing_by omega

theorem nb_small {n : Nat} (h : n < 128) : nb n = [n] := by rw [nb]; simp [h]
theorem nb_big {n : Nat} (h : 128 ≤ n) : nb n = (n % 128 + 128) :: nb (n / 128) := by rw [nb]; simp [Nat.not_lt.2 h]
/-- the number that bytes tell from place k on (of weight one), how many bytes are read, or where it fails; the error -/
def getL (k : Nat) : List Nat → Nat × Nat × Nat
  | [] => (0, 0, 4)
  | c :: r => if k = 9 ∧ 1 < c then (0, 0, 3) else if 0 < k ∧ c = 0 then (0, 0, 2) else if c < 128 then (c, 1, 0)
    else if (getL (k + 1) r).2.2 = 0 then (c % 128 + 128 * (getL (k + 1) r).1, (getL (k + 1) r).2.1 + 1, 0) else (0, (getL (k + 1) r).2.1 + 1, (getL (k + 1) r).2.2)

theorem getL_over {k : Nat} {c : Nat} (r : List Nat) (h : k = 9) (hc : 1 < c) : getL k (c :: r) = (0, 0, 3) := by simp [getL, h, hc]
theorem getL_syn {k : Nat} {c : Nat} (r : List Nat) (h : 0 < k) (hc : c = 0) : getL k (c :: r) = (0, 0, 2) := by subst hc; simp [getL, h]
theorem getL_last {k : Nat} {c : Nat} (r : List Nat) (h : k = 9 → c ≤ 1) (h2 : 0 < k → c ≠ 0) (hc : c < 128) : getL k (c :: r) = (c, 1, 0) := by
  have a : ¬ (k = 9 ∧ 1 < c) := fun ⟨x, y⟩ => by have := h x; omega
  have b : ¬ (0 < k ∧ c = 0) := fun ⟨x, y⟩ => h2 x y
  simp only [getL, a, b, hc, if_true, if_false]
theorem getL_more {k : Nat} {c : Nat} (r : List Nat) (h : k ≠ 9) (hc : 128 ≤ c) :
    getL k (c :: r) = if (getL (k + 1) r).2.2 = 0 then (c % 128 + 128 * (getL (k + 1) r).1, (getL (k + 1) r).2.1 + 1, 0) else (0, (getL (k + 1) r).2.1 + 1, (getL (k + 1) r).2.2) := by
  have a : ¬ (k = 9 ∧ 1 < c) := fun ⟨x, y⟩ => h x
  have b : ¬ (0 < k ∧ c = 0) := fun ⟨x, y⟩ => by omega
  rw [getL]; simp only [a, b, Nat.not_lt.2 hc, if_false]

theorem getL_bad (l : List Nat) : ∀ k, (getL k l).2.2 ≠ 0 → (getL k l).1 = 0 := by
  induction l with
  | nil => intro k h; rfl
  | cons c r ih =>
    intro k
    rw [getL]
    split
    · intro _; rfl
    · split
      · intro _; rfl
      · split
        · intro h; exact absurd rfl h
        · split
          · intro h; exact absurd rfl h
          · intro _; rfl
theorem getL_le (l : List Nat) : ∀ k, (getL k l).2.1 ≤ l.length := by
  induction l with
  | nil => intro k; simp [getL]
  | cons c r ih =>
    intro k
    have := ih (k + 1)
    rw [getL]
    repeat' split
    all_goals simp
    all_goals omega
/-- the number has a place in 64 bits -/
theorem getL_lt (l : List Nat) (hb : ∀ c ∈ l, c < 256) : ∀ k, k ≤ 9 → (getL k l).1 * 128 ^ k < 18446744073709551616 := by
  induction l with
  | nil => intro k _; simp [getL]
  | cons c r ih =>
    intro k hk
    have hc := hb c (List.mem_cons_self ..)
    have ih' := ih (fun x hx => hb x (List.mem_cons_of_mem _ hx)) (k + 1)
    by_cases h9 : k = 9
    · subst h9
      by_cases h1 : 1 < c
      · rw [getL_over r rfl h1]; simp
      · by_cases h0 : c = 0
        · rw [getL_syn r (by omega) h0]; simp
        · rw [getL_last r (fun _ => by omega) (fun _ => h0) (by omega)]
          have : c = 1 := by omega
          subst this; decide
    · by_cases h1 : c < 128
      · by_cases h0 : 0 < k ∧ c = 0
        · rw [getL_syn r h0.1 h0.2]; simp
        · rw [getL_last r (fun h => absurd h h9) (fun hk0 h => h0 ⟨hk0, h⟩) h1]
          have : 128 ^ k ≤ 128 ^ 8 := Nat.pow_le_pow_right (by decide) (by omega)
          calc c * 128 ^ k ≤ 127 * 128 ^ 8 := Nat.mul_le_mul (by omega) this
            _ < _ := by decide
      · rw [getL_more r h9 (by omega)]
        have i := ih' (by omega)
        split
        · show (c % 128 + 128 * (getL (k + 1) r).1) * 128 ^ k < _
          have e : (c % 128 + 128 * (getL (k + 1) r).1) * 128 ^ k = c % 128 * 128 ^ k + (getL (k + 1) r).1 * 128 ^ (k + 1) := by
            rw [Nat.add_mul, Nat.pow_succ]; congr 1; rw [Nat.mul_comm 128, Nat.mul_assoc, Nat.mul_comm 128]
          rw [e]
          have h2 : c % 128 * 128 ^ k < 128 ^ (k + 1) := by
            rw [Nat.pow_succ, Nat.mul_comm (128 ^ k)]
            exact Nat.mul_lt_mul_of_pos_right (Nat.mod_lt _ (by decide)) (Nat.pow_pos (by decide))
          obtain ⟨Q, hQ⟩ : ∃ Q, 18446744073709551616 = Q * 128 ^ (k + 1) := by
            refine ⟨2 * 128 ^ (8 - k), ?_⟩
            rw [Nat.mul_assoc, ← Nat.pow_add, show 8 - k + (k + 1) = 9 from by omega]
          rw [hQ] at i ⊢
          have hy := Nat.lt_of_mul_lt_mul_right i
          have h3 := Nat.mul_le_mul hy (Nat.le_refl (128 ^ (k + 1)))
          rw [Nat.succ_mul] at h3
          omega
        · simp

/-- what is got, put, is those bytes -/
theorem nb_getL (l : List Nat) (hb : ∀ c ∈ l, c < 256) : ∀ k, (getL k l).2.2 = 0 → nb (getL k l).1 = l.take (getL k l).2.1 ∧ (0 < k → (getL k l).1 ≠ 0) := by
  induction l with
  | nil => intro k h; simp [getL] at h
  | cons c r ih =>
    intro k h
    have hc := hb c (List.mem_cons_self ..)
    have ih' := ih (fun x hx => hb x (List.mem_cons_of_mem _ hx)) (k + 1)
    by_cases h9 : k = 9 ∧ 1 < c
    · rw [getL_over r h9.1 h9.2] at h; simp at h
    by_cases h0 : 0 < k ∧ c = 0
    · rw [getL_syn r h0.1 h0.2] at h; simp at h
    by_cases h1 : c < 128
    · rw [getL_last r (fun h => by have := fun x => h9 ⟨h, x⟩; omega) (fun hk0 h => h0 ⟨hk0, h⟩) h1]
      refine ⟨by rw [nb_small h1]; simp, fun hk0 h => h0 ⟨hk0, h⟩⟩
    · have hk9 : k ≠ 9 := fun h => h9 ⟨h, by omega⟩
      rw [getL_more r hk9 (by omega)] at h ⊢
      by_cases he : (getL (k + 1) r).2.2 = 0
      · obtain ⟨e1, e2⟩ := ih' he
        have e2 := e2 (by omega)
        simp only [he, if_true]
        refine ⟨?_, fun _ => by omega⟩
        rw [nb_big (by omega), List.take_succ_cons, ← e1]
        congr 1
        · omega
        · congr 1; omega
      · simp [he] at h

/-- signed as one that is not, and back -/
def zigI (m : Int) : Nat := if 0 ≤ m then (2 * m).toNat else (2 * (-(m + 1)) + 1).toNat
def zagI (n : Nat) : Int := if n % 2 = 0 then ((n / 2 : Nat) : Int) else -((n / 2 : Nat) : Int) - 1
theorem zig_zag (n : Nat) : zigI (zagI n) = n := by unfold zagI zigI; split <;> split <;> omega
end Go.Proofs.YtgdijlmfpboecaaDoor.VPlain
