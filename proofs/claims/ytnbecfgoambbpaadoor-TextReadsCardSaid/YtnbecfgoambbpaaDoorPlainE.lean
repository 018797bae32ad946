/- Plain: what is written is read; what is read is written. -/
import Derived.Test.YtnbecfgoambbpaaDoorPlainB
import Derived.Lib.ItoaMem
namespace Go.Proofs.YtnbecfgoambbpaaDoor.WPlain

theorem dig_byte (k : Nat) (h : k < 10) : isDig (UInt8.ofNat (48 + k)) = true ∧ ((UInt8.ofNat (48 + k)).toNat : Int) - 48 = k ∧ (UInt8.ofNat (48 + k) = 48 → k = 0) := by
  match k, h with
  | 0, _ => decide
  | 1, _ => decide
  | 2, _ => decide
  | 3, _ => decide
  | 4, _ => decide
  | 5, _ => decide
  | 6, _ => decide
  | 7, _ => decide
  | 8, _ => decide
  | 9, _ => decide

/-- a numeral's digits: digits, worth the number, no 0 ahead but of 0 itself -/
theorem dec_facts : ∀ f u : Nat, u < f → (Lib.decDigits u).all isDig = true ∧ val (Lib.decDigits u) = u ∧ (Lib.decDigits u) ≠ [] ∧ (u ≠ 0 → (Lib.decDigits u).head? ≠ some 48) ∧ (u < 10 → (Lib.decDigits u).length = 1) := by
  intro f
  induction f with
  | zero => intro u h; omega
  | succ f ih =>
    intro u hu
    by_cases h10 : u < 10
    · obtain ⟨h1, h2, h3⟩ := dig_byte u h10
      rw [Lib.decDigits_one h10]
      generalize UInt8.ofNat (48 + u) = c at *
      refine ⟨by simp [h1], ?_, by simp, ?_, by simp⟩
      · simp [val, vstep, h2]
      · intro h0 hc
        simp at hc
        exact h0 (h3 hc)
    · obtain ⟨i1, i2, i3, i4, _⟩ := ih (u / 10) (by omega)
      obtain ⟨h1, h2, _⟩ := dig_byte (u % 10) (by omega)
      have e : Lib.decDigits u = Lib.decDigits (u / 10) ++ [UInt8.ofNat (48 + u % 10)] := by
        conv => lhs; rw [Lib.decDigits, dif_neg h10]
      rw [e]
      clear e
      generalize UInt8.ofNat (48 + u % 10) = c at *
      refine ⟨?_, ?_, by simp, ?_, fun h => absurd h h10⟩
      · rw [List.all_append, i1]; simp [h1]
      · rw [val_snoc, i2]; unfold vstep; rw [h2]; omega
      · intro _
        have := i4 (by omega)
        cases hd : Lib.decDigits (u / 10) with
        | nil => exact absurd hd i3
        | cons x r => rw [hd] at this; simpa using this

theorem dec_unique (d : List UInt8) : d.all isDig = true → d ≠ [] → (d.head? = some 48 → d.length = 1) → 0 ≤ val d ∧ Lib.decDigits (val d).toNat = d := by
  induction d using snoc_ind with
  | h0 => intro _ h _; exact absurd rfl h
  | h1 d c ih =>
    intro hall _ hz
    rw [List.all_append] at hall
    simp at hall
    have hd := isDig_lo hall.2
    have hda : d.all isDig = true := by simpa using hall.1
    have hcb : UInt8.ofNat (48 + ((c.toNat : Int) - 48).toNat) = c := by
      have : 48 + ((c.toNat : Int) - 48).toNat = c.toNat := by omega
      rw [this]; simp
    rw [val_snoc]
    unfold vstep
    by_cases hne : d = []
    · subst hne
      have e : (val [] * 10 + ((c.toNat : Int) - 48)) = (c.toNat : Int) - 48 := by simp [val]
      rw [e]
      refine ⟨by omega, ?_⟩
      rw [Lib.decDigits_one (by omega), hcb]
      rfl
    · have hh : (d ++ [c]).head? = d.head? := by cases d with
        | nil => exact absurd rfl hne
        | cons x r => rfl
      have hz' : ¬ d.head? = some 48 := by
        intro h
        have := hz (hh.trans h)
        have h2 : 0 < d.length := List.length_pos_iff.2 hne
        rw [List.length_append, List.length_singleton] at this
        omega
      obtain ⟨j1, j2⟩ := ih hda hne (fun h => absurd h hz')
      have hv1 : 1 ≤ val d := by
        by_cases h0 : val d = 0
        · rw [h0] at j2
          have : Lib.decDigits 0 = [48] := by rw [Lib.decDigits_one (by omega)]; rfl
          rw [show (0 : Int).toNat = 0 from rfl, this] at j2
          rw [← j2] at hz'
          exact absurd rfl hz'
        · omega
      refine ⟨by omega, ?_⟩
      have e1 : (val d * 10 + ((c.toNat : Int) - 48)).toNat / 10 = (val d).toNat := by omega
      have e2 : (val d * 10 + ((c.toNat : Int) - 48)).toNat % 10 = ((c.toNat : Int) - 48).toNat := by omega
      rw [Lib.decDigits, dif_neg (by omega), e1, e2, j2, hcb]

theorem pre_dig (x : UInt8) (r : List UInt8) (h : isDig x = true) : Lib.hasPrefix (x :: r) [45] = false := by
  have := isDig_lo h
  have hx : ¬ x = 45 := by intro hc; subst hc; simp at this
  simp [Lib.hasPrefix, List.isPrefixOf, Ne.symm hx]

theorem spec_itoa (n : Int) (h1 : -2147483648 ≤ n) (h2 : n ≤ 2147483647) : intSpec (Lib.itoa n) = (n, 0) := by
  by_cases h0 : n < 0
  · obtain ⟨u, hu⟩ : ∃ u : Nat, n = -(u : Int) := ⟨n.natAbs, by omega⟩
    obtain ⟨f1, f2, f3, f4, _⟩ := dec_facts (u + 1) u (by omega)
    rw [hu, Lib.itoa_neg u (by omega)]
    have hp : Lib.hasPrefix (45 :: Lib.decDigits u) [45] = true := by simp [Lib.hasPrefix, List.isPrefixOf]
    have ht : Lib.trimPrefix (45 :: Lib.decDigits u) [45] = Lib.decDigits u := by unfold Lib.trimPrefix; rw [hp]; rfl
    unfold intSpec
    rw [hp, ht]
    have hd : digs (Lib.decDigits u) = true := by unfold digs; rw [f1]; simp [f3]
    have hz : leadZ (Lib.decDigits u) true = false := by
      unfold leadZ
      have := f4 (by omega)
      rw [show ((Lib.decDigits u).head? == some 48) = false from beq_eq_false_iff_ne.2 this]; rfl
    have hi : inR (sgn true (val (Lib.decDigits u))) = true := by
      rw [f2]; unfold inR sgn; simp; omega
    rw [hd, hz, hi]
    simp [sgn, f2]
  · obtain ⟨u, hu⟩ : ∃ u : Nat, n = (u : Int) := ⟨n.toNat, by omega⟩
    obtain ⟨f1, f2, f3, f4, f5⟩ := dec_facts (u + 1) u (by omega)
    rw [hu, Lib.itoa_nonneg]
    have hp : Lib.hasPrefix (Lib.decDigits u) [45] = false := by
      cases hd : Lib.decDigits u with
      | nil => exact absurd hd f3
      | cons x r =>
        rw [hd] at f1
        simp only [List.all_cons, Bool.and_eq_true] at f1
        exact pre_dig x r f1.1
    have ht : Lib.trimPrefix (Lib.decDigits u) [45] = Lib.decDigits u := by unfold Lib.trimPrefix; rw [hp]; rfl
    unfold intSpec
    rw [hp, ht]
    have hd : digs (Lib.decDigits u) = true := by unfold digs; rw [f1]; simp [f3]
    have hz : leadZ (Lib.decDigits u) false = false := by
      unfold leadZ
      by_cases hu0 : u = 0
      · have := f5 (by omega)
        rw [this]; simp
      · have := f4 hu0
        rw [show ((Lib.decDigits u).head? == some 48) = false from beq_eq_false_iff_ne.2 this]; rfl
    have hi : inR (sgn false (val (Lib.decDigits u))) = true := by
      rw [f2]; unfold inR sgn; simp; omega
    rw [hd, hz, hi]
    simp [sgn, f2]

theorem itoa_spec (l : List UInt8) (h : (intSpec l).2 = 0) : Lib.itoa (intSpec l).1 = l := by
  unfold intSpec at h ⊢
  cases hd : digs (Lib.trimPrefix l [45]) with
  | false => rw [hd] at h; simp at h
  | true =>
    cases hz : leadZ (Lib.trimPrefix l [45]) (Lib.hasPrefix l [45]) with
    | true => rw [hd, hz] at h; simp at h
    | false =>
      cases hi : inR (sgn (Lib.hasPrefix l [45]) (val (Lib.trimPrefix l [45]))) with
      | false => rw [hd, hz, hi] at h; simp at h
      | true =>
        simp only [Bool.true_eq_false, Bool.false_eq_true, if_false, if_true]
        unfold digs at hd
        simp only [Bool.and_eq_true, Bool.not_eq_true'] at hd
        have hne : Lib.trimPrefix l [45] ≠ [] := by
          intro hc; rw [hc] at hd; simp at hd
        have hh : (Lib.trimPrefix l [45]).head? = some 48 → (Lib.trimPrefix l [45]).length = 1 := by
          intro hc
          unfold leadZ at hz
          rw [hc] at hz
          simp at hz
          have : 0 < (Lib.trimPrefix l [45]).length := List.length_pos_iff.2 hne
          omega
        obtain ⟨k1, k2⟩ := dec_unique _ hd.1 hne hh
        cases hp : Lib.hasPrefix l [45] with
        | false =>
          have ht : Lib.trimPrefix l [45] = l := by unfold Lib.trimPrefix; rw [hp]; rfl
          rw [ht] at k1 k2 ⊢
          unfold sgn
          simp only [Bool.false_eq_true, if_false]
          unfold Lib.itoa
          rw [if_neg (by omega), k2]
        | true =>
          have ht : l = 45 :: Lib.trimPrefix l [45] := by
            unfold Lib.trimPrefix
            rw [hp, if_pos rfl]
            cases l with
            | nil => simp [Lib.hasPrefix, List.isPrefixOf] at hp
            | cons x r =>
              simp [Lib.hasPrefix, List.isPrefixOf] at hp
              subst hp; rfl
          have hv0 : ¬ val (Lib.trimPrefix l [45]) = 0 := by
            intro hc
            rw [hc] at k2
            have e0 : Lib.decDigits 0 = [48] := by rw [Lib.decDigits_one (by omega)]; rfl
            rw [show (0 : Int).toNat = 0 from rfl, e0] at k2
            unfold leadZ at hz
            rw [hp, ← k2] at hz
            simp at hz
          generalize Lib.trimPrefix l [45] = d at *
          unfold sgn
          simp only [if_true]
          unfold Lib.itoa
          rw [if_pos (by omega)]
          have : (-val d).natAbs = (val d).toNat := by omega
          rw [this, k2]
          exact ht.symm
end Go.Proofs.YtnbecfgoambbpaaDoor.WPlain
