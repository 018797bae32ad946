/- Merged: SrlP, CmpC, CmpD. -/
import Derived.Test.YtpjfhdljagkefaaGreatDoorMg6
import Derived.Test.YtpjfhdljagkefaaGreatDoorMg7
import Derived.Test.YtpjfhdljagkefaaGreatDoorMg12
import Derived.Test.YtpjfhdljagkefaaGreatDoorMg5
import Derived.Test.YtpjfhdljagkefaaGreatDoorMg11
import Derived.Test.YtpjfhdljagkefaaGreatDoorOrdE
import Derived.Test.YtpjfhdljagkefaaGreatDoorMg9
/- Plain words: the places left as bits; a loop over all places, of which some are left. -/
namespace Go.Proofs.YtpjfhdljagkefaaGreatDoor.WPlain
end Go.Proofs.YtpjfhdljagkefaaGreatDoor.WPlain
namespace Go.Proofs.YtpjfhdljagkefaaGreatDoor.QPlain
end Go.Proofs.YtpjfhdljagkefaaGreatDoor.QPlain
namespace Go.Proofs.YtpjfhdljagkefaaGreatDoor.RPlain
open WPlain QPlain

/-- those of who that are not in a row, as bits -/
def leftW (who : Nat) (row : List Nat) : Nat := row.foldl (fun acc k => lessN acc (2 ^ k)) who
theorem leftW_snoc (who : Nat) (row : List Nat) (k : Nat) : leftW who (row ++ [k]) = lessN (leftW who row) (2 ^ k) := by simp [leftW]
theorem leftW_lt {who : Nat} (h : who < 64) (row : List Nat) : leftW who row < 64 := by
  have : ∀ (r : List Nat) (x : Nat), x < 64 → r.foldl (fun acc k => lessN acc (2 ^ k)) x < 64 := by
    intro r
    induction r with
    | nil => intro x h; exact h
    | cons k t ih => intro x h; exact ih _ (Nat.lt_of_le_of_lt (lessN_le _ _) h)
  exact this row _ h
theorem pow_le_64 {n : Nat} (h : n ≤ 6) : 2 ^ n ≤ 64 := Nat.pow_le_pow_right (n := 2) (i := n) (j := 6) (by decide) h
theorem leftW_test {l : List Tx} {who : Nat} {row : List Nat} (h6 : l.length ≤ 6) (hw : who < 2 ^ l.length) (hr : ∀ k ∈ row, k < l.length) (j : Nat) : (leftW who row).testBit j = decide (j ∈ leftS l who row) := by
  have hw64 := Nat.lt_of_lt_of_le hw (pow_le_64 h6)
  unfold leftW
  rw [left_fold j row who hw64 (fun k hk => by have := hr k hk; omega), Bool.eq_iff_iff, decide_eq_true_eq, left_mem, Bool.and_eq_true]
  constructor
  · rintro ⟨h1, h2⟩
    refine ⟨?_, h1, by simpa using h2⟩
    rcases Nat.lt_or_ge j l.length with h | h
    · exact h
    · rw [Nat.testBit_lt_two_pow (Nat.lt_of_lt_of_le hw (Nat.pow_le_pow_right (by decide) h))] at h1
      cases h1
  · rintro ⟨_, h2, h3⟩
    exact ⟨h2, by simpa using h3⟩
theorem leftW_zero {l : List Tx} {who : Nat} {row : List Nat} (h6 : l.length ≤ 6) (hw : who < 2 ^ l.length) (hr : ∀ k ∈ row, k < l.length) : leftW who row = 0 ↔ leftS l who row = [] := by
  constructor
  · intro h
    refine List.eq_nil_iff_forall_not_mem.2 fun k hk => ?_
    have h1 := leftW_test h6 hw hr k
    rw [h, Nat.zero_testBit, decide_eq_true hk] at h1
    cases h1
  · intro h
    refine Nat.eq_of_testBit_eq fun j => ?_
    rw [leftW_test h6 hw hr, h, Nat.zero_testBit]
    simp
theorem after_lt (l : List Tx) (h6 : l.length ≤ 6) : ∀ a ∈ afterS l, a < 64 := fun a ha => by
  obtain ⟨X, _, rfl⟩ := List.mem_map.1 ha
  exact Nat.lt_of_lt_of_le (afterN_lt _ _) (pow_le_64 h6)
/-- may a place come next? -/
theorem next_free {l : List Tx} {who : Nat} {row : List Nat} (h6 : l.length ≤ 6) (hw : who < 2 ^ l.length) (hr : ∀ k ∈ row, k < l.length) (k : Nat) :
    (nextS (afterS l) (leftW who row) (afterS l).length).testBit k = (decide (k ∈ leftS l who row) && freeS l (leftS l who row) k) := by
  have h64 := leftW_lt (Nat.lt_of_lt_of_le hw (pow_le_64 h6)) row
  rw [nextS_test (fun a ha => by have := after_lt l h6 a ha; omega) (by omega), leftW_test h6 hw hr, afterS_len]
  congr 1
  rw [Bool.eq_iff_iff, List.all_eq_true, free_iff']
  constructor
  · intro h i hi
    have hi2 := (left_mem.1 hi).1
    have h1 := h i (List.mem_range.2 hi2)
    rw [leftW_test h6 hw hr, decide_eq_true hi, aft_after] at h1
    simpa using h1
  · intro h i hi
    rw [leftW_test h6 hw hr, aft_after]
    by_cases hm : i ∈ leftS l who row
    · rw [h i hm]; simp
    · simp [hm]
/-- those left from a place on -/
def restS (l : List Tx) (who : Nat) (row : List Nat) (p : Nat) : List Nat := ((List.range l.length).drop p).filter fun k => who.testBit k && !row.contains k
theorem rest_end (l : List Tx) (who : Nat) (row : List Nat) : restS l who row l.length = [] := by
  unfold restS
  rw [List.drop_eq_nil_of_le (by simp)]; rfl
theorem rest_next {l : List Tx} {who : Nat} {row : List Nat} {p : Nat} (hp : p < l.length) : restS l who row p = if p ∈ leftS l who row then p :: restS l who row (p + 1) else restS l who row (p + 1) := by
  unfold restS
  rw [List.drop_eq_getElem_cons (by simpa using hp), List.getElem_range, List.filter_cons]
  by_cases h : p ∈ leftS l who row
  · rw [if_pos h, if_pos]
    have := left_mem.1 h
    simp [this.2.1, this.2.2]
  · rw [if_neg h, if_neg]
    intro hc
    refine h (left_mem.2 ⟨hp, ?_⟩)
    simpa using hc
/-- a round of the loop: a place that may not come, and one that may -/
theorem rest_skip {B : Nat} {rec : List Nat → Nat → Nat × List Nat × Nat} {l : List Tx} {who c : Nat} {row : List Nat} {p s : Nat} (hp : p < l.length)
    (h : (decide (p ∈ leftS l who row) && freeS l (leftS l who row) p) = false) :
    loopS B rec l c (leftS l who row) row (restS l who row p) s = loopS B rec l c (leftS l who row) row (restS l who row (p + 1)) s := by
  rw [rest_next hp]
  by_cases hm : p ∈ leftS l who row
  · rw [if_pos hm, loopS, if_pos (by simpa [hm] using h)]
  · rw [if_neg hm]
theorem rest_step {B : Nat} {rec : List Nat → Nat → Nat × List Nat × Nat} {l : List Tx} {who c : Nat} {row : List Nat} {p s : Nat} (hp : p < l.length)
    (h : (decide (p ∈ leftS l who row) && freeS l (leftS l who row) p) = true) :
    loopS B rec l c (leftS l who row) row (restS l who row p) s = if s = B then (2, [], s)
    else if okL l c (row ++ [p]) = true then (if (rec (row ++ [p]) (s + 1)).1 = 1 then loopS B rec l c (leftS l who row) row (restS l who row (p + 1)) (rec (row ++ [p]) (s + 1)).2.2 else rec (row ++ [p]) (s + 1))
      else loopS B rec l c (leftS l who row) row (restS l who row (p + 1)) (s + 1) := by
  rw [Bool.and_eq_true, decide_eq_true_eq] at h
  rw [rest_next hp, if_pos h.1, loopS, if_neg (by rw [h.2]; decide)]
end Go.Proofs.YtpjfhdljagkefaaGreatDoor.RPlain
/- Plain words: the subsets of bits, one after the other; choices as what must be and a subset of what may be. -/
namespace Go.Proofs.YtpjfhdljagkefaaGreatDoor.WPlain
end Go.Proofs.YtpjfhdljagkefaaGreatDoor.WPlain
namespace Go.Proofs.YtpjfhdljagkefaaGreatDoor.QPlain
end Go.Proofs.YtpjfhdljagkefaaGreatDoor.QPlain
namespace Go.Proofs.YtpjfhdljagkefaaGreatDoor.RPlain
open WPlain QPlain

/-- the subset behind a subset: none, behind the last -/
def nxB (p s : Nat) : Nat := (s + 4294967296 - p) % 4294967296 &&& p
def inB6 (p m : Nat) : Bool := decide (m &&& p = m)
def subU (p s : Nat) : List Nat := (List.range s).filter (inB6 p)
theorem nx_step : ∀ p < 64, ∀ s < 64, inB6 p s = true → (nxB p s = 0 ∧ subU p (s + 1) = subU p 64) ∨ (s < nxB p s ∧ nxB p s < 64 ∧ inB6 p (nxB p s) = true ∧ subU p (s + 1) = subU p (nxB p s)) := by decide +kernel
theorem sub_snoc {p s : Nat} (h : inB6 p s = true) : subU p (s + 1) = subU p s ++ [s] := by unfold subU; rw [List.range_succ, List.filter_append]; simp [h]
theorem or_add6 : ∀ a < 64, ∀ b < 64, a &&& b = 0 → a ||| b = a + b := by decide +kernel
theorem and_lt6 (a : Nat) {b : Nat} (h : b < 64) : a &&& b < 64 := Nat.lt_of_le_of_lt Nat.and_le_right h
theorem rise_eq : ∀ {a b : List Nat}, a.Pairwise (· < ·) → b.Pairwise (· < ·) → (∀ x, x ∈ a ↔ x ∈ b) → a = b := by
  intro a
  induction a with
  | nil =>
    intro b _ _ h
    cases b with
    | nil => rfl
    | cons y s => exact absurd ((h y).2 (List.mem_cons_self ..)) (by simp)
  | cons x r ih =>
    intro b ha hb h
    cases b with
    | nil => exact absurd ((h x).1 (List.mem_cons_self ..)) (by simp)
    | cons y s =>
      obtain ⟨hx, hr⟩ := List.pairwise_cons.1 ha
      obtain ⟨hy, hs⟩ := List.pairwise_cons.1 hb
      have hxy : x = y := by
        rcases List.mem_cons.1 ((h x).1 (List.mem_cons_self ..)) with h1 | h1
        · exact h1
        · rcases List.mem_cons.1 ((h y).2 (List.mem_cons_self ..)) with h2 | h2
          · exact h2.symm
          · have := hx y h2; have := hy x h1; omega
      subst hxy
      rw [ih hr hs]
      intro z
      constructor
      · intro hz
        rcases List.mem_cons.1 ((h z).1 (List.mem_cons_of_mem _ hz)) with h1 | h1
        · have := hx z hz; omega
        · exact h1
      · intro hz
        rcases List.mem_cons.1 ((h z).2 (List.mem_cons_of_mem _ hz)) with h1 | h1
        · have := hy z hz; omega
        · exact h1
/-- the bits of those of a state -/
def stB (l : List Tx) (s : Int) (k : Nat) : Bool := match l[k]? with | some X => decide (X.s = s) | none => false
def stN (l : List Tx) (s : Int) : Nat := bitsN (stB l s) l.length
theorem stN_test (l : List Tx) (s : Int) (j : Nat) : (stN l s).testBit j = true ↔ ∃ h : j < l.length, l[j].s = s := by
  unfold stN stB
  rw [bitsN_test]
  by_cases hj : j < l.length
  · rw [List.getElem?_eq_getElem hj]
    simp [hj]
  · simp [hj]
theorem stN_lt {l : List Tx} (h6 : l.length ≤ 6) (s : Int) : stN l s < 64 := Nat.lt_of_lt_of_le (bitsN_lt _ _) (Nat.pow_le_pow_right (n := 2) (i := l.length) (j := 6) (by decide) h6)
theorem st_apart (l : List Tx) {s t : Int} (h : s ≠ t) : stN l s &&& stN l t = 0 := by
  refine Nat.eq_of_testBit_eq fun j => ?_
  rw [Nat.testBit_and, Nat.zero_testBit, Bool.and_eq_false_iff]
  cases h1 : (stN l s).testBit j with
  | false => exact .inl rfl
  | true =>
    right
    cases h2 : (stN l t).testBit j with
    | false => rfl
    | true =>
      obtain ⟨_, e1⟩ := (stN_test l s j).1 h1
      obtain ⟨_, e2⟩ := (stN_test l t j).1 h2
      exact absurd (e1.symm.trans e2) h
theorem in_bit {p m j : Nat} (h : inB6 p m = true) (hj : m.testBit j = true) : p.testBit j = true := by
  have h1 : m &&& p = m := by simpa [inB6] using h
  rw [← h1, Nat.testBit_and, Bool.and_eq_true] at hj
  exact hj.2
theorem bool_iff {a b : Bool} (h : a = true ↔ b = true) : a = b := by cases a <;> cases b <;> simp_all
/-- all choices: what must be, and each subset of what may be -/
theorem subs_chL {l : List Tx} (h6 : l.length ≤ 6) : (subU (stN l 1) 64).map (stN l 2 ||| ·) = chL l := by
  have hp := stN_lt h6 1
  have hq := stN_lt h6 2
  have hapart : ∀ s, inB6 (stN l 1) s = true → stN l 2 &&& s = 0 := fun s hs => by
    refine Nat.eq_of_testBit_eq fun j => ?_
    rw [Nat.testBit_and, Nat.zero_testBit, Bool.and_eq_false_iff]
    cases h2 : s.testBit j with
    | false => exact .inr rfl
    | true =>
      left
      have h3 := in_bit hs h2
      have h4 := st_apart l (s := 2) (t := 1) (by decide)
      cases h5 : (stN l 2).testBit j with
      | false => rfl
      | true =>
        have : (stN l 2 &&& stN l 1).testBit j = true := by rw [Nat.testBit_and, h5, h3]; rfl
        rw [h4, Nat.zero_testBit] at this
        exact absurd this (by decide)
  refine rise_eq ?_ (chL_rise l) fun m => ?_
  · rw [List.pairwise_map]
    refine List.Pairwise.imp_of_mem ?_ (List.Pairwise.filter (inB6 (stN l 1)) (List.pairwise_lt_range (n := 64)))
    intro a b ha hb hab
    obtain ⟨ha1, ha2⟩ := List.mem_filter.1 ha
    obtain ⟨hb1, hb2⟩ := List.mem_filter.1 hb
    rw [or_add6 _ hq a (List.mem_range.1 ha1) (hapart a ha2), or_add6 _ hq b (List.mem_range.1 hb1) (hapart b hb2)]
    omega
  · rw [List.mem_map]
    constructor
    · rintro ⟨s, hs, rfl⟩
      obtain ⟨h1, h2⟩ := List.mem_filter.1 hs
      have hbit : ∀ j, (stN l 2 ||| s).testBit j = true → ∃ h : j < l.length, l[j].s = 2 ∨ l[j].s = 1 := fun j hj => by
        rw [Nat.testBit_or, Bool.or_eq_true] at hj
        rcases hj with hj | hj
        · obtain ⟨h3, h4⟩ := (stN_test l 2 j).1 hj
          exact ⟨h3, .inl h4⟩
        · obtain ⟨h3, h4⟩ := (stN_test l 1 j).1 (in_bit h2 hj)
          exact ⟨h3, .inr h4⟩
      refine mem_chL.2 ⟨Nat.lt_pow_two_of_testBit _ fun j hj => ?_, choiceG_of fun j hj => ?_⟩
      · cases hc : (stN l 2 ||| s).testBit j with
        | false => rfl
        | true => obtain ⟨hh, _⟩ := hbit j hc; omega
      · rw [Nat.zero_add]
        cases hc : (stN l 2 ||| s).testBit j with
        | true =>
          obtain ⟨_, hh | hh⟩ := hbit j hc
          · simp [okBit, hh]
          · simp [okBit, hh]
        | false =>
          by_cases hs2 : l[j].s = 2
          · rw [Nat.testBit_or, (stN_test l 2 j).2 ⟨hj, hs2⟩] at hc; exact absurd hc (by simp)
          · simp [okBit, hs2]
    · intro hm
      refine ⟨m &&& stN l 1, List.mem_filter.2 ⟨List.mem_range.2 (and_lt6 m hp), ?_⟩, ?_⟩
      · unfold inB6
        rw [decide_eq_true_eq, Nat.and_assoc, Nat.and_self]
      · have hm2 := mem_chL.1 hm
        refine Nat.eq_of_testBit_eq fun j => ?_
        rw [Nat.testBit_or, Nat.testBit_and]
        refine bool_iff ?_
        rw [Bool.or_eq_true, Bool.and_eq_true, stN_test, stN_test]
        by_cases hj : j < l.length
        · have h1 := choice_at hm2.2 hj
          rw [Nat.zero_add] at h1
          constructor
          · rintro (⟨_, hs⟩ | ⟨hx, _⟩)
            · cases hx : m.testBit j with
              | true => rfl
              | false => rw [hx] at h1; simp [okBit, hs] at h1
            · exact hx
          · intro hx
            rw [hx] at h1
            unfold okBit at h1
            rw [if_pos rfl, Bool.or_eq_true, decide_eq_true_eq, decide_eq_true_eq] at h1
            rcases h1 with h1 | h1
            · exact .inr ⟨hx, hj, h1⟩
            · exact .inl ⟨hj, h1⟩
        · have e1 : m.testBit j = false := Nat.testBit_lt_two_pow (Nat.lt_of_lt_of_le hm2.1 (Nat.pow_le_pow_right (n := 2) (by decide) (by omega)))
          rw [e1]
          constructor
          · rintro (⟨hh, _⟩ | ⟨hh, _⟩)
            · exact absurd hh hj
            · exact absurd hh (by decide)
          · intro hh; exact absurd hh (by decide)
end Go.Proofs.YtpjfhdljagkefaaGreatDoor.RPlain
/- The walks of package complete's bit, bitsOf, eachSubset with the closure that gathers, and Choices. -/
namespace Go.Proofs.YtpjfhdljagkefaaGreatDoor.WPlain
end Go.Proofs.YtpjfhdljagkefaaGreatDoor.WPlain
namespace Go.Proofs.YtpjfhdljagkefaaGreatDoor.QPlain
end Go.Proofs.YtpjfhdljagkefaaGreatDoor.QPlain
namespace Go.Proofs.YtpjfhdljagkefaaGreatDoor.RPlain
end Go.Proofs.YtpjfhdljagkefaaGreatDoor.RPlain
namespace Go.Proofs.YtpjfhdljagkefaaGreatDoor
open Go.RowKit WPlain QPlain RPlain

theorem bitC_any (k : Nat) (hk : k < 32) (w : World) : Calls Tryz.prog 82 #[.int .i64 (k : Int)] w fun e w' => e = .returned (.int .u32 ((2 ^ k : Nat) : Int)) ∧ w' = w := by
  go_enter Tryz.func82, Tryz.ntmps82
  go_wp2
  go_ret
  exact ⟨by rw [pow_u32 hk]; rfl, rfl⟩
theorem bitsN_yes {p : Nat → Bool} {k : Nat} (h : p k = true) : bitsN p (k + 1) = bitsN p k ||| 2 ^ k := by
  have h1 := bitsN_lt p k
  rw [show bitsN p (k + 1) = bitsN p k + (if p k = true then 2 ^ k else 0) from rfl, if_pos h]
  have := Nat.two_pow_add_eq_or_of_lt h1 1
  rw [Nat.mul_one] at this
  rw [Nat.add_comm, this, Nat.or_comm]
theorem bitsN_no {p : Nat → Bool} {k : Nat} (h : p k = false) : bitsN p (k + 1) = bitsN p k := by
  rw [show bitsN p (k + 1) = bitsN p k + (if p k = true then 2 ^ k else 0) from rfl, h]; rfl
set_option maxRecDepth 100000 in
set_option maxHeartbeats 1000000 in
theorem bitsOf_any (v : Value) (l : List Tx) (s : Int) (w : World) (hv : Txs w v l) (h6 : l.length ≤ 6) :
    Calls Tryz.prog 60 #[v, .int .i64 s] w fun e w' => e = .returned (.int .u32 ((stN l s : Nat) : Int)) ∧ Below w.heap.size w w' := by
  have HV := Lib.hid hv
  have HB0 := Lib.hid (Below.refl w.heap.size w)
  have HFIN : Hid (stN l s = bitsN (stB l s) l.length) := rfl
  obtain ⟨a, c, rfl⟩ := hv.len
  clear hv
  go_enter Tryz.func60, Tryz.ntmps60
  go_wp2_with fail
  go_loopw [5, 10] (fun y x wr => ∃ k : Nat, k ≤ l.length ∧ x = .int .i64 k ∧ y = .int .u32 ((bitsN (stB l s) k : Nat) : Int) ∧ Hid (Below w.heap.size w wr)) (fun _ x _ => l.length - (intOf x).toNat)
  case atStart => exact ⟨0, by omega, rfl, rfl, HB0⟩
  case round =>
    clear HB0
    obtain ⟨k, hk, rfl, rfl, HB⟩ := hrel
    by_cases hlt : k < l.length
    · have hT := HV.out.below HB.out (Nat.le_refl _)
      obtain ⟨b, o, c', he⟩ := hT.opened (by omega)
      simp only [Value.slice.injEq] at he
      obtain ⟨rfl, -, rfl⟩ := he
      obtain ⟨u, x0, x1, x2, x3, x4, q⟩ := hT.get k hlt
      obtain ⟨ua, uc, rfl, -⟩ := q.len
      have hst : stB l s k = decide (l[k].s = s) := by unfold stB; rw [List.getElem?_eq_getElem hlt]
      have hlt2 : bitsN (stB l s) k < 4294967296 := Nat.lt_of_lt_of_le (bitsN_lt _ _) (Nat.pow_le_pow_right (n := 2) (i := k) (j := 32) (by decide) (by omega))
      have hlt3 : 2 ^ k < 4294967296 := Nat.pow_lt_pow_right (a := 2) (m := k) (n := 32) (by decide) (by omega)
      have hor := u32_or_nat _ _ hlt2 hlt3
      have hkb := bitC_any k (by omega)
      have hyes := bitsN_yes (p := stB l s) (k := k)
      have hno := bitsN_no (p := stB l s) (k := k)
      rw [hst] at hyes hno
      have HB2 := Lib.hid (HB.out.alloc HB.out.size (.cells #[.int .i64 l[k].n, .int .i64 l[k].f, .int .i64 l[k].l, .int .i64 l[k].s, .slice ua l[k].o.length uc] 56))
      have hA := At.new wr #[.int .i64 l[k].n, .int .i64 l[k].f, .int .i64 l[k].l, .int .i64 l[k].s, .slice ua l[k].o.length uc] 56
      generalize l[k] = X at *
      have y3 := hA.cell (i := 3) rfl
      obtain ⟨pw, hpw⟩ : ∃ pw, 2 ^ k = pw := ⟨_, rfl⟩
      rw [hpw] at hkb hlt3 hor hyes
      clear hpw hT q hst hA HB
      by_cases hs : X.s = s
      · have HY := Lib.hid (hyes (by simp [hs]))
        have tq : ((X.s : Int) == s) = true := by simp [hs]
        clear hyes hno hs
        generalize bitsN (stB l s) k = ac at *
        go_wp2_with (go_at_call 82; refine (hkb _).mono ?_; rintro e w3 ⟨rfl, rfl⟩)
        go_roundw
        case rel => exact ⟨k + 1, by omega, by go_num, by rw [HY.out], HB2⟩
        case measure => simp [intOf]; omega
      · have HY := Lib.hid (hno (by simp [hs]))
        have tq : ((X.s : Int) == s) = false := by simp [hs]
        clear hyes hno hs hkb hor
        generalize bitsN (stB l s) k = ac at *
        go_wp2
        go_roundw
        case rel => exact ⟨k + 1, by omega, by go_num, by rw [HY.out], HB2⟩
        case measure => simp [intOf]; omega
    · obtain rfl : k = l.length := by omega
      rw [← HFIN.out]
      go_wp2
      go_ret
      exact ⟨rfl, HB.out⟩
/-- what the closure holds: what must be, and what is gathered -/
structure Gat (B D C A lo : Nat) (L : List Nat) (w0 w : World) : Prop where
  lo : w.cell? ⟨C, 0, none⟩ = some (.int .u32 (lo : Int))
  all : ∃ v, At w A #[v] 46 ∧ w.ownsRow D 23 1 v L.length (u32s L)
  dlt : D ≤ w.heap.size
  bel : Below B w0 w
theorem u32s_snoc (L : List Nat) (x : Nat) : u32s L ++ [.int .u32 (x : Int)] = u32s (L ++ [x]) := by simp [u32s]
set_option maxRecDepth 100000 in
theorem gather9_any (B D C A lo x : Nat) (L : List Nat) (w0 w : World) (hG : Gat B D C A lo L w0 w) (hCA : C < A) (hAD : A < D) (hBA : B ≤ A) (hBw : B ≤ w0.heap.size) (hx : x < 4294967296) (hlo : lo < 4294967296) (hL : L.length ≤ 65536) :
    Calls Tryz.prog 62 #[.int .u32 (x : Int), .pointer (some ⟨A, 0, none⟩), .pointer (some ⟨C, 0, none⟩)] w fun e w' => e = .returned (.tuple #[]) ∧ Gat B D C A lo (L ++ [lo ||| x]) w0 w' := by
  obtain ⟨i0, hi0, hz0, hz1, hz2⟩ := info_parts infoU
  obtain ⟨g1, ⟨v, g2, g3⟩, g4, g5⟩ := hG
  have hc := g2.cell (i := 0) (v := v) rfl
  have hf := g2.free 0
  have hor := u32_or_nat _ _ hlo hx
  have HG2 := Lib.hid g2
  have HG3 := Lib.hid g3
  have HG5 := Lib.hid g5
  obtain ⟨ra, rc, rfl⟩ := row_slice g3
  clear g2 g3 g5
  generalize lo ||| x = z at *
  obtain ⟨M, hM⟩ : ∃ M, L ++ [z] = M := ⟨_, rfl⟩
  rw [hM]
  have HM := Lib.hid hM
  clear hM
  go_enter Tryz.func62, Tryz.ntmps62
  go_wp2_with (at_builtin; go_must (refine wpList_append_own _ rfl _ _ 46 rfl D 23 i0 (.int .u32 0) 1 4 Tryz.underlying46 hi0 hz0 hz1 hz2 rfl (by decide) (.slice ra L.length rc) L.length (u32s L) rfl (HG3.out.alloc _) ⟨w.heap.size, 0, none⟩ 1 1 [.int .u32 (z : Int)] rfl rfl ?c1 ?c2 ?c3 ?c4 ?c5 ?_))
  case c1 => exact cell_one_at w _ _
  case c2 => exact one_int _ _
  case c3 => unfold maxLen; omega
  case c4 => omega
  case c5 => simp; omega
  intro v5 w5 hv5 hg5 _
  rw [u32s_snoc] at hv5
  have hAw := HG2.out.lt
  have hb1 : Below B w0 w5 := (HG5.out.alloc (by have := HG5.out.size; omega) (.cells #[.int .u32 (z : Int)] 23)).grown hg5 (by have := HG5.out.size; simp; omega) (fun k' hk' => by have := (HG3.out.lt k' hk').1; omega)
  have hA5 : At w5 A #[.slice ra L.length rc] 46 := (HG2.out.alloc _).grown hg5 (fun hk => by have := (HG3.out.lt A hk.symm).1; omega)
  have hC5 : w5.cell? ⟨C, 0, none⟩ = some (.int .u32 (lo : Int)) := by
    have h1 := ((Below.refl w.heap.size w).alloc (Nat.le_refl _) (.cells #[.int .u32 (z : Int)] 23)).cell (p := ⟨C, 0, none⟩) (show C < w.heap.size by omega)
    exact hg5.cell (h1.trans g1) (fun hk => by have := (HG3.out.lt C hk.symm).1; omega)
  have hs5 : D ≤ w5.heap.size := by have := hg5.size; simp at this; omega
  have hv5' : w5.ownsRow D 23 1 v5 M.length (u32s M) := by rw [← HM.out]; simpa using hv5
  have hf5 := hA5.free 0
  have hc5 := hA5.cell (i := 0) (v := .slice ra L.length rc) rfl
  have HA5 := Lib.hid hA5
  have HC5 := Lib.hid hC5
  have HB5 := Lib.hid hb1
  have HV5 := Lib.hid hv5'
  obtain ⟨ra5, rc5, rfl⟩ := row_slice hv5'
  clear hv5 hg5 hb1 hA5 hC5 hv5'
  go_wp2
  go_end0
  refine ⟨rfl, ?_, ⟨_, HA5.out.set 0 _, own_only HV5.out (Only.setCell (s := fun b => b = A) (p := ⟨A, 0, none⟩) (Only.refl _ _) (fun _ => rfl) _) (fun k hk => by have := (own_base HV5.out hk).1; omega)⟩, by simpa using hs5, HB5.out.setCell hBA _⟩
  rw [World.cell?_setCell_far _ _ _ _ (by simp; omega)]
  exact HC5.out
/-- what the next subset is, as the program reckons it -/
theorem nx_prog {p s : Nat} (hp : p < 64) (hs : s < 64) : bits .and .u32 (((s : Int) - (p : Int)) % 4294967296) (p : Int) = ((nxB p s : Nat) : Int) := by
  have h1 : ((s : Int) - (p : Int)) % 4294967296 = (((s + 4294967296 - p) % 4294967296 : Nat) : Int) := by omega
  rw [h1, u32_and_nat _ _ (Nat.mod_lt _ (by decide)) (by omega)]
  rfl
set_option maxRecDepth 100000 in
set_option maxHeartbeats 1000000 in
theorem each9_any (B D C A lo p : Nat) (w0 w : World) (hG : Gat B D C A lo [] w0 w) (hCA : C < A) (hAD : A < D) (hBA : B ≤ A) (hBw : B ≤ w0.heap.size) (hp : p < 64) (hlo : lo < 64) :
    Calls Tryz.prog 61 #[.int .u32 (p : Int), .func (.func 62) #[] #[.pointer (some ⟨A, 0, none⟩), .pointer (some ⟨C, 0, none⟩)]] w fun e w' => e = .returned (.tuple #[]) ∧ Gat B D C A lo ((subU p 64).map (lo ||| ·)) w0 w' := by
  have HG := Lib.hid hG
  have hin0 : Hid (inB6 p 0 = true) := by unfold Hid inB6; simp
  clear hG
  go_enter Tryz.func61, Tryz.ntmps61
  go_wp2_with fail
  go_loopw [4] (fun x wr => ∃ s : Nat, s < 64 ∧ Hid (inB6 p s = true) ∧ x = .int .u32 (s : Int) ∧ Hid (Gat B D C A lo ((subU p s).map (lo ||| ·)) w0 wr)) (fun x _ => 64 - (intOf x).toNat)
  case atStart => exact ⟨0, by omega, hin0, rfl, HG⟩
  case round =>
    clear HG hin0
    obtain ⟨s, hs, hin, rfl, HG⟩ := hrel
    have hlen : ((subU p s).map (lo ||| ·)).length ≤ 65536 := by
      rw [List.length_map]
      have := List.length_filter_le (inB6 p) (List.range s)
      rw [List.length_range] at this
      unfold subU
      omega
    have HC := Lib.hid (gather9_any B D C A lo s _ w0 wr HG.out hCA hAD hBA hBw (by omega) (by omega) hlen)
    have HS := Lib.hid (sub_snoc hin.out)
    have hstep := nx_step p hp s hs hin.out
    have hnx := nx_prog hp hs
    have hmap : (subU p s).map (lo ||| ·) ++ [lo ||| s] = (subU p (s + 1)).map (lo ||| ·) := by rw [HS.out, List.map_append]; rfl
    rw [hmap] at HC
    generalize nxB p s = nx at *
    clear hin HG hlen hmap HS
    obtain ⟨z, hz⟩ : ∃ z : Int, (nx : Int) = z := ⟨_, rfl⟩
    rw [hz] at hnx
    have HNX := Lib.hid hz
    rcases hstep with ⟨h1, he⟩ | ⟨h1, h2, h3, he⟩
    · have tq : (z == 0) = true := by simp; omega
      rw [he] at HC
      clear he h1 hz
      go_wp2_with (go_at_call 62; refine HC.out.mono ?_; rintro e w3 ⟨rfl, hg3⟩; have HG3 := Lib.hid hg3; clear hg3)
      refine bodyPost_ret (results_none rfl _ _ _) rfl ?_
      exact ⟨rfl, HG3.out⟩
    · have H3 : Hid (s < nx ∧ nx < 64 ∧ inB6 p nx = true) := ⟨h1, h2, h3⟩
      have tq : (z == 0) = false := by simp; omega
      rw [he] at HC
      clear he h1 h2 h3 hz
      go_wp2_with (go_at_call 62; refine HC.out.mono ?_; rintro e w3 ⟨rfl, hg3⟩; have HG3 := Lib.hid hg3; clear hg3)
      have hz : z = (nx : Int) := HNX.out.symm
      obtain ⟨h1, h2, h3⟩ := H3.out
      refine ⟨⟨nx, h2, h3, by rw [hz], HG3⟩, ?_⟩
      rw [hz]
      show 64 - (nx : Int).toNat < 64 - (s : Int).toNat
      clear hnx hz tq HC
      omega
set_option maxRecDepth 100000 in
set_option maxHeartbeats 1000000 in
theorem choices_any (v : Value) (h : List Ev) (w : World) (hK : HasK w) (hv : Evs w v h) (hl : h.length ≤ 65536) :
    Calls Tryz.prog 36 #[v] w fun e w' => ∃ v', e = .returned (.tuple #[v', .int .i64 ((checkS h).2 : Nat)]) ∧ Rd w' v' (if (checkS h).2 = 0 then u32s (chL (tableS h)) else []) ∧ Below w.heap.size w w' := by
  have HT := Lib.hid (table_any v h w hK hv hl)
  clear hK hv hl
  by_cases h0 : (checkS h).2 = 0
  · have h6 := table_six h0
    have hp := stN_lt h6 1
    have hlo := stN_lt h6 2
    have HSC := Lib.hid (subs_chL h6)
    rw [h0, if_pos rfl] at HT
    rw [h0, if_pos rfl]
    have HBO2 := Lib.hid (fun (u : Value) (W : World) (hu : Txs W u (tableS h)) => bitsOf_any u (tableS h) 2 W hu h6)
    have HBO1 := Lib.hid (fun (u : Value) (W : World) (hu : Txs W u (tableS h)) => bitsOf_any u (tableS h) 1 W hu h6)
    clear h0 h6
    generalize chL (tableS h) = cl at *
    generalize stN (tableS h) 1 = p at *
    generalize stN (tableS h) 2 = lo at *
    go_enter Tryz.func36, Tryz.ntmps36
    go_wp2_with fail
    refine HT.out.mono ?_
    rintro e w1 ⟨v1, rfl, hv1, hb1⟩
    have HV1 := Lib.hid hv1
    have HB1 := Lib.hid hb1
    obtain ⟨a1, c1, rfl⟩ := hv1.len
    clear hv1 hb1 HT
    go_wp2_with fail
    refine (HBO2.out _ w1 HV1.out).mono ?_
    rintro e w2 ⟨rfl, hb2⟩
    have HB2 := Lib.hid (HB1.out.trans (hb2.mono HB1.out.size))
    have HV2 := Lib.hid (HV1.out.below hb2 (Nat.le_refl _))
    have hba := ((Below.refl w2.heap.size w2).alloc (Nat.le_refl _) (.cells #[.int .u32 (lo : Int)] 23)).alloc (by simp) (.cells #[.slice none 0 0] 46)
    have HV3 := Lib.hid (HV2.out.below hba (Nat.le_refl _))
    have HB3 := Lib.hid (HB2.out.trans (hba.mono HB2.out.size))
    have HAC := Lib.hid ((At.new w2 #[.int .u32 (lo : Int)] 23).alloc (.cells #[.slice none 0 0] 46))
    have HAA : Hid (At ((w2.alloc (.cells #[.int .u32 (lo : Int)] 23)).alloc (.cells #[.slice none 0 0] 46)) (w2.heap.size + 1) #[.slice none 0 0] 46) := by
      have h := At.new (w2.alloc (.cells #[.int .u32 (lo : Int)] 23)) #[.slice none 0 0] 46
      rw [World.size_alloc] at h
      exact h
    have hsz : ((w2.alloc (.cells #[.int .u32 (lo : Int)] 23)).alloc (.cells #[.slice none 0 0] 46)).heap.size = w2.heap.size + 2 := by simp
    have HSZ := Lib.hid hsz
    have hBw2 : w.heap.size ≤ w2.heap.size := HB2.out.size
    clear hb2 HB1 HV1 hba hsz
    go_wp2_with fail
    generalize (w2.alloc (.cells #[.int .u32 (lo : Int)] 23)).alloc (.cells #[.slice none 0 0] 46) = w3 at *
    refine (HBO1.out _ w3 HV3.out).mono ?_
    rintro e w4 ⟨rfl, hb4⟩
    have hs3 := HSZ.out
    have hG : Gat w.heap.size (w2.heap.size + 2) w2.heap.size (w2.heap.size + 1) lo [] w w4 :=
      ⟨(hb4.cell (p := ⟨w2.heap.size, 0, none⟩) (by show w2.heap.size < w3.heap.size; omega)).trans (HAC.out.cell (i := 0) rfl), ⟨.slice none 0 0, HAA.out.below hb4 (by omega), World.ownsRow_nil _ _ _ _⟩, by have := hb4.size; omega, HB3.out.trans (hb4.mono HB3.out.size)⟩
    have HEA := Lib.hid (each9_any _ _ _ _ lo p w w4 hG (by omega) (by omega) (by omega) (Nat.le_refl _) hp hlo)
    rw [HSC.out] at HEA
    clear hb4 hG HAC HAA HB3 HV3 HBO1 HBO2 HSC hs3
    generalize w2.heap.size = N at *
    go_wp2_with fail
    refine HEA.out.mono ?_
    rintro e w5 ⟨rfl, g1, ⟨v5, g2, g3⟩, g4, g5⟩
    have hc := g2.cell (i := 0) (v := v5) rfl
    have HR := Lib.hid (Rd.of_row g3)
    have HB5 := Lib.hid g5
    obtain ⟨ra, rc, rfl⟩ := row_slice g3
    clear g1 g2 g3 g4 g5 HEA
    go_wp2
    refine bodyPost_ret (v := .tuple #[.slice ra cl.length rc, .int .i64 0]) (by simp [results, Tryz.results36, go_sem]) rfl ⟨_, rfl, HR.out, HB5.out⟩
  · rw [if_neg h0] at HT ⊢
    obtain ⟨er, her⟩ : ∃ er, (checkS h).2 = er := ⟨_, rfl⟩
    rw [her] at HT h0 ⊢
    have te : ((er : Int) != 0) = true := by simp; omega
    clear her h0
    go_enter Tryz.func36, Tryz.ntmps36
    go_wp2_with fail
    refine HT.out.mono ?_
    rintro e w1 ⟨v1, rfl, hv1, hb1⟩
    obtain ⟨a1, c1, rfl⟩ := hv1.len
    go_wp2
    refine bodyPost_ret (v := .tuple #[.slice none 0 0, .int .i64 er]) (by simp [results, Tryz.results36, go_sem]) rfl ⟨_, rfl, .inl ⟨rfl, _, _, rfl⟩, hb1⟩
end Go.Proofs.YtpjfhdljagkefaaGreatDoor
