/- Merged: OrdP, SerC, ExtW, SrlP, SrlA. -/
import Derived.Test.YtoemcdcabamgiaaDoorMg10
import Derived.Test.YtoemcdcabamgiaaDoorSerB
import Derived.Test.YtoemcdcabamgiaaDoorMg1
import Derived.Test.YtoemcdcabamgiaaDoorMg18
import Derived.Test.YtoemcdcabamgiaaDoorMg14
import Derived.Test.YtoemcdcabamgiaaDoorMg19
import Derived.Test.YtoemcdcabamgiaaDoorMg15
import Derived.Test.YtoemcdcabamgiaaDoorMg13
import Derived.Deep.QuietTactic
import Derived.Below
import Derived.Recover
import Derived.Deep.RegionHeld
import Derived.Deep.DeepMust
/- Plain words: befores of a table's places. -/
namespace Go.Proofs.YtoemcdcabamgiaaDoor.WPlain
end Go.Proofs.YtoemcdcabamgiaaDoor.WPlain
namespace Go.Proofs.YtoemcdcabamgiaaDoor.QPlain
end Go.Proofs.YtoemcdcabamgiaaDoor.QPlain
namespace Go.Proofs.YtoemcdcabamgiaaDoor.RPlain
open WPlain QPlain

theorem bfrAt_at {l : List Tx} {i k : Nat} (hi : i < l.length) (hk : k < l.length) : bfrAt l i k = bfr l[i] l[k] := by
  unfold bfrAt
  rw [List.getElem?_eq_getElem hi, List.getElem?_eq_getElem hk]
/-- what follows of two befores, of a table's places -/
theorem bfrAt_self {h : List Ev} {i : Nat} (hi : i < (tableS h).length) : bfrAt (tableS h) i i = false := by
  have hin : i < (namesOf h).length := by rw [tableS_len] at hi; exact hi
  rw [bfrAt_at hi hi, tableS_get hin]
  exact bfr_self h (List.getElem_mem hin)
theorem bfrAt_trans {h : List Ev} {i k m : Nat} (hi : i < (tableS h).length) (hk : k < (tableS h).length) (hm : m < (tableS h).length)
    (h1 : bfrAt (tableS h) i k = true) (h2 : bfrAt (tableS h) k m = true) : bfrAt (tableS h) i m = true := by
  have hin : i < (namesOf h).length := by rw [tableS_len] at hi; exact hi
  have hkn : k < (namesOf h).length := by rw [tableS_len] at hk; exact hk
  have hmn : m < (namesOf h).length := by rw [tableS_len] at hm; exact hm
  rw [bfrAt_at hi hk, tableS_get hin, tableS_get hkn] at h1
  rw [bfrAt_at hk hm, tableS_get hkn, tableS_get hmn] at h2
  rw [bfrAt_at hi hm, tableS_get hin, tableS_get hmn]
  exact bfr_trans h (List.getElem_mem hkn) h1 h2
end Go.Proofs.YtoemcdcabamgiaaDoor.RPlain
/- Plain words: the search, and all rows that keep the order; parts of what is explained. -/
namespace Go.Proofs.YtoemcdcabamgiaaDoor.WPlain
end Go.Proofs.YtoemcdcabamgiaaDoor.WPlain
namespace Go.Proofs.YtoemcdcabamgiaaDoor.QPlain
end Go.Proofs.YtoemcdcabamgiaaDoor.QPlain
namespace Go.Proofs.YtoemcdcabamgiaaDoor.RPlain
open WPlain QPlain

theorem self_table (h : List Ev) : ∀ i, i < (tableS h).length → bfrAt (tableS h) i i = false := fun _ hi => bfrAt_self hi
theorem bad_nat (l : List Tx) (a b : Nat) : badP l (a : Int) (b : Int) = (decide (a = b) || bfrAt l a b) := by
  unfold badP bfrAt
  rw [Int.toNat_natCast, Int.toNat_natCast]
  congr 1
  by_cases h : a = b
  · subst h; simp
  · rw [decide_eq_false h, decide_eq_false (fun hc => h (by omega))]
theorem keeps_nat (l : List Tx) (row : List Nat) : keepsS l (row.map fun x : Nat => (x : Int)) = true ↔ row.Pairwise fun b a => a ≠ b ∧ bfrAt l a b = false := by
  rw [keepsS_iff, List.pairwise_iff_getElem]
  constructor
  · intro h i j hi hj hij
    have h1 := h j (by simpa using hj) i hij
    rw [List.getElem_map, List.getElem_map, bad_nat] at h1
    simpa using h1
  · intro h i hi j hj
    have hi' : i < row.length := by simpa using hi
    have h1 := h j i (by omega) hi' hj
    rw [List.getElem_map, List.getElem_map, bad_nat]
    simpa using h1
theorem bfrAt_lt {l : List Tx} {a b : Nat} (h : bfrAt l a b = true) : a < l.length ∧ b < l.length := by
  unfold bfrAt at h
  cases ha : l[a]? with
  | none => rw [ha] at h; cases h
  | some X =>
    cases hb : l[b]? with
    | none => rw [ha, hb] at h; cases h
    | some Y => exact ⟨(List.getElem?_eq_some_iff.1 ha).1, (List.getElem?_eq_some_iff.1 hb).1⟩
theorem aft_after (l : List Tx) (a b : Nat) : aft (afterS l) a b = bfrAt l a b := by
  unfold aft
  by_cases ha : a < l.length
  · rw [List.getD_eq_getElem?_getD, List.getElem?_eq_getElem (by rw [afterS_len]; exact ha), Option.getD_some]
    unfold afterS
    rw [List.getElem_map]
    by_cases hb : b < l.length
    · rw [afterN_test l _ hb, bfrAt_at ha hb]
    · rw [Nat.testBit_lt_two_pow (Nat.lt_of_lt_of_le (afterN_lt l _) (Nat.pow_le_pow_right (by decide) (by omega)))]
      cases hc : bfrAt l a b with
      | false => rfl
      | true => exact absurd (bfrAt_lt hc).2 hb
  · rw [List.getD_eq_getElem?_getD, List.getElem?_eq_none (by rw [afterS_len]; omega)]
    cases hc : bfrAt l a b with
    | false => exact Nat.zero_testBit b
    | true => exact absurd (bfrAt_lt hc).1 ha
theorem free_after (h : List Ev) : Free (afterS (tableS h)) := by
  have hE : ∀ a b, Edge (afterS (tableS h)) a b → a < (tableS h).length ∧ b < (tableS h).length ∧ bfrAt (tableS h) a b = true := fun a b he => by
    have := he.2.2
    rw [aft_after] at this
    exact ⟨(bfrAt_lt this).1, (bfrAt_lt this).2, this⟩
  have hT : ∀ a b, Relation.TransGen (Edge (afterS (tableS h))) a b → a < (tableS h).length ∧ b < (tableS h).length ∧ bfrAt (tableS h) a b = true := by
    intro a b hb
    induction hb with
    | single h => exact hE _ _ h
    | tail _ h ih =>
      have h1 := hE _ _ h
      exact ⟨ih.1, h1.2.1, bfrAt_trans ih.1 h1.1 h1.2.1 ih.2.2 h1.2.2⟩
  intro a ha
  have h1 := hT a a ha
  rw [bfrAt_self h1.1] at h1
  cases h1.2.2
theorem may_after {h : List Ev} (h0 : (checkS h).2 = 0) : mayE (afterS (tableS h)) = 0 := by
  rw [mayE_zero, afterS_len]
  refine ⟨table_six h0, fun a ha => ?_, free_after h⟩
  obtain ⟨X, _, rfl⟩ := List.mem_map.1 ha
  exact afterN_lt _ _
theorem two_bits (n k : Nat) : (2 ^ n - 1).testBit k = decide (k < n) := Nat.testBit_two_pow_sub_one ..
/-- to explain all: a row that keeps the order, and is legal -/
theorem expl_all {l : List Tx} {c : Nat} {row : List Nat} : Expl l (2 ^ l.length - 1) c row ↔ row ∈ allS (afterS l) ∧ legalS l c row = row.length := by
  rw [allS_mem, afterS_len]
  have hg : ∀ b a, goes (afterS l) b a ↔ a ≠ b ∧ bfrAt l a b = false := fun b a => by unfold goes; rw [aft_after]
  constructor
  · intro h
    have hlt : ∀ k ∈ row, k < l.length := fun k hk => ((h.mem k).1 hk).1
    have hfull : ∀ k, k < l.length → k ∈ row := fun k hk => (h.mem k).2 ⟨hk, by rw [two_bits]; simpa using hk⟩
    have h1 := nodup_le row (List.range l.length) h.nodup (fun x hx => List.mem_range.2 (hlt x hx))
    have h2 := nodup_le (List.range l.length) row List.nodup_range (fun x hx => hfull x (List.mem_range.1 hx))
    rw [List.length_range] at h1 h2
    refine ⟨⟨by omega, hlt, ?_⟩, h.legal⟩
    have := List.pairwise_and_iff.2 ⟨h.nodup, h.keeps⟩
    exact this.imp fun {b a} hab => (hg b a).2 ⟨fun hc => hab.1 hc.symm, hab.2⟩
  · rintro ⟨⟨h1, h2, h3⟩, h4⟩
    have hn := goes_nodup h3
    refine ⟨hn, fun k => ⟨fun hk => ⟨h2 k hk, by rw [two_bits]; simpa using h2 k hk⟩, fun hk => nodup_full row l.length hn h2 h1 k hk.1⟩, h3.imp fun {b a} hab => ((hg b a).1 hab).2, h4⟩
/-- the memory is made by those that are committed alone -/
theorem legal_filter (l : List Tx) (c : Nat) (p : Nat → Bool) : ∀ (row : List Nat) (M : Int → Int), (∀ i ∈ row, c.testBit i = true → p i = true) → legalG l c M row = row.length → legalG l c M (row.filter p) = (row.filter p).length := by
  intro row
  induction row with
  | nil => intro M _ _; rfl
  | cons i r ih =>
    intro M hp h
    have h1 := (legal_all l c i r M).1 h
    have h2 := ih (stepM l c M i) (fun x hx => hp x (List.mem_cons_of_mem _ hx)) h1.2
    rw [List.filter_cons]
    by_cases hpi : p i = true
    · rw [if_pos hpi]; exact (legal_all l c i _ M).2 ⟨h1.1, h2⟩
    · rw [if_neg hpi]
      have hc : ¬ c.testBit i = true := fun hc => hpi (hp i (List.mem_cons_self ..) hc)
      unfold stepM at h2
      rw [if_neg hc] at h2
      exact h2
theorem legal_commits (l : List Tx) {c c' : Nat} : ∀ (row : List Nat) (M : Int → Int), (∀ i ∈ row, c.testBit i = c'.testBit i) → legalG l c M row = legalG l c' M row := by
  intro row
  induction row with
  | nil => intro M _; rfl
  | cons i r ih =>
    intro M h
    have hs : stepM l c M i = stepM l c' M i := by unfold stepM; rw [h i (List.mem_cons_self ..)]
    rw [legalG, legalG, ih _ (fun x hx => h x (List.mem_cons_of_mem _ hx)), hs]
/-- of what is explained, those that commit are -/
theorem part_commits {l : List Tx} {c : Nat} {row : List Nat} (h : Expl l (2 ^ l.length - 1) c row) : Expl l c c (row.filter c.testBit) := by
  refine ⟨h.nodup.filter _, fun k => ?_, h.keeps.filter _, legal_filter l c _ row zeroM (fun i _ hc => hc) h.legal⟩
  rw [List.mem_filter, h.mem, two_bits]
  constructor
  · rintro ⟨⟨h1, _⟩, h2⟩; exact ⟨h1, h2⟩
  · rintro ⟨h1, h2⟩; exact ⟨⟨h1, by simpa using h1⟩, h2⟩
/-- .. and those ahead of any one, with that one at the end -/
theorem part_ahead {l : List Tx} {c who : Nat} {row : List Nat} (h : Expl l (2 ^ l.length - 1) c row) {t : Nat} (ht : t < row.length)
    (hw : ∀ k, who.testBit k = true ↔ (k = row[t] ∨ (c.testBit k = true ∧ k ∈ row.take t))) : Expl l who (c &&& who) ((row.take t).filter c.testBit ++ [row[t]]) := by
  have htk : row.take (t + 1) = row.take t ++ [row[t]] := List.take_succ_eq_append_getElem ht
  have hsub : ((row.take t).filter c.testBit ++ [row[t]]).Sublist row := by
    have h1 : ((row.take t).filter c.testBit ++ [row[t]]).Sublist (row.take t ++ [row[t]]) := List.Sublist.append List.filter_sublist (List.Sublist.refl _)
    rw [← htk] at h1
    exact h1.trans (List.take_sublist _ _)
  have hmem : ∀ k, k ∈ (row.take t).filter c.testBit ++ [row[t]] ↔ who.testBit k = true := fun k => by
    rw [hw, List.mem_append, List.mem_filter, List.mem_singleton]
    constructor
    · rintro (⟨h1, h2⟩ | h1)
      · exact .inr ⟨h2, h1⟩
      · exact .inl h1
    · rintro (h1 | ⟨h1, h2⟩)
      · exact .inr h1
      · exact .inl ⟨h2, h1⟩
  refine ⟨h.nodup.sublist hsub, fun k => ?_, h.keeps.sublist hsub, ?_⟩
  · rw [hmem]
    constructor
    · intro hk
      exact ⟨((h.mem k).1 (hsub.subset ((hmem k).2 hk))).1, hk⟩
    · exact fun hk => hk.2
  · unfold legalS
    rw [legal_commits l (c' := c) _ _ (fun i hi => by rw [Nat.testBit_and, (hmem i).1 hi, Bool.and_true])]
    have h1 := legal_take l c row (t + 1) zeroM
    have h2 : legalG l c zeroM row = row.length := h.legal
    rw [h2, htk, Nat.min_eq_right (by omega)] at h1
    rw [legal_app] at h1 ⊢
    have hl1 : (row.take t).length = t := by rw [List.length_take]; omega
    have hone : ∀ M, legalG l c M [row[t]] ≤ 1 := fun M => legal_le l c [row[t]] M
    have hle := legal_le l c (row.take t) zeroM
    by_cases hp : legalG l c zeroM (row.take t) = (row.take t).length
    · rw [if_pos hp] at h1
      have h3 := legal_filter l c c.testBit (row.take t) zeroM (fun _ _ hc => hc) hp
      rw [if_pos h3, behind_filter, List.length_append, List.length_singleton]
      omega
    · rw [if_neg hp] at h1; omega
end Go.Proofs.YtoemcdcabamgiaaDoor.RPlain
/- A region that draws its order, whose operations only read and whose callees lay blocks of their own: walked once, in the order of the text, at the class of the worlds that lie over one. -/
namespace Go.Proofs.YtoemcdcabamgiaaDoor
open Go.RowKit

/-- a world that lies over w: what lay in w lies as it lay -/
structure Ext (w : World) where
  wld : World
  below : Below w.heap.size w wld
instance (w : World) : Inhabited (Ext w) := ⟨⟨w, Below.refl _ w⟩⟩
theorem wp_region_ext {P : Program} {id : Nat} {Q : Exit → Act → World → Prop} {a : Act} {w : World} {l : List Oper} (hm : P.follows .mixedOrders = true) (hB : Region.lexB .any l.toArray = true)
    (h : wpQuiet P l.toArray (fun w' => ∃ p : Ext w, w' = p.wld) (fun a' => ∀ w', (∃ p : Ext w, w' = p.wld) → Q .normal a' w') l a) : (Code.region id l.toArray true).wp P Q a w :=
  wp_region_quiet (C := fun w' => ∃ p : Ext w, w' = p.wld) hm hB ⟨⟨w.drew, (Below.refl _ w).drew⟩, rfl⟩ (by simpa using h)
theorem calls_ext {P : Program} {f : FuncId} {args : Array Value} {w : World} {p : Ext w} {v : Value}
    (h : ∀ W, Below w.heap.size w W → Calls P f args W fun e w' => e = .returned v ∧ Below W.heap.size W w') : Calls P f args p.wld fun e w'' => e = .returned v ∧ ∃ q : Ext w, w'' = q.wld :=
  (h p.wld p.below).mono fun _ w' ⟨he, hb⟩ => ⟨he, ⟨w', p.below.trans (hb.mono p.below.size)⟩, rfl⟩
/-- a load in such a region, its run laid as an equation -/
theorem quiet_load {P : Program} {ops : Array Oper} {w : World} {Q : Act → Prop} {op : Oper} {rest : List Oper} {a : Act} (hw : Region.wanted op (yielded ops a.tmps) = true) (ty : TypeId) (x : Operand) (ho : op.op = .load ty x) {y v : Value} (hx : a.eval x = y)
    (he : ∀ p : Ext w, (Instr.loadAt ty y).run P p.wld = .ok v p.wld) (h : wpQuiet P ops (fun w' => ∃ p : Ext w, w' = p.wld) Q rest (a.put op.dst v)) : wpQuiet P ops (fun w' => ∃ p : Ext w, w' = p.wld) Q (op :: rest) a := by
  unfold wpQuiet
  rw [if_pos hw]
  refine ⟨v, ?_, h⟩
  rintro W ⟨p, rfl⟩
  unfold Oper.quietAt execOp
  simp only [ho, hx, Sem.run_bind, he p]
  exact ⟨rfl, rfl⟩
end Go.Proofs.YtoemcdcabamgiaaDoor
/- Plain words: the places left as bits; a loop over all places, of which some are left. -/
namespace Go.Proofs.YtoemcdcabamgiaaDoor.WPlain
end Go.Proofs.YtoemcdcabamgiaaDoor.WPlain
namespace Go.Proofs.YtoemcdcabamgiaaDoor.QPlain
end Go.Proofs.YtoemcdcabamgiaaDoor.QPlain
namespace Go.Proofs.YtoemcdcabamgiaaDoor.RPlain
open WPlain QPlain

/-- those of who that are not in a row, as bits -/
def leftW (who : Nat) (row : List Nat) : Nat := row.foldl (fun acc k => lessN acc (2 ^ k)) who
theorem leftW_snoc (who : Nat) (row : List Nat) (k : Nat) : leftW who (row ++ [k]) = lessN (leftW who row) (2 ^ k) := by simp [leftW]
theorem leftW_lt {who : Nat} (h : who < 64) (row : List Nat) : leftW who row < 64 := by
  have : ∀ (r : List Nat) (x : Nat), x < 64 → r.foldl (fun acc k => lessN acc (2 ^ k)) x < 64 := by
    intro r
    induction r with
    | nil => intro x h; exact h
    | cons k t ih => intro x h; exact ih _ (Nat.lt_of_le_of_lt (lessN_le _ _) h)
  exact this row _ h
theorem pow_le_64 {n : Nat} (h : n ≤ 6) : 2 ^ n ≤ 64 := Nat.pow_le_pow_right (n := 2) (i := n) (j := 6) (by decide) h
theorem leftW_test {l : List Tx} {who : Nat} {row : List Nat} (h6 : l.length ≤ 6) (hw : who < 2 ^ l.length) (hr : ∀ k ∈ row, k < l.length) (j : Nat) : (leftW who row).testBit j = decide (j ∈ leftS l who row) := by
  have hw64 := Nat.lt_of_lt_of_le hw (pow_le_64 h6)
  unfold leftW
  rw [left_fold j row who hw64 (fun k hk => by have := hr k hk; omega), Bool.eq_iff_iff, decide_eq_true_eq, left_mem, Bool.and_eq_true]
  constructor
  · rintro ⟨h1, h2⟩
    refine ⟨?_, h1, by simpa using h2⟩
    rcases Nat.lt_or_ge j l.length with h | h
    · exact h
    · rw [Nat.testBit_lt_two_pow (Nat.lt_of_lt_of_le hw (Nat.pow_le_pow_right (by decide) h))] at h1
      cases h1
  · rintro ⟨_, h2, h3⟩
    exact ⟨h2, by simpa using h3⟩
theorem leftW_zero {l : List Tx} {who : Nat} {row : List Nat} (h6 : l.length ≤ 6) (hw : who < 2 ^ l.length) (hr : ∀ k ∈ row, k < l.length) : leftW who row = 0 ↔ leftS l who row = [] := by
  constructor
  · intro h
    refine List.eq_nil_iff_forall_not_mem.2 fun k hk => ?_
    have h1 := leftW_test h6 hw hr k
    rw [h, Nat.zero_testBit, decide_eq_true hk] at h1
    cases h1
  · intro h
    refine Nat.eq_of_testBit_eq fun j => ?_
    rw [leftW_test h6 hw hr, h, Nat.zero_testBit]
    simp
theorem after_lt (l : List Tx) (h6 : l.length ≤ 6) : ∀ a ∈ afterS l, a < 64 := fun a ha => by
  obtain ⟨X, _, rfl⟩ := List.mem_map.1 ha
  exact Nat.lt_of_lt_of_le (afterN_lt _ _) (pow_le_64 h6)
/-- may a place come next? -/
theorem next_free {l : List Tx} {who : Nat} {row : List Nat} (h6 : l.length ≤ 6) (hw : who < 2 ^ l.length) (hr : ∀ k ∈ row, k < l.length) (k : Nat) :
    (nextS (afterS l) (leftW who row) (afterS l).length).testBit k = (decide (k ∈ leftS l who row) && freeS l (leftS l who row) k) := by
  have h64 := leftW_lt (Nat.lt_of_lt_of_le hw (pow_le_64 h6)) row
  rw [nextS_test (fun a ha => by have := after_lt l h6 a ha; omega) (by omega), leftW_test h6 hw hr, afterS_len]
  congr 1
  rw [Bool.eq_iff_iff, List.all_eq_true, free_iff']
  constructor
  · intro h i hi
    have hi2 := (left_mem.1 hi).1
    have h1 := h i (List.mem_range.2 hi2)
    rw [leftW_test h6 hw hr, decide_eq_true hi, aft_after] at h1
    simpa using h1
  · intro h i hi
    rw [leftW_test h6 hw hr, aft_after]
    by_cases hm : i ∈ leftS l who row
    · rw [h i hm]; simp
    · simp [hm]
/-- those left from a place on -/
def restS (l : List Tx) (who : Nat) (row : List Nat) (p : Nat) : List Nat := ((List.range l.length).drop p).filter fun k => who.testBit k && !row.contains k
theorem rest_zero (l : List Tx) (who : Nat) (row : List Nat) : restS l who row 0 = leftS l who row := rfl
theorem rest_end (l : List Tx) (who : Nat) (row : List Nat) : restS l who row l.length = [] := by
  unfold restS
  rw [List.drop_eq_nil_of_le (by simp)]; rfl
theorem rest_next {l : List Tx} {who : Nat} {row : List Nat} {p : Nat} (hp : p < l.length) : restS l who row p = if p ∈ leftS l who row then p :: restS l who row (p + 1) else restS l who row (p + 1) := by
  unfold restS
  rw [List.drop_eq_getElem_cons (by simpa using hp), List.getElem_range, List.filter_cons]
  by_cases h : p ∈ leftS l who row
  · rw [if_pos h, if_pos]
    have := left_mem.1 h
    simp [this.2.1, this.2.2]
  · rw [if_neg h, if_neg]
    intro hc
    refine h (left_mem.2 ⟨hp, ?_⟩)
    simpa using hc
/-- a round of the loop: a place that may not come, and one that may -/
theorem rest_skip {B : Nat} {rec : List Nat → Nat → Nat × List Nat × Nat} {l : List Tx} {who c : Nat} {row : List Nat} {p s : Nat} (hp : p < l.length)
    (h : (decide (p ∈ leftS l who row) && freeS l (leftS l who row) p) = false) :
    loopS B rec l c (leftS l who row) row (restS l who row p) s = loopS B rec l c (leftS l who row) row (restS l who row (p + 1)) s := by
  rw [rest_next hp]
  by_cases hm : p ∈ leftS l who row
  · rw [if_pos hm, loopS, if_pos (by simpa [hm] using h)]
  · rw [if_neg hm]
theorem rest_step {B : Nat} {rec : List Nat → Nat → Nat × List Nat × Nat} {l : List Tx} {who c : Nat} {row : List Nat} {p s : Nat} (hp : p < l.length)
    (h : (decide (p ∈ leftS l who row) && freeS l (leftS l who row) p) = true) :
    loopS B rec l c (leftS l who row) row (restS l who row p) s = if s = B then (2, [], s)
    else if okL l c (row ++ [p]) = true then (if (rec (row ++ [p]) (s + 1)).1 = 1 then loopS B rec l c (leftS l who row) row (restS l who row (p + 1)) (rec (row ++ [p]) (s + 1)).2.2 else rec (row ++ [p]) (s + 1))
      else loopS B rec l c (leftS l who row) row (restS l who row (p + 1)) (s + 1) := by
  rw [Bool.and_eq_true, decide_eq_true_eq] at h
  rw [rest_next hp, if_pos h.1, loopS, if_neg (by rw [h.2]; decide)]
end Go.Proofs.YtoemcdcabamgiaaDoor.RPlain
/- The walks of package serial: bit, placesOf, nextOf, afterOf, step, isLegal. -/
namespace Go.Proofs.YtoemcdcabamgiaaDoor.WPlain
end Go.Proofs.YtoemcdcabamgiaaDoor.WPlain
namespace Go.Proofs.YtoemcdcabamgiaaDoor.QPlain
end Go.Proofs.YtoemcdcabamgiaaDoor.QPlain
namespace Go.Proofs.YtoemcdcabamgiaaDoor.RPlain
end Go.Proofs.YtoemcdcabamgiaaDoor.RPlain
namespace Go.Proofs.YtoemcdcabamgiaaDoor
open Go.RowKit WPlain QPlain RPlain

theorem serBit_any (k : Nat) (hk : k < 32) (w : World) : Calls Tryd.prog 56 #[.int .i64 (k : Int)] w fun e w' => e = .returned (.int .u32 ((2 ^ k : Nat) : Int)) ∧ w' = w := by
  go_enter Tryd.func56, Tryd.ntmps56
  go_wp2
  go_ret
  exact ⟨by rw [pow_u32 hk]; rfl, rfl⟩
theorem placesS_any (a : Option Addr) (n c : Nat) (hn : n < 32) (w : World) : Calls Tryd.prog 28 #[.slice a n c] w fun e w' => e = .returned (.int .u32 ((2 ^ n - 1 : Nat) : Int)) ∧ w' = w := by
  have hb := serBit_any n hn w
  have hp : 0 < 2 ^ n := Nat.two_pow_pos n
  have hlt : 2 ^ n < 4294967296 := Nat.pow_lt_pow_right (a := 2) (m := n) (n := 32) (by decide) hn
  generalize 2 ^ n = z at *
  go_enter Tryd.func28, Tryd.ntmps28
  go_wp2_with fail
  refine hb.mono ?_
  rintro e w1 ⟨rfl, rfl⟩
  go_wp2
  go_ret
  exact ⟨ret_int (by omega), rfl⟩
set_option maxRecDepth 100000 in
set_option maxHeartbeats 1000000 in
theorem nextOfS_any (v : Value) (A : List Nat) (left : Nat) (w : World) (hv : Rd w v (u32s A)) (hn : A.length ≤ 6) (hA : ∀ a ∈ A, a < 4294967296) (hl : left < 64) :
    Calls Tryd.prog 78 #[v, .int .u32 (left : Int)] w fun e w' => e = .returned (.int .u32 ((nextS A left A.length : Nat) : Int)) ∧ w' = w := by
  have HV := Lib.hid hv
  obtain ⟨a, c, rfl⟩ := hv.len
  rw [u32s_len] at HV ⊢
  have HA := Lib.hid hA
  clear hv hA
  go_enter Tryd.func78, Tryd.ntmps78
  go_wp2_with fail
  go_loopw [5, 11] (fun y x wr => ∃ k : Nat, k ≤ A.length ∧ x = .int .i64 k ∧ y = .int .u32 ((nextS A left k : Nat) : Int) ∧ wr = w) (fun _ x _ => A.length - (intOf x).toNat)
  case atStart => exact ⟨0, by omega, rfl, rfl, rfl⟩
  case round =>
    obtain ⟨k, hk, rfl, rfl, rfl⟩ := hrel
    by_cases hlt : k < A.length
    · obtain ⟨b, o, c', he, hb, hc⟩ := HV.out.opened (by rw [u32s_len]; omega)
      have hck := hc k _ (u32s_get hlt)
      simp only [Value.slice.injEq] at he
      obtain ⟨rfl, -, rfl⟩ := he
      clear hc
      have hak := HA.out _ (List.getElem_mem hlt)
      have hle := nextS_le A left k
      have hkb := serBit_any k (by omega)
      have hlt3 : 2 ^ k < 4294967296 := Nat.pow_lt_pow_right (a := 2) (m := k) (n := 32) (by decide) (by omega)
      have hand := u32_and_nat left (2 ^ k) (by omega) hlt3
      have hap := and_pow2 left k
      have hpos : 0 < 2 ^ k := Nat.two_pow_pos k
      have hstep : nextS A left (k + 1) = if left.testBit k = true then lessN (nextS A left k) A[k] else nextS A left k := by
        rw [nextS, List.getD_eq_getElem?_getD, List.getElem?_eq_getElem hlt]; rfl
      have HST := Lib.hid hstep
      generalize A[k] = y at *
      generalize nextS A left k = nx at *
      obtain ⟨nx', hnx'⟩ : ∃ z, nextS A left (k + 1) = z := ⟨_, rfl⟩
      have HNX' := Lib.hid hnx'
      rw [hnx'] at HST
      clear hnx'
      have hano := u32_andNot_nat nx y (by omega) hak
      have hln : nx &&& (4294967295 - y) = lessN nx y := rfl
      rw [hln] at hano
      generalize lessN nx y = ly at *
      clear hstep hln
      obtain ⟨pw, hpw⟩ : ∃ pw, 2 ^ k = pw := ⟨_, rfl⟩
      rw [hpw] at hkb hlt3 hand hap hpos
      clear hpw
      cases hb : left.testBit k with
      | true =>
        rw [hb, if_pos rfl] at hap
        rw [hap] at hand
        have he := HST.out
        rw [hb, if_pos rfl] at he
        subst he
        clear HST hap
        have tq : ((pw : Int) != 0) = true := by simp; omega
        go_wp2_with (go_at_call 56; refine (hkb _).mono ?_; rintro e w3 ⟨rfl, rfl⟩)
        go_roundw
        case rel => exact ⟨k + 1, by omega, by go_num, by rw [HNX'.out], trivial⟩
        case measure => simp [intOf]; omega
      | false =>
        rw [hb, if_neg (by decide)] at hap
        rw [hap] at hand
        have he := HST.out
        rw [hb, if_neg (by decide)] at he
        subst he
        clear HST hap
        go_wp2_with (go_at_call 56; refine (hkb _).mono ?_; rintro e w3 ⟨rfl, rfl⟩)
        go_roundw
        case rel => exact ⟨k + 1, by omega, by go_num, by rw [HNX'.out], trivial⟩
        case measure => simp [intOf]; omega
    · obtain rfl : k = A.length := by omega
      go_wp2
      go_ret
      exact ⟨rfl, rfl⟩
/-- what legal.Legal tells of such a row -/
theorem legR_row {h : List Ev} (h0 : (checkS h).2 = 0) {row : List Nat} (hr : ∀ k ∈ row, k < (tableS h).length) (hn : row.Nodup) (c : Nat) :
    errL h (row.map fun x : Nat => (x : Int)) = 0 ∧ (legR h (row.map fun x : Nat => (x : Int)) c = row.length ↔ okL (tableS h) c row = true) := by
  have ht : thereS (tableS h) (row.map fun x : Nat => (x : Int)) = true := (thereS_iff _ _).2 fun x hx => by
    obtain ⟨k, hk, rfl⟩ := List.mem_map.1 hx
    have := hr k hk
    omega
  have he : errL h (row.map fun x : Nat => (x : Int)) = 0 := by
    unfold errL
    rw [if_pos h0, ht, if_pos rfl, if_pos ((nodup_cast row).2 hn)]
  refine ⟨he, ?_⟩
  unfold legR okL
  rw [if_pos he, natsR_cast, decide_eq_true_eq]
/-- the error of a search -/
def srchE (h : List Ev) (B : Int) : Nat := if (checkS h).2 = 0 then (if B < 0 ∨ 1000000 < B then 1 else 0) else (checkS h).2
set_option maxRecDepth 100000 in
set_option maxHeartbeats 1000000 in
theorem afterOf_anyS (v : Value) (h : List Ev) (B : Int) (w : World) (hK : HasK w) (hv : Evs w v h) (hl : h.length ≤ 65536) :
    Calls Tryd.prog 27 #[v, .int .i64 B] w fun e w' => ∃ v', e = .returned (.tuple #[v', .int .i64 ((srchE h B : Nat) : Int)]) ∧ Rd w' v' (if srchE h B = 0 then u32s (afterS (tableS h)) else []) ∧ Below w.heap.size w w' := by
  have HA := Lib.hid (after_any v h w hK hv hl)
  clear hK hv hl
  unfold srchE
  by_cases h0 : (checkS h).2 = 0
  · simp only [if_pos h0] at HA ⊢
    rw [h0] at HA
    by_cases h1 : B < 0
    · have h2 : B < 0 ∨ 1000000 < B := .inl h1
      simp only [if_pos h2]
      clear h2 h0
      go_enter Tryd.func27, Tryd.ntmps27
      go_wp2_with fail
      refine HA.out.mono ?_
      rintro e w1 ⟨v1, rfl, hr, hb⟩
      have HR := Lib.hid hr
      have HB := Lib.hid hb
      obtain ⟨va, vc, rfl⟩ := hr.len
      clear hr hb HA
      go_wp2
      go_ret2
      exact ⟨_, rfl, .inl ⟨rfl, _, _, rfl⟩, HB.out⟩
    · by_cases h3 : 1000000 < B
      · have h2 : B < 0 ∨ 1000000 < B := .inr h3
        simp only [if_pos h2]
        clear h2 h0
        go_enter Tryd.func27, Tryd.ntmps27
        go_wp2_with fail
        refine HA.out.mono ?_
        rintro e w1 ⟨v1, rfl, hr, hb⟩
        have HR := Lib.hid hr
        have HB := Lib.hid hb
        obtain ⟨va, vc, rfl⟩ := hr.len
        clear hr hb HA
        go_wp2
        go_ret2
        exact ⟨_, rfl, .inl ⟨rfl, _, _, rfl⟩, HB.out⟩
      · have h2 : ¬ (B < 0 ∨ 1000000 < B) := by omega
        simp only [if_neg h2]
        clear h2 h0
        go_enter Tryd.func27, Tryd.ntmps27
        go_wp2_with fail
        refine HA.out.mono ?_
        rintro e w1 ⟨v1, rfl, hr, hb⟩
        have HR := Lib.hid hr
        have HB := Lib.hid hb
        obtain ⟨va, vc, rfl⟩ := hr.len
        clear hr hb HA
        go_wp2
        go_ret2
        exact ⟨_, rfl, HR.out, HB.out⟩
  · simp only [if_neg h0] at HA ⊢
    obtain ⟨er, her⟩ : ∃ er, (checkS h).2 = er := ⟨_, rfl⟩
    simp only [her] at h0 HA ⊢
    have te : ((er : Int) != 0) = true := by simp; omega
    have HX := Lib.hid h0
    clear her h0
    go_enter Tryd.func27, Tryd.ntmps27
    go_wp2_with fail
    refine HA.out.mono ?_
    rintro e w1 ⟨v1, rfl, hr, hb⟩
    have HR := Lib.hid hr
    have HB := Lib.hid hb
    obtain ⟨va, vc, rfl⟩ := hr.len
    clear hr hb HA
    go_wp2
    go_ret2
    exact ⟨_, rfl, .inl ⟨rfl, _, _, rfl⟩, HB.out⟩
def srch (hv av : Value) (who c : Nat) (B : Int) (s : Nat) : Array Value := #[hv, av, .int .u32 (who : Int), .int .u32 (c : Int), .int .i64 B, .int .i64 (s : Int)]
set_option maxRecDepth 100000 in
set_option maxHeartbeats 1000000 in
theorem step_spent (b : Nat) (hv av : Value) (who c B : Nat) (w : World) (ha : At w b (srch hv av who c (B : Int) B) 67) :
    Calls Tryd.prog 79 #[.pointer (some ⟨b, 0, none⟩)] w fun e w' => e = .panicked [{ v := .iface 101 (.agg #[]), recovered := false }] ∧ ∃ n, w' = w.drewN n := by
  have c4 : w.cell? ⟨b, 4, none⟩ = some (.int .i64 (B : Int)) := ha.cell rfl
  have c5 : w.cell? ⟨b, 5, none⟩ = some (.int .i64 (B : Int)) := ha.cell rfl
  clear ha
  go_enter Tryd.func79, Tryd.ntmps79
  go_wp2_with fail
  go_quiet (fail)
  go_wp2
  exact ⟨rfl, rfl, nq, rfl⟩
set_option maxRecDepth 100000 in
set_option maxHeartbeats 1000000 in
theorem step_goes (b : Nat) (hv av : Value) (who c B s : Nat) (w : World) (ha : At w b (srch hv av who c (B : Int) s) 67) (hs : s < B) (hB : B ≤ 1000000) :
    Calls Tryd.prog 79 #[.pointer (some ⟨b, 0, none⟩)] w fun e w' => e = .returned (.tuple #[]) ∧ ∃ n, w' = (w.drewN n).setCell ⟨b, 5, none⟩ (.int .i64 ((s + 1 : Nat) : Int)) := by
  have c4 : w.cell? ⟨b, 4, none⟩ = some (.int .i64 (B : Int)) := ha.cell rfl
  have c5 : w.cell? ⟨b, 5, none⟩ = some (.int .i64 (s : Int)) := ha.cell rfl
  have f5 : w.frozen? ⟨b, 5, none⟩ = false := ha.free 5
  clear ha
  have tq : ((s : Int) == (B : Int)) = false := by rw [beq_eq_false_iff_ne]; omega
  go_enter Tryd.func79, Tryd.ntmps79
  go_wp2_with fail
  go_quiet (fail)
  go_wp2
  exact bodyPost_end (results_none rfl _ _ _) rfl ⟨rfl, nq, rfl⟩
theorem nats_intsS (L : List Nat) : nats L = ints (L.map fun x : Nat => (x : Int)) := by simp [nats, ints]
theorem belowDrS (w : World) : Below w.heap.size w w.drew := (Below.refl _ _).drew
/-- what a search is over: the events, the order, and where it lies -/
structure Env (w0 : World) (b : Nat) (hv av : Value) (h : List Ev) (who c B : Nat) : Prop where
  kinds : HasK w0
  evs : Evs w0 hv h
  len : h.length ≤ 65536
  ok : (checkS h).2 = 0
  aft : Rd w0 av (u32s (afterS (tableS h)))
  blk : w0.heap.size ≤ b
  who : who < 2 ^ (tableS h).length
  com : c < 4294967296
  bud : B ≤ 1000000
set_option maxRecDepth 100000 in
set_option maxHeartbeats 2000000 in
theorem isLegal_any (w0 : World) (b : Nat) (hv av : Value) (h : List Ev) (who c B s : Nat) (E : Env w0 b hv av h who c B) (rv : Value) (row : List Nat) (w : World) (hb : Below w0.heap.size w0 w) (ha : At w b (srch hv av who c (B : Int) s) 67)
    (hr : Rd w rv (nats row)) (hlt : ∀ k ∈ row, k < (tableS h).length) (hn : row.Nodup) :
    Calls Tryd.prog 81 #[.pointer (some ⟨b, 0, none⟩), rv] w fun e w' => e = .returned (.bool (okL (tableS h) c row)) ∧ Below w.heap.size w w' := by
  have h6 := table_six E.ok
  have hrl : row.length ≤ 6 := by
    have := nodup_le row (List.range (tableS h).length) hn (fun x hx => List.mem_range.2 (hlt x hx))
    rw [List.length_range] at this
    omega
  obtain ⟨he, hleg⟩ := legR_row E.ok hlt hn c
  have HLG : Hid (∀ W, Below w.heap.size w W → Calls Tryd.prog 14 #[hv, rv, .int .u32 (c : Int)] W fun e w' => e = .returned (.tuple #[.int .i64 ((legR h (row.map fun x : Nat => (x : Int)) c : Nat) : Int), .int .i64 0]) ∧ Below W.heap.size W w') := fun W hW => by
    have h1 := legal_any hv rv h (row.map fun x : Nat => (x : Int)) c W (E.kinds.later (hb.trans (hW.mono hb.size)) (Nat.le_refl _)) (E.evs.below (hb.trans (hW.mono hb.size)) (Nat.le_refl _)) E.len (by rw [← nats_intsS]; exact hr.below hW (Nat.le_refl _)) (by rw [List.length_map]; omega) E.com
    rw [he] at h1
    exact h1
  have HSS : Hid (∀ W, Below w.heap.size w W → W.cell? ⟨b, 0, none⟩ = some hv ∧ W.cell? ⟨b, 3, none⟩ = some (.int .u32 (c : Int))) := fun W hW => ⟨(hW.cell (p := ⟨b, 0, none⟩) ha.lt).trans (ha.cell rfl), (hW.cell (p := ⟨b, 3, none⟩) ha.lt).trans (ha.cell rfl)⟩
  obtain ⟨ra, rc, rfl⟩ := hr.len
  rw [nats_len] at HLG ⊢
  obtain ⟨ok, hok⟩ : ∃ ok, okL (tableS h) c row = ok := ⟨_, rfl⟩
  rw [hok] at hleg ⊢
  have HOK := Lib.hid hleg
  clear hok hleg he E hr ha hb hlt hn
  generalize legR h (row.map fun x : Nat => (x : Int)) c = z at *
  have htq : (((z : Nat) : Int) == (row.length : Int)) = ok := by
    have h1 := HOK.out
    cases ok with
    | true => rw [beq_iff_eq]; have := h1.2 rfl; omega
    | false => rw [beq_eq_false_iff_ne]; intro hc; have := h1.1 (by omega); cases this
  clear HOK
  generalize row.length = n at *
  go_enter Tryd.func81, Tryd.ntmps81
  go_wp2_with fail
  first
  | go_must (go_region_held (fun W => W.cell? ⟨b, 0, none⟩ = some hv ∧ W.cell? ⟨b, 3, none⟩ = some (.int .u32 (c : Int)))
      (first | exact HSS.out _ (belowDrS _) | exact HSS.out _ ((belowDrS _).trans hb7))
      (first | (go_at_call 14; refine (HLG.out _ (belowDrS _)).mono ?_; rintro e w7 ⟨rfl, hb7⟩)))
  | fail
  have HB7 := Lib.hid ((belowDrS w).trans hb7)
  clear hb7 HSS HLG
  go_wp2
  go_ret
  exact ⟨rfl, HB7.out⟩
end Go.Proofs.YtoemcdcabamgiaaDoor
