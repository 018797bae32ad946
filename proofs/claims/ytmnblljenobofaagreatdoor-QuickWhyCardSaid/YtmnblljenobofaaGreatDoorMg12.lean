/- Merged: OrdG, LegB, LegC, LegE, LegH, CmpC. -/
import Derived.Test.YtmnblljenobofaaGreatDoorOrdE
import Derived.Test.YtmnblljenobofaaGreatDoorMg1
import Derived.Test.YtmnblljenobofaaGreatDoorMg11
import Derived.Test.YtmnblljenobofaaGreatDoorMg8
import Derived.Test.YtmnblljenobofaaGreatDoorMg4
import Derived.Test.YtmnblljenobofaaGreatDoorMg10
import Derived.Test.YtmnblljenobofaaGreatDoorMg3
import Derived.Test.YtmnblljenobofaaGreatDoorMg5
import Derived.BigQuiet
import Derived.Deep.QuietTactic
import Derived.Laws.AppendOwnNone
/- The walks of package order's Before and Keeps. -/
namespace Go.Proofs.YtmnblljenobofaaGreatDoor.WPlain
end Go.Proofs.YtmnblljenobofaaGreatDoor.WPlain
namespace Go.Proofs.YtmnblljenobofaaGreatDoor.QPlain
end Go.Proofs.YtmnblljenobofaaGreatDoor.QPlain
namespace Go.Proofs.YtmnblljenobofaaGreatDoor.RPlain
end Go.Proofs.YtmnblljenobofaaGreatDoor.RPlain
namespace Go.Proofs.YtmnblljenobofaaGreatDoor.RPlain
open WPlain QPlain

theorem pow_32 {n x : Nat} (hn : n ≤ 6) (hx : x < 2 ^ n) : x < 4294967296 :=
  Nat.lt_of_lt_of_le hx (Nat.pow_le_pow_right (n := 2) (i := n) (j := 32) (by decide) (by omega))
theorem two_32 {n k : Nat} (hn : n ≤ 6) (hk : k < n) : 2 ^ k < 4294967296 := Nat.pow_lt_pow_right (a := 2) (m := k) (n := 32) (by decide) (by omega)
end Go.Proofs.YtmnblljenobofaaGreatDoor.RPlain
namespace Go.Proofs.YtmnblljenobofaaGreatDoor
open Go.RowKit WPlain QPlain RPlain

end Go.Proofs.YtmnblljenobofaaGreatDoor
/- Plain words: rows whose places are there once; a row's bits; eight values. -/
namespace Go.Proofs.YtmnblljenobofaaGreatDoor.WPlain
end Go.Proofs.YtmnblljenobofaaGreatDoor.WPlain
namespace Go.Proofs.YtmnblljenobofaaGreatDoor.QPlain
end Go.Proofs.YtmnblljenobofaaGreatDoor.QPlain
namespace Go.Proofs.YtmnblljenobofaaGreatDoor.RPlain
end Go.Proofs.YtmnblljenobofaaGreatDoor.RPlain
namespace Go.Proofs.YtmnblljenobofaaGreatDoor.RPlain
open WPlain QPlain

/-- bits of any number -/
theorem and_powL (n p : Nat) : n &&& 2 ^ p = 0 ↔ n.testBit p = false := by
  constructor
  · intro h
    have h1 : (n &&& 2 ^ p).testBit p = false := by rw [h]; exact Nat.zero_testBit p
    rw [Nat.testBit_and, Nat.testBit_two_pow_self, Bool.and_true] at h1
    exact h1
  · intro h
    refine Nat.eq_of_testBit_eq fun j => ?_
    rw [Nat.testBit_and, Nat.zero_testBit, Nat.testBit_two_pow]
    by_cases hj : p = j
    · subst hj; rw [h]; rfl
    · simp [hj]
def okOps (ops : List Rwo) : Prop := ∀ o ∈ ops, 0 ≤ o.v ∧ o.v ≤ 7
theorem askedE_any (h : List Ev) (t : Int) {p : Ev → Prop} (h0 : p ⟨0, 0, 0, 0⟩) (h1 : ∀ e ∈ h, p e) : p (askedOf h t) := by
  revert h1
  refine rev_ind (p := fun h => (∀ e ∈ h, p e) → p (askedOf h t)) ?_ ?_ h
  · intro _; exact h0
  · intro g e ih h1
    rw [askedOf_snoc]
    split
    · exact h1 e (by simp)
    · exact ih fun x hx => h1 x (List.mem_append_left _ hx)
theorem ops_any (h : List Ev) (t : Int) (h1 : ∀ e ∈ h, 0 ≤ e.v ∧ e.v ≤ 7) : okOps (opsOf h t) := by
  revert h1
  refine rev_ind (p := fun h => (∀ e ∈ h, 0 ≤ e.v ∧ e.v ≤ 7) → okOps (opsOf h t)) ?_ ?_ h
  · intro _ o ho; simp [opsOf] at ho
  · intro g e ih h1 o ho
    rw [opsOf_snoc] at ho
    have hg : ∀ e ∈ g, 0 ≤ e.v ∧ e.v ≤ 7 := fun x hx => h1 x (List.mem_append_left _ hx)
    rcases List.mem_append.1 ho with ho | ho
    · exact ih hg o ho
    · have ha := askedE_any g t (p := fun e => 0 ≤ e.v ∧ e.v ≤ 7) ⟨by decide, by decide⟩ hg
      split at ho
      · unfold opStep at ho
        split at ho
        · rw [List.mem_singleton.1 ho]; exact ha
        · split at ho
          · rw [List.mem_singleton.1 ho]; exact ha
          · cases ho
      · cases ho
theorem table_ops {h : List Ev} (h0 : (checkS h).2 = 0) : ∀ X ∈ tableS h, okOps X.o ∧ X.o.length ≤ 60 := by
  intro X hX
  obtain ⟨t, _, rfl⟩ := List.mem_map.1 hX
  have hr := (check_agree h0).1
  have h60 := (right_evs hr).1
  refine ⟨ops_any h t fun e he => ?_, ?_⟩
  · simp only [right, Bool.and_eq_true, decide_eq_true_eq, List.all_eq_true] at hr
    have := hr.1.2 e he
    simp only [evOk, inB, Bool.and_eq_true, decide_eq_true_eq] at this
    omega
  · show (opsOf h t).length ≤ 60
    rw [ops_len]
    exact Nat.le_trans (List.length_filter_le _ _) h60
end Go.Proofs.YtmnblljenobofaaGreatDoor.RPlain
namespace Go.Proofs.YtmnblljenobofaaGreatDoor
open Go.RowKit WPlain QPlain RPlain

end Go.Proofs.YtmnblljenobofaaGreatDoor
/- The walks of package legal's bit, isOfNoVariable, with, firstWrong and left. -/
namespace Go.Proofs.YtmnblljenobofaaGreatDoor.WPlain
end Go.Proofs.YtmnblljenobofaaGreatDoor.WPlain
namespace Go.Proofs.YtmnblljenobofaaGreatDoor.QPlain
end Go.Proofs.YtmnblljenobofaaGreatDoor.QPlain
namespace Go.Proofs.YtmnblljenobofaaGreatDoor.RPlain
end Go.Proofs.YtmnblljenobofaaGreatDoor.RPlain
namespace Go.Proofs.YtmnblljenobofaaGreatDoor
open Go.RowKit WPlain QPlain RPlain

theorem Opv.at {w : World} {a : Option Addr} {n c : Nat} {l : List Rwo} (h : Opv w (.slice a n c) l) (i : Nat) (hi : i < l.length) : ∃ b o, a = some ⟨b, o, none⟩ ∧ b < w.heap.size ∧
    w.cell? ⟨b, o + i * 3, none⟩ = some (.bool l[i].w) ∧ w.cell? ⟨b, o + i * 3 + 1, none⟩ = some (.int .i64 l[i].v) ∧ w.cell? ⟨b, o + i * 3 + 2, none⟩ = some (.int .i64 l[i].x) := by
  rcases h.1 with ⟨rfl, _⟩ | ⟨_, b, o, c', he, hbl, hc⟩
  · simp at hi
  · simp only [Value.slice.injEq] at he
    obtain ⟨rfl, _, _⟩ := he
    exact ⟨b, o, rfl, hbl, hc i hi 0 _ (by omega) rfl, hc i hi 1 _ (by omega) rfl, hc i hi 2 _ (by omega) rfl⟩
end Go.Proofs.YtmnblljenobofaaGreatDoor
/- The walks of package legal's Legal, Memory and Own. -/
namespace Go.Proofs.YtmnblljenobofaaGreatDoor.WPlain
end Go.Proofs.YtmnblljenobofaaGreatDoor.WPlain
namespace Go.Proofs.YtmnblljenobofaaGreatDoor.QPlain
end Go.Proofs.YtmnblljenobofaaGreatDoor.QPlain
namespace Go.Proofs.YtmnblljenobofaaGreatDoor.RPlain
end Go.Proofs.YtmnblljenobofaaGreatDoor.RPlain
namespace Go.Proofs.YtmnblljenobofaaGreatDoor.RPlain
open WPlain QPlain

def natsR (row : List Int) : List Nat := row.map Int.toNat
theorem natsR_cast (rn : List Nat) : natsR (rn.map (fun x : Nat => (x : Int))) = rn := by
  unfold natsR
  rw [List.map_map]
  exact (List.map_congr_left (fun x _ => by simp)).trans (List.map_id _)
end Go.Proofs.YtmnblljenobofaaGreatDoor.RPlain
namespace Go.Proofs.YtmnblljenobofaaGreatDoor
open Go.RowKit WPlain QPlain RPlain

end Go.Proofs.YtmnblljenobofaaGreatDoor
/- The walks of the reference's Put, Get and With: a memory told as writes, the last one first. -/
namespace Go.Proofs.YtmnblljenobofaaGreatDoor.WPlain
end Go.Proofs.YtmnblljenobofaaGreatDoor.WPlain
namespace Go.Proofs.YtmnblljenobofaaGreatDoor.QPlain
end Go.Proofs.YtmnblljenobofaaGreatDoor.QPlain
namespace Go.Proofs.YtmnblljenobofaaGreatDoor.RPlain
end Go.Proofs.YtmnblljenobofaaGreatDoor.RPlain
namespace Go.Proofs.YtmnblljenobofaaGreatDoor.RPlain
open WPlain QPlain

end Go.Proofs.YtmnblljenobofaaGreatDoor.RPlain
namespace Go.Proofs.YtmnblljenobofaaGreatDoor
open Go.RowKit WPlain QPlain RPlain

/-- a memory's row of writes -/
def Mm (w : World) (u : Value) (L : List Rwo) : Prop := Opv w u L ∧ Src u
theorem Mm.below {w w' : World} {B : Nat} {u : Value} {L : List Rwo} (h : Mm w u L) (hb : Below B w w') (hB : w.heap.size ≤ B) : Mm w' u L := ⟨h.1.below hb hB, h.2⟩
theorem Mm.nil (w : World) : Mm w (.slice none 0 0) [] := ⟨Opv.nil _ _ _, .inl rfl⟩
/-- a cell of the call's own that holds a slice is none of a row of Ops -/
theorem Opv.set {w : World} {u : Value} {L : List Rwo} (h : Opv w u L) {N : Nat} {x : Option Addr} {y z : Nat} {T : TypeId} (hA : At w N #[.slice x y z] T) (v : Value) : Opv (w.setCell ⟨N, 0, none⟩ v) u L := by
  refine ⟨?_, h.2⟩
  rcases h.1 with h0 | ⟨h0, b, o, c, rfl, hbl, hc⟩
  · exact .inl h0
  · have hne : b ≠ N := by
      rintro rfl
      have h1 := hc 0 h0 0 (.bool L[0].w) (by omega) rfl
      rw [Nat.zero_mul, Nat.add_zero] at h1
      unfold At at hA
      simp only [World.cell?, hA] at h1
      match o, h1 with
      | 0, h1 => simp at h1
      | o + 1, h1 => simp at h1
    have hh := Below.heap_setCell w ⟨N, 0, none⟩ v b hne
    refine .inr ⟨h0, b, o, c, rfl, by simpa [World.setCell] using hbl, fun i hi j q hj hq => ?_⟩
    have h1 := hc i hi j q hj hq
    unfold World.cell? at h1 ⊢
    rw [hh]
    exact h1
end Go.Proofs.YtmnblljenobofaaGreatDoor
/- Plain words: the subsets of bits, one after the other; choices as what must be and a subset of what may be. -/
namespace Go.Proofs.YtmnblljenobofaaGreatDoor.WPlain
end Go.Proofs.YtmnblljenobofaaGreatDoor.WPlain
namespace Go.Proofs.YtmnblljenobofaaGreatDoor.QPlain
end Go.Proofs.YtmnblljenobofaaGreatDoor.QPlain
namespace Go.Proofs.YtmnblljenobofaaGreatDoor.RPlain
open WPlain QPlain

/-- the subset behind a subset: none, behind the last -/
def nxB (p s : Nat) : Nat := (s + 4294967296 - p) % 4294967296 &&& p
def inB6 (p m : Nat) : Bool := decide (m &&& p = m)
def subU (p s : Nat) : List Nat := (List.range s).filter (inB6 p)
theorem nx_step : ∀ p < 64, ∀ s < 64, inB6 p s = true → (nxB p s = 0 ∧ subU p (s + 1) = subU p 64) ∨ (s < nxB p s ∧ nxB p s < 64 ∧ inB6 p (nxB p s) = true ∧ subU p (s + 1) = subU p (nxB p s)) := by decide +kernel
theorem sub_snoc {p s : Nat} (h : inB6 p s = true) : subU p (s + 1) = subU p s ++ [s] := by unfold subU; rw [List.range_succ, List.filter_append]; simp [h]
theorem or_add6 : ∀ a < 64, ∀ b < 64, a &&& b = 0 → a ||| b = a + b := by decide +kernel
theorem and_lt6 (a : Nat) {b : Nat} (h : b < 64) : a &&& b < 64 := Nat.lt_of_le_of_lt Nat.and_le_right h
theorem rise_eq : ∀ {a b : List Nat}, a.Pairwise (· < ·) → b.Pairwise (· < ·) → (∀ x, x ∈ a ↔ x ∈ b) → a = b := by
  intro a
  induction a with
  | nil =>
    intro b _ _ h
    cases b with
    | nil => rfl
    | cons y s => exact absurd ((h y).2 (List.mem_cons_self ..)) (by simp)
  | cons x r ih =>
    intro b ha hb h
    cases b with
    | nil => exact absurd ((h x).1 (List.mem_cons_self ..)) (by simp)
    | cons y s =>
      obtain ⟨hx, hr⟩ := List.pairwise_cons.1 ha
      obtain ⟨hy, hs⟩ := List.pairwise_cons.1 hb
      have hxy : x = y := by
        rcases List.mem_cons.1 ((h x).1 (List.mem_cons_self ..)) with h1 | h1
        · exact h1
        · rcases List.mem_cons.1 ((h y).2 (List.mem_cons_self ..)) with h2 | h2
          · exact h2.symm
          · have := hx y h2; have := hy x h1; omega
      subst hxy
      rw [ih hr hs]
      intro z
      constructor
      · intro hz
        rcases List.mem_cons.1 ((h z).1 (List.mem_cons_of_mem _ hz)) with h1 | h1
        · have := hx z hz; omega
        · exact h1
      · intro hz
        rcases List.mem_cons.1 ((h z).2 (List.mem_cons_of_mem _ hz)) with h1 | h1
        · have := hy z hz; omega
        · exact h1
/-- the bits of those of a state -/
def stB (l : List Tx) (s : Int) (k : Nat) : Bool := match l[k]? with | some X => decide (X.s = s) | none => false
def stN (l : List Tx) (s : Int) : Nat := bitsN (stB l s) l.length
theorem stN_test (l : List Tx) (s : Int) (j : Nat) : (stN l s).testBit j = true ↔ ∃ h : j < l.length, l[j].s = s := by
  unfold stN stB
  rw [bitsN_test]
  by_cases hj : j < l.length
  · rw [List.getElem?_eq_getElem hj]
    simp [hj]
  · simp [hj]
theorem stN_lt {l : List Tx} (h6 : l.length ≤ 6) (s : Int) : stN l s < 64 := Nat.lt_of_lt_of_le (bitsN_lt _ _) (Nat.pow_le_pow_right (n := 2) (i := l.length) (j := 6) (by decide) h6)
theorem st_apart (l : List Tx) {s t : Int} (h : s ≠ t) : stN l s &&& stN l t = 0 := by
  refine Nat.eq_of_testBit_eq fun j => ?_
  rw [Nat.testBit_and, Nat.zero_testBit, Bool.and_eq_false_iff]
  cases h1 : (stN l s).testBit j with
  | false => exact .inl rfl
  | true =>
    right
    cases h2 : (stN l t).testBit j with
    | false => rfl
    | true =>
      obtain ⟨_, e1⟩ := (stN_test l s j).1 h1
      obtain ⟨_, e2⟩ := (stN_test l t j).1 h2
      exact absurd (e1.symm.trans e2) h
theorem in_bit {p m j : Nat} (h : inB6 p m = true) (hj : m.testBit j = true) : p.testBit j = true := by
  have h1 : m &&& p = m := by simpa [inB6] using h
  rw [← h1, Nat.testBit_and, Bool.and_eq_true] at hj
  exact hj.2
theorem bool_iff {a b : Bool} (h : a = true ↔ b = true) : a = b := by cases a <;> cases b <;> simp_all
/-- all choices: what must be, and each subset of what may be -/
theorem subs_chL {l : List Tx} (h6 : l.length ≤ 6) : (subU (stN l 1) 64).map (stN l 2 ||| ·) = chL l := by
  have hp := stN_lt h6 1
  have hq := stN_lt h6 2
  have hapart : ∀ s, inB6 (stN l 1) s = true → stN l 2 &&& s = 0 := fun s hs => by
    refine Nat.eq_of_testBit_eq fun j => ?_
    rw [Nat.testBit_and, Nat.zero_testBit, Bool.and_eq_false_iff]
    cases h2 : s.testBit j with
    | false => exact .inr rfl
    | true =>
      left
      have h3 := in_bit hs h2
      have h4 := st_apart l (s := 2) (t := 1) (by decide)
      cases h5 : (stN l 2).testBit j with
      | false => rfl
      | true =>
        have : (stN l 2 &&& stN l 1).testBit j = true := by rw [Nat.testBit_and, h5, h3]; rfl
        rw [h4, Nat.zero_testBit] at this
        exact absurd this (by decide)
  refine rise_eq ?_ (chL_rise l) fun m => ?_
  · rw [List.pairwise_map]
    refine List.Pairwise.imp_of_mem ?_ (List.Pairwise.filter (inB6 (stN l 1)) (List.pairwise_lt_range (n := 64)))
    intro a b ha hb hab
    obtain ⟨ha1, ha2⟩ := List.mem_filter.1 ha
    obtain ⟨hb1, hb2⟩ := List.mem_filter.1 hb
    rw [or_add6 _ hq a (List.mem_range.1 ha1) (hapart a ha2), or_add6 _ hq b (List.mem_range.1 hb1) (hapart b hb2)]
    omega
  · rw [List.mem_map]
    constructor
    · rintro ⟨s, hs, rfl⟩
      obtain ⟨h1, h2⟩ := List.mem_filter.1 hs
      have hbit : ∀ j, (stN l 2 ||| s).testBit j = true → ∃ h : j < l.length, l[j].s = 2 ∨ l[j].s = 1 := fun j hj => by
        rw [Nat.testBit_or, Bool.or_eq_true] at hj
        rcases hj with hj | hj
        · obtain ⟨h3, h4⟩ := (stN_test l 2 j).1 hj
          exact ⟨h3, .inl h4⟩
        · obtain ⟨h3, h4⟩ := (stN_test l 1 j).1 (in_bit h2 hj)
          exact ⟨h3, .inr h4⟩
      refine mem_chL.2 ⟨Nat.lt_pow_two_of_testBit _ fun j hj => ?_, choiceG_of fun j hj => ?_⟩
      · cases hc : (stN l 2 ||| s).testBit j with
        | false => rfl
        | true => obtain ⟨hh, _⟩ := hbit j hc; omega
      · rw [Nat.zero_add]
        cases hc : (stN l 2 ||| s).testBit j with
        | true =>
          obtain ⟨_, hh | hh⟩ := hbit j hc
          · simp [okBit, hh]
          · simp [okBit, hh]
        | false =>
          by_cases hs2 : l[j].s = 2
          · rw [Nat.testBit_or, (stN_test l 2 j).2 ⟨hj, hs2⟩] at hc; exact absurd hc (by simp)
          · simp [okBit, hs2]
    · intro hm
      refine ⟨m &&& stN l 1, List.mem_filter.2 ⟨List.mem_range.2 (and_lt6 m hp), ?_⟩, ?_⟩
      · unfold inB6
        rw [decide_eq_true_eq, Nat.and_assoc, Nat.and_self]
      · have hm2 := mem_chL.1 hm
        refine Nat.eq_of_testBit_eq fun j => ?_
        rw [Nat.testBit_or, Nat.testBit_and]
        refine bool_iff ?_
        rw [Bool.or_eq_true, Bool.and_eq_true, stN_test, stN_test]
        by_cases hj : j < l.length
        · have h1 := choice_at hm2.2 hj
          rw [Nat.zero_add] at h1
          constructor
          · rintro (⟨_, hs⟩ | ⟨hx, _⟩)
            · cases hx : m.testBit j with
              | true => rfl
              | false => rw [hx] at h1; simp [okBit, hs] at h1
            · exact hx
          · intro hx
            rw [hx] at h1
            unfold okBit at h1
            rw [if_pos rfl, Bool.or_eq_true, decide_eq_true_eq, decide_eq_true_eq] at h1
            rcases h1 with h1 | h1
            · exact .inr ⟨hx, hj, h1⟩
            · exact .inl ⟨hj, h1⟩
        · have e1 : m.testBit j = false := Nat.testBit_lt_two_pow (Nat.lt_of_lt_of_le hm2.1 (Nat.pow_le_pow_right (n := 2) (by decide) (by omega)))
          rw [e1]
          constructor
          · rintro (⟨hh, _⟩ | ⟨hh, _⟩)
            · exact absurd hh hj
            · exact absurd hh (by decide)
          · intro hh; exact absurd hh (by decide)
end Go.Proofs.YtmnblljenobofaaGreatDoor.RPlain
