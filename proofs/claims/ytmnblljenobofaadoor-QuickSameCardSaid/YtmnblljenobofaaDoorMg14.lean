/- Merged: LegR, UnqB. -/
import Derived.Test.YtmnblljenobofaaDoorMg13
import Derived.Test.YtmnblljenobofaaDoorLegC
import Derived.Test.YtmnblljenobofaaDoorCmpD
import Derived.Test.YtmnblljenobofaaDoorMg11
import Derived.Test.YtmnblljenobofaaDoorMg4
import Derived.Test.YtmnblljenobofaaDoorShelf
import Derived.Test.YtmnblljenobofaaDoorMg9
import Derived.Test.YtmnblljenobofaaDoorMg5
import Derived.Laws.OwnMore
import Derived.Laws.IdiomCopy
import Derived.WalkLawsBesides
import Derived.Deep.RegionHeldLaw
import Derived.StillTailTactics
import Derived.Deep.QuietTactic
import Derived.BigQuiet
/- Plain words of LegalShort; maps of ints to ints, and of ints to bools, of the call's own. -/
namespace Go.Proofs.YtmnblljenobofaaDoor.WPlain
end Go.Proofs.YtmnblljenobofaaDoor.WPlain
namespace Go.Proofs.YtmnblljenobofaaDoor.QPlain
end Go.Proofs.YtmnblljenobofaaDoor.QPlain
namespace Go.Proofs.YtmnblljenobofaaDoor.RPlain
end Go.Proofs.YtmnblljenobofaaDoor.RPlain
namespace Go.Proofs.YtmnblljenobofaaDoor.RPlain
open WPlain QPlain

/-- numbers of a row of Ops are such that a machine holds -/
def smallOps (ops : List Rwo) : Prop := ∀ o ∈ ops, (-9223372036854775808 ≤ o.v ∧ o.v ≤ 9223372036854775807) ∧ (-9223372036854775808 ≤ o.x ∧ o.x ≤ 9223372036854775807)
theorem opsS_any (h : List Ev) (t : Int) (h1 : ∀ e ∈ h, (-9223372036854775808 ≤ e.v ∧ e.v ≤ 9223372036854775807) ∧ (-9223372036854775808 ≤ e.x ∧ e.x ≤ 9223372036854775807)) : smallOps (opsOf h t) := by
  revert h1
  refine rev_ind (p := fun h => (∀ e ∈ h, (-9223372036854775808 ≤ e.v ∧ e.v ≤ 9223372036854775807) ∧ (-9223372036854775808 ≤ e.x ∧ e.x ≤ 9223372036854775807)) → smallOps (opsOf h t)) ?_ ?_ h
  · intro _ o ho; simp [opsOf] at ho
  · intro g e ih h1 o ho
    rw [opsOf_snoc] at ho
    have hg : ∀ e ∈ g, (-9223372036854775808 ≤ e.v ∧ e.v ≤ 9223372036854775807) ∧ (-9223372036854775808 ≤ e.x ∧ e.x ≤ 9223372036854775807) := fun x hx => h1 x (List.mem_append_left _ hx)
    have he := h1 e (by simp)
    rcases List.mem_append.1 ho with ho | ho
    · exact ih hg o ho
    · have ha := askedE_any g t (p := fun e => (-9223372036854775808 ≤ e.v ∧ e.v ≤ 9223372036854775807) ∧ (-9223372036854775808 ≤ e.x ∧ e.x ≤ 9223372036854775807)) ⟨⟨by decide, by decide⟩, ⟨by decide, by decide⟩⟩ hg
      split at ho
      · unfold opStep at ho
        split at ho
        · rw [List.mem_singleton.1 ho]; exact ⟨ha.1, he.2⟩
        · split at ho
          · rw [List.mem_singleton.1 ho]; exact ha
          · cases ho
      · cases ho
theorem table_small_ops {h : List Ev} (h0 : (checkS h).2 = 0) : ∀ i (hi : i < (tableS h).length), smallOps (tableS h)[i].o := by
  intro i hi
  have hX : (tableS h)[i] ∈ tableS h := List.getElem_mem hi
  generalize (tableS h)[i] = X at *
  obtain ⟨t, _, rfl⟩ := List.mem_map.1 hX
  have hr := (check_agree h0).1
  refine opsS_any h t fun e he => ?_
  simp only [right, Bool.and_eq_true, decide_eq_true_eq, List.all_eq_true] at hr
  have := hr.1.2 e he
  simp only [evOk, inB, Bool.and_eq_true, decide_eq_true_eq] at this
  omega
end Go.Proofs.YtmnblljenobofaaDoor.RPlain
namespace Go.Proofs.YtmnblljenobofaaDoor
open Go.RowKit WPlain QPlain RPlain
open Go.Maps (Keyed)

/-- how an element that is a number reads; that is a bool -/
def intE : Value → Option (DataW Unit × List MemPlace)
  | .int .i64 x => some (.lit (.int .i64 x), [])
  | _ => none
def boolE : Value → Option (DataW Unit × List MemPlace)
  | .bool b => some (.lit (.bool b), [])
  | _ => none
theorem intE_inv {v : Value} {x : Int} {ps : List MemPlace} (h : intE v = some (.lit (.int .i64 x), ps)) : v = .int .i64 x := by
  unfold intE at h
  split at h
  · simp at h; rw [h.1]
  · cases h
theorem zeroI (w : World) : (zeroValue 3).run Tryd.prog w = .ok (.int .i64 0) w := by kernel_rfl
/-- block M is a map that holds what S tells -/
def IMap (w : World) (M k : Nat) (S : Int → Option Int) : Prop := ∃ D, w.ownsMap Tryd.prog 3 intE M k D ∧ ∀ t : Int, (Lit.int .i64 t).wf = true → (∀ x, S t = some x → Maps.has D (.int .i64 t) = true ∧ ∀ z, D.atKey (.int .i64 t) z = .lit (.int .i64 x)) ∧ (S t = none → Maps.has D (.int .i64 t) = false)
def BMap (w : World) (M k : Nat) (S : Int → Bool) : Prop := ∃ D, w.ownsMap Tryd.prog 3 boolE M k D ∧ ∀ t : Int, (Lit.int .i64 t).wf = true → (S t = true → Maps.has D (.int .i64 t) = true ∧ ∀ z, D.atKey (.int .i64 t) z = .lit (.bool true)) ∧ (S t = false → Maps.has D (.int .i64 t) = false)
section
variable {w w' : World} {M k : Nat}
theorem IMap.start (w : World) : IMap (w.alloc (.map #[] 0)) w.heap.size 0 (fun _ => none) := ⟨.map [], World.ownsMap_made w _ _ _, fun _ _ => ⟨fun _ h => (by cases h), fun _ => rfl⟩⟩
theorem BMap.start (w : World) : BMap (w.alloc (.map #[] 0)) w.heap.size 0 (fun _ => false) := ⟨.map [], World.ownsMap_made w _ _ _, fun _ _ => ⟨fun h => (by cases h), fun _ => rfl⟩⟩
theorem IMap.lt {S : Int → Option Int} (h : IMap w M k S) : M < w.heap.size := by obtain ⟨D, ho, _⟩ := h; exact ho.lt
theorem BMap.lt {S : Int → Bool} (h : BMap w M k S) : M < w.heap.size := by obtain ⟨D, ho, _⟩ := h; exact ho.lt
theorem IMap.below {S : Int → Option Int} (h : IMap w M k S) (hb : Below w.heap.size w w') : IMap w' M k S := by
  obtain ⟨D, ho, hd⟩ := h
  exact ⟨D, ownsMap_below ho hb ho.lt, hd⟩
theorem BMap.below {S : Int → Bool} (h : BMap w M k S) (hb : Below w.heap.size w w') : BMap w' M k S := by
  obtain ⟨D, ho, hd⟩ := h
  exact ⟨D, ownsMap_below ho hb ho.lt, hd⟩
theorem IMap.kept {S : Int → Option Int} (h : IMap w M k S) {r : Option Nat} (hg : w.grownBy w' r) (hne : some M ≠ r) : IMap w' M k S := by
  obtain ⟨D, ho, hd⟩ := h
  exact ⟨D, ho.kept hg hne, hd⟩
theorem BMap.kept {S : Int → Bool} (h : BMap w M k S) {r : Option Nat} (hg : w.grownBy w' r) (hne : some M ≠ r) : BMap w' M k S := by
  obtain ⟨D, ho, hd⟩ := h
  exact ⟨D, ho.kept hg hne, hd⟩
end
end Go.Proofs.YtmnblljenobofaaDoor
/- Plain words: who wrote what, kept write by write, and what it tells of unique values and of sources. -/
namespace Go.Proofs.YtmnblljenobofaaDoor.WPlain
end Go.Proofs.YtmnblljenobofaaDoor.WPlain
namespace Go.Proofs.YtmnblljenobofaaDoor.QPlain
end Go.Proofs.YtmnblljenobofaaDoor.QPlain
namespace Go.Proofs.YtmnblljenobofaaDoor.RPlain
open WPlain QPlain

/-- who wrote what, of a variable and a value -/
abbrev Wrt := Int → Int → Option Nat
def noneW : Wrt := fun _ _ => none
def putW (t : Nat) (S : Wrt) (o : Rwo) : Wrt := fun v x => if v = o.v ∧ x = o.x then some t else S v x
def elseW (t : Nat) : Option Nat → Bool
  | some k => !decide (k = t)
  | none => false
def badW (t : Nat) (S : Wrt) (o : Rwo) : Bool := decide (o.x = 0) || elseW t (S o.v o.x)
def addsW (t : Nat) : List Rwo → Wrt → Option Wrt
  | [], S => some S
  | o :: r, S => if o.w = true then (if badW t S o = true then none else addsW t r (putW t S o)) else addsW t r S
def allsW : Nat → List Tx → Wrt → Option Wrt
  | _, [], S => some S
  | t, X :: r, S => match addsW t X.o S with
    | some S' => allsW (t + 1) r S'
    | none => none
/-- what is kept behind the first transactions, and some Ops of the next one -/
structure GoodW (l : List Tx) (t : Nat) (pre : List Rwo) (S : Wrt) : Prop where
  who : ∀ v x k, S v x = some k ↔ ((k < t ∧ writesB (opsAt l k) v x = true) ∨ (k = t ∧ writesB pre v x = true))
  zero : ∀ v k, S v 0 ≠ some k
theorem writes_snoc (pre : List Rwo) (o : Rwo) (v x : Int) : writesB (pre ++ [o]) v x = (writesB pre v x || (o.w && decide (o.v = v) && decide (o.x = x))) := by
  unfold writesB
  rw [List.any_append]
  simp
theorem opsAt_mem {l : List Tx} {t : Nat} {o : Rwo} (h : o ∈ opsAt l t) : t < l.length := by
  rcases Nat.lt_or_ge t l.length with h1 | h1
  · exact h1
  · unfold opsAt at h
    rw [List.getElem?_eq_none h1] at h
    simp at h
theorem good_push {l : List Tx} {t : Nat} {pre : List Rwo} {S : Wrt} {o : Rwo} (hg : GoodW l t pre S) (hw : o.w = true) (hb : badW t S o = false) : GoodW l t (pre ++ [o]) (putW t S o) := by
  unfold badW at hb
  rw [Bool.or_eq_false_iff, decide_eq_false_iff_not] at hb
  obtain ⟨h0, h1⟩ := hb
  refine ⟨fun v x k => ?_, fun v k => ?_⟩
  · rw [writes_snoc, hw]
    unfold putW
    by_cases hc : v = o.v ∧ x = o.x
    · obtain ⟨rfl, rfl⟩ := hc
      rw [if_pos ⟨rfl, rfl⟩]
      simp only [decide_true, Bool.and_self, Bool.or_true, and_true, Option.some.injEq]
      constructor
      · intro h; exact .inr h.symm
      · rintro (⟨hk, hwr⟩ | h)
        · have h2 := (hg.who o.v o.x k).2 (.inl ⟨hk, hwr⟩)
          rw [h2] at h1
          unfold elseW at h1
          simp at h1
          exact h1.symm
        · exact h.symm
    · rw [if_neg hc, hg.who v x k]
      have hd : (true && decide (o.v = v) && decide (o.x = x)) = false := by
        simp only [Bool.true_and, Bool.and_eq_false_iff, decide_eq_false_iff_not]
        by_cases hv : o.v = v
        · exact .inr fun hx => hc ⟨hv.symm, hx.symm⟩
        · exact .inl hv
      rw [hd, Bool.or_false]
  · unfold putW
    rw [if_neg (fun hc => h0 hc.2.symm)]
    exact hg.zero v k
theorem good_skip {l : List Tx} {t : Nat} {pre : List Rwo} {S : Wrt} {o : Rwo} (hg : GoodW l t pre S) (hw : o.w = false) : GoodW l t (pre ++ [o]) S := by
  refine ⟨fun v x k => ?_, hg.zero⟩
  rw [writes_snoc, hw, hg.who v x k]
  simp
theorem bad_not {l : List Tx} {t : Nat} {pre r : List Rwo} {S : Wrt} {o : Rwo} (hg : GoodW l t pre S) (ho : opsAt l t = pre ++ o :: r) (hw : o.w = true) (hb : badW t S o = true) : ¬ Uniq l := by
  intro hu
  have hm : o ∈ opsAt l t := by rw [ho]; simp
  have htl := opsAt_mem hm
  unfold badW at hb
  rw [Bool.or_eq_true, decide_eq_true_eq] at hb
  rcases hb with hb | hb
  · exact hu.zero t htl o hm hw hb
  · cases hs : S o.v o.x with
    | none => rw [hs] at hb; cases hb
    | some k =>
      rw [hs] at hb
      unfold elseW at hb
      have hne : k ≠ t := by simpa using hb
      rcases (hg.who _ _ _).1 hs with ⟨hk, hwr⟩ | ⟨hk, _⟩
      · exact hne (hu.one k t (by omega) htl _ _ hwr (writes_iff.2 ⟨o, hm, hw, rfl, rfl⟩))
      · exact hne hk
theorem add_spec {l : List Tx} {t : Nat} : ∀ (r pre : List Rwo) (S : Wrt), opsAt l t = pre ++ r → GoodW l t pre S →
    (addsW t r S = none → ¬ Uniq l) ∧ ∀ S', addsW t r S = some S' → GoodW l t (opsAt l t) S'
  | [], pre, S, ho, hg => by
    refine ⟨fun h => (by cases h), fun S' h => ?_⟩
    unfold addsW at h
    rw [List.append_nil] at ho
    rw [ho, ← Option.some.inj h]
    exact hg
  | o :: r, pre, S, ho, hg => by
    have ho2 : opsAt l t = (pre ++ [o]) ++ r := by rw [ho]; simp
    unfold addsW
    cases hw : o.w with
    | false =>
      rw [if_neg (by simp)]
      exact add_spec r (pre ++ [o]) S ho2 (good_skip hg hw)
    | true =>
      rw [if_pos rfl]
      cases hb : badW t S o with
      | true =>
        rw [if_pos rfl]
        exact ⟨fun _ => bad_not hg ho hw hb, fun S' h => (by cases h)⟩
      | false =>
        rw [if_neg (by simp)]
        exact add_spec r (pre ++ [o]) (putW t S o) ho2 (good_push hg hw hb)
theorem opsAt_drop {l : List Tx} {t : Nat} {X : Tx} {r : List Tx} (h : l.drop t = X :: r) : opsAt l t = X.o ∧ t < l.length ∧ l.drop (t + 1) = r := by
  have h1 : t < l.length := by
    rcases Nat.lt_or_ge t l.length with h1 | h1
    · exact h1
    · rw [List.drop_eq_nil_of_le h1] at h; cases h
  rw [List.drop_eq_getElem_cons h1] at h
  simp only [List.cons.injEq] at h
  refine ⟨?_, h1, h.2⟩
  unfold opsAt
  rw [List.getElem?_eq_getElem h1, ← h.1]
theorem all_spec {l : List Tx} : ∀ (r : List Tx) (t : Nat) (S : Wrt), l.drop t = r → t ≤ l.length → GoodW l t [] S →
    (allsW t r S = none → ¬ Uniq l) ∧ ∀ S', allsW t r S = some S' → GoodW l l.length [] S'
  | [], t, S, hd, ht, hg => by
    refine ⟨fun h => (by cases h), fun S' h => ?_⟩
    unfold allsW at h
    have : l.length ≤ t := List.drop_eq_nil_iff.1 hd
    obtain rfl : t = l.length := by omega
    rw [← Option.some.inj h]
    exact hg
  | X :: r, t, S, hd, ht, hg => by
    obtain ⟨h1, h2, h3⟩ := opsAt_drop hd
    have ha := add_spec (l := l) (t := t) (opsAt l t) [] S rfl hg
    rw [h1] at ha
    unfold allsW
    cases hs : addsW t X.o S with
    | none => exact ⟨fun _ => ha.1 hs, fun S' h => (by cases h)⟩
    | some S' =>
      refine all_spec r (t + 1) S' h3 (by omega) ?_
      have hg2 := ha.2 S' hs
      refine ⟨fun v x k => ?_, hg2.zero⟩
      rw [hg2.who v x k, ← h1]
      have hn : writesB ([] : List Rwo) v x = false := rfl
      rw [hn]
      constructor
      · rintro (⟨hk, hwr⟩ | ⟨rfl, hwr⟩)
        · exact .inl ⟨by omega, hwr⟩
        · exact .inl ⟨by omega, hwr⟩
      · rintro (⟨hk, hwr⟩ | ⟨_, hwr⟩)
        · by_cases he : k = t
          · exact .inr ⟨he, he ▸ hwr⟩
          · exact .inl ⟨by omega, hwr⟩
        · cases hwr
/-- what the table of writers tells at the end -/
structure Tells (l : List Tx) (S : Wrt) : Prop where
  who : ∀ v x k, S v x = some k ↔ (k < l.length ∧ writesB (opsAt l k) v x = true)
theorem writers_tell (l : List Tx) : (allsW 0 l noneW = none ∧ uniqueS l = false) ∨ ∃ S, allsW 0 l noneW = some S ∧ uniqueS l = true ∧ Tells l S := by
  have hg : GoodW l 0 [] noneW := by
    refine ⟨fun v x k => ?_, fun v k h => (by cases h)⟩
    constructor
    · intro h; cases h
    · rintro (⟨hk, _⟩ | ⟨_, h⟩)
      · exact absurd hk (Nat.not_lt_zero _)
      · cases h
  have hs := all_spec l 0 noneW rfl (Nat.zero_le _) hg
  cases ha : allsW 0 l noneW with
  | none =>
    refine .inl ⟨rfl, ?_⟩
    cases hu : uniqueS l with
    | false => rfl
    | true => exact absurd (unique_iff.1 hu) (hs.1 ha)
  | some S =>
    have h1 := hs.2 S ha
    have hn : ∀ v x, writesB ([] : List Rwo) v x = false := fun _ _ => rfl
    have hw : ∀ v x k, S v x = some k ↔ (k < l.length ∧ writesB (opsAt l k) v x = true) := fun v x k => by
      rw [h1.who v x k, hn]
      simp
    refine .inr ⟨S, rfl, unique_iff.2 ⟨fun i hi o ho hwr h0 => ?_, fun i k hi hk v x hx hy => ?_⟩, ⟨hw⟩⟩
    · have h2 := (hw o.v o.x i).2 ⟨hi, writes_iff.2 ⟨o, ho, hwr, rfl, rfl⟩⟩
      rw [h0] at h2
      exact h1.zero _ _ h2
    · have h2 := (hw v x i).2 ⟨hi, hx⟩
      have h3 := (hw v x k).2 ⟨hk, hy⟩
      rw [h2] at h3
      exact Option.some.inj h3
/-- the source of a read by that table -/
def readW (S : Wrt) (t : Nat) (o : Rwo) : Int := if o.x = 0 then -1 else match S o.v o.x with
  | some k => if k = t then -2 else (k : Int)
  | none => -2
theorem src_table {l : List Tx} {S : Wrt} (h : Tells l S) {t i : Nat} {o : Rwo} (ho : (opsAt l t)[i]? = some o) :
    srcS l t i = if o.w = true ∨ ownsB ((opsAt l t).take i) o.v = true then (t : Int) else readW S t o := by
  unfold srcS readW
  rw [ho]
  dsimp only
  by_cases h1 : o.w = true ∨ ownsB ((opsAt l t).take i) o.v = true
  · rw [if_pos h1, if_pos h1]
  · rw [if_neg h1, if_neg h1]
    by_cases h2 : o.x = 0
    · rw [if_pos h2, if_pos h2]
    · rw [if_neg h2, if_neg h2]
      cases hs : S o.v o.x with
      | none =>
        have hf : (List.range l.length).find? (fun k => !decide (k = t) && writesB (opsAt l k) o.v o.x) = none := by
          rw [List.find?_eq_none]
          intro k hk hc
          rw [Bool.and_eq_true] at hc
          have h3 := (h.who o.v o.x k).2 ⟨List.mem_range.1 hk, hc.2⟩
          rw [hs] at h3; cases h3
        rw [hf]
      | some k =>
        obtain ⟨hk, hw⟩ := (h.who _ _ _).1 hs
        by_cases he : k = t
        · have hf : (List.range l.length).find? (fun k => !decide (k = t) && writesB (opsAt l k) o.v o.x) = none := by
            rw [List.find?_eq_none]
            intro j hj hc
            rw [Bool.and_eq_true] at hc
            have h3 := (h.who o.v o.x j).2 ⟨List.mem_range.1 hj, hc.2⟩
            rw [hs, Option.some.injEq] at h3
            have h4 : j ≠ t := by simpa using hc.1
            omega
          rw [hf]
          dsimp only
          rw [if_pos he]
        · rw [find_one (p := fun k => writesB (opsAt l k) o.v o.x) hk he hw (fun j hj hp => by
            have h3 := (h.who o.v o.x j).2 ⟨hj, hp⟩
            rw [hs, Option.some.injEq] at h3
            exact h3.symm)]
          dsimp only
          rw [if_neg he]
end Go.Proofs.YtmnblljenobofaaDoor.RPlain
