/- Merged: WalkG, LegR, UnqB, ExtC. -/
import Derived.Test.YtmnblljenobofaaGreatDoorMg3
import Derived.Test.YtmnblljenobofaaGreatDoorMg12
import Derived.Test.YtmnblljenobofaaGreatDoorMg13
import Derived.Test.YtmnblljenobofaaGreatDoorMg11
import Derived.Test.YtmnblljenobofaaGreatDoorMg10
import Derived.Test.YtmnblljenobofaaGreatDoorShelf
import Derived.Test.YtmnblljenobofaaGreatDoorMg7
import Derived.Test.YtmnblljenobofaaGreatDoorMg4
import Derived.Test.YtmnblljenobofaaGreatDoorMg1
import Derived.Test.YtmnblljenobofaaGreatDoorRows
import Derived.Deep.QuietTactic
import Derived.BigQuiet
import Derived.Laws.OwnMore
import Derived.Laws.IdiomCopy
import Derived.WalkLawsBesides
import Derived.Deep.RegionHeldLaw
import Derived.StillTailTactics
import Derived.RangeFuncNested
/- The walks of the reference's Texts and Ints, at two rows that are the same. -/
namespace Go.Proofs.YtmnblljenobofaaGreatDoor.WPlain
end Go.Proofs.YtmnblljenobofaaGreatDoor.WPlain
namespace Go.Proofs.YtmnblljenobofaaGreatDoor
open Go.RowKit WPlain

set_option maxHeartbeats 400000 in
theorem ints_same (xs : List Int) (v1 v2 : Value) (w : World) (hx : xs.length ≤ 2147483648) (h1 : Rd w v1 (xs.map (.int .i64))) (h2 : Rd w v2 (xs.map (.int .i64))) :
    Calls Tryz.prog 15 #[v1, v2] w fun e w' => e = .returned (.bool true) ∧ ∃ n, w' = w.drewN n := by
  rcases h1 with ⟨e1, a1, c1, rfl⟩ | ⟨l1, b1, o1, c1, rfl, g1⟩
  · have hx0 : xs = [] := by simpa using e1
    subst hx0
    rcases h2 with ⟨e2, a2, c2, rfl⟩ | ⟨l2, _⟩
    · go_enter Tryz.func15, Tryz.ntmps15
      go_wp2
      refine wp_loop_rounds 1 ?_
      rw [rounds_succ]
      go_wp2
      go_ret
      exact ⟨rfl, 0, rfl⟩
    · simp at l2
  · rcases h2 with ⟨e2, _⟩ | ⟨l2, b2, o2, c2, rfl, g2⟩
    · rw [e2] at l1; simp at l1
    · have HG : Hid (∀ i (h : i < xs.length), w.cell? ⟨b1, o1 + i, none⟩ = some (.int .i64 xs[i]) ∧ w.cell? ⟨b2, o2 + i, none⟩ = some (.int .i64 xs[i])) := by
        intro i h
        exact ⟨g1 i _ (by rw [List.getElem?_map, List.getElem?_eq_getElem h]; rfl), g2 i _ (by rw [List.getElem?_map, List.getElem?_eq_getElem h]; rfl)⟩
      clear g1 g2
      simp only [List.length_map] at l1 l2 ⊢
      go_enter Tryz.func15, Tryz.ntmps15
      go_wp2
      go_loopw [13] (fun x wr => ∃ k n : Nat, k ≤ xs.length ∧ x = .int .i64 k ∧ wr = w.drewN n) (fun x _ => xs.length - (intOf x).toNat)
      case atStart => exact ⟨0, 0, by omega, rfl, rfl⟩
      case round =>
        obtain ⟨k, n, hk, rfl, rfl⟩ := hrel
        by_cases hlt : k < xs.length
        · obtain ⟨hc1, hc2⟩ := HG.out k hlt
          generalize xs[k] = y at *
          have k1 : (k : Int) < (xs.length : Int) := by omega
          go_wp2
          go_quiet (fail)
          go_wp2
          go_roundw
          case rel => exact ⟨k + 1, _, by omega, by go_num, rfl⟩
          case measure => simp [intOf]; omega
        · go_wp2
          go_ret
          exact ⟨rfl, n, rfl⟩
end Go.Proofs.YtmnblljenobofaaGreatDoor
/- Plain words of LegalShort; maps of ints to ints, and of ints to bools, of the call's own. -/
namespace Go.Proofs.YtmnblljenobofaaGreatDoor.WPlain
end Go.Proofs.YtmnblljenobofaaGreatDoor.WPlain
namespace Go.Proofs.YtmnblljenobofaaGreatDoor.QPlain
end Go.Proofs.YtmnblljenobofaaGreatDoor.QPlain
namespace Go.Proofs.YtmnblljenobofaaGreatDoor.RPlain
end Go.Proofs.YtmnblljenobofaaGreatDoor.RPlain
namespace Go.Proofs.YtmnblljenobofaaGreatDoor.RPlain
open WPlain QPlain

/-- numbers of a row of Ops are such that a machine holds -/
def smallOps (ops : List Rwo) : Prop := ∀ o ∈ ops, (-9223372036854775808 ≤ o.v ∧ o.v ≤ 9223372036854775807) ∧ (-9223372036854775808 ≤ o.x ∧ o.x ≤ 9223372036854775807)
theorem opsS_any (h : List Ev) (t : Int) (h1 : ∀ e ∈ h, (-9223372036854775808 ≤ e.v ∧ e.v ≤ 9223372036854775807) ∧ (-9223372036854775808 ≤ e.x ∧ e.x ≤ 9223372036854775807)) : smallOps (opsOf h t) := by
  revert h1
  refine rev_ind (p := fun h => (∀ e ∈ h, (-9223372036854775808 ≤ e.v ∧ e.v ≤ 9223372036854775807) ∧ (-9223372036854775808 ≤ e.x ∧ e.x ≤ 9223372036854775807)) → smallOps (opsOf h t)) ?_ ?_ h
  · intro _ o ho; simp [opsOf] at ho
  · intro g e ih h1 o ho
    rw [opsOf_snoc] at ho
    have hg : ∀ e ∈ g, (-9223372036854775808 ≤ e.v ∧ e.v ≤ 9223372036854775807) ∧ (-9223372036854775808 ≤ e.x ∧ e.x ≤ 9223372036854775807) := fun x hx => h1 x (List.mem_append_left _ hx)
    have he := h1 e (by simp)
    rcases List.mem_append.1 ho with ho | ho
    · exact ih hg o ho
    · have ha := askedE_any g t (p := fun e => (-9223372036854775808 ≤ e.v ∧ e.v ≤ 9223372036854775807) ∧ (-9223372036854775808 ≤ e.x ∧ e.x ≤ 9223372036854775807)) ⟨⟨by decide, by decide⟩, ⟨by decide, by decide⟩⟩ hg
      split at ho
      · unfold opStep at ho
        split at ho
        · rw [List.mem_singleton.1 ho]; exact ⟨ha.1, he.2⟩
        · split at ho
          · rw [List.mem_singleton.1 ho]; exact ha
          · cases ho
      · cases ho
theorem table_small_ops {h : List Ev} (h0 : (checkS h).2 = 0) : ∀ i (hi : i < (tableS h).length), smallOps (tableS h)[i].o := by
  intro i hi
  have hX : (tableS h)[i] ∈ tableS h := List.getElem_mem hi
  generalize (tableS h)[i] = X at *
  obtain ⟨t, _, rfl⟩ := List.mem_map.1 hX
  have hr := (check_agree h0).1
  refine opsS_any h t fun e he => ?_
  simp only [right, Bool.and_eq_true, decide_eq_true_eq, List.all_eq_true] at hr
  have := hr.1.2 e he
  simp only [evOk, inB, Bool.and_eq_true, decide_eq_true_eq] at this
  omega
end Go.Proofs.YtmnblljenobofaaGreatDoor.RPlain
namespace Go.Proofs.YtmnblljenobofaaGreatDoor
open Go.RowKit WPlain QPlain RPlain
open Go.Maps (Keyed)

/-- how an element that is a number reads; that is a bool -/
def intE : Value → Option (DataW Unit × List MemPlace)
  | .int .i64 x => some (.lit (.int .i64 x), [])
  | _ => none
def boolE : Value → Option (DataW Unit × List MemPlace)
  | .bool b => some (.lit (.bool b), [])
  | _ => none
theorem intE_inv {v : Value} {x : Int} {ps : List MemPlace} (h : intE v = some (.lit (.int .i64 x), ps)) : v = .int .i64 x := by
  unfold intE at h
  split at h
  · simp at h; rw [h.1]
  · cases h
theorem zeroI (w : World) : (zeroValue 3).run Tryz.prog w = .ok (.int .i64 0) w := by kernel_rfl
/-- block M is a map that holds what S tells -/
def IMap (w : World) (M k : Nat) (S : Int → Option Int) : Prop := ∃ D, w.ownsMap Tryz.prog 3 intE M k D ∧ ∀ t : Int, (Lit.int .i64 t).wf = true → (∀ x, S t = some x → Maps.has D (.int .i64 t) = true ∧ ∀ z, D.atKey (.int .i64 t) z = .lit (.int .i64 x)) ∧ (S t = none → Maps.has D (.int .i64 t) = false)
def BMap (w : World) (M k : Nat) (S : Int → Bool) : Prop := ∃ D, w.ownsMap Tryz.prog 3 boolE M k D ∧ ∀ t : Int, (Lit.int .i64 t).wf = true → (S t = true → Maps.has D (.int .i64 t) = true ∧ ∀ z, D.atKey (.int .i64 t) z = .lit (.bool true)) ∧ (S t = false → Maps.has D (.int .i64 t) = false)
section
variable {w w' : World} {M k : Nat}
theorem IMap.start (w : World) : IMap (w.alloc (.map #[] 0)) w.heap.size 0 (fun _ => none) := ⟨.map [], World.ownsMap_made w _ _ _, fun _ _ => ⟨fun _ h => (by cases h), fun _ => rfl⟩⟩
theorem BMap.start (w : World) : BMap (w.alloc (.map #[] 0)) w.heap.size 0 (fun _ => false) := ⟨.map [], World.ownsMap_made w _ _ _, fun _ _ => ⟨fun h => (by cases h), fun _ => rfl⟩⟩
theorem IMap.lt {S : Int → Option Int} (h : IMap w M k S) : M < w.heap.size := by obtain ⟨D, ho, _⟩ := h; exact ho.lt
theorem BMap.lt {S : Int → Bool} (h : BMap w M k S) : M < w.heap.size := by obtain ⟨D, ho, _⟩ := h; exact ho.lt
theorem IMap.below {S : Int → Option Int} (h : IMap w M k S) (hb : Below w.heap.size w w') : IMap w' M k S := by
  obtain ⟨D, ho, hd⟩ := h
  exact ⟨D, ownsMap_below ho hb ho.lt, hd⟩
theorem BMap.below {S : Int → Bool} (h : BMap w M k S) (hb : Below w.heap.size w w') : BMap w' M k S := by
  obtain ⟨D, ho, hd⟩ := h
  exact ⟨D, ownsMap_below ho hb ho.lt, hd⟩
theorem IMap.kept {S : Int → Option Int} (h : IMap w M k S) {r : Option Nat} (hg : w.grownBy w' r) (hne : some M ≠ r) : IMap w' M k S := by
  obtain ⟨D, ho, hd⟩ := h
  exact ⟨D, ho.kept hg hne, hd⟩
theorem BMap.kept {S : Int → Bool} (h : BMap w M k S) {r : Option Nat} (hg : w.grownBy w' r) (hne : some M ≠ r) : BMap w' M k S := by
  obtain ⟨D, ho, hd⟩ := h
  exact ⟨D, ho.kept hg hne, hd⟩
end
end Go.Proofs.YtmnblljenobofaaGreatDoor
/- Plain words: who wrote what, kept write by write, and what it tells of unique values and of sources. -/
namespace Go.Proofs.YtmnblljenobofaaGreatDoor.WPlain
end Go.Proofs.YtmnblljenobofaaGreatDoor.WPlain
namespace Go.Proofs.YtmnblljenobofaaGreatDoor.QPlain
end Go.Proofs.YtmnblljenobofaaGreatDoor.QPlain
namespace Go.Proofs.YtmnblljenobofaaGreatDoor.RPlain
open WPlain QPlain

/-- who wrote what, of a variable and a value -/
abbrev Wrt := Int → Int → Option Nat
def noneW : Wrt := fun _ _ => none
def putW (t : Nat) (S : Wrt) (o : Rwo) : Wrt := fun v x => if v = o.v ∧ x = o.x then some t else S v x
def elseW (t : Nat) : Option Nat → Bool
  | some k => !decide (k = t)
  | none => false
def badW (t : Nat) (S : Wrt) (o : Rwo) : Bool := decide (o.x = 0) || elseW t (S o.v o.x)
def addsW (t : Nat) : List Rwo → Wrt → Option Wrt
  | [], S => some S
  | o :: r, S => if o.w = true then (if badW t S o = true then none else addsW t r (putW t S o)) else addsW t r S
def allsW : Nat → List Tx → Wrt → Option Wrt
  | _, [], S => some S
  | t, X :: r, S => match addsW t X.o S with
    | some S' => allsW (t + 1) r S'
    | none => none
/-- what is kept behind the first transactions, and some Ops of the next one -/
structure GoodW (l : List Tx) (t : Nat) (pre : List Rwo) (S : Wrt) : Prop where
  who : ∀ v x k, S v x = some k ↔ ((k < t ∧ writesB (opsAt l k) v x = true) ∨ (k = t ∧ writesB pre v x = true))
  zero : ∀ v k, S v 0 ≠ some k
theorem writes_snoc (pre : List Rwo) (o : Rwo) (v x : Int) : writesB (pre ++ [o]) v x = (writesB pre v x || (o.w && decide (o.v = v) && decide (o.x = x))) := by
  unfold writesB
  rw [List.any_append]
  simp
theorem opsAt_mem {l : List Tx} {t : Nat} {o : Rwo} (h : o ∈ opsAt l t) : t < l.length := by
  rcases Nat.lt_or_ge t l.length with h1 | h1
  · exact h1
  · unfold opsAt at h
    rw [List.getElem?_eq_none h1] at h
    simp at h
theorem good_push {l : List Tx} {t : Nat} {pre : List Rwo} {S : Wrt} {o : Rwo} (hg : GoodW l t pre S) (hw : o.w = true) (hb : badW t S o = false) : GoodW l t (pre ++ [o]) (putW t S o) := by
  unfold badW at hb
  rw [Bool.or_eq_false_iff, decide_eq_false_iff_not] at hb
  obtain ⟨h0, h1⟩ := hb
  refine ⟨fun v x k => ?_, fun v k => ?_⟩
  · rw [writes_snoc, hw]
    unfold putW
    by_cases hc : v = o.v ∧ x = o.x
    · obtain ⟨rfl, rfl⟩ := hc
      rw [if_pos ⟨rfl, rfl⟩]
      simp only [decide_true, Bool.and_self, Bool.or_true, and_true, Option.some.injEq]
      constructor
      · intro h; exact .inr h.symm
      · rintro (⟨hk, hwr⟩ | h)
        · have h2 := (hg.who o.v o.x k).2 (.inl ⟨hk, hwr⟩)
          rw [h2] at h1
          unfold elseW at h1
          simp at h1
          exact h1.symm
        · exact h.symm
    · rw [if_neg hc, hg.who v x k]
      have hd : (true && decide (o.v = v) && decide (o.x = x)) = false := by
        simp only [Bool.true_and, Bool.and_eq_false_iff, decide_eq_false_iff_not]
        by_cases hv : o.v = v
        · exact .inr fun hx => hc ⟨hv.symm, hx.symm⟩
        · exact .inl hv
      rw [hd, Bool.or_false]
  · unfold putW
    rw [if_neg (fun hc => h0 hc.2.symm)]
    exact hg.zero v k
theorem good_skip {l : List Tx} {t : Nat} {pre : List Rwo} {S : Wrt} {o : Rwo} (hg : GoodW l t pre S) (hw : o.w = false) : GoodW l t (pre ++ [o]) S := by
  refine ⟨fun v x k => ?_, hg.zero⟩
  rw [writes_snoc, hw, hg.who v x k]
  simp
theorem bad_not {l : List Tx} {t : Nat} {pre r : List Rwo} {S : Wrt} {o : Rwo} (hg : GoodW l t pre S) (ho : opsAt l t = pre ++ o :: r) (hw : o.w = true) (hb : badW t S o = true) : ¬ Uniq l := by
  intro hu
  have hm : o ∈ opsAt l t := by rw [ho]; simp
  have htl := opsAt_mem hm
  unfold badW at hb
  rw [Bool.or_eq_true, decide_eq_true_eq] at hb
  rcases hb with hb | hb
  · exact hu.zero t htl o hm hw hb
  · cases hs : S o.v o.x with
    | none => rw [hs] at hb; cases hb
    | some k =>
      rw [hs] at hb
      unfold elseW at hb
      have hne : k ≠ t := by simpa using hb
      rcases (hg.who _ _ _).1 hs with ⟨hk, hwr⟩ | ⟨hk, _⟩
      · exact hne (hu.one k t (by omega) htl _ _ hwr (writes_iff.2 ⟨o, hm, hw, rfl, rfl⟩))
      · exact hne hk
theorem add_spec {l : List Tx} {t : Nat} : ∀ (r pre : List Rwo) (S : Wrt), opsAt l t = pre ++ r → GoodW l t pre S →
    (addsW t r S = none → ¬ Uniq l) ∧ ∀ S', addsW t r S = some S' → GoodW l t (opsAt l t) S'
  | [], pre, S, ho, hg => by
    refine ⟨fun h => (by cases h), fun S' h => ?_⟩
    unfold addsW at h
    rw [List.append_nil] at ho
    rw [ho, ← Option.some.inj h]
    exact hg
  | o :: r, pre, S, ho, hg => by
    have ho2 : opsAt l t = (pre ++ [o]) ++ r := by rw [ho]; simp
    unfold addsW
    cases hw : o.w with
    | false =>
      rw [if_neg (by simp)]
      exact add_spec r (pre ++ [o]) S ho2 (good_skip hg hw)
    | true =>
      rw [if_pos rfl]
      cases hb : badW t S o with
      | true =>
        rw [if_pos rfl]
        exact ⟨fun _ => bad_not hg ho hw hb, fun S' h => (by cases h)⟩
      | false =>
        rw [if_neg (by simp)]
        exact add_spec r (pre ++ [o]) (putW t S o) ho2 (good_push hg hw hb)
theorem opsAt_drop {l : List Tx} {t : Nat} {X : Tx} {r : List Tx} (h : l.drop t = X :: r) : opsAt l t = X.o ∧ t < l.length ∧ l.drop (t + 1) = r := by
  have h1 : t < l.length := by
    rcases Nat.lt_or_ge t l.length with h1 | h1
    · exact h1
    · rw [List.drop_eq_nil_of_le h1] at h; cases h
  rw [List.drop_eq_getElem_cons h1] at h
  simp only [List.cons.injEq] at h
  refine ⟨?_, h1, h.2⟩
  unfold opsAt
  rw [List.getElem?_eq_getElem h1, ← h.1]
theorem all_spec {l : List Tx} : ∀ (r : List Tx) (t : Nat) (S : Wrt), l.drop t = r → t ≤ l.length → GoodW l t [] S →
    (allsW t r S = none → ¬ Uniq l) ∧ ∀ S', allsW t r S = some S' → GoodW l l.length [] S'
  | [], t, S, hd, ht, hg => by
    refine ⟨fun h => (by cases h), fun S' h => ?_⟩
    unfold allsW at h
    have : l.length ≤ t := List.drop_eq_nil_iff.1 hd
    obtain rfl : t = l.length := by omega
    rw [← Option.some.inj h]
    exact hg
  | X :: r, t, S, hd, ht, hg => by
    obtain ⟨h1, h2, h3⟩ := opsAt_drop hd
    have ha := add_spec (l := l) (t := t) (opsAt l t) [] S rfl hg
    rw [h1] at ha
    unfold allsW
    cases hs : addsW t X.o S with
    | none => exact ⟨fun _ => ha.1 hs, fun S' h => (by cases h)⟩
    | some S' =>
      refine all_spec r (t + 1) S' h3 (by omega) ?_
      have hg2 := ha.2 S' hs
      refine ⟨fun v x k => ?_, hg2.zero⟩
      rw [hg2.who v x k, ← h1]
      have hn : writesB ([] : List Rwo) v x = false := rfl
      rw [hn]
      constructor
      · rintro (⟨hk, hwr⟩ | ⟨rfl, hwr⟩)
        · exact .inl ⟨by omega, hwr⟩
        · exact .inl ⟨by omega, hwr⟩
      · rintro (⟨hk, hwr⟩ | ⟨_, hwr⟩)
        · by_cases he : k = t
          · exact .inr ⟨he, he ▸ hwr⟩
          · exact .inl ⟨by omega, hwr⟩
        · cases hwr
/-- what the table of writers tells at the end -/
structure Tells (l : List Tx) (S : Wrt) : Prop where
  who : ∀ v x k, S v x = some k ↔ (k < l.length ∧ writesB (opsAt l k) v x = true)
theorem writers_tell (l : List Tx) : (allsW 0 l noneW = none ∧ uniqueS l = false) ∨ ∃ S, allsW 0 l noneW = some S ∧ uniqueS l = true ∧ Tells l S := by
  have hg : GoodW l 0 [] noneW := by
    refine ⟨fun v x k => ?_, fun v k h => (by cases h)⟩
    constructor
    · intro h; cases h
    · rintro (⟨hk, _⟩ | ⟨_, h⟩)
      · exact absurd hk (Nat.not_lt_zero _)
      · cases h
  have hs := all_spec l 0 noneW rfl (Nat.zero_le _) hg
  cases ha : allsW 0 l noneW with
  | none =>
    refine .inl ⟨rfl, ?_⟩
    cases hu : uniqueS l with
    | false => rfl
    | true => exact absurd (unique_iff.1 hu) (hs.1 ha)
  | some S =>
    have h1 := hs.2 S ha
    have hn : ∀ v x, writesB ([] : List Rwo) v x = false := fun _ _ => rfl
    have hw : ∀ v x k, S v x = some k ↔ (k < l.length ∧ writesB (opsAt l k) v x = true) := fun v x k => by
      rw [h1.who v x k, hn]
      simp
    refine .inr ⟨S, rfl, unique_iff.2 ⟨fun i hi o ho hwr h0 => ?_, fun i k hi hk v x hx hy => ?_⟩, ⟨hw⟩⟩
    · have h2 := (hw o.v o.x i).2 ⟨hi, writes_iff.2 ⟨o, ho, hwr, rfl, rfl⟩⟩
      rw [h0] at h2
      exact h1.zero _ _ h2
    · have h2 := (hw v x i).2 ⟨hi, hx⟩
      have h3 := (hw v x k).2 ⟨hk, hy⟩
      rw [h2] at h3
      exact Option.some.inj h3
/-- the source of a read by that table -/
def readW (S : Wrt) (t : Nat) (o : Rwo) : Int := if o.x = 0 then -1 else match S o.v o.x with
  | some k => if k = t then -2 else (k : Int)
  | none => -2
theorem src_table {l : List Tx} {S : Wrt} (h : Tells l S) {t i : Nat} {o : Rwo} (ho : (opsAt l t)[i]? = some o) :
    srcS l t i = if o.w = true ∨ ownsB ((opsAt l t).take i) o.v = true then (t : Int) else readW S t o := by
  unfold srcS readW
  rw [ho]
  dsimp only
  by_cases h1 : o.w = true ∨ ownsB ((opsAt l t).take i) o.v = true
  · rw [if_pos h1, if_pos h1]
  · rw [if_neg h1, if_neg h1]
    by_cases h2 : o.x = 0
    · rw [if_pos h2, if_pos h2]
    · rw [if_neg h2, if_neg h2]
      cases hs : S o.v o.x with
      | none =>
        have hf : (List.range l.length).find? (fun k => !decide (k = t) && writesB (opsAt l k) o.v o.x) = none := by
          rw [List.find?_eq_none]
          intro k hk hc
          rw [Bool.and_eq_true] at hc
          have h3 := (h.who o.v o.x k).2 ⟨List.mem_range.1 hk, hc.2⟩
          rw [hs] at h3; cases h3
        rw [hf]
      | some k =>
        obtain ⟨hk, hw⟩ := (h.who _ _ _).1 hs
        by_cases he : k = t
        · have hf : (List.range l.length).find? (fun k => !decide (k = t) && writesB (opsAt l k) o.v o.x) = none := by
            rw [List.find?_eq_none]
            intro j hj hc
            rw [Bool.and_eq_true] at hc
            have h3 := (h.who o.v o.x j).2 ⟨List.mem_range.1 hj, hc.2⟩
            rw [hs, Option.some.injEq] at h3
            have h4 : j ≠ t := by simpa using hc.1
            omega
          rw [hf]
          dsimp only
          rw [if_pos he]
        · rw [find_one (p := fun k => writesB (opsAt l k) o.v o.x) hk he hw (fun j hj hp => by
            have h3 := (h.who o.v o.x j).2 ⟨hj, hp⟩
            rw [hs, Option.some.injEq] at h3
            exact h3.symm)]
          dsimp only
          rw [if_neg he]
end Go.Proofs.YtmnblljenobofaaGreatDoor.RPlain
/- A range over an iterator that itself ranges over iterators: what each round may turn is a set of blocks that grows with the rounds; all others lie as they lay. -/
namespace Go.Proofs.YtmnblljenobofaaGreatDoor
open Go.RowKit

def nats (L : List Nat) : List Value := L.map fun (x : Nat) => Value.int .i64 (x : Int)
theorem nats_len (L : List Nat) : (nats L).length = L.length := by simp [nats]
/-- the blocks that are not of X lie as they lay; what is of X' is of X, or new -/
structure Kept (X X' : Nat → Prop) (W W' : World) : Prop where
  size : W.heap.size ≤ W'.heap.size
  same : ∀ k, k < W.heap.size → ¬ X k → W'.heap[k]? = W.heap[k]?
  new : ∀ k, X' k → X k ∨ W.heap.size ≤ k
theorem Kept.refl (X : Nat → Prop) (W : World) : Kept X X W W := ⟨Nat.le_refl _, fun _ _ _ => rfl, fun _ h => .inl h⟩
theorem Kept.trans {X Y Z : Nat → Prop} {A B C : World} (h : Kept X Y A B) (k : Kept Y Z B C) : Kept X Z A C := by
  refine ⟨Nat.le_trans h.size k.size, fun i hi hx => ?_, fun i hi => ?_⟩
  · refine (k.same i (Nat.lt_of_lt_of_le hi h.size) fun hy => ?_).trans (h.same i hi hx)
    rcases h.new i hy with h1 | h1
    · exact hx h1
    · omega
  · rcases k.new i hi with h1 | h1
    · exact h.new i h1
    · exact .inr (Nat.le_trans h.size h1)
theorem Kept.below (X : Nat → Prop) {W W' : World} (h : Below W.heap.size W W') : Kept X X W W' := ⟨h.size, fun k hk _ => h.block k hk, fun _ h => .inl h⟩
theorem Kept.not {X X' : Nat → Prop} {W W' : World} (h : Kept X X' W W') {k : Nat} (hk : k < W.heap.size) (hx : ¬ X k) : ¬ X' k := fun hy => by
  rcases h.new k hy with h1 | h1
  · exact hx h1
  · omega
theorem Kept.at {X X' : Nat → Prop} {W W' : World} (h : Kept X X' W W') {b : Nat} {cs : Array Value} {t : TypeId} (ha : At W b cs t) (hx : ¬ X b) : At W' b cs t := by
  have h1 := h.same b ha.lt hx
  unfold At at *
  rw [h1]; exact ha
theorem Kept.cell {X X' : Nat → Prop} {W W' : World} (h : Kept X X' W W') {p : Addr} {v : Value} (hv : W.cell? p = some v) (hx : ¬ X p.block) : W'.cell? p = some v :=
  (World.cell?_of_block (w := W) (h.same p.block (World.block_lt_of_cell? W p hv) hx)).trans hv
/-- a slice value reads as a list of one-cell values, and its block is none of X -/
def RdX (X : Nat → Prop) (w : World) (v : Value) (xs : List Value) : Prop :=
  (xs = [] ∧ ∃ a c, v = .slice a 0 c) ∨ (0 < xs.length ∧ ∃ b o c, v = .slice (some ⟨b, o, none⟩) xs.length c ∧ ¬ X b ∧ ∀ i u, xs[i]? = some u → w.cell? ⟨b, o + i, none⟩ = some u)
theorem RdX.rd {X : Nat → Prop} {W : World} {v : Value} {xs : List Value} (h : RdX X W v xs) : Rd W v xs := by
  rcases h with h0 | ⟨h0, b, o, c, rfl, _, hc⟩
  · exact .inl h0
  · exact .inr ⟨h0, b, o, c, rfl, hc⟩
theorem RdX.less {X Y : Nat → Prop} {W : World} {v : Value} {xs : List Value} (h : RdX X W v xs) (hy : ∀ k, Y k → X k) : RdX Y W v xs := by
  rcases h with h0 | ⟨h0, b, o, c, rfl, hb, hc⟩
  · exact .inl h0
  · exact .inr ⟨h0, b, o, c, rfl, fun h => hb (hy _ h), hc⟩
/-- a block that is of Y alone is none that is read -/
theorem RdX.more {X Y : Nat → Prop} {W : World} {v : Value} {xs : List Value} (h : RdX X W v xs) (hy : ∀ k, k < W.heap.size → Y k → X k) : RdX Y W v xs := by
  rcases h with h0 | ⟨h0, b, o, c, rfl, hb, hc⟩
  · exact .inl h0
  · refine .inr ⟨h0, b, o, c, rfl, fun h => hb (hy _ ?_ h), hc⟩
    exact World.block_lt_of_cell? (a := ⟨b, o + 0, none⟩) W (hc 0 _ (List.getElem?_eq_getElem h0))
theorem Kept.rd {X X' : Nat → Prop} {W W' : World} (h : Kept X X' W W') {v : Value} {xs : List Value} (hr : RdX X W v xs) : RdX X' W' v xs := by
  rcases hr with h0 | ⟨h0, b, o, c, rfl, hb, hc⟩
  · exact .inl h0
  · have hlt : b < W.heap.size := World.block_lt_of_cell? (a := ⟨b, o + 0, none⟩) W (hc 0 _ (List.getElem?_eq_getElem h0))
    exact .inr ⟨h0, b, o, c, rfl, h.not hlt hb, fun i u hu => h.cell (hc i u hu) hb⟩
theorem RdX.below {X : Nat → Prop} {W W' : World} {v : Value} {xs : List Value} (h : RdX X W v xs) (hb : Below W.heap.size W W') : RdX X W' v xs := (Kept.below X hb).rd h
/-- what is said abides new blocks, and the turn of a block that is no cells, from B on -/
def OwnX (B : Nat) (J : List (List Nat) → (Nat → Prop) → World → Prop) : Prop :=
  ∀ s X W W' row, J s X W → W.grownBy W' row → (∀ r, row = some r → B ≤ r ∧ ∃ o : Obj, W.heap[r]? = some o ∧ o.isCells = false) → J s X W'
theorem grownB11 {W W' : World} (h : Below W.heap.size W W') : W.grownBy W' none := ⟨h.os, h.tape, h.output, h.size, fun k hk _ => h.block k hk⟩
section
variable {B : Nat} {J : List (List Nat) → (Nat → Prop) → World → Prop} {s : List (List Nat)} {X : Nat → Prop} {W W' : World}
theorem OwnX.below (h : OwnX B J) (hs : J s X W) (hb : Below W.heap.size W W') : J s X W' := h s X W W' none hs (grownB11 hb) (fun r e => by cases e)
theorem OwnX.mono {B' : Nat} (h : OwnX B J) (hB : B ≤ B') : OwnX B' J := fun s X W W' row hs hg hr => h s X W W' row hs hg (fun r e => ⟨Nat.le_trans hB (hr r e).1, (hr r e).2⟩)
theorem OwnX.alloc (h : OwnX B J) (o : Obj) (hs : J s X W) : J s X (W.alloc o) := h s X W _ none hs (World.grownBy_alloc W o none) (fun r e => by cases e)
theorem OwnX.putObj (h : OwnX B J) {l : Nat} {o : Obj} (o' : Obj) (hs : J s X W) (hB : B ≤ l) (hl : W.heap[l]? = some o) (ho : o.isCells = false) : J s X (W.putObj l o') :=
  h s X W _ (some l) hs (grownBy_putObj' W l o') (fun r e => by cases e; exact ⟨hB, o, hl, ho⟩)
end
theorem at_own {W W' : World} {row : Option Nat} {b : Nat} {cs : Array Value} {t : TypeId} (h : At W b cs t) (hg : W.grownBy W' row) (hr : ∀ r, row = some r → ∃ o : Obj, W.heap[r]? = some o ∧ o.isCells = false) : At W' b cs t :=
  h.grown hg (fun e => by obtain ⟨o, ho, hc⟩ := hr _ e.symm; rw [show W.heap[b]? = _ from h] at ho; cases ho; cases hc)
theorem rd_own {X : Nat → Prop} {W W' : World} {row : Option Nat} {v : Value} {xs : List Value} (h : RdX X W v xs) (hg : W.grownBy W' row) (hr : ∀ r, row = some r → ∃ o : Obj, W.heap[r]? = some o ∧ o.isCells = false) : RdX X W' v xs := by
  rcases h with h0 | ⟨h0, b, o, c, rfl, hb, hc⟩
  · exact .inl h0
  · exact .inr ⟨h0, b, o, c, rfl, hb, fun i u hu => cell_kept (hc i u hu) hg hr⟩
/-- THE ROUNDS OF A LOOP, as an iterator meets them: each row that comes is read, and lies apart from what the rounds turn. -/
def Rounds (P : Program) (l : Nat) (T : List (List Nat)) (J Jx : List (List Nat) → (Nat → Prop) → World → Prop) : Prop :=
  ∀ pre r v X W, J pre X W → (pre ++ [r]) <+: T → RdX X W v (nats r) → YieldAt Fence.wide 3 P l #[v] W fun e W' =>
    (e = .returned (.bool true) ∧ ∃ X', J (pre ++ [r]) X' W' ∧ Kept X X' W W') ∨ (e = .returned (.bool false) ∧ ∃ X', Jx (pre ++ [r]) X' W' ∧ Kept X X' W W')
/-- AN ITERATOR GIVES ROWS, behind those that have come. -/
def Gives (P : Program) (g : Nat) (lb : Array Value) (Hyp : (Nat → Prop) → World → Prop) (pre0 T rows : List (List Nat)) : Prop :=
  ∀ (l : Nat) (J Jx : List (List Nat) → (Nat → Prop) → World → Prop) (X : Nat → Prop) (W : World), Hyp X W → OwnX W.heap.size J → OwnX W.heap.size Jx →
    (∀ pre X W, J pre X W → ∀ k, X k → k < W.heap.size) → Rounds P l T J Jx → J pre0 X W →
    Calls P g (#[.func (.yield l) #[] #[]] ++ lb) W fun e W' => (∃ v, e = .returned v) ∧ ((∃ X', J (pre0 ++ rows) X' W') ∨ ∃ q X', q <+: rows ∧ Jx (pre0 ++ q) X' W')
def addX (X : Nat → Prop) (l : Nat) : Nat → Prop := fun k => X k ∨ k = l
/-- HOW A ROUND's BODY MAY BE LEFT. -/
def postX (I : List (List Nat) → (Nat → Prop) → World → Prop) (Ix : Code → List (List Nat) → (Nat → Prop) → World → Prop) (s : List (List Nat)) (X : Nat → Prop) (W : World) : Exit → Act → World → Prop
  | .normal, _, W' => ∃ X', I s X' W' ∧ Kept X X' W W'
  | .ret, _, W' => ∃ X', Ix .ret s X' W' ∧ Kept X X' W W'
  | .exit id, _, W' => ∃ X', Ix (.exit id) s X' W' ∧ Kept X X' W W'
  | .goto t, _, W' => ∃ X', Ix (.goto t) s X' W' ∧ Kept X X' W W'
  | .panic _, _, _ => False
  | .outgrown, _, _ => False
theorem round_depth {m m' : Nat} {P : Program} {l : Nat} {f : FuncId} {tmps : Array Value} {assign body : Code} {w : World} {R : Ending → World → Prop}
    (h : RoundIn Fence.wide m P l f tmps assign body w R) : RoundIn Fence.wide m' P l f tmps assign body w R := ⟨h.1, fun c cs _ => h.2 c cs (room_wide _)⟩
/-- THE LAW: a loop over such an iterator. -/
theorem range_x {n : Nat} {P : Program} {g : Operand} {ps : Array Tmp} {assign body : Code} {Q : Exit → Act → World → Prop} {a : Act} {w : World}
    {gf : Nat} {lb : Array Value} (hg : a.eval g = .func (.func gf) #[] lb) (eg : ∀ args w, (callFunc gf args).run P w = .ok (.enter gf args) w) (hps : ps.size = 1)
    {Hyp : (Nat → Prop) → World → Prop} {pre0 T rows : List (List Nat)} (hgive : Gives P gf lb Hyp pre0 T rows)
    (I : List (List Nat) → (Nat → Prop) → World → Prop) (Ix : Code → List (List Nat) → (Nat → Prop) → World → Prop) (X0 : Nat → Prop)
    (hHyp : ∀ W1, Below w.heap.size w W1 → Hyp (addX X0 (w.heap.size + 1)) W1)
    (htop : ∀ pre X W, I pre X W → ∀ k, X k → k < W.heap.size)
    (hI : OwnX w.heap.size I) (hIx : ∀ c, OwnX w.heap.size (Ix c)) (h0 : I pre0 X0 w)
    (hround : ∀ (l : Nat) (pre : List (List Nat)) (r : List Nat) (v : Value) (X : Nat → Prop) (W : World), w.heap.size ≤ l → l < W.heap.size → ¬ X l → I pre X W → (pre ++ [r]) <+: T → RdX X W v (nats r) →
      assign.wpIn (Fence.wide.inRound l) 3 P (Exit.then (fun a1 W1 => Kept X X W W1 ∧ ∀ W2, W1.grownBy W2 (some l) → (∃ o : Obj, W1.heap[l]? = some o ∧ o.isCells = false) →
        body.wpIn (Fence.wide.inRound l) 3 P (postX I Ix (pre ++ [r]) X W2) a1 W2) (fun _ _ _ => False)) { tmps := (ps.zip #[v]).foldl (fun t (p, v) => t.setIfInBounds p v) a.tmps, defers := [] } W)
    (hdone : ∀ (X : Nat → Prop) (W : World), I (pre0 ++ rows) X W → ¬ X w.heap.size → W.heap[w.heap.size]? = some (.deferred (some [])) → Q .normal { a with defers := { target := .collected w.heap.size, args := #[] } :: a.defers } W)
    (hstop : ∀ (c : Code) (q : List (List Nat)) (X : Nat → Prop) (W : World), q <+: rows → Ix c (pre0 ++ q) X W → ¬ X w.heap.size → W.heap[w.heap.size]? = some (.deferred (some [])) → c.wpIn Fence.wide n P Q { a with defers := { target := .collected w.heap.size, args := #[] } :: a.defers } W) :
    (Code.rangeFunc g ps assign body).wpIn Fence.wide n P Q a w := by
  refine wpIn_rangeFunc ?_
  intro fn hfn
  obtain ⟨rec, hrec⟩ : ∃ rec : LoopState → Option Code → Loop, rec = fun st pe => { state := st, pending := pe, fn, tmps := a.tmps, params := ps, assign, body, defers := w.heap.size } := ⟨_, rfl⟩
  obtain ⟨d, hd⟩ : ∃ d, d = w.heap.size := ⟨_, rfl⟩
  obtain ⟨l, hl⟩ : ∃ l, l = w.heap.size + 1 := ⟨_, rfl⟩
  obtain ⟨W1, hW1⟩ : ∃ W1, (w.alloc (.deferred (some []))).alloc (.loop (rec .ready none)) = W1 := ⟨_, rfl⟩
  have hs1 : W1.heap.size = w.heap.size + 2 := by rw [← hW1]; simp
  have hL1 : W1.heap[l]? = some (.loop (rec .ready none)) := by
    rw [← hW1, hl]
    have := World.alloc_heap_new (w.alloc (.deferred (some []))) (.loop (rec .ready none))
    rwa [World.size_alloc] at this
  have hD1 : W1.heap[d]? = some (.deferred (some [])) := by
    rw [← hW1, hd]
    exact (Below.heap_alloc _ _ _ (by simp)).trans (World.alloc_heap_new w _)
  have hb1 : Below w.heap.size w W1 := by
    rw [← hW1]
    exact ((Below.refl _ w).alloc (Nat.le_refl _) _).alloc (by simp) _
  have hx0 : ∀ k, X0 k → k < w.heap.size := htop _ _ _ h0
  refine ⟨l, [{ target := .collected d, args := #[] }], W1, { target := .fn (.func gf) lb, args := #[.func (.yield l) #[] #[]] }, W1, gf, #[.func (.yield l) #[] #[]] ++ lb, W1, ?_, ?_, fun _ _ => trivial, ?_, fun h => by simp [Fence.wide] at h, ?_⟩
  · rw [← hW1, hrec, hl, hd]; exact run_enterLoop_outer _ _ _ _ _
  · simp only [resolve, hg]
    simp [go_sem]
  · simp [invoke, go_sem, eg]
  refine callsIn_wide.2 ?_
  refine (hgive l (fun pre X W => ∃ X', I pre X' W ∧ X = addX X' l ∧ ¬ X' l ∧ ¬ X' d ∧ W.heap[l]? = some (.loop (rec .ready none)) ∧ W.heap[d]? = some (.deferred (some [])))
    (fun pre X W => ∃ c X', Ix c pre X' W ∧ X = addX X' l ∧ ¬ X' d ∧ W.heap[l]? = some (.loop (rec .done (some c))) ∧ W.heap[d]? = some (.deferred (some [])))
    (addX X0 l) W1 (by rw [hl]; exact hHyp W1 hb1) ?ownJ ?ownX ?top ?rounds ⟨X0, hI.below h0 hb1, rfl, fun h => by have := hx0 l h; omega, fun h => by have := hx0 d h; omega, hL1, hD1⟩).mono ?post
  case ownJ =>
    rintro s X A A' row ⟨X', h1, h2, h3, h4, h5, h6⟩ hgr hr
    have hnl : ∀ k, k < W1.heap.size → ∀ o, A.heap[k]? = some o → A'.heap[k]? = some o := fun k hk o ho => by
      refine (hgr.block k (Array.getElem?_eq_some_iff.1 ho).1 fun e => ?_).trans ho
      have := (hr k e.symm).1
      omega
    exact ⟨X', hI _ _ _ _ _ h1 hgr (fun r e => ⟨by have := (hr r e).1; omega, (hr r e).2⟩), h2, h3, h4, hnl l (by omega) _ h5, hnl d (by omega) _ h6⟩
  case ownX =>
    rintro s X A A' row ⟨c, X', h1, h2, h4, h5, h6⟩ hgr hr
    have hnl : ∀ k, k < W1.heap.size → ∀ o, A.heap[k]? = some o → A'.heap[k]? = some o := fun k hk o ho => by
      refine (hgr.block k (Array.getElem?_eq_some_iff.1 ho).1 fun e => ?_).trans ho
      have := (hr k e.symm).1
      omega
    exact ⟨c, X', hIx c _ _ _ _ _ h1 hgr (fun r e => ⟨by have := (hr r e).1; omega, (hr r e).2⟩), h2, h4, hnl l (by omega) _ h5, hnl d (by omega) _ h6⟩
  case top =>
    rintro pre X W ⟨X', h1, rfl, h3, h4, h5, h6⟩ k hk
    rcases hk with hk | rfl
    · exact htop _ _ _ h1 k hk
    · exact (Array.getElem?_eq_some_iff.1 h5).1
  case rounds =>
    rintro pre r v X W ⟨X', h1, rfl, h3, h4, h5, h6⟩ hT hv
    have hlw : l < W.heap.size := (Array.getElem?_eq_some_iff.1 h5).1
    have hdw : d < W.heap.size := (Array.getElem?_eq_some_iff.1 h6).1
    have hy := run_yield (P := P) (args := #[v]) h5 (by rw [hrec]; exact hps.symm)
    rw [hrec] at hy
    refine ⟨fn, _, assign, body, hy, roundIn_of_wpIn hfn ?_⟩
    refine wpIn_mono (hround l pre r v X' W (by omega) hlw h3 h1 hT (hv.less fun k hk => .inl hk)) ?_
    rintro e a1 Wa hp
    cases e with
    | normal =>
      obtain ⟨hk1, hbody⟩ := hp
      have hla : Wa.heap[l]? = some (.loop (rec .ready none)) := (hk1.same l hlw h3).trans h5
      have hda : Wa.heap[d]? = some (.deferred (some [])) := (hk1.same d hdw h4).trans h6
      have hlwa : l < Wa.heap.size := Nat.lt_of_lt_of_le hlw hk1.size
      refine ⟨_, run_beginRound hla (by rw [hrec]), ?_⟩
      obtain ⟨Wb, hWb⟩ : ∃ Wb, Wa.putObj l (.loop { rec .ready none with state := .busy }) = Wb := ⟨_, rfl⟩
      have hlb : Wb.heap[l]? = some (.loop { rec .ready none with state := .busy }) := by rw [← hWb]; exact World.putObj_heap_same hlwa
      have hsb : Wb.heap.size = Wa.heap.size := by rw [← hWb]; simp
      have hob : ∀ k, k ≠ l → Wb.heap[k]? = Wa.heap[k]? := fun k hk => by rw [← hWb]; exact World.putObj_heap_other hk
      rw [hWb]
      have hgb : Wa.grownBy Wb (some l) := by rw [← hWb]; exact grownBy_putObj' Wa l _
      refine wpIn_mono (hbody Wb hgb ⟨_, hla, rfl⟩) ?_
      -- what lay ahead of the round, behind it
      have fin : ∀ (jump : Option Code) (X3 : Nat → Prop) (W3 : World), Kept X' X3 Wb W3 → ∃ W4, (Instr.endRound l jump).run P W3 = .ok (.bool jump.isNone) W4 ∧ W4 = W3.putObj l (.loop (rec (if jump.isNone then .ready else .done) jump)) ∧
          W3.heap[l]? = some (.loop { rec .ready none with state := .busy }) ∧ W4.heap[l]? = some (.loop (rec (if jump.isNone then .ready else .done) jump)) ∧ W4.heap[d]? = some (.deferred (some [])) ∧ Kept (addX X' l) (addX X3 l) W W4 ∧ ¬ X3 l ∧ ¬ X3 d := fun jump X3 W3 hk3 => by
        have hl3 := (hk3.same l (by omega) h3).trans hlb
        have hd3 := ((hk3.same d (by omega) h4).trans (hob d (by omega))).trans hda
        have hl3s : l < W3.heap.size := (Array.getElem?_eq_some_iff.1 hl3).1
        have hr := run_endRound (P := P) jump hl3
        rw [hrec] at hr hl3 ⊢
        refine ⟨_, hr, rfl, hl3, World.putObj_heap_same hl3s, (World.putObj_heap_other (by omega)).trans hd3, ⟨?_, fun k hk hx => ?_, fun k hk => ?_⟩, hk3.not (by omega) h3, hk3.not (by omega) h4⟩
        · have h7 := hk1.size
          have h8 := hk3.size
          simp only [World.putObj_size]
          omega
        · have hkl : k ≠ l := fun e => hx (.inr e)
          have hkx : ¬ X' k := fun e => hx (.inl e)
          have h7 := hk1.size
          exact ((World.putObj_heap_other hkl).trans (hk3.same k (by omega) hkx)).trans ((hob k hkl).trans (hk1.same k hk hkx))
        · rcases hk with hk | rfl
          · rcases hk3.new k hk with h9 | h9
            · exact .inl (.inl h9)
            · have h7 := hk1.size
              exact .inr (by omega)
          · exact .inl (.inr rfl)
      rintro e a3 W3 hp3
      cases e with
      | normal =>
        obtain ⟨X3, hi3, hk3⟩ := hp3
        obtain ⟨W4, hr, h4e, hl3, hl4, hd4, hkk, hn1, hn2⟩ := fin none X3 W3 hk3
        exact ⟨_, _, hr, .inl ⟨rfl, _, ⟨X3, by rw [h4e]; exact hI.putObj _ hi3 (by omega) hl3 rfl, rfl, hn1, hn2, hl4, hd4⟩, hkk⟩⟩
      | ret =>
        obtain ⟨X3, hi3, hk3⟩ := hp3
        obtain ⟨W4, hr, h4e, hl3, hl4, hd4, hkk, hn1, hn2⟩ := fin (some .ret) X3 W3 hk3
        exact ⟨_, _, hr, .inr ⟨rfl, _, ⟨.ret, X3, by rw [h4e]; exact (hIx _).putObj _ hi3 (by omega) hl3 rfl, rfl, hn2, hl4, hd4⟩, hkk⟩⟩
      | exit id =>
        obtain ⟨X3, hi3, hk3⟩ := hp3
        obtain ⟨W4, hr, h4e, hl3, hl4, hd4, hkk, hn1, hn2⟩ := fin (some (.exit id)) X3 W3 hk3
        exact ⟨_, _, hr, .inr ⟨rfl, _, ⟨.exit id, X3, by rw [h4e]; exact (hIx _).putObj _ hi3 (by omega) hl3 rfl, rfl, hn2, hl4, hd4⟩, hkk⟩⟩
      | goto t =>
        obtain ⟨X3, hi3, hk3⟩ := hp3
        obtain ⟨W4, hr, h4e, hl3, hl4, hd4, hkk, hn1, hn2⟩ := fin (some (.goto t)) X3 W3 hk3
        exact ⟨_, _, hr, .inr ⟨rfl, _, ⟨.goto t, X3, by rw [h4e]; exact (hIx _).putObj _ hi3 (by omega) hl3 rfl, rfl, hn2, hl4, hd4⟩, hkk⟩⟩
      | panic ch => exact hp3.elim
      | outgrown => exact hp3.elim
    | ret => exact hp.elim
    | exit id => exact hp.elim
    | goto t => exact hp.elim
    | panic ch => exact hp.elim
    | outgrown => exact hp.elim
  case post =>
    rintro e W2 ⟨⟨v, rfl⟩, ⟨X2, X', h1, h2, h3, h4, h5, h6⟩ | ⟨q, X2, hq, c, X', h1, h2, h4, h5, h6⟩⟩
    · have hr := run_endLoop (P := P) h5 (by rw [hrec]; simp)
      rw [hrec] at hr
      refine ⟨none, _, hr, ?_⟩
      have hdd : (W2.putObj l (.loop { rec .ready none with state := .exhausted })).heap[d]? = some (.deferred (some [])) := (World.putObj_heap_other (by omega)).trans h6
      have hii := hI.putObj (.loop { rec .ready none with state := .exhausted }) h1 (by omega) h5 rfl
      rw [hrec] at hdd hii
      subst hd
      exact hdone X' _ hii h4 hdd
    · have hr := run_endLoop (P := P) h5 (by rw [hrec]; simp)
      rw [hrec] at hr
      refine ⟨some c, _, hr, ?_⟩
      have hdd : (W2.putObj l (.loop { rec .done (some c) with state := .exhausted })).heap[d]? = some (.deferred (some [])) := (World.putObj_heap_other (by omega)).trans h6
      have hii := (hIx c).putObj (.loop { rec .done (some c) with state := .exhausted }) h1 (by omega) h5 rfl
      rw [hrec] at hdd hii
      subst hd
      exact hstop c q X' _ hq hii h4 hdd
end Go.Proofs.YtmnblljenobofaaGreatDoor
