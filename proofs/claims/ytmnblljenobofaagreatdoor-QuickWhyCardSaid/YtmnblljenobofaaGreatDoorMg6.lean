/- Merged: SerB, OrdP, SerC, GphA, GphB, CycA, WorB, QckA. -/
import Derived.Test.YtmnblljenobofaaGreatDoorMg1
import Derived.Test.YtmnblljenobofaaGreatDoorMg4
import Derived.Test.YtmnblljenobofaaGreatDoorMg5
/- Plain words: what is found explains; if nothing is, no row does. -/
namespace Go.Proofs.YtmnblljenobofaaGreatDoor.WPlain
end Go.Proofs.YtmnblljenobofaaGreatDoor.WPlain
namespace Go.Proofs.YtmnblljenobofaaGreatDoor.QPlain
end Go.Proofs.YtmnblljenobofaaGreatDoor.QPlain
namespace Go.Proofs.YtmnblljenobofaaGreatDoor.RPlain
open WPlain QPlain

theorem choices_count (l : List Tx) : (choicesS l).length ≤ 64 := by
  unfold choicesS
  have := List.length_filter_le (choiceS l) (List.range 64)
  rwa [List.length_range] at this
end Go.Proofs.YtmnblljenobofaaGreatDoor.RPlain
/- Plain words: befores of a table's places. -/
namespace Go.Proofs.YtmnblljenobofaaGreatDoor.WPlain
end Go.Proofs.YtmnblljenobofaaGreatDoor.WPlain
namespace Go.Proofs.YtmnblljenobofaaGreatDoor.QPlain
end Go.Proofs.YtmnblljenobofaaGreatDoor.QPlain
namespace Go.Proofs.YtmnblljenobofaaGreatDoor.RPlain
open WPlain QPlain

theorem bfrAt_at {l : List Tx} {i k : Nat} (hi : i < l.length) (hk : k < l.length) : bfrAt l i k = bfr l[i] l[k] := by
  unfold bfrAt
  rw [List.getElem?_eq_getElem hi, List.getElem?_eq_getElem hk]
/-- what follows of two befores, of a table's places -/
theorem bfrAt_self {h : List Ev} {i : Nat} (hi : i < (tableS h).length) : bfrAt (tableS h) i i = false := by
  have hin : i < (namesOf h).length := by rw [tableS_len] at hi; exact hi
  rw [bfrAt_at hi hi, tableS_get hin]
  exact bfr_self h (List.getElem_mem hin)
theorem bfrAt_trans {h : List Ev} {i k m : Nat} (hi : i < (tableS h).length) (hk : k < (tableS h).length) (hm : m < (tableS h).length)
    (h1 : bfrAt (tableS h) i k = true) (h2 : bfrAt (tableS h) k m = true) : bfrAt (tableS h) i m = true := by
  have hin : i < (namesOf h).length := by rw [tableS_len] at hi; exact hi
  have hkn : k < (namesOf h).length := by rw [tableS_len] at hk; exact hk
  have hmn : m < (namesOf h).length := by rw [tableS_len] at hm; exact hm
  rw [bfrAt_at hi hk, tableS_get hin, tableS_get hkn] at h1
  rw [bfrAt_at hk hm, tableS_get hkn, tableS_get hmn] at h2
  rw [bfrAt_at hi hm, tableS_get hin, tableS_get hmn]
  exact bfr_trans h (List.getElem_mem hkn) h1 h2
end Go.Proofs.YtmnblljenobofaaGreatDoor.RPlain
/- Plain words: the search, and all rows that keep the order; parts of what is explained. -/
namespace Go.Proofs.YtmnblljenobofaaGreatDoor.WPlain
end Go.Proofs.YtmnblljenobofaaGreatDoor.WPlain
namespace Go.Proofs.YtmnblljenobofaaGreatDoor.QPlain
end Go.Proofs.YtmnblljenobofaaGreatDoor.QPlain
namespace Go.Proofs.YtmnblljenobofaaGreatDoor.RPlain
open WPlain QPlain

theorem bfrAt_lt {l : List Tx} {a b : Nat} (h : bfrAt l a b = true) : a < l.length ∧ b < l.length := by
  unfold bfrAt at h
  cases ha : l[a]? with
  | none => rw [ha] at h; cases h
  | some X =>
    cases hb : l[b]? with
    | none => rw [ha, hb] at h; cases h
    | some Y => exact ⟨(List.getElem?_eq_some_iff.1 ha).1, (List.getElem?_eq_some_iff.1 hb).1⟩
theorem aft_after (l : List Tx) (a b : Nat) : aft (afterS l) a b = bfrAt l a b := by
  unfold aft
  by_cases ha : a < l.length
  · rw [List.getD_eq_getElem?_getD, List.getElem?_eq_getElem (by rw [afterS_len]; exact ha), Option.getD_some]
    unfold afterS
    rw [List.getElem_map]
    by_cases hb : b < l.length
    · rw [afterN_test l _ hb, bfrAt_at ha hb]
    · rw [Nat.testBit_lt_two_pow (Nat.lt_of_lt_of_le (afterN_lt l _) (Nat.pow_le_pow_right (by decide) (by omega)))]
      cases hc : bfrAt l a b with
      | false => rfl
      | true => exact absurd (bfrAt_lt hc).2 hb
  · rw [List.getD_eq_getElem?_getD, List.getElem?_eq_none (by rw [afterS_len]; omega)]
    cases hc : bfrAt l a b with
    | false => exact Nat.zero_testBit b
    | true => exact absurd (bfrAt_lt hc).1 ha
theorem free_after (h : List Ev) : Free (afterS (tableS h)) := by
  have hE : ∀ a b, Edge (afterS (tableS h)) a b → a < (tableS h).length ∧ b < (tableS h).length ∧ bfrAt (tableS h) a b = true := fun a b he => by
    have := he.2.2
    rw [aft_after] at this
    exact ⟨(bfrAt_lt this).1, (bfrAt_lt this).2, this⟩
  have hT : ∀ a b, Relation.TransGen (Edge (afterS (tableS h))) a b → a < (tableS h).length ∧ b < (tableS h).length ∧ bfrAt (tableS h) a b = true := by
    intro a b hb
    induction hb with
    | single h => exact hE _ _ h
    | tail _ h ih =>
      have h1 := hE _ _ h
      exact ⟨ih.1, h1.2.1, bfrAt_trans ih.1 h1.1 h1.2.1 ih.2.2 h1.2.2⟩
  intro a ha
  have h1 := hT a a ha
  rw [bfrAt_self h1.1] at h1
  cases h1.2.2
theorem may_after {h : List Ev} (h0 : (checkS h).2 = 0) : mayE (afterS (tableS h)) = 0 := by
  rw [mayE_zero, afterS_len]
  refine ⟨table_six h0, fun a ha => ?_, free_after h⟩
  obtain ⟨X, _, rfl⟩ := List.mem_map.1 ha
  exact afterN_lt _ _
end Go.Proofs.YtmnblljenobofaaGreatDoor.RPlain
/- Plain words: who is to come behind whom. -/
namespace Go.Proofs.YtmnblljenobofaaGreatDoor.WPlain
end Go.Proofs.YtmnblljenobofaaGreatDoor.WPlain
namespace Go.Proofs.YtmnblljenobofaaGreatDoor.QPlain
end Go.Proofs.YtmnblljenobofaaGreatDoor.QPlain
namespace Go.Proofs.YtmnblljenobofaaGreatDoor.RPlain
open WPlain QPlain

/-- is a value what is written last of a variable? -/
def finB (ops : List Rwo) (v x : Int) : Bool := ops.foldl (fun b o => if (o.w && decide (o.v = v)) = true then decide (o.x = x) else b) false
def expl1 (l : List Tx) (c t i : Nat) : Bool := match (opsAt l t)[i]? with
  | none => true
  | some o => if o.w = true then true else if srcS l t i = (t : Int) then finB ((opsAt l t).take i) o.v o.x
    else if srcS l t i < 0 then decide (srcS l t i = -1) else finB (opsAt l (srcS l t i).toNat) o.v o.x && c.testBit (srcS l t i).toNat
def readS (l : List Tx) (c : Nat) : Bool := (List.range l.length).all fun t => (List.range (opsAt l t).length).all (expl1 l c t)
def aheadB (a b : Nat) : List Nat → Bool
  | [] => false
  | x :: r => if x = b then false else if x = a then true else aheadB a b r
def wrt (l : List Tx) (c k : Nat) (v : Int) : Bool := c.testBit k && ownsB (opsAt l k) v
def third (l : List Tx) (c : Nat) (row : List Nat) (i k : Nat) : Bool := (List.range (opsAt l i).length).any fun n => match (opsAt l i)[n]? with
  | none => false
  | some o => !o.w && !decide (srcS l i n = (i : Int)) && !decide (k = i) && !decide ((k : Int) = srcS l i n) && wrt l c k o.v && (decide (srcS l i n < 0) || aheadB (srcS l i n).toNat k row)
def fourth (l : List Tx) (c : Nat) (row : List Nat) (t i k : Nat) : Bool := (List.range (opsAt l t).length).any fun n => match (opsAt l t)[n]? with
  | none => false
  | some o => !o.w && !decide (srcS l t n = (t : Int)) && decide (srcS l t n = (k : Int)) && !decide (i = t) && !decide (i = k) && wrt l c i o.v && aheadB i k row
def secnd (l : List Tx) (i k : Nat) : Bool := (List.range (opsAt l k).length).any fun n => match (opsAt l k)[n]? with
  | none => false
  | some o => !o.w && !decide (i = k) && decide (srcS l k n = (i : Int))
def behB (l : List Tx) (c : Nat) (row : List Nat) (i k : Nat) : Bool := bfrAt l i k || third l c row i k || secnd l i k || (List.range l.length).any fun t => fourth l c row t i k
def buildS (l : List Tx) (c : Nat) (row : List Nat) : List Nat := (List.range l.length).map fun i => bitsN (behB l c row i) l.length

theorem any_ops {l : List Tx} {i : Nat} {p : Nat → Rwo → Bool} : ((List.range (opsAt l i).length).any fun n => match (opsAt l i)[n]? with | none => false | some o => p n o) = true ↔ ∃ n o, (opsAt l i)[n]? = some o ∧ p n o = true := by
  rw [List.any_eq_true]
  constructor
  · rintro ⟨n, _, hp⟩
    cases ho : (opsAt l i)[n]? with
    | none => rw [ho] at hp; cases hp
    | some o => rw [ho] at hp; exact ⟨n, o, ho, hp⟩
  · rintro ⟨n, o, ho, hp⟩
    exact ⟨n, List.mem_range.2 (List.getElem?_eq_some_iff.1 ho).1, by rw [ho]; exact hp⟩
theorem third_iff {l : List Tx} {c : Nat} {row : List Nat} {i k : Nat} : third l c row i k = true ↔ ∃ n o, (opsAt l i)[n]? = some o ∧ o.w = false ∧ srcS l i n ≠ (i : Int) ∧ k ≠ i ∧ (k : Int) ≠ srcS l i n ∧ wrt l c k o.v = true ∧ (srcS l i n < 0 ∨ aheadB (srcS l i n).toNat k row = true) := by
  unfold third
  rw [any_ops (p := fun n o => !o.w && !decide (srcS l i n = (i : Int)) && !decide (k = i) && !decide ((k : Int) = srcS l i n) && wrt l c k o.v && (decide (srcS l i n < 0) || aheadB (srcS l i n).toNat k row))]
  refine exists_congr fun n => exists_congr fun o => and_congr_right fun _ => ?_
  simp [and_assoc]
theorem fourth_iff {l : List Tx} {c : Nat} {row : List Nat} {t i k : Nat} : fourth l c row t i k = true ↔ ∃ n o, (opsAt l t)[n]? = some o ∧ o.w = false ∧ srcS l t n ≠ (t : Int) ∧ srcS l t n = (k : Int) ∧ i ≠ t ∧ i ≠ k ∧ wrt l c i o.v = true ∧ aheadB i k row = true := by
  unfold fourth
  rw [any_ops (p := fun n o => !o.w && !decide (srcS l t n = (t : Int)) && decide (srcS l t n = (k : Int)) && !decide (i = t) && !decide (i = k) && wrt l c i o.v && aheadB i k row)]
  refine exists_congr fun n => exists_congr fun o => and_congr_right fun _ => ?_
  simp [and_assoc]
theorem secnd_iff {l : List Tx} {i k : Nat} : secnd l i k = true ↔ ∃ n o, (opsAt l k)[n]? = some o ∧ o.w = false ∧ i ≠ k ∧ srcS l k n = (i : Int) := by
  unfold secnd
  rw [any_ops (p := fun n o => !o.w && !decide (i = k) && decide (srcS l k n = (i : Int)))]
  refine exists_congr fun n => exists_congr fun o => and_congr_right fun _ => ?_
  simp [and_assoc]
/-- what is written last -/
theorem fin_snoc (ops : List Rwo) (o : Rwo) (v x : Int) : finB (ops ++ [o]) v x = if (o.w && decide (o.v = v)) = true then decide (o.x = x) else finB ops v x := by unfold finB; rw [List.foldl_append]; rfl
theorem snocRG {p : List Rwo → Prop} (h0 : p []) (h1 : ∀ l X, p l → p (l ++ [X])) (l : List Rwo) : p l := by
  rw [← List.reverse_reverse l]
  induction l.reverse with
  | nil => exact h0
  | cons e r ih => rw [List.reverse_cons]; exact h1 _ _ ih
theorem fin_with (M : Int → Int) (v x : Int) (ops : List Rwo) : (ownsB ops v = true → finB ops v x = decide (withM M ops v = x)) ∧ (ownsB ops v = false → withM M ops v = M v) := by
  refine snocRG (p := fun ops => (ownsB ops v = true → finB ops v x = decide (withM M ops v = x)) ∧ (ownsB ops v = false → withM M ops v = M v)) ⟨fun h => (by cases h), fun _ => rfl⟩ ?_ ops
  intro ops o ih
  have hw : withM M (ops ++ [o]) v = if (o.w && decide (o.v = v)) = true then o.x else withM M ops v := by
    rw [withM_app, withM_cons, withM_nil]
    cases hb : o.w with
    | false => simp
    | true =>
      simp only [if_true, Bool.true_and, decide_eq_true_eq, putM]
      by_cases hv : o.v = v
      · rw [if_pos hv.symm, if_pos hv]
      · rw [if_neg (fun hc => hv hc.symm), if_neg hv]
  have ho : ownsB (ops ++ [o]) v = (ownsB ops v || (o.w && decide (o.v = v))) := by unfold ownsB; rw [List.any_append]; simp
  rw [fin_snoc, hw, ho]
  by_cases hc : (o.w && decide (o.v = v)) = true
  · rw [if_pos hc, if_pos hc, hc, Bool.or_true]
    exact ⟨fun _ => rfl, fun h => by cases h⟩
  · rw [if_neg hc, if_neg hc, show (o.w && decide (o.v = v)) = false from by simpa using hc, Bool.or_false]
    exact ih
theorem ahead_iff {a b : Nat} : ∀ {row : List Nat} {p q : Nat}, row.Nodup → ∀ (hp : p < row.length) (hq : q < row.length), row[p] = a → row[q] = b → (aheadB a b row = true ↔ p < q) := by
  intro row
  induction row with
  | nil => intro p q _ hp; exact absurd hp (by simp)
  | cons x r ih =>
    intro p q hn hp hq ha hb
    obtain ⟨hx, hr⟩ := List.nodup_cons.1 hn
    rw [aheadB]
    cases q with
    | zero =>
      rw [List.getElem_cons_zero] at hb
      rw [if_pos hb]
      simp
    | succ q =>
      rw [List.getElem_cons_succ] at hb
      have hxb : x ≠ b := fun hc => hx (by rw [hc, ← hb]; exact List.getElem_mem _)
      rw [if_neg hxb]
      cases p with
      | zero =>
        rw [List.getElem_cons_zero] at ha
        rw [if_pos ha]
        simp
      | succ p =>
        rw [List.getElem_cons_succ] at ha
        have hxa : x ≠ a := fun hc => hx (by rw [hc, ← ha]; exact List.getElem_mem _)
        rw [if_neg hxa, ih hr (by simpa using hp) (by simpa using hq) ha hb]
        omega
/-- a source that is another one -/
theorem src_cases {l : List Tx} {t i : Nat} {o : Rwo} (ho : (opsAt l t)[i]? = some o) (hw : o.w = false) :
    (ownsB ((opsAt l t).take i) o.v = true ∧ srcS l t i = (t : Int)) ∨ (ownsB ((opsAt l t).take i) o.v = false ∧ o.x = 0 ∧ srcS l t i = -1) ∨
      (ownsB ((opsAt l t).take i) o.v = false ∧ o.x ≠ 0 ∧ ((∃ k, k < l.length ∧ k ≠ t ∧ writesB (opsAt l k) o.v o.x = true ∧ srcS l t i = (k : Int)) ∨ ((∀ k, k < l.length → k ≠ t → writesB (opsAt l k) o.v o.x = false) ∧ srcS l t i = -2))) := by
  unfold srcS
  rw [ho]
  dsimp only
  cases h1 : ownsB ((opsAt l t).take i) o.v with
  | true => exact .inl ⟨rfl, if_pos (.inr rfl)⟩
  | false =>
    have h2 : ¬ (o.w = true ∨ false = true) := by rw [hw]; simp
    rw [if_neg h2]
    by_cases h3 : o.x = 0
    · rw [if_pos h3]; exact .inr (.inl ⟨rfl, h3, rfl⟩)
    · rw [if_neg h3]
      refine .inr (.inr ⟨rfl, h3, ?_⟩)
      cases hf : (List.range l.length).find? (fun k => !decide (k = t) && writesB (opsAt l k) o.v o.x) with
      | some k =>
        have h4 := List.find?_some hf
        have h5 := List.mem_range.1 (List.mem_of_find?_eq_some hf)
        rw [Bool.and_eq_true] at h4
        exact .inl ⟨k, h5, by simpa using h4.1, h4.2, rfl⟩
      | none =>
        refine .inr ⟨fun k hk hne => ?_, rfl⟩
        have := List.find?_eq_none.1 hf k (List.mem_range.2 hk)
        simpa [hne] using this
/-- a row of all places, each once -/
structure Whole (l : List Tx) (row : List Nat) : Prop where
  nodup : row.Nodup
  mem : ∀ k, k ∈ row ↔ k < l.length
end Go.Proofs.YtmnblljenobofaaGreatDoor.RPlain
/- Plain words: graphs explain. -/
namespace Go.Proofs.YtmnblljenobofaaGreatDoor.WPlain
end Go.Proofs.YtmnblljenobofaaGreatDoor.WPlain
namespace Go.Proofs.YtmnblljenobofaaGreatDoor.QPlain
end Go.Proofs.YtmnblljenobofaaGreatDoor.QPlain
namespace Go.Proofs.YtmnblljenobofaaGreatDoor.RPlain
open WPlain QPlain

theorem whole_at {l : List Tx} {row : List Nat} (hw : Whole l row) {k : Nat} (hk : k < l.length) : ∃ p, ∃ hp : p < row.length, row[p] = k := by
  obtain ⟨p, hp, he⟩ := List.getElem_of_mem ((hw.mem k).2 hk)
  exact ⟨p, hp, he⟩
end Go.Proofs.YtmnblljenobofaaGreatDoor.RPlain
/- Plain words: ways back. -/
namespace Go.Proofs.YtmnblljenobofaaGreatDoor.RPlain

/-- is a row a cycle? -/
def walkB (L row : List Nat) : Bool := !row.isEmpty && (List.range row.length).all fun i => !(row.take i).contains (row.getD i 0) && aft L (row.getD i 0) (row.getD ((i + 1) % row.length) 0)
def nodL (n s : Nat) : List (List Nat) := extP n (fun row k => !row.contains k) s []
def leastG (L : List Nat) : Nat → Nat → List Nat
  | 0, _ => []
  | f + 1, s => match (nodL L.length s).find? (walkB L) with | some r => r | none => leastG L f (s + 1)
def leastS (L : List Nat) : List Nat := leastG L L.length 1
structure Cyc (L row : List Nat) : Prop where
  pos : 0 < row.length
  nodup : row.Nodup
  lt : ∀ k ∈ row, k < L.length
  edge : ∀ i (hi : i < row.length), aft L row[i] (row[(i + 1) % row.length]'(Nat.mod_lt _ (by omega))) = true
theorem getD_get {l : List Nat} {i : Nat} (hi : i < l.length) : l.getD i 0 = l[i] := by rw [List.getD_eq_getElem?_getD, List.getElem?_eq_getElem hi, Option.getD_some]
theorem nodup_take {l : List Nat} : l.Nodup ↔ ∀ i (hi : i < l.length), l[i] ∉ l.take i := by
  constructor
  · intro h i hi hm
    obtain ⟨j, hj, he⟩ := List.mem_take_iff_getElem.1 hm
    have := (List.getElem_inj h).1 he
    omega
  · intro h
    rw [List.Nodup, List.pairwise_iff_getElem]
    intro i j hi hj hij he
    exact h j hj (List.mem_take_iff_getElem.2 ⟨i, by omega, he⟩)
theorem walk_iff {L row : List Nat} (hlt : ∀ k ∈ row, k < L.length) : walkB L row = true ↔ Cyc L row := by
  unfold walkB
  rw [Bool.and_eq_true, List.all_eq_true]
  constructor
  · rintro ⟨h1, h2⟩
    have hpos : 0 < row.length := by
      cases row with
      | nil => cases h1
      | cons x r => simp
    have h3 : ∀ i (hi : i < row.length), row[i] ∉ row.take i ∧ aft L row[i] (row[(i + 1) % row.length]'(Nat.mod_lt _ hpos)) = true := fun i hi => by
      have := h2 i (List.mem_range.2 hi)
      rw [getD_get hi, getD_get (Nat.mod_lt _ hpos), Bool.and_eq_true] at this
      exact ⟨by simpa using this.1, this.2⟩
    exact ⟨hpos, nodup_take.2 fun i hi => (h3 i hi).1, hlt, fun i hi => (h3 i hi).2⟩
  · intro h
    refine ⟨by
      cases row with
      | nil => exact absurd h.pos (by simp)
      | cons x r => rfl, fun i hi => ?_⟩
    have hi' := List.mem_range.1 hi
    rw [getD_get hi', getD_get (Nat.mod_lt _ h.pos), Bool.and_eq_true]
    exact ⟨by simpa using nodup_take.1 h.nodup i hi', h.edge i hi'⟩
theorem stepsN_iff : ∀ (t row : List Nat), stepsP (fun row k => !row.contains k) row t = true ↔ t.Nodup ∧ ∀ b ∈ row, ∀ a ∈ t, a ≠ b := by
  intro t
  induction t with
  | nil => intro row; simp [stepsP]
  | cons k r ih =>
    intro row
    rw [stepsP, Bool.and_eq_true, ih, List.nodup_cons]
    simp only [Bool.not_eq_true', List.contains_eq_mem, decide_eq_false_iff_not]
    constructor
    · rintro ⟨h1, h2, h3⟩
      refine ⟨⟨fun hk => h3 k (by simp) k hk rfl, h2⟩, fun b hb a ha => ?_⟩
      rcases List.mem_cons.1 ha with rfl | ha
      · exact fun hc => h1 (hc ▸ hb)
      · exact h3 b (List.mem_append_left _ hb) a ha
    · rintro ⟨⟨h1, h2⟩, h3⟩
      refine ⟨fun hk => h3 k hk k (List.mem_cons_self ..) rfl, h2, fun b hb a ha => ?_⟩
      rcases List.mem_append.1 hb with hb | hb
      · exact h3 b hb a (List.mem_cons_of_mem _ ha)
      · rw [List.mem_singleton.1 hb]; exact fun hc => h1 (hc ▸ ha)
theorem nodL_filter (n s : Nat) : nodL n s = (allT n s).filter (stepsP (fun row k => !row.contains k) []) := by
  unfold nodL
  rw [ext_filter]
  simp
theorem nodL_mem {n s : Nat} {row : List Nat} : row ∈ nodL n s ↔ row.length = s ∧ (∀ k ∈ row, k < n) ∧ row.Nodup := by
  rw [nodL_filter, List.mem_filter, allT_mem, stepsN_iff]
  simp [and_assoc]
theorem nodL_rise (n s : Nat) : (nodL n s).Pairwise (· < ·) := by rw [nodL_filter]; exact (allT_rise _ _).filter _
/-- of two cycles the one is not greater -/
def notMore (a b : List Nat) : Prop := a.length < b.length ∨ (a.length = b.length ∧ ¬ b < a)
theorem find_least {p : List Nat → Bool} : ∀ {l : List (List Nat)} {r : List Nat}, l.Pairwise (· < ·) → l.find? p = some r → ∀ x ∈ l, p x = true → ¬ x < r := by
  intro l
  induction l with
  | nil => intro r _ _ x hx; cases hx
  | cons y s ih =>
    intro r hp hf x hx hpx
    obtain ⟨h1, h2⟩ := List.pairwise_cons.1 hp
    rw [List.find?_cons] at hf
    cases hy : p y with
    | true =>
      rw [hy] at hf
      have hf' : y = r := by simpa using hf
      subst hf'
      rcases List.mem_cons.1 hx with rfl | hx
      · exact List.lt_irrefl _
      · exact fun hc => List.lt_irrefl _ (List.lt_trans hc (h1 x hx))
    | false =>
      rw [hy] at hf
      rcases List.mem_cons.1 hx with rfl | hx
      · rw [hy] at hpx; cases hpx
      · exact ih h2 (by simpa using hf) x hx hpx
theorem least_spec {L : List Nat} : ∀ (f s : Nat), 1 ≤ s → ((leastG L f s = [] ∧ ∀ row, Cyc L row → s ≤ row.length → row.length < s + f → False) ∨ (Cyc L (leastG L f s) ∧ s ≤ (leastG L f s).length ∧ ∀ row, Cyc L row → s ≤ row.length → notMore (leastG L f s) row)) := by
  intro f
  induction f with
  | zero => intro s _; exact .inl ⟨rfl, fun row _ h1 h2 => by omega⟩
  | succ f ih =>
    intro s hs
    rw [leastG]
    cases hf : (nodL L.length s).find? (walkB L) with
    | some r =>
      right
      dsimp only
      have h1 := List.find?_some hf
      obtain ⟨e1, e2, e3⟩ := nodL_mem.1 (List.mem_of_find?_eq_some hf)
      refine ⟨(walk_iff e2).1 h1, by omega, fun row hr hle => ?_⟩
      rcases Nat.lt_or_ge r.length row.length with h2 | h2
      · exact .inl h2
      · refine .inr ⟨by omega, find_least (nodL_rise _ _) hf row (nodL_mem.2 ⟨by omega, hr.lt, hr.nodup⟩) ((walk_iff hr.lt).2 hr)⟩
    | none =>
      dsimp only
      have hno : ∀ row, Cyc L row → row.length ≠ s := fun row hr hl => by
        have := List.find?_eq_none.1 hf row (nodL_mem.2 ⟨hl, hr.lt, hr.nodup⟩)
        exact this ((walk_iff hr.lt).2 hr)
      rcases ih (s + 1) (by omega) with ⟨g1, g2⟩ | ⟨g1, g2, g3⟩
      · exact .inl ⟨g1, fun row hr h1 h2 => g2 row hr (by have := hno row hr; omega) (by omega)⟩
      · exact .inr ⟨g1, by omega, fun row hr h1 => g3 row hr (by have := hno row hr; omega)⟩
theorem cyc_len {L row : List Nat} (h : Cyc L row) : row.length ≤ L.length := by
  have := nodup_le row (List.range L.length) h.nodup fun x hx => List.mem_range.2 (h.lt x hx)
  rwa [List.length_range] at this
/-- the least cycle, or there is none -/
theorem least_tells (L : List Nat) : (leastS L = [] ∧ ∀ row, ¬ Cyc L row) ∨ (Cyc L (leastS L) ∧ ∀ row, Cyc L row → notMore (leastS L) row) := by
  rcases least_spec (L := L) L.length 1 (Nat.le_refl _) with ⟨h1, h2⟩ | ⟨h1, _, h3⟩
  · exact .inl ⟨h1, fun row hr => h2 row hr hr.pos (by have := cyc_len hr; omega)⟩
  · exact .inr ⟨h1, fun row hr => h3 row hr hr.pos⟩
end Go.Proofs.YtmnblljenobofaaGreatDoor.RPlain
/- Plain words: consistency is between; how many steps there may be. -/
namespace Go.Proofs.YtmnblljenobofaaGreatDoor.WPlain
end Go.Proofs.YtmnblljenobofaaGreatDoor.WPlain
namespace Go.Proofs.YtmnblljenobofaaGreatDoor.QPlain
end Go.Proofs.YtmnblljenobofaaGreatDoor.QPlain
namespace Go.Proofs.YtmnblljenobofaaGreatDoor.RPlain
open WPlain QPlain

/-- how many steps -/
theorem ext_most {n : Nat} {S : List Nat} {p : List Nat → Nat → Bool} (hp : ∀ row k, k < n → p row k = true → k ∈ S ∧ k ∉ row) : ∀ (s : Nat) (row : List Nat), row.Nodup → (∀ k ∈ row, k ∈ S) → S.Nodup → row.length + s = S.length → (extP n p s row).length ≤ factN s := by
  intro s
  induction s with
  | zero => intro row _ _ _ _; exact Nat.le_refl _
  | succ s ih =>
    intro row hn hr hnS hl
    rw [extP, List.length_flatMap]
    have h1 : ∀ L : List Nat, (∀ k ∈ L, k < n) → (L.map fun k => (if p row k = true then extP n p s (row ++ [k]) else []).length).sum ≤ (L.map fun k => if p row k = true then factN s else 0).sum := by
      intro L
      induction L with
      | nil => intro _; exact Nat.le_refl _
      | cons k r ihL =>
        intro hL
        rw [List.map_cons, List.map_cons, List.sum_cons, List.sum_cons]
        have h2 := ihL fun x hx => hL x (List.mem_cons_of_mem _ hx)
        by_cases hpk : p row k = true
        · rw [if_pos hpk, if_pos hpk]
          obtain ⟨h3, h4⟩ := hp row k (hL k (List.mem_cons_self ..)) hpk
          have h5 := ih (row ++ [k]) (List.nodup_append.2 ⟨hn, by simp, fun a ha b hb => by rw [List.mem_singleton.1 hb]; exact fun hc => h4 (hc ▸ ha)⟩) (fun x hx => by
            rcases List.mem_append.1 hx with hx | hx
            · exact hr x hx
            · rw [List.mem_singleton.1 hx]; exact h3) hnS (by rw [List.length_append, List.length_singleton]; omega)
          omega
        · rw [if_neg hpk, if_neg hpk]
          simp only [List.length_nil]
          omega
    refine Nat.le_trans (h1 _ fun k hk => List.mem_range.1 hk) ?_
    rw [sum_ite, factN, Nat.mul_comm (factN s)]
    refine Nat.mul_le_mul_right _ ?_
    have h6 := nodup_le (row ++ (List.range n).filter (p row)) S (List.nodup_append.2 ⟨hn, List.nodup_range.filter _, fun a ha b hb hc => by
      have h7 := List.mem_filter.1 hb
      exact (hp row b (List.mem_range.1 h7.1) h7.2).2 (hc ▸ ha)⟩) (fun x hx => by
        rcases List.mem_append.1 hx with hx | hx
        · exact hr x hx
        · have h7 := List.mem_filter.1 hx
          exact (hp row x (List.mem_range.1 h7.1) h7.2).1)
    rw [List.length_append] at h6
    omega
theorem factN_mono {a b : Nat} (h : a ≤ b) : factN a ≤ factN b := by
  induction b with
  | zero => rw [Nat.le_zero.1 h]; exact Nat.le_refl _
  | succ b ih =>
    rcases Nat.lt_or_ge a (b + 1) with h2 | h2
    · rw [factN, Nat.mul_succ]; exact Nat.le_trans (ih (by omega)) (Nat.le_add_left _ _)
    · rw [show a = b + 1 from by omega]; exact Nat.le_refl _
end Go.Proofs.YtmnblljenobofaaGreatDoor.RPlain
/- Plain words: graphs in place of searches. -/
namespace Go.Proofs.YtmnblljenobofaaGreatDoor.WPlain
end Go.Proofs.YtmnblljenobofaaGreatDoor.WPlain
namespace Go.Proofs.YtmnblljenobofaaGreatDoor.QPlain
end Go.Proofs.YtmnblljenobofaaGreatDoor.QPlain
namespace Go.Proofs.YtmnblljenobofaaGreatDoor.RPlain
open WPlain QPlain

def hitQ (l : List Tx) (c : Nat) (row : List Nat) : Bool := decide (mayE (buildS l c row) = 0)
def rowsQ (B : Nat) (l : List Tx) (c : Nat) : List (List Nat) → Nat → Nat × Nat × List Nat × Nat
  | [], s => (1, 0, [], s)
  | row :: r, s => if s = B then (2, 0, [], s) else if hitQ l c row = true then (0, c, (allS (buildS l c row)).headD [], s + 1) else rowsQ B l c r (s + 1)
def quickG (B : Nat) (l : List Tx) : List Nat → Nat → Nat × Nat × List Nat × Nat
  | [], s => (1, 0, [], s)
  | c :: r, s => if readS l c = false then quickG B l r s else if (rowsQ B l c (allS (afterS l)) s).1 = 1 then quickG B l r (rowsQ B l c (allS (afterS l)) s).2.2.2 else rowsQ B l c (allS (afterS l)) s
def quickS (B : Nat) (l : List Tx) : Nat × Nat × List Nat × Nat := quickG B l (choicesS l) 0

theorem build_len (l : List Tx) (c : Nat) (row : List Nat) : (buildS l c row).length = l.length := by simp [buildS]
theorem build_lt {l : List Tx} {c : Nat} {row : List Nat} : ∀ a ∈ buildS l c row, a < 2 ^ (buildS l c row).length := fun a ha => by
  obtain ⟨i, _, rfl⟩ := List.mem_map.1 ha
  rw [build_len]
  exact bitsN_lt _ _
theorem rowsQ_tells {B : Nat} {l : List Tx} {c : Nat} : ∀ (rs : List (List Nat)) (s : Nat), s ≤ B →
    ((rowsQ B l c rs s).1 = 0 ∨ (rowsQ B l c rs s).1 = 1 ∨ (rowsQ B l c rs s).1 = 2) ∧ (rowsQ B l c rs s).2.2.2 ≤ B ∧ (rowsQ B l c rs s).2.2.2 ≤ s + rs.length ∧ ((rowsQ B l c rs s).1 = 2 → B < s + rs.length) ∧
      ((rowsQ B l c rs s).1 ≠ 0 → (rowsQ B l c rs s).2.1 = 0 ∧ (rowsQ B l c rs s).2.2.1 = []) ∧
      ((rowsQ B l c rs s).1 = 0 → ∃ row ∈ rs, hitQ l c row = true ∧ (rowsQ B l c rs s).2.1 = c ∧ (rowsQ B l c rs s).2.2.1 = (allS (buildS l c row)).headD []) ∧
      ((rowsQ B l c rs s).1 = 1 → ∀ row ∈ rs, hitQ l c row = false) := by
  intro rs
  induction rs with
  | nil => intro s hs; exact ⟨.inr (.inl rfl), hs, Nat.le_refl _, fun h => (by cases h), fun _ => ⟨rfl, rfl⟩, fun h => (by cases h), fun _ p hp => (by cases hp)⟩
  | cons row r ih =>
    intro s hs
    rw [rowsQ]
    by_cases hB : s = B
    · rw [if_pos hB]
      exact ⟨.inr (.inr rfl), hs, Nat.le_add_right _ _, fun _ => by rw [List.length_cons]; omega, fun _ => ⟨rfl, rfl⟩, fun h => (by cases h), fun h => (by cases h)⟩
    · rw [if_neg hB]
      by_cases hh : hitQ l c row = true
      · rw [if_pos hh]
        exact ⟨.inl rfl, by dsimp only; omega, by rw [List.length_cons]; dsimp only; omega, fun h => (by cases h), fun h => absurd rfl h, fun _ => ⟨row, List.mem_cons_self .., hh, rfl, rfl⟩, fun h => (by cases h)⟩
      · rw [if_neg hh]
        obtain ⟨g1, g2, g3, g4, g5, g6, g7⟩ := ih (s + 1) (by omega)
        rw [List.length_cons]
        refine ⟨g1, g2, by omega, fun h => by have := g4 h; omega, g5, fun h => ?_, fun h x hx => ?_⟩
        · obtain ⟨y, hy, hz⟩ := g6 h; exact ⟨y, List.mem_cons_of_mem _ hy, hz⟩
        · rcases List.mem_cons.1 hx with rfl | hx
          · simpa using hh
          · exact g7 h x hx
theorem quick_tells {B : Nat} {l : List Tx} : ∀ (cs : List Nat) (s : Nat), s ≤ B →
    ((quickG B l cs s).1 = 0 ∨ (quickG B l cs s).1 = 1 ∨ (quickG B l cs s).1 = 2) ∧ (quickG B l cs s).2.2.2 ≤ B ∧ ((quickG B l cs s).1 = 2 → B < s + cs.length * (allS (afterS l)).length) ∧
      ((quickG B l cs s).1 ≠ 0 → (quickG B l cs s).2.1 = 0 ∧ (quickG B l cs s).2.2.1 = []) ∧
      ((quickG B l cs s).1 = 0 → (quickG B l cs s).2.1 ∈ cs ∧ readS l (quickG B l cs s).2.1 = true ∧ ∃ row ∈ allS (afterS l), hitQ l (quickG B l cs s).2.1 row = true ∧ (quickG B l cs s).2.2.1 = (allS (buildS l (quickG B l cs s).2.1 row)).headD []) ∧
      ((quickG B l cs s).1 = 1 → ∀ c ∈ cs, readS l c = true → ∀ row ∈ allS (afterS l), hitQ l c row = false) := by
  intro cs
  induction cs with
  | nil => intro s hs; exact ⟨.inr (.inl rfl), hs, fun h => (by cases h), fun _ => ⟨rfl, rfl⟩, fun h => (by cases h), fun _ c hc => (by cases hc)⟩
  | cons c r ih =>
    intro s hs
    have hmul : (c :: r).length * (allS (afterS l)).length = r.length * (allS (afterS l)).length + (allS (afterS l)).length := by rw [List.length_cons, Nat.succ_mul]
    rw [quickG]
    by_cases hr : readS l c = false
    · rw [if_pos hr]
      obtain ⟨g1, g2, g3, g4, g5, g6⟩ := ih s hs
      refine ⟨g1, g2, fun h => by have := g3 h; omega, g4, fun h => ⟨List.mem_cons_of_mem _ (g5 h).1, (g5 h).2⟩, fun h x hx hrx => ?_⟩
      rcases List.mem_cons.1 hx with rfl | hx
      · rw [hr] at hrx; cases hrx
      · exact g6 h x hx hrx
    · rw [if_neg hr]
      have hrt : readS l c = true := by simpa using hr
      obtain ⟨a1, a2, a3, a4, a5, a6, a7⟩ := rowsQ_tells (B := B) (l := l) (c := c) (allS (afterS l)) s hs
      by_cases hv : (rowsQ B l c (allS (afterS l)) s).1 = 1
      · rw [if_pos hv]
        obtain ⟨g1, g2, g3, g4, g5, g6⟩ := ih (rowsQ B l c (allS (afterS l)) s).2.2.2 a2
        refine ⟨g1, g2, fun h => by have := g3 h; omega, g4, fun h => ⟨List.mem_cons_of_mem _ (g5 h).1, (g5 h).2⟩, fun h x hx hrx => ?_⟩
        rcases List.mem_cons.1 hx with rfl | hx
        · exact a7 hv
        · exact g6 h x hx hrx
      · rw [if_neg hv]
        refine ⟨a1, a2, fun h => by have := a4 h; omega, a5, fun h => ?_, fun h => absurd h hv⟩
        obtain ⟨row, e1, e2, e3, e4⟩ := a6 h
        rw [e3]
        exact ⟨List.mem_cons_self .., hrt, row, e1, e2, e4⟩
/-- how many rows there may be -/
theorem rows_few {L : List Nat} (h6 : L.length ≤ 6) : (allS L).length ≤ 720 := by
  have h1 := ext_most (n := L.length) (S := List.range L.length) (p := nxt L) (fun row k hk hp => ⟨List.mem_range.2 hk, fun hm => by
    have := (nxt_iff L row k).1 hp k hm
    exact this.1 rfl⟩) L.length [] List.nodup_nil (fun k hk => by cases hk) List.nodup_range (by simp)
  exact Nat.le_trans h1 (factN_mono h6)
end Go.Proofs.YtmnblljenobofaaGreatDoor.RPlain
