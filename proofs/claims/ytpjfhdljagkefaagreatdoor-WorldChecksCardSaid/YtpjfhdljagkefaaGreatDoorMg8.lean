/- Merged: WorF, PrpB, TabE. -/
import Derived.Test.YtpjfhdljagkefaaGreatDoorMg7
import Derived.Test.YtpjfhdljagkefaaGreatDoorMg2
import Derived.Test.YtpjfhdljagkefaaGreatDoorMg1
import Derived.Test.YtpjfhdljagkefaaGreatDoorShelf
import Derived.Test.YtpjfhdljagkefaaGreatDoorMg4
import Derived.Deep.RegionLaw
import Derived.Maps.RangeWalk
/- Plain words: the program's sets, and its rows of a set: those of an order of the set's places alone. -/
namespace Go.Proofs.YtpjfhdljagkefaaGreatDoor.WPlain
end Go.Proofs.YtpjfhdljagkefaaGreatDoor.WPlain
namespace Go.Proofs.YtpjfhdljagkefaaGreatDoor.QPlain
end Go.Proofs.YtpjfhdljagkefaaGreatDoor.QPlain
namespace Go.Proofs.YtpjfhdljagkefaaGreatDoor.RPlain
open WPlain QPlain

/-- an order of these places alone -/
def amongL (A pl : List Nat) : List Nat := (List.range pl.length).map fun i => bitsN (fun k => aft A (pl.getD i 0) (pl.getD k 0)) pl.length
theorem amongL_len (A pl : List Nat) : (amongL A pl).length = pl.length := by simp [amongL]
theorem aft_among {A pl : List Nat} {i k : Nat} (hi : i < pl.length) (hk : k < pl.length) : aft (amongL A pl) i k = aft A (pl.getD i 0) (pl.getD k 0) := by
  unfold aft
  rw [List.getD_eq_getElem?_getD, List.getElem?_eq_getElem (by rw [amongL_len]; exact hi), Option.getD_some]
  unfold amongL
  rw [List.getElem_map, List.getElem_range, bitsN_test, decide_eq_true hk, Bool.true_and]
  rfl
theorem among_lt {A pl : List Nat} (h6 : pl.length ≤ 6) : ∀ a ∈ amongL A pl, a < 4294967296 := by
  intro a ha
  obtain ⟨i, _, rfl⟩ := List.mem_map.1 ha
  refine Nat.lt_of_lt_of_le (bitsN_lt _ _) ?_
  exact Nat.le_trans (Nat.pow_le_pow_right (n := 2) (i := pl.length) (j := 6) (by decide) h6) (by decide)
theorem getD_lt {pl : List Nat} {n : Nat} (hp : ∀ p ∈ pl, p < n) {i : Nat} (hi : i < pl.length) : pl.getD i 0 < n := by
  rw [List.getD_eq_getElem?_getD, List.getElem?_eq_getElem hi, Option.getD_some]
  exact hp _ (List.getElem_mem _)
theorem free_among {A pl : List Nat} (hf : Free A) (hp : ∀ p ∈ pl, p < A.length) : Free (amongL A pl) := by
  have hE : ∀ a b, Edge (amongL A pl) a b → Edge A (pl.getD a 0) (pl.getD b 0) := fun a b ⟨h1, h2, h3⟩ => by
    rw [amongL_len] at h1 h2
    rw [aft_among h1 h2] at h3
    exact ⟨getD_lt hp h1, getD_lt hp h2, h3⟩
  have hT : ∀ a b, Relation.TransGen (Edge (amongL A pl)) a b → Relation.TransGen (Edge A) (pl.getD a 0) (pl.getD b 0) := by
    intro a b hb
    induction hb with
    | single h => exact .single (hE _ _ h)
    | tail _ h ih => exact ih.tail (hE _ _ h)
  exact fun a ha => hf _ (hT a a ha)
theorem may_among {A pl : List Nat} (h6 : pl.length ≤ 6) (hf : Free A) (hp : ∀ p ∈ pl, p < A.length) : mayE (amongL A pl) = 0 := by
  rw [mayE_zero, amongL_len]
  refine ⟨h6, fun a ha => ?_, free_among hf hp⟩
  obtain ⟨i, _, rfl⟩ := List.mem_map.1 ha
  exact bitsN_lt _ _
theorem flat_filter {S : Nat → Bool} {g : Nat → List (List Nat)} (hg : ∀ k, S k = false → g k = []) : ∀ L : List Nat, (L.filter S).flatMap g = L.flatMap g := by
  intro L
  induction L with
  | nil => rfl
  | cons k r ih =>
    rw [List.filter_cons, List.flatMap_cons]
    cases hk : S k with
    | true => rw [if_pos rfl, List.flatMap_cons, ih]
    | false => rw [if_neg (by decide), ih, hg k hk, List.nil_append]
theorem range_getD (pl : List Nat) : (List.range pl.length).map (fun i => pl.getD i 0) = pl := by
  refine List.ext_getElem (by simp) fun i h1 h2 => ?_
  rw [List.getElem_map, List.getElem_range, List.getD_eq_getElem?_getD, List.getElem?_eq_getElem h2, Option.getD_some]
/-- rows told by where their places are among them, and rows told by the places -/
theorem ext_named {n : Nat} {pl : List Nat} {S : Nat → Bool} {p q : List Nat → Nat → Bool} (hpl : pl = (List.range n).filter S) (hS : ∀ row k, p row k = true → S k = true)
    (hq : ∀ row k, (∀ x ∈ row, x < pl.length) → k < pl.length → q row k = p (row.map fun i => pl.getD i 0) (pl.getD k 0)) : ∀ (s : Nat) (row : List Nat), (∀ x ∈ row, x < pl.length) →
    (extP pl.length q s row).map (·.map fun i => pl.getD i 0) = extP n p s (row.map fun i => pl.getD i 0) := by
  intro s
  induction s with
  | zero => intro row _; rfl
  | succ s ih =>
    intro row hr
    rw [extP, extP, List.map_flatMap]
    have h1 : ∀ L : List Nat, (∀ k ∈ L, k < pl.length) → L.flatMap (fun k => (if q row k = true then extP pl.length q s (row ++ [k]) else []).map (·.map fun i => pl.getD i 0))
        = (L.map fun i => pl.getD i 0).flatMap fun k => if p (row.map fun i => pl.getD i 0) k = true then extP n p s ((row.map fun i => pl.getD i 0) ++ [k]) else [] := by
      intro L
      induction L with
      | nil => intro _; rfl
      | cons k r ihL =>
        intro hL
        have hk := hL k (List.mem_cons_self ..)
        rw [List.map_cons, List.flatMap_cons, List.flatMap_cons, ihL (fun x hx => hL x (List.mem_cons_of_mem _ hx)), hq row k hr hk]
        congr 1
        by_cases hp : p (row.map fun i => pl.getD i 0) (pl.getD k 0) = true
        · rw [if_pos hp, if_pos hp, ih (row ++ [k]) (fun x hx => by
            rcases List.mem_append.1 hx with hx | hx
            · exact hr x hx
            · rw [List.mem_singleton.1 hx]; exact hk), List.map_append]
          rfl
        · rw [if_neg hp, if_neg hp]; rfl
    rw [h1 _ (fun k hk => List.mem_range.1 hk), range_getD]
    have h2 := flat_filter (S := S) (g := fun k => if p (row.map fun i => pl.getD i 0) k = true then extP n p s ((row.map fun i => pl.getD i 0) ++ [k]) else []) (fun k hk => if_neg fun hc => by
      rw [hS _ _ hc] at hk
      cases hk) (List.range n)
    rw [← hpl] at h2
    exact h2
theorem setL_lt {n set k : Nat} (h : k ∈ setL n set) : k < n := (setL_mem.1 h).1
theorem setL_six {n set : Nat} (h : n ≤ 6) : (setL n set).length ≤ 6 := by
  have := List.length_filter_le set.testBit (List.range n)
  rw [List.length_range] at this
  unfold setL
  omega
theorem rows_among (l : List Tx) (set : Nat) : (allS (amongL (afterS l) (setL l.length set))).map (·.map fun i => (setL l.length set).getD i 0) = rowsW l set := by
  have hnd : (setL l.length set).Nodup := List.nodup_range.filter _
  have hinj : ∀ a b, a < (setL l.length set).length → b < (setL l.length set).length → (setL l.length set).getD a 0 = (setL l.length set).getD b 0 → a = b := by
    intro a b ha hb he
    rw [List.getD_eq_getElem?_getD, List.getElem?_eq_getElem ha, List.getD_eq_getElem?_getD, List.getElem?_eq_getElem hb] at he
    exact (List.getElem_inj hnd).1 he
  unfold allS rowsW
  rw [amongL_len]
  refine ext_named (pl := setL l.length set) (S := set.testBit) (p := nxtW l set) rfl (fun row k h => ?_) (fun row k hr hk => ?_) _ [] (fun x hx => by cases hx)
  · unfold nxtW at h
    rw [Bool.and_eq_true] at h
    exact h.1
  · have hs : set.testBit ((setL l.length set).getD k 0) = true := by
      have hm : (setL l.length set).getD k 0 ∈ setL l.length set := by
        rw [List.getD_eq_getElem?_getD, List.getElem?_eq_getElem hk, Option.getD_some]
        exact List.getElem_mem _
      exact (setL_mem.1 hm).2
    unfold nxt nxtW
    rw [hs, Bool.true_and, List.all_map]
    refine Bool.eq_iff_iff.2 ?_
    rw [List.all_eq_true, List.all_eq_true]
    refine forall_congr' fun b => forall_congr' fun hb => ?_
    rw [aft_among hk (hr b hb), aft_after]
    have : decide (k = b) = decide ((setL l.length set).getD k 0 = (setL l.length set).getD b 0) := by
      refine decide_eq_decide.2 ⟨fun h => by rw [h], fun h => hinj _ _ hk (hr b hb) h⟩
    rw [this]
    rfl
/-- the others of a choice; what t is not before -/
def othersN (c t : Nat) : Nat := lessN c (2 ^ t)
def amongN (A : List Nat) (t c : Nat) : Nat := lessN (othersN c t) (A.getD t 0)
/-- a set has each of the others that is before t, or before one of the set -/
def wholeB (A : List Nat) (set t o : Nat) : Bool := (List.range A.length).all fun i => !(o.testBit i && !set.testBit i && !decide (A.getD i 0 &&& (set ||| 2 ^ t) = 0))
def setB (A : List Nat) (t c set : Nat) : Bool := decide (lessN set (amongN A t c) = 0) && wholeB A set t (othersN c t)
/-- the sets that t may have seen -/
def setsN (A : List Nat) (t c : Nat) : List Nat := (List.range (amongN A t c + 1)).filter (setB A t c)
theorem or_pow {set t k : Nat} : (set ||| 2 ^ t).testBit k = (decide (k = t) || set.testBit k) := by
  rw [Nat.testBit_or, Nat.testBit_two_pow, Bool.or_comm]
  congr 1
  exact decide_eq_decide.2 ⟨fun h => h.symm, fun h => h.symm⟩
theorem lt32 {n c : Nat} (h6 : n ≤ 6) (hc : c < 2 ^ n) : c < 4294967296 :=
  Nat.lt_of_lt_of_le hc (Nat.le_trans (Nat.pow_le_pow_right (n := 2) (i := n) (j := 6) (by decide) h6) (by decide))
theorem zero_bits {x : Nat} : x = 0 ↔ ∀ k, x.testBit k = false := ⟨fun h k => by rw [h]; exact Nat.zero_testBit k, fun h => Nat.eq_of_testBit_eq fun k => by rw [h k, Nat.zero_testBit]⟩
theorem among_bit {l : List Tx} (h6 : l.length ≤ 6) {t c : Nat} (ht : t < l.length) (hc : c < 2 ^ l.length) (k : Nat) : (amongN (afterS l) t c).testBit k = (!decide (k = t) && c.testBit k && !bfrAt l t k) := by
  have hc32 := lt32 h6 hc
  have ht32 : 2 ^ t < 4294967296 := Nat.pow_lt_pow_right (a := 2) (m := t) (n := 32) (by decide) (by omega)
  have ha : (afterS l).getD t 0 < 4294967296 := by
    rw [List.getD_eq_getElem?_getD, List.getElem?_eq_getElem (by rw [afterS_len]; exact ht), Option.getD_some]
    unfold afterS
    rw [List.getElem_map]
    exact lt32 h6 (afterN_lt l _)
  unfold amongN othersN
  rw [lessN_test (Nat.lt_of_le_of_lt (lessN_le _ _) hc32) ha, lessN_test hc32 ht32, Nat.testBit_two_pow]
  have h1 : ((afterS l).getD t 0).testBit k = bfrAt l t k := aft_after l t k
  rw [h1]
  have h2 : decide (t = k) = decide (k = t) := decide_eq_decide.2 ⟨fun h => h.symm, fun h => h.symm⟩
  rw [h2, Bool.and_comm (c.testBit k)]
theorem set_may {l : List Tx} (h6 : l.length ≤ 6) {t c set : Nat} (ht : t < l.length) (hc : c < 2 ^ l.length) (hs : set ≤ c) : setB (afterS l) t c set = mayW l t set c := by
  have hc32 := lt32 h6 hc
  have hs2 : set < 2 ^ l.length := by omega
  have hs32 : set < 4294967296 := by omega
  have ht32 : 2 ^ t < 4294967296 := Nat.pow_lt_pow_right (a := 2) (m := t) (n := 32) (by decide) (by omega)
  have ha32 : amongN (afterS l) t c < 4294967296 := Nat.lt_of_le_of_lt (Nat.le_trans (lessN_le _ _) (lessN_le _ _)) hc32
  have hz : lessN set (amongN (afterS l) t c) = 0 ↔ ∀ k, set.testBit k = true → k ≠ t ∧ c.testBit k = true ∧ bfrAt l t k = false := by
    rw [zero_bits]
    refine forall_congr' fun k => ?_
    rw [lessN_test hs32 ha32, among_bit h6 ht hc]
    cases set.testBit k <;> cases c.testBit k <;> cases bfrAt l t k <;> simp
  have ho : ∀ k, (othersN c t).testBit k = (c.testBit k && !decide (k = t)) := fun k => by
    unfold othersN
    rw [lessN_test hc32 ht32, Nat.testBit_two_pow]
    congr 2
    exact decide_eq_decide.2 ⟨fun h => h.symm, fun h => h.symm⟩
  have hand : ∀ i, (afterS l).getD i 0 &&& (set ||| 2 ^ t) = 0 ↔ ∀ k, (k = t ∨ set.testBit k = true) → bfrAt l i k = false := fun i => by
    rw [zero_bits]
    refine forall_congr' fun k => ?_
    rw [Nat.testBit_and, or_pow, show ((afterS l).getD i 0).testBit k = bfrAt l i k from aft_after l i k]
    cases bfrAt l i k <;> simp
  have hlt : ∀ k, set.testBit k = true → k < l.length := fun k hk => by
    rcases Nat.lt_or_ge k l.length with h | h
    · exact h
    · rw [Nat.testBit_lt_two_pow (Nat.lt_of_lt_of_le hs2 (Nat.pow_le_pow_right (by decide) h))] at hk
      cases hk
  rw [Bool.eq_iff_iff, may_iff]
  unfold setB wholeB
  rw [Bool.and_eq_true, decide_eq_true_eq, hz, List.all_eq_true, afterS_len]
  constructor
  · rintro ⟨h1, h2⟩
    refine ⟨fun i _ h => h1 i h, fun i hi hs hne hci k hk hkt => ?_⟩
    have h3 := h2 i (List.mem_range.2 hi)
    rw [ho, hci, hs] at h3
    simp only [Bool.true_and, decide_eq_false hne, Bool.not_false, Bool.and_true, Bool.not_not, decide_eq_true_eq] at h3
    exact (hand i).1 h3 k hkt
  · rintro ⟨h1, h2⟩
    refine ⟨fun k hk => h1 k (hlt k hk) hk, fun i hi => ?_⟩
    rw [List.mem_range] at hi
    rw [ho]
    cases hci : c.testBit i with
    | false => rfl
    | true =>
      by_cases hne : i = t
      · simp [hne]
      · cases hsi : set.testBit i with
        | true => simp
        | false =>
          have h3 : (afterS l).getD i 0 &&& (set ||| 2 ^ t) = 0 := (hand i).2 fun k hk => by
            cases hb : bfrAt l i k with
            | false => rfl
            | true =>
              have := h2 i hi hsi hne hci k (bfrAt_lt hb).2 hk
              rw [hb] at this
              exact this
          rw [decide_eq_true h3]
          simp
/-- the program's pairs: of each set its rows -/
theorem pairs_sets {l : List Tx} (h6 : l.length ≤ 6) {t c : Nat} (ht : t < l.length) (hc : c < 2 ^ l.length) : pairsW l t c = (setsN (afterS l) t c).flatMap fun set => (rowsW l set).map fun r => (set, r) := by
  have ha : amongN (afterS l) t c ≤ c := Nat.le_trans (lessN_le _ _) (lessN_le _ _)
  have hcong : ∀ (L : List Nat) (f g : Nat → List (Nat × List Nat)), (∀ x ∈ L, f x = g x) → L.flatMap f = L.flatMap g := by
    intro L f g
    induction L with
    | nil => intro _; rfl
    | cons k r ih => intro h; rw [List.flatMap_cons, List.flatMap_cons, h k (List.mem_cons_self ..), ih (fun x hx => h x (List.mem_cons_of_mem _ hx))]
  have hfil : ∀ (L : List Nat) (p : Nat → Bool) (g : Nat → List (Nat × List Nat)), (L.filter p).flatMap g = L.flatMap fun x => if p x = true then g x else [] := by
    intro L p g
    induction L with
    | nil => rfl
    | cons k r ih =>
      rw [List.filter_cons, List.flatMap_cons]
      cases hk : p k with
      | true => rw [if_pos rfl, List.flatMap_cons, ih, if_pos rfl]
      | false => rw [if_neg (by decide), ih, if_neg (by decide), List.nil_append]
  unfold pairsW setsN
  rw [hfil]
  obtain ⟨d, hd⟩ : ∃ d, c + 1 = amongN (afterS l) t c + 1 + d := ⟨c - amongN (afterS l) t c, by omega⟩
  rw [hd, List.range_add, List.flatMap_append]
  have h2 : ((List.range d).map (amongN (afterS l) t c + 1 + ·)).flatMap (fun set => if mayW l t set c = true ∧ set < 2 ^ l.length then (rowsW l set).map fun r => (set, r) else []) = [] := by
    rw [List.flatMap_eq_nil_iff]
    intro x hx
    obtain ⟨y, hy, rfl⟩ := List.mem_map.1 hx
    have hy' := List.mem_range.1 hy
    refine if_neg fun hm => ?_
    have h3 := set_may h6 ht hc (set := amongN (afterS l) t c + 1 + y) (by omega)
    rw [hm.1] at h3
    unfold setB at h3
    rw [Bool.and_eq_true, decide_eq_true_eq] at h3
    have h4 : ∀ k, (amongN (afterS l) t c + 1 + y).testBit k = true → (amongN (afterS l) t c).testBit k = true := fun k hk => by
      have h5 := zero_bits.1 h3.1 k
      rw [lessN_test (by have := lt32 h6 hc; omega) (by have := lt32 h6 hc; omega), hk] at h5
      simpa using h5
    have h6 : amongN (afterS l) t c + 1 + y = (amongN (afterS l) t c + 1 + y) &&& amongN (afterS l) t c := Nat.eq_of_testBit_eq fun k => by
      rw [Nat.testBit_and]
      cases hk : (amongN (afterS l) t c + 1 + y).testBit k with
      | false => rfl
      | true => rw [h4 k hk]; rfl
    have h7 : (amongN (afterS l) t c + 1 + y) &&& amongN (afterS l) t c ≤ amongN (afterS l) t c := Nat.and_le_right
    omega
  rw [h2, List.append_nil]
  refine hcong _ _ _ fun x hx => ?_
  have hx' := List.mem_range.1 hx
  rw [set_may h6 ht hc (by omega)]
  by_cases hm : mayW l t x c = true
  · rw [if_pos hm, if_pos ⟨hm, by omega⟩]
  · rw [if_neg hm, if_neg fun h => hm h.1]
end Go.Proofs.YtpjfhdljagkefaaGreatDoor.RPlain
/- Maps of maps, of the call's own: laws of no program; and what moves hands back. -/
namespace Go.Proofs.YtpjfhdljagkefaaGreatDoor.WPlain
end Go.Proofs.YtpjfhdljagkefaaGreatDoor.WPlain
namespace Go.Proofs.YtpjfhdljagkefaaGreatDoor.QPlain
end Go.Proofs.YtpjfhdljagkefaaGreatDoor.QPlain
namespace Go.Proofs.YtpjfhdljagkefaaGreatDoor
open Go.RowKit WPlain QPlain
open Go.Maps (Keyed)

/-- how an element that is a map reads: by its block -/
def mapE : Value → Option (DataW Unit × List MemPlace)
  | .map (some b) => some (.lit (.int .i64 (b : Int)), [])
  | .map none => some (.lit (.int .i64 (-1)), [])
  | _ => none
theorem mapE_inv {v : Value} {b : Nat} {ps : List MemPlace} (h : mapE v = some (.lit (.int .i64 (b : Int)), ps)) : v = .map (some b) := by
  unfold mapE at h
  split at h
  · rename_i b'
    simp at h
    obtain rfl : b' = b := by omega
    rfl
  · simp at h
  · cases h
theorem ownsMap_below {H : Type} {P : Program} {k : TypeId} {R : Value → Option (DataW H × List MemPlace)} {w w' : World} {b n B : Nat} {D : DataW H} (h : w.ownsMap P k R b n D) (hb : Below B w w') (hlt : b < B) : w'.ownsMap P k R b n D := by
  obtain ⟨es, clock, hh, r⟩ := h
  exact ⟨es, clock, (hb.block b hlt).trans hh, r⟩
theorem stateK : Keyed Tryz.prog 164 := Maps.int_keyed Tryz.underlying164
theorem intK : Keyed Tryz.prog 3 := Maps.int_keyed Tryz.underlying3
theorem key_state {i : Int} (h : (Lit.int .i64 i).wf = true) : keyOf Tryz.prog 164 (.int .i64 i) = some (.int .i64 i) := Maps.keyOf_int_mk Tryz.underlying164 h
theorem key_int {i : Int} (h : (Lit.int .i64 i).wf = true) : keyOf Tryz.prog 3 (.int .i64 i) = some (.int .i64 i) := Maps.keyOf_int_mk Tryz.underlying3 h
theorem elem_state {i : Int} (h : (Lit.int .i64 i).wf = true) : plainElem (H := Unit) Tryz.prog 164 (.int .i64 i) = some (.lit (.int .i64 i), []) := plainElem_int Tryz.underlying164 h
theorem zeroState (w : World) : (zeroValue 164).run Tryz.prog w = .ok (.int .i64 0) w := by kernel_rfl
theorem zeroMap (w : World) : (zeroValue 154).run Tryz.prog w = .ok (.map none) w := by kernel_rfl
/-- what moves hands back: a map of the states' maps, all between two numbers -/
def Mov (B U : Nat) (w : World) (b : Nat) : Prop :=
  B ≤ b ∧ b < U ∧ ∃ n D, w.ownsMap Tryz.prog 164 mapE b n D ∧ ∀ s : Nat, s < 8 → ∃ bs m, B ≤ bs ∧ bs < U ∧ (∀ z, D.atKey (.int .i64 (s : Int)) z = .lit (.int .i64 (bs : Int))) ∧ w.ownsMap Tryz.prog 3 (plainElem Tryz.prog 164) bs m (rowD s)
theorem Mov.below {B U C : Nat} {w w' : World} {b : Nat} (h : Mov B U w b) (hb : Below C w w') (hC : w.heap.size ≤ C) : Mov B U w' b := by
  obtain ⟨hB, hU, n, D, ho, hs⟩ := h
  refine ⟨hB, hU, n, D, ownsMap_below ho hb (Nat.lt_of_lt_of_le ho.lt hC), fun s h8 => ?_⟩
  obtain ⟨bs, m, h1, h4, h2, h3⟩ := hs s h8
  exact ⟨bs, m, h1, h4, h2, ownsMap_below h3 hb (Nat.lt_of_lt_of_le h3.lt hC)⟩
theorem Mov.grown {B U S : Nat} {w w' : World} {b : Nat} (h : Mov B U w b) (hg : w.grownBy w' (some S)) (hS : U ≤ S) : Mov B U w' b := by
  obtain ⟨hB, hU, n, D, ho, hs⟩ := h
  refine ⟨hB, hU, n, D, ho.kept hg (fun hh => by have hh := Option.some.inj hh; omega), fun s h8 => ?_⟩
  obtain ⟨bs, m, h1, h4, h2, h3⟩ := hs s h8
  exact ⟨bs, m, h1, h4, h2, h3.kept hg (fun hh => by have hh := Option.some.inj hh; omega)⟩
theorem Mov.mono {B B' U : Nat} {w : World} {b : Nat} (h : Mov B U w b) (hB : B' ≤ B) : Mov B' U w b := by
  obtain ⟨h1, hU, n, D, ho, hs⟩ := h
  refine ⟨Nat.le_trans hB h1, hU, n, D, ho, fun s h8 => ?_⟩
  obtain ⟨bs, m, h1, h4, h2, h3⟩ := hs s h8
  exact ⟨bs, m, Nat.le_trans hB h1, h4, h2, h3⟩
theorem wf64 {x : Int} (h1 : -9223372036854775808 ≤ x) (h2 : x ≤ 9223372036854775807) : (Lit.int .i64 x).wf = true := by
  simp [Lit.wf, IntKind.min, IntKind.max, IntKind.signed, IntKind.bits]; omega
end Go.Proofs.YtpjfhdljagkefaaGreatDoor
/- How a table being built lies in memory: a map of pointers, by names. -/
namespace Go.Proofs.YtpjfhdljagkefaaGreatDoor.WPlain
end Go.Proofs.YtpjfhdljagkefaaGreatDoor.WPlain
namespace Go.Proofs.YtpjfhdljagkefaaGreatDoor.QPlain
end Go.Proofs.YtpjfhdljagkefaaGreatDoor.QPlain
namespace Go.Proofs.YtpjfhdljagkefaaGreatDoor.RPlain
end Go.Proofs.YtpjfhdljagkefaaGreatDoor.RPlain
namespace Go.Proofs.YtpjfhdljagkefaaGreatDoor
open Go.RowKit WPlain QPlain RPlain
open Go.Maps (Keyed)

/-- how an element that is a pointer reads: by its block -/
def ptrE : Value → Option (DataW Unit × List MemPlace)
  | .pointer (some ⟨b, 0, none⟩) => some (.lit (.int .i64 (b : Int)), [])
  | .pointer none => some (.lit (.int .i64 (-1)), [])
  | _ => none
theorem ptrE_inv {v : Value} {b : Nat} {ps : List MemPlace} (h : ptrE v = some (.lit (.int .i64 (b : Int)), ps)) : v = .pointer (some ⟨b, 0, none⟩) := by
  unfold ptrE at h
  split at h
  · rename_i b'
    simp at h
    obtain rfl : b' = b := by omega
    rfl
  · simp at h
  · cases h
theorem ptrE_nil {v : Value} {ps : List MemPlace} (h : ptrE v = some (.lit (.int .i64 (-1)), ps)) : v = .pointer none := by
  unfold ptrE at h
  split at h
  · simp at h
  · rfl
  · cases h
theorem zeroPtr (w : World) : (zeroValue 135).run Tryz.prog w = .ok (.pointer none) w := by kernel_rfl
/-- block M is a map of pointers to the transactions of the names ns -/
structure Tab (B : Nat) (w : World) (M k : Nat) (ns : List Int) (X : Int → Tx) (P : Int → Nat) (V : Int → Value) : Prop where
  base : B ≤ M
  map : ∃ D, w.ownsMap Tryz.prog 3 ptrE M k D ∧ ∀ t : Int, (Lit.int .i64 t).wf = true → (t ∈ ns → Maps.has D (.int .i64 t) = true ∧ ∀ z, D.atKey (.int .i64 t) z = .lit (.int .i64 (P t : Int))) ∧ (t ∉ ns → Maps.has D (.int .i64 t) = false)
  tx : ∀ t ∈ ns, B ≤ P t ∧ Txm B w (P t) (X t).n (X t).f (X t).l (X t).s (V t) (X t).o
  apart : ∀ t ∈ ns, ∀ u ∈ ns, t ≠ u → P t ≠ P u ∧ ∀ b, (V t).ownBlock = some b → (V u).ownBlock ≠ some b
section
variable {B M k : Nat} {w w' : World} {ns : List Int} {X : Int → Tx} {P : Int → Nat} {V : Int → Value} {S : Nat → Prop}
theorem Tab.only (h : Tab B w M k ns X P V) (ho : Only S w w') (hM : ¬ S M) (hn : ∀ t ∈ ns, ∀ b, Mine (P t) (V t) b → ¬ S b) : Tab B w' M k ns X P V := by
  obtain ⟨D, ⟨es, clock, hh, hr⟩, hd⟩ := h.map
  exact ⟨h.base, ⟨D, ⟨es, clock, (ho.block M (Array.getElem?_eq_some_iff.1 hh).1 hM).trans hh, hr⟩, hd⟩, fun t ht => ⟨(h.tx t ht).1, (h.tx t ht).2.only ho (hn t ht)⟩, h.apart⟩
theorem Tab.below (h : Tab B w M k ns X P V) (hb : Below w.heap.size w w') : Tab B w' M k ns X P V :=
  h.only (S := fun _ => False) (Only.of_below hb) (fun hf => hf) (fun _ _ _ _ hf => hf)
theorem Tab.look_yes (h : Tab B w M k ns X P V) {t : Int} (hw : (Lit.int .i64 t).wf = true) (ht : t ∈ ns) :
    (Instr.lookup 134 (.map (some M)) (.int .i64 t) true).run Tryz.prog w = .ok (.tuple #[.pointer (some ⟨P t, 0, none⟩), .bool true]) w := by
  obtain ⟨D, ho, hd⟩ := h.map
  obtain ⟨v, ps, hr, hv⟩ := ho.look_ok intK Tryz.underlying134 (zeroPtr w) (zd := .lit (.int .i64 (-1))) (zp := []) rfl (key_int hw)
  rw [((hd t hw).1 ht).1] at hr
  rw [((hd t hw).1 ht).2] at hv
  rw [hr, ptrE_inv hv]
theorem Tab.look_no (h : Tab B w M k ns X P V) {t : Int} (hw : (Lit.int .i64 t).wf = true) (ht : t ∉ ns) :
    (Instr.lookup 134 (.map (some M)) (.int .i64 t) true).run Tryz.prog w = .ok (.tuple #[.pointer none, .bool false]) w := by
  obtain ⟨D, ho, hd⟩ := h.map
  obtain ⟨v, ps, hr, hv⟩ := ho.look_ok intK Tryz.underlying134 (zeroPtr w) (zd := .lit (.int .i64 (-1))) (zp := []) rfl (key_int hw)
  rw [(hd t hw).2 ht] at hr
  rw [Maps.atKey_of_not_has ((hd t hw).2 ht)] at hv
  rw [hr, ptrE_nil hv]
theorem Tab.look (h : Tab B w M k ns X P V) {t : Int} (hw : (Lit.int .i64 t).wf = true) (ht : t ∈ ns) :
    (Instr.lookup 134 (.map (some M)) (.int .i64 t) false).run Tryz.prog w = .ok (.pointer (some ⟨P t, 0, none⟩)) w := by
  obtain ⟨D, ho, hd⟩ := h.map
  obtain ⟨v, ps, hr, hv⟩ := ho.lookup intK Tryz.underlying134 (zeroPtr w) (zd := .lit (.int .i64 (-1))) (zp := []) rfl (key_int hw)
  rw [((hd t hw).1 ht).2] at hv
  rw [hr, ptrE_inv hv]
/-- the map's block is none of a transaction's -/
theorem Tab.notM (h : Tab B w M k ns X P V) {t : Int} (ht : t ∈ ns) : ¬ Mine (P t) (V t) M := by
  obtain ⟨D, ⟨es, clock, hh, _⟩, _⟩ := h.map
  have hT := (h.tx t ht).2
  rintro (hc | hc)
  · have := hT.at_
    unfold At at this
    rw [← hc, hh] at this
    simp at this
  · rcases hT.row.2 with ⟨he, _⟩ | ⟨g, cap, cur, he, _, hg, _⟩
    · rw [he] at hc; simp [Value.ownBlock] at hc
    · rw [he] at hc
      simp only [Value.ownBlock, Option.some.injEq] at hc
      rw [hc, hh] at hg
      simp at hg
/-- transactions share no block -/
theorem Tab.notMine (h : Tab B w M k ns X P V) {t u : Int} (ht : t ∈ ns) (hu : u ∈ ns) (hne : t ≠ u) {b : Nat} (hb : Mine (P t) (V t) b) : ¬ Mine (P u) (V u) b := by
  have hT := (h.tx t ht).2
  have hU := (h.tx u hu).2
  have ha := h.apart t ht u hu hne
  rcases hb with rfl | hb
  · rintro (hc | hc)
    · exact ha.1 hc
    · exact row_not hU.row hT.at_ (by decide) hc
  · rintro (rfl | hc)
    · exact row_not hT.row hU.at_ (by decide) hb
    · exact ha.2 b hb hc
theorem Tab.mine_lt (h : Tab B w M k ns X P V) {t : Int} (ht : t ∈ ns) {b : Nat} (hb : Mine (P t) (V t) b) : b < w.heap.size := by
  rcases hb with rfl | hb
  · exact (h.tx t ht).2.at_.lt
  · exact (own_base (h.tx t ht).2.row hb).2
theorem Tab.mine_ge (h : Tab B w M k ns X P V) {t : Int} (ht : t ∈ ns) {b : Nat} (hb : Mine (P t) (V t) b) : B ≤ b := by
  rcases hb with rfl | hb
  · exact (h.tx t ht).1
  · exact (own_base (h.tx t ht).2.row hb).1
/-- behind take -/
theorem Tab.took (h : Tab B w M k ns X P V) {t : Int} (ht : t ∈ ns) (ho : Only (Mine (P t) (V t)) w w') {x : Tx} {V' : Value} (hx : Txm B w' (P t) x.n x.f x.l x.s V' x.o) (hl : Lies w (V t) V') :
    Tab B w' M k ns (fun u => if u = t then x else X u) P (fun u => if u = t then V' else V u) := by
  obtain ⟨D, ⟨es, clock, hh, hr⟩, hd⟩ := h.map
  refine ⟨h.base, ⟨D, ⟨es, clock, (ho.block M (Array.getElem?_eq_some_iff.1 hh).1 (h.notM ht)).trans hh, hr⟩, hd⟩, fun u hu => ?_, fun u hu r hr hne => ?_⟩
  · refine ⟨(h.tx u hu).1, ?_⟩
    by_cases he : u = t
    · subst he
      rw [if_pos rfl, if_pos rfl]
      exact hx
    · rw [if_neg he, if_neg he]
      exact (h.tx u hu).2.only ho (fun b hb => h.notMine hu ht he hb)
  · refine ⟨(h.apart u hu r hr hne).1, fun b hb => ?_⟩
    have hnew : ∀ (s : Int), s ∈ ns → s ≠ t → ∀ b, V'.ownBlock = some b → (V s).ownBlock ≠ some b := by
      intro s hs hst b hb hc
      rcases hl with hl | hl
      · rw [hl] at hb
        exact (h.apart t ht s hs (fun e => hst e.symm)).2 b hb hc
      · have h1 := hl b hb
        have h2 := h.mine_lt hs (.inr hc)
        omega
    by_cases hut : u = t
    · rw [if_pos hut] at hb
      rw [if_neg (fun hc => hne (hut.trans hc.symm))]
      exact hnew r hr (fun hc => hne (hut.trans hc.symm)) b hb
    · rw [if_neg hut] at hb
      by_cases hrt : r = t
      · rw [if_pos hrt]
        exact fun hc => hnew u hu hut b hc hb
      · rw [if_neg hrt]
        exact (h.apart u hu r hr hne).2 b hb
/-- a new one -/
theorem Tab.made (h : Tab B w M k ns X P V) {t : Int} (hw : (Lit.int .i64 t).wf = true) (ht : t ∉ ns) {N : Nat} (hN : B ≤ N) {x : Tx} {v : Value} (hx : Txm B w N x.n x.f x.l x.s v x.o)
    (hfar : ∀ u ∈ ns, ∀ b, Mine N v b → ¬ Mine (P u) (V u) b) (hMN : ¬ Mine N v M) (hk : k ≤ 65536) :
    ∃ w', (Instr.mapUpdate 134 (.map (some M)) (.int .i64 t) (.pointer (some ⟨N, 0, none⟩))).run Tryz.prog w = .ok () w' ∧
      Tab B w' M (k + 1) (ns ++ [t]) (fun u => if u = t then x else X u) (fun u => if u = t then N else P u) (fun u => if u = t then v else V u) ∧ w.grownBy w' (some M) := by
  obtain ⟨D, ho, hd⟩ := h.map
  obtain ⟨w', hr, ho', hg⟩ := ho.update intK Tryz.underlying134 (by unfold maxLen; omega) (key_int hw) (show ptrE (.pointer (some ⟨N, 0, none⟩)) = some (.lit (.int .i64 (N : Int)), []) from rfl)
  have hO : Only (fun b => b = M) w w' := (Only.refl _ w).grown hg (fun b _ hb => (Option.some.inj hb).symm)
  refine ⟨w', hr, ⟨h.base, ⟨_, ho', fun u hu => ⟨fun hm => ?_, fun hm => ?_⟩⟩, fun u hu => ?_, fun u hu r hr hne => ?_⟩, hg⟩
  · by_cases he : u = t
    · subst he
      rw [if_pos rfl]
      exact ⟨Maps.has_put_same ho.isMap (intK.key (key_int hw)) _, fun z => Maps.atKey_put_same ho.isMap (intK.key (key_int hw)) _ _⟩
    · rw [if_neg he]
      have hmn : u ∈ ns := by
        rcases List.mem_append.1 hm with hm | hm
        · exact hm
        · exact absurd (List.mem_singleton.1 hm) he
      have hkne : (Lit.int .i64 u) ≠ (.int .i64 t) := fun hc => he (by simpa using hc)
      exact ⟨(Maps.has_put_other hkne _).trans ((hd u hu).1 hmn).1, fun z => (Maps.atKey_put_other hkne _ _).trans (((hd u hu).1 hmn).2 z)⟩
  · rw [List.mem_append, not_or] at hm
    have he : u ≠ t := fun hc => hm.2 (by simp [hc])
    exact (Maps.has_put_other (fun hc => he (by simpa using hc)) _).trans ((hd u hu).2 hm.1)
  · by_cases he : u = t
    · rw [if_pos he, if_pos he, if_pos he]
      exact ⟨hN, hx.only hO (fun b hb hc => hMN (hc ▸ hb))⟩
    · rw [if_neg he, if_neg he, if_neg he]
      have hmn : u ∈ ns := by
        rcases List.mem_append.1 hu with hm | hm
        · exact hm
        · exact absurd (List.mem_singleton.1 hm) he
      exact ⟨(h.tx u hmn).1, (h.tx u hmn).2.only hO (fun b hb hc => h.notM hmn (hc ▸ hb))⟩
  · have hin : ∀ s : Int, s ∈ ns ++ [t] → s ≠ t → s ∈ ns := fun s hs he => (List.mem_append.1 hs).elim id (fun hm => absurd (List.mem_singleton.1 hm) he)
    by_cases hut : u = t
    · have hrt : r ≠ t := fun hc => hne (hut.trans hc.symm)
      rw [if_pos hut, if_pos hut, if_neg hrt, if_neg hrt]
      have hf := hfar r (hin r hr hrt)
      exact ⟨fun hc => hf N (.inl rfl) (.inl hc), fun b hb hc => hf b (.inr hb) (.inr hc)⟩
    · rw [if_neg hut, if_neg hut]
      by_cases hrt : r = t
      · rw [if_pos hrt, if_pos hrt]
        have hf := hfar u (hin u hu hut)
        exact ⟨fun hc => hf N (.inl rfl) (.inl hc.symm), fun b hb hc => hf b (.inr hc) (.inr hb)⟩
      · rw [if_neg hrt, if_neg hrt]
        exact h.apart u (hin u hu hut) r (hin r hr hrt) hne
theorem Tab.as (h : Tab B w M k ns X P V) {X' : Int → Tx} (hX : ∀ t ∈ ns, X' t = X t) : Tab B w M k ns X' P V :=
  ⟨h.base, h.map, fun t ht => by rw [hX t ht]; exact h.tx t ht, h.apart⟩
end
theorem Tab.start (w : World) {B : Nat} (hB : B ≤ w.heap.size) (X : Int → Tx) (P : Int → Nat) (V : Int → Value) : Tab B (w.alloc (.map #[] 0)) w.heap.size 0 [] X P V :=
  ⟨hB, ⟨.map [], World.ownsMap_made w _ _ _, fun _ _ => ⟨fun h => (List.not_mem_nil h).elim, fun _ => rfl⟩⟩, fun _ h => (List.not_mem_nil h).elim, fun _ h => (List.not_mem_nil h).elim⟩
end Go.Proofs.YtpjfhdljagkefaaGreatDoor
