/- Merged: GphC, PrpB, TabE. -/
import Derived.Test.YtmnblljenobofaaGreatDoorMg6
import Derived.Test.YtmnblljenobofaaGreatDoorMg1
import Derived.Test.YtmnblljenobofaaGreatDoorShelf
import Derived.Test.YtmnblljenobofaaGreatDoorMg4
import Derived.Deep.RegionLaw
import Derived.Maps.RangeWalk
/- Plain words: what the program's graph is made of, read by read. -/
namespace Go.Proofs.YtmnblljenobofaaGreatDoor.WPlain
end Go.Proofs.YtmnblljenobofaaGreatDoor.WPlain
namespace Go.Proofs.YtmnblljenobofaaGreatDoor.QPlain
end Go.Proofs.YtmnblljenobofaaGreatDoor.QPlain
namespace Go.Proofs.YtmnblljenobofaaGreatDoor.RPlain
open WPlain QPlain

/-- what is written last of a variable; 0, if nothing is -/
def lastGv (ops : List Rwo) (v : Int) : Int := withM zeroM ops v
theorem last_snoc (ops : List Rwo) (o : Rwo) (v : Int) : lastGv (ops ++ [o]) v = if (o.w && decide (o.v = v)) = true then o.x else lastGv ops v := by
  unfold lastGv
  rw [withM_app, withM_cons, withM_nil]
  cases hb : o.w with
  | false => simp
  | true =>
    simp only [if_true, Bool.true_and, decide_eq_true_eq, putM]
    by_cases hv : o.v = v
    · rw [if_pos hv.symm, if_pos hv]
    · rw [if_neg (fun hc => hv hc.symm), if_neg hv]
/-- may a read be of its source, as the program tells it? -/
def canB (l : List Tx) (c t n : Nat) (o : Rwo) (s : Int) : Bool :=
  if s = -1 then true else if s = -2 then false else if s = (t : Int) then decide (o.x = lastGv ((opsAt l t).take n) o.v)
  else c.testBit s.toNat && decide (o.x = lastGv (opsAt l s.toNat) o.v)
theorem dec_symm (a b : Int) : decide (a = b) = decide (b = a) := by
  by_cases h : a = b
  · subst h; rfl
  · rw [decide_eq_false h, decide_eq_false (fun hc => h hc.symm)]
theorem expl_can {l : List Tx} {c t n : Nat} {o : Rwo} (ho : (opsAt l t)[n]? = some o) (hw : o.w = false) : expl1 l c t n = canB l c t n o (srcS l t n) := by
  unfold expl1 canB
  rw [ho]
  dsimp only
  rw [if_neg (by rw [hw]; simp)]
  rcases src_cases ho hw with ⟨e1, e2⟩ | ⟨e1, e2, e3⟩ | ⟨e1, e2, e3⟩
  · rw [e2, if_pos rfl, if_neg (by omega), if_neg (by omega), if_pos rfl, (fin_with zeroM _ _ _).1 e1, dec_symm]
    rfl
  · rw [e3, if_neg (by omega), if_pos (by omega), if_pos rfl]
    rfl
  · rcases e3 with ⟨w, f1, f2, f3, f4⟩ | ⟨_, f2⟩
    · have hown : ownsB (opsAt l w) o.v = true := by
        obtain ⟨p, hp, hpw, hpv, _⟩ := writes_iff.1 f3
        exact owns_iff.2 ⟨p, hp, hpw, hpv⟩
      rw [f4, if_neg (by omega), if_neg (by omega), if_neg (by omega), if_neg (by omega), if_neg (by omega), Int.toNat_natCast, (fin_with zeroM _ _ _).1 hown, dec_symm, Bool.and_comm]
      rfl
    · rw [f2, if_neg (by omega), if_pos (by omega), if_neg (by omega), if_pos rfl]
      rfl
theorem expl_write {l : List Tx} {c t n : Nat} {o : Rwo} (ho : (opsAt l t)[n]? = some o) (hw : o.w = true) : expl1 l c t n = true := by
  unfold expl1
  rw [ho]
  dsimp only
  rw [if_pos hw]
/-- what was read can be explained, up to an Op -/
def explTo (l : List Tx) (c t n : Nat) : Bool := ((List.range t).all fun t' => (List.range (opsAt l t').length).all (expl1 l c t')) && (List.range n).all (expl1 l c t)
theorem explTo_zero (l : List Tx) (c : Nat) : explTo l c 0 0 = true := rfl
theorem explTo_next (l : List Tx) (c t n : Nat) : explTo l c t (n + 1) = (explTo l c t n && expl1 l c t n) := by
  unfold explTo
  rw [List.range_succ, List.all_append, Bool.and_assoc]
  simp
theorem explTo_row (l : List Tx) (c t : Nat) : explTo l c (t + 1) 0 = explTo l c t (opsAt l t).length := by
  unfold explTo
  rw [List.range_succ, List.all_append]
  simp
theorem explTo_all (l : List Tx) (c : Nat) : explTo l c l.length 0 = readS l c := by
  unfold explTo readS
  simp
/-- an edge is put -/
def putGe (A : List Nat) (p : Nat × Nat) : List Nat := A.set p.1 ((A[p.1]?.getD 0) ||| 2 ^ p.2)
theorem puts_len (es : List (Nat × Nat)) : ∀ A : List Nat, (es.foldl putGe A).length = A.length := by
  induction es with
  | nil => intro A; rfl
  | cons p r ih =>
    intro A
    rw [List.foldl_cons, ih]
    unfold putGe
    rw [List.length_set]
theorem puts_test (es : List (Nat × Nat)) : ∀ (A : List Nat) (i k : Nat), i < A.length → (((es.foldl putGe A)[i]?).getD 0).testBit k = (((A[i]?).getD 0).testBit k || decide ((i, k) ∈ es)) := by
  induction es with
  | nil => intro A i k _; simp
  | cons p r ih =>
    intro A i k hi
    have hl : (putGe A p).length = A.length := by unfold putGe; rw [List.length_set]
    rw [List.foldl_cons, ih _ i k (by rw [hl]; exact hi)]
    obtain ⟨a, b⟩ := p
    unfold putGe
    dsimp only
    rw [List.getElem?_set]
    by_cases ha : a = i
    · subst ha
      rw [if_pos rfl, if_pos hi, Option.getD_some, Nat.testBit_or, Nat.testBit_two_pow]
      by_cases hb : b = k
      · subst hb; simp
      · have : ¬ k = b := fun hc => hb hc.symm
        simp [hb, this]
    · have : ¬ i = a := fun hc => ha hc.symm
      rw [if_neg ha]
      simp [this]
/-- the edges of a read: of its source, and of the other writers -/
def headE (s : Int) (t : Nat) : List (Nat × Nat) := if s = -1 then [] else [(s.toNat, t)]
def sideE (l : List Tx) (c : Nat) (row : List Nat) (t : Nat) (s v : Int) (k : Nat) : List (Nat × Nat) :=
  if (k = t ∨ (k : Int) = s) ∨ wrt l c k v = false then [] else if s = -1 ∨ aheadB s.toNat k row = true then [(t, k)] else [(k, s.toNat)]
def readE (l : List Tx) (c : Nat) (row : List Nat) (t : Nat) (s v : Int) : List (Nat × Nat) := headE s t ++ (List.range l.length).flatMap (sideE l c row t s v)
def edgesE (l : List Tx) (c : Nat) (row : List Nat) (t n : Nat) : List (Nat × Nat) := match (opsAt l t)[n]? with
  | none => []
  | some o => if o.w = true ∨ srcS l t n = (t : Int) then [] else readE l c row t (srcS l t n) o.v
def edgesTo (l : List Tx) (c : Nat) (row : List Nat) (t n : Nat) : List (Nat × Nat) :=
  ((List.range t).flatMap fun t' => (List.range (opsAt l t').length).flatMap (edgesE l c row t')) ++ (List.range n).flatMap (edgesE l c row t)
/-- the graph, as far as it is built -/
def grA (l : List Tx) (c : Nat) (row : List Nat) (t n : Nat) : List Nat := (edgesTo l c row t n).foldl putGe (afterS l)
theorem grA_next (l : List Tx) (c : Nat) (row : List Nat) (t n : Nat) : grA l c row t (n + 1) = (edgesE l c row t n).foldl putGe (grA l c row t n) := by
  unfold grA
  rw [← List.foldl_append]
  congr 1
  unfold edgesTo
  rw [List.range_succ, List.flatMap_append, List.append_assoc]
  simp
theorem grA_row (l : List Tx) (c : Nat) (row : List Nat) (t : Nat) : grA l c row (t + 1) 0 = grA l c row t (opsAt l t).length := by
  unfold grA
  congr 1
  unfold edgesTo
  rw [List.range_succ, List.flatMap_append]
  simp
theorem grA_len (l : List Tx) (c : Nat) (row : List Nat) (t n : Nat) : (grA l c row t n).length = l.length := by
  unfold grA
  rw [puts_len, afterS_len]
/-- places of edges are transactions -/
theorem src_lt {l : List Tx} {t n : Nat} (ht : t < l.length) : (srcS l t n).toNat < l.length := by
  unfold srcS
  split
  · omega
  · split
    · omega
    · split
      · omega
      · split
        · rename_i k hf
          have := List.mem_range.1 (List.mem_of_find?_eq_some hf)
          omega
        · omega
theorem side_lt {l : List Tx} {c : Nat} {row : List Nat} {t : Nat} {s v : Int} {k : Nat} (ht : t < l.length) (hs : s.toNat < l.length) (hk : k < l.length) : ∀ p ∈ sideE l c row t s v k, p.1 < l.length ∧ p.2 < l.length := by
  intro p hp
  unfold sideE at hp
  split at hp
  · cases hp
  · split at hp
    · rw [List.mem_singleton] at hp; subst hp; exact ⟨ht, hk⟩
    · rw [List.mem_singleton] at hp; subst hp; exact ⟨hk, hs⟩
theorem head_lt {l : List Tx} {t : Nat} {s : Int} (ht : t < l.length) (hs : s.toNat < l.length) : ∀ p ∈ headE s t, p.1 < l.length ∧ p.2 < l.length := by
  intro p hp
  unfold headE at hp
  split at hp
  · cases hp
  · rw [List.mem_singleton] at hp; subst hp; exact ⟨hs, ht⟩
/-- rows whose numbers fit -/
def Fit32 (A : List Nat) : Prop := ∀ x ∈ A, x < 4294967296
theorem puts_fit {n : Nat} (hn : n ≤ 6) : ∀ (es : List (Nat × Nat)) (A : List Nat), (∀ p ∈ es, p.2 < n) → Fit32 A → Fit32 (es.foldl putGe A) := by
  intro es
  induction es with
  | nil => intro A _ h; exact h
  | cons p r ih =>
    intro A hp h
    refine ih _ (fun q hq => hp q (List.mem_cons_of_mem _ hq)) fun x hx => ?_
    unfold putGe at hx
    rcases List.mem_or_eq_of_mem_set hx with hx | rfl
    · exact h x hx
    · refine Nat.or_lt_two_pow (n := 32) ?_ (Nat.pow_lt_pow_right (a := 2) (by decide) (by have := hp p (List.mem_cons_self ..); omega))
      cases hg : A[p.1]? with
      | none => exact Nat.two_pow_pos 32
      | some y => exact h y (List.mem_of_getElem? hg)
/-- what edges there are -/
theorem mem_edgesE {l : List Tx} {c : Nat} {row : List Nat} {t n i k : Nat} : (i, k) ∈ edgesE l c row t n ↔ ∃ o, (opsAt l t)[n]? = some o ∧ o.w = false ∧ srcS l t n ≠ (t : Int) ∧ (i, k) ∈ readE l c row t (srcS l t n) o.v := by
  unfold edgesE
  cases ho : (opsAt l t)[n]? with
  | none => simp
  | some o =>
    dsimp only
    constructor
    · intro h
      split at h
      · cases h
      · rename_i h1
        rw [not_or] at h1
        exact ⟨o, rfl, by simpa using h1.1, h1.2, h⟩
    · rintro ⟨o', h1, h2, h3, h4⟩
      obtain rfl := Option.some.inj h1
      rw [if_neg (by rw [h2]; simp [h3])]
      exact h4
theorem mem_edgesTo {l : List Tx} {c : Nat} {row : List Nat} {i k : Nat} : (i, k) ∈ edgesTo l c row l.length 0 ↔ ∃ t n o, t < l.length ∧ (opsAt l t)[n]? = some o ∧ o.w = false ∧ srcS l t n ≠ (t : Int) ∧ (i, k) ∈ readE l c row t (srcS l t n) o.v := by
  unfold edgesTo
  simp only [List.range_zero, List.flatMap_nil, List.append_nil, List.mem_flatMap, List.mem_range]
  constructor
  · rintro ⟨t, ht, n, hn, h⟩
    obtain ⟨o, h1, h2, h3, h4⟩ := mem_edgesE.1 h
    exact ⟨t, n, o, ht, h1, h2, h3, h4⟩
  · rintro ⟨t, n, o, ht, h1, h2, h3, h4⟩
    exact ⟨t, ht, n, (List.getElem?_eq_some_iff.1 h1).1, mem_edgesE.2 ⟨o, h1, h2, h3, h4⟩⟩
theorem opsAt_lt {l : List Tx} {t n : Nat} {o : Rwo} (h : (opsAt l t)[n]? = some o) : t < l.length := by
  unfold opsAt at h
  cases hl : l[t]? with
  | none => rw [hl] at h; cases h
  | some X => exact (List.getElem?_eq_some_iff.1 hl).1
theorem ahead_other {l : List Tx} {row : List Nat} (hw : Whole l row) {a b : Nat} (ha : a < l.length) (hb : b < l.length) (hne : a ≠ b) : aheadB a b row = !aheadB b a row := by
  obtain ⟨p, hp, rfl⟩ := whole_at hw ha
  obtain ⟨q, hq, rfl⟩ := whole_at hw hb
  have h1 := ahead_iff hw.nodup hp hq rfl rfl
  have h2 := ahead_iff hw.nodup hq hp rfl rfl
  have hpq : p ≠ q := fun hc => hne (by subst hc; rfl)
  cases h3 : aheadB row[q] row[p] row with
  | true =>
    have := h2.1 h3
    cases h4 : aheadB row[p] row[q] row with
    | true => have := h1.1 h4; omega
    | false => rfl
  | false =>
    cases h4 : aheadB row[p] row[q] row with
    | true => rfl
    | false =>
      rcases Nat.lt_or_ge p q with h | h
      · rw [h1.2 h] at h4; cases h4
      · rw [h2.2 (by omega)] at h3; cases h3
/-- of a read that can be explained: its source is none, or another one -/
theorem read_src {l : List Tx} {c t n : Nat} {o : Rwo} (hread : readS l c = true) (ho : (opsAt l t)[n]? = some o) (hr : o.w = false) : srcS l t n = (t : Int) ∨ srcS l t n = -1 ∨ ∃ w : Nat, w < l.length ∧ w ≠ t ∧ srcS l t n = (w : Int) := by
  rcases src_cases ho hr with ⟨_, e2⟩ | ⟨_, _, e3⟩ | ⟨_, _, ⟨w, f1, f2, _, f4⟩ | ⟨_, f2⟩⟩
  · exact .inl e2
  · exact .inr (.inl e3)
  · exact .inr (.inr ⟨w, f1, f2, f4⟩)
  · exfalso
    unfold readS at hread
    rw [List.all_eq_true] at hread
    have h1 := hread t (List.mem_range.2 (opsAt_lt ho))
    rw [List.all_eq_true] at h1
    have h2 := h1 n (List.mem_range.2 (List.getElem?_eq_some_iff.1 ho).1)
    rw [expl_can ho hr, f2] at h2
    unfold canB at h2
    rw [if_neg (by omega), if_pos rfl] at h2
    cases h2
/-- .. who is to come behind whom -/
theorem edges_beh {l : List Tx} {c : Nat} {row : List Nat} (hw : Whole l row) (hread : readS l c = true) {i k : Nat} (hi : i < l.length) (hk : k < l.length) : (bfrAt l i k || decide ((i, k) ∈ edgesTo l c row l.length 0)) = behB l c row i k := by
  have hpt : decide ((i, k) ∈ edgesTo l c row l.length 0) = (third l c row i k || secnd l i k || (List.range l.length).any fun t => fourth l c row t i k) := by
    rw [Bool.eq_iff_iff, decide_eq_true_eq, mem_edgesTo]
    simp only [Bool.or_eq_true, List.any_eq_true, List.mem_range]
    constructor
    · rintro ⟨t, n, o, ht, ho, hr, hs, hm⟩
      unfold readE at hm
      rw [List.mem_append, List.mem_flatMap] at hm
      rcases read_src hread ho hr with h1 | h1 | ⟨w, h1, h2, h3⟩
      · exact absurd h1 hs
      · rcases hm with hm | ⟨x, hx, hm⟩
        · unfold headE at hm
          rw [if_pos h1] at hm
          cases hm
        · unfold sideE at hm
          split at hm
          · cases hm
          · rename_i hc
            simp only [not_or] at hc
            rw [if_pos (.inl h1), List.mem_singleton, Prod.mk.injEq] at hm
            obtain ⟨rfl, rfl⟩ := hm
            refine .inl (.inl (third_iff.2 ⟨n, o, ho, hr, hs, hc.1.1, hc.1.2, by simpa using hc.2, .inl (by omega)⟩))
      · rcases hm with hm | ⟨x, hx, hm⟩
        · unfold headE at hm
          rw [if_neg (by omega), List.mem_singleton, Prod.mk.injEq, h3, Int.toNat_natCast] at hm
          obtain ⟨rfl, rfl⟩ := hm
          exact .inl (.inr (secnd_iff.2 ⟨n, o, ho, hr, h2, h3⟩))
        · unfold sideE at hm
          split at hm
          · cases hm
          · rename_i hc
            simp only [not_or] at hc
            split at hm
            · rename_i hc2
              rw [List.mem_singleton, Prod.mk.injEq] at hm
              obtain ⟨rfl, rfl⟩ := hm
              refine .inl (.inl (third_iff.2 ⟨n, o, ho, hr, hs, hc.1.1, hc.1.2, by simpa using hc.2, ?_⟩))
              rcases hc2 with hc2 | hc2
              · exact .inl (by omega)
              · exact .inr hc2
            · rename_i hc2
              simp only [not_or] at hc2
              rw [List.mem_singleton, Prod.mk.injEq, h3, Int.toNat_natCast] at hm
              obtain ⟨rfl, rfl⟩ := hm
              have hne : i ≠ k := fun he => hc.1.2 (by rw [h3, he])
              refine .inr ⟨t, ht, fourth_iff.2 ⟨n, o, ho, hr, hs, h3, hc.1.1, hne, by simpa using hc.2, ?_⟩⟩
              rw [ahead_other hw hi hk hne]
              have := hc2.2
              rw [h3, Int.toNat_natCast] at this
              simpa using this
    · rintro ((h | h) | ⟨t, ht, h⟩)
      · obtain ⟨n, o, ho, hr, h3, h4, h5, h6, h7⟩ := third_iff.1 h
        refine ⟨i, n, o, hi, ho, hr, h3, ?_⟩
        unfold readE
        rw [List.mem_append, List.mem_flatMap]
        refine .inr ⟨k, List.mem_range.2 hk, ?_⟩
        unfold sideE
        rw [if_neg (by rw [h6]; simp [h4, h5]), if_pos, List.mem_singleton]
        rcases h7 with h7 | h7
        · rcases read_src hread ho hr with g1 | g1 | ⟨w, g1, g2, g3⟩
          · exact absurd g1 h3
          · exact .inl g1
          · omega
        · exact .inr h7
      · obtain ⟨n, o, ho, hr, h3, h4⟩ := secnd_iff.1 h
        refine ⟨k, n, o, hk, ho, hr, by omega, ?_⟩
        unfold readE
        rw [List.mem_append]
        refine .inl ?_
        unfold headE
        rw [if_neg (by omega), List.mem_singleton, h4, Int.toNat_natCast]
      · obtain ⟨n, o, ho, hr, h3, h4, h5, h6, h7, h8⟩ := fourth_iff.1 h
        refine ⟨t, n, o, ht, ho, hr, h3, ?_⟩
        unfold readE
        rw [List.mem_append, List.mem_flatMap]
        refine .inr ⟨i, List.mem_range.2 hi, ?_⟩
        unfold sideE
        have hki : ¬ ((i : Int) = srcS l t n) := by omega
        rw [if_neg (by rw [h7]; simp [h5, hki]), if_neg, List.mem_singleton, h4, Int.toNat_natCast]
        rintro (hc | hc)
        · omega
        · rw [h4, Int.toNat_natCast, ahead_other hw hk hi (fun hc => h6 hc.symm), h8] at hc
          cases hc
  rw [hpt]
  unfold behB
  simp only [Bool.or_assoc]
theorem grA_all {l : List Tx} {c : Nat} {row : List Nat} (hw : Whole l row) (hread : readS l c = true) : grA l c row l.length 0 = buildS l c row := by
  have hl1 := grA_len l c row l.length 0
  have hl2 : (buildS l c row).length = l.length := by unfold buildS; rw [List.length_map, List.length_range]
  refine List.ext_getElem (hl1.trans hl2.symm) fun i h1 h2 => ?_
  have hi : i < l.length := by omega
  have hb : (buildS l c row)[i] = bitsN (behB l c row i) l.length := by simp [buildS]
  refine Nat.eq_of_testBit_eq fun k => ?_
  rw [hb, bitsN_test]
  have ha : (afterS l)[i]? = some (afterN l l[i]) := by
    unfold afterS
    rw [List.getElem?_map, List.getElem?_eq_getElem hi]
    rfl
  have hp := puts_test (edgesTo l c row l.length 0) (afterS l) i k (by rw [afterS_len]; exact hi)
  have hg : (((edgesTo l c row l.length 0).foldl putGe (afterS l))[i]?).getD 0 = (grA l c row l.length 0)[i] := by
    rw [show (edgesTo l c row l.length 0).foldl putGe (afterS l) = grA l c row l.length 0 from rfl, List.getElem?_eq_getElem h1]
    rfl
  rw [hg, ha, Option.getD_some] at hp
  rw [hp]
  by_cases hk : k < l.length
  · rw [decide_eq_true hk, Bool.true_and, ← edges_beh hw hread hi hk, afterN_test l _ hk, bfrAt_at hi hk]
  · rw [decide_eq_false hk, Bool.false_and, Nat.testBit_lt_two_pow (Nat.lt_of_lt_of_le (afterN_lt l _) (Nat.pow_le_pow_right (by decide) (by omega))), Bool.false_or]
    refine decide_eq_false fun hm => ?_
    obtain ⟨t, n, o, ht, ho, hr, hs, hm⟩ := mem_edgesTo.1 hm
    unfold readE at hm
    rw [List.mem_append, List.mem_flatMap] at hm
    rcases hm with hm | ⟨x, hx, hm⟩
    · have := (head_lt ht (src_lt ht) _ hm).2
      exact hk this
    · have := (side_lt ht (src_lt ht) (List.mem_range.1 hx) _ hm).2
      exact hk this
theorem grA_fit {l : List Tx} (h6 : l.length ≤ 6) (c : Nat) (row : List Nat) (t n : Nat) : Fit32 (grA l c row t n) := by
  unfold grA
  refine puts_fit h6 _ _ (fun p hp => ?_) (fun x hx => ?_)
  · have hE : ∀ t' n', t' < l.length ∨ l.length ≤ t' → ∀ p ∈ edgesE l c row t' n', p.2 < l.length := by
      rintro t' n' - ⟨i, k⟩ hp
      obtain ⟨o, ho, _, _, hm⟩ := mem_edgesE.1 hp
      have ht := opsAt_lt ho
      unfold readE at hm
      rw [List.mem_append, List.mem_flatMap] at hm
      rcases hm with hm | ⟨x, hx, hm⟩
      · exact (head_lt ht (src_lt ht) _ hm).2
      · exact (side_lt ht (src_lt ht) (List.mem_range.1 hx) _ hm).2
    unfold edgesTo at hp
    rw [List.mem_append, List.mem_flatMap, List.mem_flatMap] at hp
    rcases hp with ⟨t', _, hp⟩ | ⟨n', _, hp⟩
    · rw [List.mem_flatMap] at hp
      obtain ⟨n', _, hp⟩ := hp
      exact hE t' n' (Nat.lt_or_ge _ _) p hp
    · exact hE t n' (Nat.lt_or_ge _ _) p hp
  · unfold afterS at hx
    obtain ⟨X, _, rfl⟩ := List.mem_map.1 hx
    exact Nat.lt_of_lt_of_le (afterN_lt l X) (Nat.pow_le_pow_right (n := 2) (i := l.length) (j := 32) (by decide) (by omega))
end Go.Proofs.YtmnblljenobofaaGreatDoor.RPlain
/- Maps of maps, of the call's own: laws of no program; and what moves hands back. -/
namespace Go.Proofs.YtmnblljenobofaaGreatDoor.WPlain
end Go.Proofs.YtmnblljenobofaaGreatDoor.WPlain
namespace Go.Proofs.YtmnblljenobofaaGreatDoor.QPlain
end Go.Proofs.YtmnblljenobofaaGreatDoor.QPlain
namespace Go.Proofs.YtmnblljenobofaaGreatDoor
open Go.RowKit WPlain QPlain
open Go.Maps (Keyed)

/-- how an element that is a map reads: by its block -/
def mapE : Value → Option (DataW Unit × List MemPlace)
  | .map (some b) => some (.lit (.int .i64 (b : Int)), [])
  | .map none => some (.lit (.int .i64 (-1)), [])
  | _ => none
theorem mapE_inv {v : Value} {b : Nat} {ps : List MemPlace} (h : mapE v = some (.lit (.int .i64 (b : Int)), ps)) : v = .map (some b) := by
  unfold mapE at h
  split at h
  · rename_i b'
    simp at h
    obtain rfl : b' = b := by omega
    rfl
  · simp at h
  · cases h
theorem ownsMap_below {H : Type} {P : Program} {k : TypeId} {R : Value → Option (DataW H × List MemPlace)} {w w' : World} {b n B : Nat} {D : DataW H} (h : w.ownsMap P k R b n D) (hb : Below B w w') (hlt : b < B) : w'.ownsMap P k R b n D := by
  obtain ⟨es, clock, hh, r⟩ := h
  exact ⟨es, clock, (hb.block b hlt).trans hh, r⟩
theorem stateK : Keyed Tryz.prog 165 := Maps.int_keyed Tryz.underlying165
theorem intK : Keyed Tryz.prog 3 := Maps.int_keyed Tryz.underlying3
theorem key_state {i : Int} (h : (Lit.int .i64 i).wf = true) : keyOf Tryz.prog 165 (.int .i64 i) = some (.int .i64 i) := Maps.keyOf_int_mk Tryz.underlying165 h
theorem key_int {i : Int} (h : (Lit.int .i64 i).wf = true) : keyOf Tryz.prog 3 (.int .i64 i) = some (.int .i64 i) := Maps.keyOf_int_mk Tryz.underlying3 h
theorem elem_state {i : Int} (h : (Lit.int .i64 i).wf = true) : plainElem (H := Unit) Tryz.prog 165 (.int .i64 i) = some (.lit (.int .i64 i), []) := plainElem_int Tryz.underlying165 h
theorem zeroState (w : World) : (zeroValue 165).run Tryz.prog w = .ok (.int .i64 0) w := by kernel_rfl
theorem zeroMap (w : World) : (zeroValue 154).run Tryz.prog w = .ok (.map none) w := by kernel_rfl
/-- what moves hands back: a map of the states' maps, all between two numbers -/
def Mov (B U : Nat) (w : World) (b : Nat) : Prop :=
  B ≤ b ∧ b < U ∧ ∃ n D, w.ownsMap Tryz.prog 165 mapE b n D ∧ ∀ s : Nat, s < 8 → ∃ bs m, B ≤ bs ∧ bs < U ∧ (∀ z, D.atKey (.int .i64 (s : Int)) z = .lit (.int .i64 (bs : Int))) ∧ w.ownsMap Tryz.prog 3 (plainElem Tryz.prog 165) bs m (rowD s)
theorem Mov.below {B U C : Nat} {w w' : World} {b : Nat} (h : Mov B U w b) (hb : Below C w w') (hC : w.heap.size ≤ C) : Mov B U w' b := by
  obtain ⟨hB, hU, n, D, ho, hs⟩ := h
  refine ⟨hB, hU, n, D, ownsMap_below ho hb (Nat.lt_of_lt_of_le ho.lt hC), fun s h8 => ?_⟩
  obtain ⟨bs, m, h1, h4, h2, h3⟩ := hs s h8
  exact ⟨bs, m, h1, h4, h2, ownsMap_below h3 hb (Nat.lt_of_lt_of_le h3.lt hC)⟩
theorem Mov.grown {B U S : Nat} {w w' : World} {b : Nat} (h : Mov B U w b) (hg : w.grownBy w' (some S)) (hS : U ≤ S) : Mov B U w' b := by
  obtain ⟨hB, hU, n, D, ho, hs⟩ := h
  refine ⟨hB, hU, n, D, ho.kept hg (fun hh => by have hh := Option.some.inj hh; omega), fun s h8 => ?_⟩
  obtain ⟨bs, m, h1, h4, h2, h3⟩ := hs s h8
  exact ⟨bs, m, h1, h4, h2, h3.kept hg (fun hh => by have hh := Option.some.inj hh; omega)⟩
theorem Mov.mono {B B' U : Nat} {w : World} {b : Nat} (h : Mov B U w b) (hB : B' ≤ B) : Mov B' U w b := by
  obtain ⟨h1, hU, n, D, ho, hs⟩ := h
  refine ⟨Nat.le_trans hB h1, hU, n, D, ho, fun s h8 => ?_⟩
  obtain ⟨bs, m, h1, h4, h2, h3⟩ := hs s h8
  exact ⟨bs, m, Nat.le_trans hB h1, h4, h2, h3⟩
theorem wf64 {x : Int} (h1 : -9223372036854775808 ≤ x) (h2 : x ≤ 9223372036854775807) : (Lit.int .i64 x).wf = true := by
  simp [Lit.wf, IntKind.min, IntKind.max, IntKind.signed, IntKind.bits]; omega
end Go.Proofs.YtmnblljenobofaaGreatDoor
/- How a table being built lies in memory: a map of pointers, by names. -/
namespace Go.Proofs.YtmnblljenobofaaGreatDoor.WPlain
end Go.Proofs.YtmnblljenobofaaGreatDoor.WPlain
namespace Go.Proofs.YtmnblljenobofaaGreatDoor.QPlain
end Go.Proofs.YtmnblljenobofaaGreatDoor.QPlain
namespace Go.Proofs.YtmnblljenobofaaGreatDoor.RPlain
end Go.Proofs.YtmnblljenobofaaGreatDoor.RPlain
namespace Go.Proofs.YtmnblljenobofaaGreatDoor
open Go.RowKit WPlain QPlain RPlain
open Go.Maps (Keyed)

/-- how an element that is a pointer reads: by its block -/
def ptrE : Value → Option (DataW Unit × List MemPlace)
  | .pointer (some ⟨b, 0, none⟩) => some (.lit (.int .i64 (b : Int)), [])
  | .pointer none => some (.lit (.int .i64 (-1)), [])
  | _ => none
theorem ptrE_inv {v : Value} {b : Nat} {ps : List MemPlace} (h : ptrE v = some (.lit (.int .i64 (b : Int)), ps)) : v = .pointer (some ⟨b, 0, none⟩) := by
  unfold ptrE at h
  split at h
  · rename_i b'
    simp at h
    obtain rfl : b' = b := by omega
    rfl
  · simp at h
  · cases h
theorem ptrE_nil {v : Value} {ps : List MemPlace} (h : ptrE v = some (.lit (.int .i64 (-1)), ps)) : v = .pointer none := by
  unfold ptrE at h
  split at h
  · simp at h
  · rfl
  · cases h
theorem zeroPtr (w : World) : (zeroValue 139).run Tryz.prog w = .ok (.pointer none) w := by kernel_rfl
/-- block M is a map of pointers to the transactions of the names ns -/
structure Tab (B : Nat) (w : World) (M k : Nat) (ns : List Int) (X : Int → Tx) (P : Int → Nat) (V : Int → Value) : Prop where
  base : B ≤ M
  map : ∃ D, w.ownsMap Tryz.prog 3 ptrE M k D ∧ ∀ t : Int, (Lit.int .i64 t).wf = true → (t ∈ ns → Maps.has D (.int .i64 t) = true ∧ ∀ z, D.atKey (.int .i64 t) z = .lit (.int .i64 (P t : Int))) ∧ (t ∉ ns → Maps.has D (.int .i64 t) = false)
  tx : ∀ t ∈ ns, B ≤ P t ∧ Txm B w (P t) (X t).n (X t).f (X t).l (X t).s (V t) (X t).o
  apart : ∀ t ∈ ns, ∀ u ∈ ns, t ≠ u → P t ≠ P u ∧ ∀ b, (V t).ownBlock = some b → (V u).ownBlock ≠ some b
section
variable {B M k : Nat} {w w' : World} {ns : List Int} {X : Int → Tx} {P : Int → Nat} {V : Int → Value} {S : Nat → Prop}
theorem Tab.only (h : Tab B w M k ns X P V) (ho : Only S w w') (hM : ¬ S M) (hn : ∀ t ∈ ns, ∀ b, Mine (P t) (V t) b → ¬ S b) : Tab B w' M k ns X P V := by
  obtain ⟨D, ⟨es, clock, hh, hr⟩, hd⟩ := h.map
  exact ⟨h.base, ⟨D, ⟨es, clock, (ho.block M (Array.getElem?_eq_some_iff.1 hh).1 hM).trans hh, hr⟩, hd⟩, fun t ht => ⟨(h.tx t ht).1, (h.tx t ht).2.only ho (hn t ht)⟩, h.apart⟩
theorem Tab.below (h : Tab B w M k ns X P V) (hb : Below w.heap.size w w') : Tab B w' M k ns X P V :=
  h.only (S := fun _ => False) (Only.of_below hb) (fun hf => hf) (fun _ _ _ _ hf => hf)
theorem Tab.look_yes (h : Tab B w M k ns X P V) {t : Int} (hw : (Lit.int .i64 t).wf = true) (ht : t ∈ ns) :
    (Instr.lookup 138 (.map (some M)) (.int .i64 t) true).run Tryz.prog w = .ok (.tuple #[.pointer (some ⟨P t, 0, none⟩), .bool true]) w := by
  obtain ⟨D, ho, hd⟩ := h.map
  obtain ⟨v, ps, hr, hv⟩ := ho.look_ok intK Tryz.underlying138 (zeroPtr w) (zd := .lit (.int .i64 (-1))) (zp := []) rfl (key_int hw)
  rw [((hd t hw).1 ht).1] at hr
  rw [((hd t hw).1 ht).2] at hv
  rw [hr, ptrE_inv hv]
theorem Tab.look_no (h : Tab B w M k ns X P V) {t : Int} (hw : (Lit.int .i64 t).wf = true) (ht : t ∉ ns) :
    (Instr.lookup 138 (.map (some M)) (.int .i64 t) true).run Tryz.prog w = .ok (.tuple #[.pointer none, .bool false]) w := by
  obtain ⟨D, ho, hd⟩ := h.map
  obtain ⟨v, ps, hr, hv⟩ := ho.look_ok intK Tryz.underlying138 (zeroPtr w) (zd := .lit (.int .i64 (-1))) (zp := []) rfl (key_int hw)
  rw [(hd t hw).2 ht] at hr
  rw [Maps.atKey_of_not_has ((hd t hw).2 ht)] at hv
  rw [hr, ptrE_nil hv]
theorem Tab.look (h : Tab B w M k ns X P V) {t : Int} (hw : (Lit.int .i64 t).wf = true) (ht : t ∈ ns) :
    (Instr.lookup 138 (.map (some M)) (.int .i64 t) false).run Tryz.prog w = .ok (.pointer (some ⟨P t, 0, none⟩)) w := by
  obtain ⟨D, ho, hd⟩ := h.map
  obtain ⟨v, ps, hr, hv⟩ := ho.lookup intK Tryz.underlying138 (zeroPtr w) (zd := .lit (.int .i64 (-1))) (zp := []) rfl (key_int hw)
  rw [((hd t hw).1 ht).2] at hv
  rw [hr, ptrE_inv hv]
/-- the map's block is none of a transaction's -/
theorem Tab.notM (h : Tab B w M k ns X P V) {t : Int} (ht : t ∈ ns) : ¬ Mine (P t) (V t) M := by
  obtain ⟨D, ⟨es, clock, hh, _⟩, _⟩ := h.map
  have hT := (h.tx t ht).2
  rintro (hc | hc)
  · have := hT.at_
    unfold At at this
    rw [← hc, hh] at this
    simp at this
  · rcases hT.row.2 with ⟨he, _⟩ | ⟨g, cap, cur, he, _, hg, _⟩
    · rw [he] at hc; simp [Value.ownBlock] at hc
    · rw [he] at hc
      simp only [Value.ownBlock, Option.some.injEq] at hc
      rw [hc, hh] at hg
      simp at hg
/-- transactions share no block -/
theorem Tab.notMine (h : Tab B w M k ns X P V) {t u : Int} (ht : t ∈ ns) (hu : u ∈ ns) (hne : t ≠ u) {b : Nat} (hb : Mine (P t) (V t) b) : ¬ Mine (P u) (V u) b := by
  have hT := (h.tx t ht).2
  have hU := (h.tx u hu).2
  have ha := h.apart t ht u hu hne
  rcases hb with rfl | hb
  · rintro (hc | hc)
    · exact ha.1 hc
    · exact row_not hU.row hT.at_ (by decide) hc
  · rintro (rfl | hc)
    · exact row_not hT.row hU.at_ (by decide) hb
    · exact ha.2 b hb hc
theorem Tab.mine_lt (h : Tab B w M k ns X P V) {t : Int} (ht : t ∈ ns) {b : Nat} (hb : Mine (P t) (V t) b) : b < w.heap.size := by
  rcases hb with rfl | hb
  · exact (h.tx t ht).2.at_.lt
  · exact (own_base (h.tx t ht).2.row hb).2
theorem Tab.mine_ge (h : Tab B w M k ns X P V) {t : Int} (ht : t ∈ ns) {b : Nat} (hb : Mine (P t) (V t) b) : B ≤ b := by
  rcases hb with rfl | hb
  · exact (h.tx t ht).1
  · exact (own_base (h.tx t ht).2.row hb).1
/-- behind take -/
theorem Tab.took (h : Tab B w M k ns X P V) {t : Int} (ht : t ∈ ns) (ho : Only (Mine (P t) (V t)) w w') {x : Tx} {V' : Value} (hx : Txm B w' (P t) x.n x.f x.l x.s V' x.o) (hl : Lies w (V t) V') :
    Tab B w' M k ns (fun u => if u = t then x else X u) P (fun u => if u = t then V' else V u) := by
  obtain ⟨D, ⟨es, clock, hh, hr⟩, hd⟩ := h.map
  refine ⟨h.base, ⟨D, ⟨es, clock, (ho.block M (Array.getElem?_eq_some_iff.1 hh).1 (h.notM ht)).trans hh, hr⟩, hd⟩, fun u hu => ?_, fun u hu r hr hne => ?_⟩
  · refine ⟨(h.tx u hu).1, ?_⟩
    by_cases he : u = t
    · subst he
      rw [if_pos rfl, if_pos rfl]
      exact hx
    · rw [if_neg he, if_neg he]
      exact (h.tx u hu).2.only ho (fun b hb => h.notMine hu ht he hb)
  · refine ⟨(h.apart u hu r hr hne).1, fun b hb => ?_⟩
    have hnew : ∀ (s : Int), s ∈ ns → s ≠ t → ∀ b, V'.ownBlock = some b → (V s).ownBlock ≠ some b := by
      intro s hs hst b hb hc
      rcases hl with hl | hl
      · rw [hl] at hb
        exact (h.apart t ht s hs (fun e => hst e.symm)).2 b hb hc
      · have h1 := hl b hb
        have h2 := h.mine_lt hs (.inr hc)
        omega
    by_cases hut : u = t
    · rw [if_pos hut] at hb
      rw [if_neg (fun hc => hne (hut.trans hc.symm))]
      exact hnew r hr (fun hc => hne (hut.trans hc.symm)) b hb
    · rw [if_neg hut] at hb
      by_cases hrt : r = t
      · rw [if_pos hrt]
        exact fun hc => hnew u hu hut b hc hb
      · rw [if_neg hrt]
        exact (h.apart u hu r hr hne).2 b hb
/-- a new one -/
theorem Tab.made (h : Tab B w M k ns X P V) {t : Int} (hw : (Lit.int .i64 t).wf = true) (ht : t ∉ ns) {N : Nat} (hN : B ≤ N) {x : Tx} {v : Value} (hx : Txm B w N x.n x.f x.l x.s v x.o)
    (hfar : ∀ u ∈ ns, ∀ b, Mine N v b → ¬ Mine (P u) (V u) b) (hMN : ¬ Mine N v M) (hk : k ≤ 65536) :
    ∃ w', (Instr.mapUpdate 138 (.map (some M)) (.int .i64 t) (.pointer (some ⟨N, 0, none⟩))).run Tryz.prog w = .ok () w' ∧
      Tab B w' M (k + 1) (ns ++ [t]) (fun u => if u = t then x else X u) (fun u => if u = t then N else P u) (fun u => if u = t then v else V u) ∧ w.grownBy w' (some M) := by
  obtain ⟨D, ho, hd⟩ := h.map
  obtain ⟨w', hr, ho', hg⟩ := ho.update intK Tryz.underlying138 (by unfold maxLen; omega) (key_int hw) (show ptrE (.pointer (some ⟨N, 0, none⟩)) = some (.lit (.int .i64 (N : Int)), []) from rfl)
  have hO : Only (fun b => b = M) w w' := (Only.refl _ w).grown hg (fun b _ hb => (Option.some.inj hb).symm)
  refine ⟨w', hr, ⟨h.base, ⟨_, ho', fun u hu => ⟨fun hm => ?_, fun hm => ?_⟩⟩, fun u hu => ?_, fun u hu r hr hne => ?_⟩, hg⟩
  · by_cases he : u = t
    · subst he
      rw [if_pos rfl]
      exact ⟨Maps.has_put_same ho.isMap (intK.key (key_int hw)) _, fun z => Maps.atKey_put_same ho.isMap (intK.key (key_int hw)) _ _⟩
    · rw [if_neg he]
      have hmn : u ∈ ns := by
        rcases List.mem_append.1 hm with hm | hm
        · exact hm
        · exact absurd (List.mem_singleton.1 hm) he
      have hkne : (Lit.int .i64 u) ≠ (.int .i64 t) := fun hc => he (by simpa using hc)
      exact ⟨(Maps.has_put_other hkne _).trans ((hd u hu).1 hmn).1, fun z => (Maps.atKey_put_other hkne _ _).trans (((hd u hu).1 hmn).2 z)⟩
  · rw [List.mem_append, not_or] at hm
    have he : u ≠ t := fun hc => hm.2 (by simp [hc])
    exact (Maps.has_put_other (fun hc => he (by simpa using hc)) _).trans ((hd u hu).2 hm.1)
  · by_cases he : u = t
    · rw [if_pos he, if_pos he, if_pos he]
      exact ⟨hN, hx.only hO (fun b hb hc => hMN (hc ▸ hb))⟩
    · rw [if_neg he, if_neg he, if_neg he]
      have hmn : u ∈ ns := by
        rcases List.mem_append.1 hu with hm | hm
        · exact hm
        · exact absurd (List.mem_singleton.1 hm) he
      exact ⟨(h.tx u hmn).1, (h.tx u hmn).2.only hO (fun b hb hc => h.notM hmn (hc ▸ hb))⟩
  · have hin : ∀ s : Int, s ∈ ns ++ [t] → s ≠ t → s ∈ ns := fun s hs he => (List.mem_append.1 hs).elim id (fun hm => absurd (List.mem_singleton.1 hm) he)
    by_cases hut : u = t
    · have hrt : r ≠ t := fun hc => hne (hut.trans hc.symm)
      rw [if_pos hut, if_pos hut, if_neg hrt, if_neg hrt]
      have hf := hfar r (hin r hr hrt)
      exact ⟨fun hc => hf N (.inl rfl) (.inl hc), fun b hb hc => hf b (.inr hb) (.inr hc)⟩
    · rw [if_neg hut, if_neg hut]
      by_cases hrt : r = t
      · rw [if_pos hrt, if_pos hrt]
        have hf := hfar u (hin u hu hut)
        exact ⟨fun hc => hf N (.inl rfl) (.inl hc.symm), fun b hb hc => hf b (.inr hc) (.inr hb)⟩
      · rw [if_neg hrt, if_neg hrt]
        exact h.apart u (hin u hu hut) r (hin r hr hrt) hne
theorem Tab.as (h : Tab B w M k ns X P V) {X' : Int → Tx} (hX : ∀ t ∈ ns, X' t = X t) : Tab B w M k ns X' P V :=
  ⟨h.base, h.map, fun t ht => by rw [hX t ht]; exact h.tx t ht, h.apart⟩
end
theorem Tab.start (w : World) {B : Nat} (hB : B ≤ w.heap.size) (X : Int → Tx) (P : Int → Nat) (V : Int → Value) : Tab B (w.alloc (.map #[] 0)) w.heap.size 0 [] X P V :=
  ⟨hB, ⟨.map [], World.ownsMap_made w _ _ _, fun _ _ => ⟨fun h => (List.not_mem_nil h).elim, fun _ => rfl⟩⟩, fun _ h => (List.not_mem_nil h).elim, fun _ h => (List.not_mem_nil h).elim⟩
end Go.Proofs.YtmnblljenobofaaGreatDoor
