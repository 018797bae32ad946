/- Plain words: what the program's graph is made of, read by read. -/
import Derived.Test.YtmnblljenobofaaDoorMg8
namespace Go.Proofs.YtmnblljenobofaaDoor.WPlain
end Go.Proofs.YtmnblljenobofaaDoor.WPlain
namespace Go.Proofs.YtmnblljenobofaaDoor.QPlain
end Go.Proofs.YtmnblljenobofaaDoor.QPlain
namespace Go.Proofs.YtmnblljenobofaaDoor.RPlain
open WPlain QPlain

/-- what is written last of a variable; 0, if nothing is -/
def lastGv (ops : List Rwo) (v : Int) : Int := withM zeroM ops v
theorem last_snoc (ops : List Rwo) (o : Rwo) (v : Int) : lastGv (ops ++ [o]) v = if (o.w && decide (o.v = v)) = true then o.x else lastGv ops v := by
  unfold lastGv
  rw [withM_app, withM_cons, withM_nil]
  cases hb : o.w with
  | false => simp
  | true =>
    simp only [if_true, Bool.true_and, decide_eq_true_eq, putM]
    by_cases hv : o.v = v
    · rw [if_pos hv.symm, if_pos hv]
    · rw [if_neg (fun hc => hv hc.symm), if_neg hv]
/-- may a read be of its source, as the program tells it? -/
def canB (l : List Tx) (c t n : Nat) (o : Rwo) (s : Int) : Bool :=
  if s = -1 then true else if s = -2 then false else if s = (t : Int) then decide (o.x = lastGv ((opsAt l t).take n) o.v)
  else c.testBit s.toNat && decide (o.x = lastGv (opsAt l s.toNat) o.v)
theorem dec_symm (a b : Int) : decide (a = b) = decide (b = a) := by
  by_cases h : a = b
  · subst h; rfl
  · rw [decide_eq_false h, decide_eq_false (fun hc => h hc.symm)]
theorem expl_can {l : List Tx} {c t n : Nat} {o : Rwo} (ho : (opsAt l t)[n]? = some o) (hw : o.w = false) : expl1 l c t n = canB l c t n o (srcS l t n) := by
  unfold expl1 canB
  rw [ho]
  dsimp only
  rw [if_neg (by rw [hw]; simp)]
  rcases src_cases ho hw with ⟨e1, e2⟩ | ⟨e1, e2, e3⟩ | ⟨e1, e2, e3⟩
  · rw [e2, if_pos rfl, if_neg (by omega), if_neg (by omega), if_pos rfl, (fin_with zeroM _ _ _).1 e1, dec_symm]
    rfl
  · rw [e3, if_neg (by omega), if_pos (by omega), if_pos rfl]
    rfl
  · rcases e3 with ⟨w, f1, f2, f3, f4⟩ | ⟨_, f2⟩
    · have hown : ownsB (opsAt l w) o.v = true := by
        obtain ⟨p, hp, hpw, hpv, _⟩ := writes_iff.1 f3
        exact owns_iff.2 ⟨p, hp, hpw, hpv⟩
      rw [f4, if_neg (by omega), if_neg (by omega), if_neg (by omega), if_neg (by omega), if_neg (by omega), Int.toNat_natCast, (fin_with zeroM _ _ _).1 hown, dec_symm, Bool.and_comm]
      rfl
    · rw [f2, if_neg (by omega), if_pos (by omega), if_neg (by omega), if_pos rfl]
      rfl
theorem expl_write {l : List Tx} {c t n : Nat} {o : Rwo} (ho : (opsAt l t)[n]? = some o) (hw : o.w = true) : expl1 l c t n = true := by
  unfold expl1
  rw [ho]
  dsimp only
  rw [if_pos hw]
/-- what was read can be explained, up to an Op -/
def explTo (l : List Tx) (c t n : Nat) : Bool := ((List.range t).all fun t' => (List.range (opsAt l t').length).all (expl1 l c t')) && (List.range n).all (expl1 l c t)
theorem explTo_next (l : List Tx) (c t n : Nat) : explTo l c t (n + 1) = (explTo l c t n && expl1 l c t n) := by
  unfold explTo
  rw [List.range_succ, List.all_append, Bool.and_assoc]
  simp
theorem explTo_row (l : List Tx) (c t : Nat) : explTo l c (t + 1) 0 = explTo l c t (opsAt l t).length := by
  unfold explTo
  rw [List.range_succ, List.all_append]
  simp
theorem explTo_all (l : List Tx) (c : Nat) : explTo l c l.length 0 = readS l c := by
  unfold explTo readS
  simp
/-- an edge is put -/
def putGe (A : List Nat) (p : Nat × Nat) : List Nat := A.set p.1 ((A[p.1]?.getD 0) ||| 2 ^ p.2)
theorem puts_len (es : List (Nat × Nat)) : ∀ A : List Nat, (es.foldl putGe A).length = A.length := by
  induction es with
  | nil => intro A; rfl
  | cons p r ih =>
    intro A
    rw [List.foldl_cons, ih]
    unfold putGe
    rw [List.length_set]
theorem puts_test (es : List (Nat × Nat)) : ∀ (A : List Nat) (i k : Nat), i < A.length → (((es.foldl putGe A)[i]?).getD 0).testBit k = (((A[i]?).getD 0).testBit k || decide ((i, k) ∈ es)) := by
  induction es with
  | nil => intro A i k _; simp
  | cons p r ih =>
    intro A i k hi
    have hl : (putGe A p).length = A.length := by unfold putGe; rw [List.length_set]
    rw [List.foldl_cons, ih _ i k (by rw [hl]; exact hi)]
    obtain ⟨a, b⟩ := p
    unfold putGe
    dsimp only
    rw [List.getElem?_set]
    by_cases ha : a = i
    · subst ha
      rw [if_pos rfl, if_pos hi, Option.getD_some, Nat.testBit_or, Nat.testBit_two_pow]
      by_cases hb : b = k
      · subst hb; simp
      · have : ¬ k = b := fun hc => hb hc.symm
        simp [hb, this]
    · have : ¬ i = a := fun hc => ha hc.symm
      rw [if_neg ha]
      simp [this]
/-- the edges of a read: of its source, and of the other writers -/
def headE (s : Int) (t : Nat) : List (Nat × Nat) := if s = -1 then [] else [(s.toNat, t)]
def sideE (l : List Tx) (c : Nat) (row : List Nat) (t : Nat) (s v : Int) (k : Nat) : List (Nat × Nat) :=
  if (k = t ∨ (k : Int) = s) ∨ wrt l c k v = false then [] else if s = -1 ∨ aheadB s.toNat k row = true then [(t, k)] else [(k, s.toNat)]
def readE (l : List Tx) (c : Nat) (row : List Nat) (t : Nat) (s v : Int) : List (Nat × Nat) := headE s t ++ (List.range l.length).flatMap (sideE l c row t s v)
def edgesE (l : List Tx) (c : Nat) (row : List Nat) (t n : Nat) : List (Nat × Nat) := match (opsAt l t)[n]? with
  | none => []
  | some o => if o.w = true ∨ srcS l t n = (t : Int) then [] else readE l c row t (srcS l t n) o.v
def edgesTo (l : List Tx) (c : Nat) (row : List Nat) (t n : Nat) : List (Nat × Nat) :=
  ((List.range t).flatMap fun t' => (List.range (opsAt l t').length).flatMap (edgesE l c row t')) ++ (List.range n).flatMap (edgesE l c row t)
/-- the graph, as far as it is built -/
def grA (l : List Tx) (c : Nat) (row : List Nat) (t n : Nat) : List Nat := (edgesTo l c row t n).foldl putGe (afterS l)
theorem grA_next (l : List Tx) (c : Nat) (row : List Nat) (t n : Nat) : grA l c row t (n + 1) = (edgesE l c row t n).foldl putGe (grA l c row t n) := by
  unfold grA
  rw [← List.foldl_append]
  congr 1
  unfold edgesTo
  rw [List.range_succ, List.flatMap_append, List.append_assoc]
  simp
theorem grA_row (l : List Tx) (c : Nat) (row : List Nat) (t : Nat) : grA l c row (t + 1) 0 = grA l c row t (opsAt l t).length := by
  unfold grA
  congr 1
  unfold edgesTo
  rw [List.range_succ, List.flatMap_append]
  simp
theorem grA_len (l : List Tx) (c : Nat) (row : List Nat) (t n : Nat) : (grA l c row t n).length = l.length := by
  unfold grA
  rw [puts_len, afterS_len]
/-- places of edges are transactions -/
theorem src_lt {l : List Tx} {t n : Nat} (ht : t < l.length) : (srcS l t n).toNat < l.length := by
  unfold srcS
  split
  · omega
  · split
    · omega
    · split
      · omega
      · split
        · rename_i k hf
          have := List.mem_range.1 (List.mem_of_find?_eq_some hf)
          omega
        · omega
theorem side_lt {l : List Tx} {c : Nat} {row : List Nat} {t : Nat} {s v : Int} {k : Nat} (ht : t < l.length) (hs : s.toNat < l.length) (hk : k < l.length) : ∀ p ∈ sideE l c row t s v k, p.1 < l.length ∧ p.2 < l.length := by
  intro p hp
  unfold sideE at hp
  split at hp
  · cases hp
  · split at hp
    · rw [List.mem_singleton] at hp; subst hp; exact ⟨ht, hk⟩
    · rw [List.mem_singleton] at hp; subst hp; exact ⟨hk, hs⟩
theorem head_lt {l : List Tx} {t : Nat} {s : Int} (ht : t < l.length) (hs : s.toNat < l.length) : ∀ p ∈ headE s t, p.1 < l.length ∧ p.2 < l.length := by
  intro p hp
  unfold headE at hp
  split at hp
  · cases hp
  · rw [List.mem_singleton] at hp; subst hp; exact ⟨hs, ht⟩
/-- rows whose numbers fit -/
def Fit32 (A : List Nat) : Prop := ∀ x ∈ A, x < 4294967296
theorem puts_fit {n : Nat} (hn : n ≤ 6) : ∀ (es : List (Nat × Nat)) (A : List Nat), (∀ p ∈ es, p.2 < n) → Fit32 A → Fit32 (es.foldl putGe A) := by
  intro es
  induction es with
  | nil => intro A _ h; exact h
  | cons p r ih =>
    intro A hp h
    refine ih _ (fun q hq => hp q (List.mem_cons_of_mem _ hq)) fun x hx => ?_
    unfold putGe at hx
    rcases List.mem_or_eq_of_mem_set hx with hx | rfl
    · exact h x hx
    · refine Nat.or_lt_two_pow (n := 32) ?_ (Nat.pow_lt_pow_right (a := 2) (by decide) (by have := hp p (List.mem_cons_self ..); omega))
      cases hg : A[p.1]? with
      | none => exact Nat.two_pow_pos 32
      | some y => exact h y (List.mem_of_getElem? hg)
/-- what edges there are -/
theorem mem_edgesE {l : List Tx} {c : Nat} {row : List Nat} {t n i k : Nat} : (i, k) ∈ edgesE l c row t n ↔ ∃ o, (opsAt l t)[n]? = some o ∧ o.w = false ∧ srcS l t n ≠ (t : Int) ∧ (i, k) ∈ readE l c row t (srcS l t n) o.v := by
  unfold edgesE
  cases ho : (opsAt l t)[n]? with
  | none => simp
  | some o =>
    dsimp only
    constructor
    · intro h
      split at h
      · cases h
      · rename_i h1
        rw [not_or] at h1
        exact ⟨o, rfl, by simpa using h1.1, h1.2, h⟩
    · rintro ⟨o', h1, h2, h3, h4⟩
      obtain rfl := Option.some.inj h1
      rw [if_neg (by rw [h2]; simp [h3])]
      exact h4
theorem mem_edgesTo {l : List Tx} {c : Nat} {row : List Nat} {i k : Nat} : (i, k) ∈ edgesTo l c row l.length 0 ↔ ∃ t n o, t < l.length ∧ (opsAt l t)[n]? = some o ∧ o.w = false ∧ srcS l t n ≠ (t : Int) ∧ (i, k) ∈ readE l c row t (srcS l t n) o.v := by
  unfold edgesTo
  simp only [List.range_zero, List.flatMap_nil, List.append_nil, List.mem_flatMap, List.mem_range]
  constructor
  · rintro ⟨t, ht, n, hn, h⟩
    obtain ⟨o, h1, h2, h3, h4⟩ := mem_edgesE.1 h
    exact ⟨t, n, o, ht, h1, h2, h3, h4⟩
  · rintro ⟨t, n, o, ht, h1, h2, h3, h4⟩
    exact ⟨t, ht, n, (List.getElem?_eq_some_iff.1 h1).1, mem_edgesE.2 ⟨o, h1, h2, h3, h4⟩⟩
theorem opsAt_lt {l : List Tx} {t n : Nat} {o : Rwo} (h : (opsAt l t)[n]? = some o) : t < l.length := by
  unfold opsAt at h
  cases hl : l[t]? with
  | none => rw [hl] at h; cases h
  | some X => exact (List.getElem?_eq_some_iff.1 hl).1
theorem ahead_other {l : List Tx} {row : List Nat} (hw : Whole l row) {a b : Nat} (ha : a < l.length) (hb : b < l.length) (hne : a ≠ b) : aheadB a b row = !aheadB b a row := by
  obtain ⟨p, hp, rfl⟩ := whole_at hw ha
  obtain ⟨q, hq, rfl⟩ := whole_at hw hb
  have h1 := ahead_iff hw.nodup hp hq rfl rfl
  have h2 := ahead_iff hw.nodup hq hp rfl rfl
  have hpq : p ≠ q := fun hc => hne (by subst hc; rfl)
  cases h3 : aheadB row[q] row[p] row with
  | true =>
    have := h2.1 h3
    cases h4 : aheadB row[p] row[q] row with
    | true => have := h1.1 h4; omega
    | false => rfl
  | false =>
    cases h4 : aheadB row[p] row[q] row with
    | true => rfl
    | false =>
      rcases Nat.lt_or_ge p q with h | h
      · rw [h1.2 h] at h4; cases h4
      · rw [h2.2 (by omega)] at h3; cases h3
/-- of a read that can be explained: its source is none, or another one -/
theorem read_src {l : List Tx} {c t n : Nat} {o : Rwo} (hread : readS l c = true) (ho : (opsAt l t)[n]? = some o) (hr : o.w = false) : srcS l t n = (t : Int) ∨ srcS l t n = -1 ∨ ∃ w : Nat, w < l.length ∧ w ≠ t ∧ srcS l t n = (w : Int) := by
  rcases src_cases ho hr with ⟨_, e2⟩ | ⟨_, _, e3⟩ | ⟨_, _, ⟨w, f1, f2, _, f4⟩ | ⟨_, f2⟩⟩
  · exact .inl e2
  · exact .inr (.inl e3)
  · exact .inr (.inr ⟨w, f1, f2, f4⟩)
  · exfalso
    unfold readS at hread
    rw [List.all_eq_true] at hread
    have h1 := hread t (List.mem_range.2 (opsAt_lt ho))
    rw [List.all_eq_true] at h1
    have h2 := h1 n (List.mem_range.2 (List.getElem?_eq_some_iff.1 ho).1)
    rw [expl_can ho hr, f2] at h2
    unfold canB at h2
    rw [if_neg (by omega), if_pos rfl] at h2
    cases h2
/-- .. who is to come behind whom -/
theorem edges_beh {l : List Tx} {c : Nat} {row : List Nat} (hw : Whole l row) (hread : readS l c = true) {i k : Nat} (hi : i < l.length) (hk : k < l.length) : (bfrAt l i k || decide ((i, k) ∈ edgesTo l c row l.length 0)) = behB l c row i k := by
  have hpt : decide ((i, k) ∈ edgesTo l c row l.length 0) = (third l c row i k || secnd l i k || (List.range l.length).any fun t => fourth l c row t i k) := by
    rw [Bool.eq_iff_iff, decide_eq_true_eq, mem_edgesTo]
    simp only [Bool.or_eq_true, List.any_eq_true, List.mem_range]
    constructor
    · rintro ⟨t, n, o, ht, ho, hr, hs, hm⟩
      unfold readE at hm
      rw [List.mem_append, List.mem_flatMap] at hm
      rcases read_src hread ho hr with h1 | h1 | ⟨w, h1, h2, h3⟩
      · exact absurd h1 hs
      · rcases hm with hm | ⟨x, hx, hm⟩
        · unfold headE at hm
          rw [if_pos h1] at hm
          cases hm
        · unfold sideE at hm
          split at hm
          · cases hm
          · rename_i hc
            simp only [not_or] at hc
            rw [if_pos (.inl h1), List.mem_singleton, Prod.mk.injEq] at hm
            obtain ⟨rfl, rfl⟩ := hm
            refine .inl (.inl (third_iff.2 ⟨n, o, ho, hr, hs, hc.1.1, hc.1.2, by simpa using hc.2, .inl (by omega)⟩))
      · rcases hm with hm | ⟨x, hx, hm⟩
        · unfold headE at hm
          rw [if_neg (by omega), List.mem_singleton, Prod.mk.injEq, h3, Int.toNat_natCast] at hm
          obtain ⟨rfl, rfl⟩ := hm
          exact .inl (.inr (secnd_iff.2 ⟨n, o, ho, hr, h2, h3⟩))
        · unfold sideE at hm
          split at hm
          · cases hm
          · rename_i hc
            simp only [not_or] at hc
            split at hm
            · rename_i hc2
              rw [List.mem_singleton, Prod.mk.injEq] at hm
              obtain ⟨rfl, rfl⟩ := hm
              refine .inl (.inl (third_iff.2 ⟨n, o, ho, hr, hs, hc.1.1, hc.1.2, by simpa using hc.2, ?_⟩))
              rcases hc2 with hc2 | hc2
              · exact .inl (by omega)
              · exact .inr hc2
            · rename_i hc2
              simp only [not_or] at hc2
              rw [List.mem_singleton, Prod.mk.injEq, h3, Int.toNat_natCast] at hm
              obtain ⟨rfl, rfl⟩ := hm
              have hne : i ≠ k := fun he => hc.1.2 (by rw [h3, he])
              refine .inr ⟨t, ht, fourth_iff.2 ⟨n, o, ho, hr, hs, h3, hc.1.1, hne, by simpa using hc.2, ?_⟩⟩
              rw [ahead_other hw hi hk hne]
              have := hc2.2
              rw [h3, Int.toNat_natCast] at this
              simpa using this
    · rintro ((h | h) | ⟨t, ht, h⟩)
      · obtain ⟨n, o, ho, hr, h3, h4, h5, h6, h7⟩ := third_iff.1 h
        refine ⟨i, n, o, hi, ho, hr, h3, ?_⟩
        unfold readE
        rw [List.mem_append, List.mem_flatMap]
        refine .inr ⟨k, List.mem_range.2 hk, ?_⟩
        unfold sideE
        rw [if_neg (by rw [h6]; simp [h4, h5]), if_pos, List.mem_singleton]
        rcases h7 with h7 | h7
        · rcases read_src hread ho hr with g1 | g1 | ⟨w, g1, g2, g3⟩
          · exact absurd g1 h3
          · exact .inl g1
          · omega
        · exact .inr h7
      · obtain ⟨n, o, ho, hr, h3, h4⟩ := secnd_iff.1 h
        refine ⟨k, n, o, hk, ho, hr, by omega, ?_⟩
        unfold readE
        rw [List.mem_append]
        refine .inl ?_
        unfold headE
        rw [if_neg (by omega), List.mem_singleton, h4, Int.toNat_natCast]
      · obtain ⟨n, o, ho, hr, h3, h4, h5, h6, h7, h8⟩ := fourth_iff.1 h
        refine ⟨t, n, o, ht, ho, hr, h3, ?_⟩
        unfold readE
        rw [List.mem_append, List.mem_flatMap]
        refine .inr ⟨i, List.mem_range.2 hi, ?_⟩
        unfold sideE
        have hki : ¬ ((i : Int) = srcS l t n) := by omega
        rw [if_neg (by rw [h7]; simp [h5, hki]), if_neg, List.mem_singleton, h4, Int.toNat_natCast]
        rintro (hc | hc)
        · omega
        · rw [h4, Int.toNat_natCast, ahead_other hw hk hi (fun hc => h6 hc.symm), h8] at hc
          cases hc
  rw [hpt]
  unfold behB
  simp only [Bool.or_assoc]
theorem grA_all {l : List Tx} {c : Nat} {row : List Nat} (hw : Whole l row) (hread : readS l c = true) : grA l c row l.length 0 = buildS l c row := by
  have hl1 := grA_len l c row l.length 0
  have hl2 : (buildS l c row).length = l.length := by unfold buildS; rw [List.length_map, List.length_range]
  refine List.ext_getElem (hl1.trans hl2.symm) fun i h1 h2 => ?_
  have hi : i < l.length := by omega
  have hb : (buildS l c row)[i] = bitsN (behB l c row i) l.length := by simp [buildS]
  refine Nat.eq_of_testBit_eq fun k => ?_
  rw [hb, bitsN_test]
  have ha : (afterS l)[i]? = some (afterN l l[i]) := by
    unfold afterS
    rw [List.getElem?_map, List.getElem?_eq_getElem hi]
    rfl
  have hp := puts_test (edgesTo l c row l.length 0) (afterS l) i k (by rw [afterS_len]; exact hi)
  have hg : (((edgesTo l c row l.length 0).foldl putGe (afterS l))[i]?).getD 0 = (grA l c row l.length 0)[i] := by
    rw [show (edgesTo l c row l.length 0).foldl putGe (afterS l) = grA l c row l.length 0 from rfl, List.getElem?_eq_getElem h1]
    rfl
  rw [hg, ha, Option.getD_some] at hp
  rw [hp]
  by_cases hk : k < l.length
  · rw [decide_eq_true hk, Bool.true_and, ← edges_beh hw hread hi hk, afterN_test l _ hk, bfrAt_at hi hk]
  · rw [decide_eq_false hk, Bool.false_and, Nat.testBit_lt_two_pow (Nat.lt_of_lt_of_le (afterN_lt l _) (Nat.pow_le_pow_right (by decide) (by omega))), Bool.false_or]
    refine decide_eq_false fun hm => ?_
    obtain ⟨t, n, o, ht, ho, hr, hs, hm⟩ := mem_edgesTo.1 hm
    unfold readE at hm
    rw [List.mem_append, List.mem_flatMap] at hm
    rcases hm with hm | ⟨x, hx, hm⟩
    · have := (head_lt ht (src_lt ht) _ hm).2
      exact hk this
    · have := (side_lt ht (src_lt ht) (List.mem_range.1 hx) _ hm).2
      exact hk this
theorem grA_fit {l : List Tx} (h6 : l.length ≤ 6) (c : Nat) (row : List Nat) (t n : Nat) : Fit32 (grA l c row t n) := by
  unfold grA
  refine puts_fit h6 _ _ (fun p hp => ?_) (fun x hx => ?_)
  · have hE : ∀ t' n', t' < l.length ∨ l.length ≤ t' → ∀ p ∈ edgesE l c row t' n', p.2 < l.length := by
      rintro t' n' - ⟨i, k⟩ hp
      obtain ⟨o, ho, _, _, hm⟩ := mem_edgesE.1 hp
      have ht := opsAt_lt ho
      unfold readE at hm
      rw [List.mem_append, List.mem_flatMap] at hm
      rcases hm with hm | ⟨x, hx, hm⟩
      · exact (head_lt ht (src_lt ht) _ hm).2
      · exact (side_lt ht (src_lt ht) (List.mem_range.1 hx) _ hm).2
    unfold edgesTo at hp
    rw [List.mem_append, List.mem_flatMap, List.mem_flatMap] at hp
    rcases hp with ⟨t', _, hp⟩ | ⟨n', _, hp⟩
    · rw [List.mem_flatMap] at hp
      obtain ⟨n', _, hp⟩ := hp
      exact hE t' n' (Nat.lt_or_ge _ _) p hp
    · exact hE t n' (Nat.lt_or_ge _ _) p hp
  · unfold afterS at hx
    obtain ⟨X, _, rfl⟩ := List.mem_map.1 hx
    exact Nat.lt_of_lt_of_le (afterN_lt l X) (Nat.pow_le_pow_right (n := 2) (i := l.length) (j := 32) (by decide) (by omega))
end Go.Proofs.YtmnblljenobofaaDoor.RPlain
