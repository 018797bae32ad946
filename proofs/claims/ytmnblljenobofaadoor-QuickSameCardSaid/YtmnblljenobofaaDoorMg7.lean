/- Merged: OrdP, SerC, GphA. -/
import Derived.Test.YtmnblljenobofaaDoorMg5
import Derived.Test.YtmnblljenobofaaDoorSerB
/- Plain words: befores of a table's places. -/
namespace Go.Proofs.YtmnblljenobofaaDoor.WPlain
end Go.Proofs.YtmnblljenobofaaDoor.WPlain
namespace Go.Proofs.YtmnblljenobofaaDoor.QPlain
end Go.Proofs.YtmnblljenobofaaDoor.QPlain
namespace Go.Proofs.YtmnblljenobofaaDoor.RPlain
open WPlain QPlain

theorem bfrAt_at {l : List Tx} {i k : Nat} (hi : i < l.length) (hk : k < l.length) : bfrAt l i k = bfr l[i] l[k] := by
  unfold bfrAt
  rw [List.getElem?_eq_getElem hi, List.getElem?_eq_getElem hk]
/-- what follows of two befores, of a table's places -/
theorem bfrAt_self {h : List Ev} {i : Nat} (hi : i < (tableS h).length) : bfrAt (tableS h) i i = false := by
  have hin : i < (namesOf h).length := by rw [tableS_len] at hi; exact hi
  rw [bfrAt_at hi hi, tableS_get hin]
  exact bfr_self h (List.getElem_mem hin)
theorem bfrAt_trans {h : List Ev} {i k m : Nat} (hi : i < (tableS h).length) (hk : k < (tableS h).length) (hm : m < (tableS h).length)
    (h1 : bfrAt (tableS h) i k = true) (h2 : bfrAt (tableS h) k m = true) : bfrAt (tableS h) i m = true := by
  have hin : i < (namesOf h).length := by rw [tableS_len] at hi; exact hi
  have hkn : k < (namesOf h).length := by rw [tableS_len] at hk; exact hk
  have hmn : m < (namesOf h).length := by rw [tableS_len] at hm; exact hm
  rw [bfrAt_at hi hk, tableS_get hin, tableS_get hkn] at h1
  rw [bfrAt_at hk hm, tableS_get hkn, tableS_get hmn] at h2
  rw [bfrAt_at hi hm, tableS_get hin, tableS_get hmn]
  exact bfr_trans h (List.getElem_mem hkn) h1 h2
end Go.Proofs.YtmnblljenobofaaDoor.RPlain
/- Plain words: the search, and all rows that keep the order; parts of what is explained. -/
namespace Go.Proofs.YtmnblljenobofaaDoor.WPlain
end Go.Proofs.YtmnblljenobofaaDoor.WPlain
namespace Go.Proofs.YtmnblljenobofaaDoor.QPlain
end Go.Proofs.YtmnblljenobofaaDoor.QPlain
namespace Go.Proofs.YtmnblljenobofaaDoor.RPlain
open WPlain QPlain

theorem self_table (h : List Ev) : ∀ i, i < (tableS h).length → bfrAt (tableS h) i i = false := fun _ hi => bfrAt_self hi
theorem bad_nat (l : List Tx) (a b : Nat) : badP l (a : Int) (b : Int) = (decide (a = b) || bfrAt l a b) := by
  unfold badP bfrAt
  rw [Int.toNat_natCast, Int.toNat_natCast]
  congr 1
  by_cases h : a = b
  · subst h; simp
  · rw [decide_eq_false h, decide_eq_false (fun hc => h (by omega))]
theorem keeps_nat (l : List Tx) (row : List Nat) : keepsS l (row.map fun x : Nat => (x : Int)) = true ↔ row.Pairwise fun b a => a ≠ b ∧ bfrAt l a b = false := by
  rw [keepsS_iff, List.pairwise_iff_getElem]
  constructor
  · intro h i j hi hj hij
    have h1 := h j (by simpa using hj) i hij
    rw [List.getElem_map, List.getElem_map, bad_nat] at h1
    simpa using h1
  · intro h i hi j hj
    have hi' : i < row.length := by simpa using hi
    have h1 := h j i (by omega) hi' hj
    rw [List.getElem_map, List.getElem_map, bad_nat]
    simpa using h1
theorem bfrAt_lt {l : List Tx} {a b : Nat} (h : bfrAt l a b = true) : a < l.length ∧ b < l.length := by
  unfold bfrAt at h
  cases ha : l[a]? with
  | none => rw [ha] at h; cases h
  | some X =>
    cases hb : l[b]? with
    | none => rw [ha, hb] at h; cases h
    | some Y => exact ⟨(List.getElem?_eq_some_iff.1 ha).1, (List.getElem?_eq_some_iff.1 hb).1⟩
theorem aft_after (l : List Tx) (a b : Nat) : aft (afterS l) a b = bfrAt l a b := by
  unfold aft
  by_cases ha : a < l.length
  · rw [List.getD_eq_getElem?_getD, List.getElem?_eq_getElem (by rw [afterS_len]; exact ha), Option.getD_some]
    unfold afterS
    rw [List.getElem_map]
    by_cases hb : b < l.length
    · rw [afterN_test l _ hb, bfrAt_at ha hb]
    · rw [Nat.testBit_lt_two_pow (Nat.lt_of_lt_of_le (afterN_lt l _) (Nat.pow_le_pow_right (by decide) (by omega)))]
      cases hc : bfrAt l a b with
      | false => rfl
      | true => exact absurd (bfrAt_lt hc).2 hb
  · rw [List.getD_eq_getElem?_getD, List.getElem?_eq_none (by rw [afterS_len]; omega)]
    cases hc : bfrAt l a b with
    | false => exact Nat.zero_testBit b
    | true => exact absurd (bfrAt_lt hc).1 ha
theorem free_after (h : List Ev) : Free (afterS (tableS h)) := by
  have hE : ∀ a b, Edge (afterS (tableS h)) a b → a < (tableS h).length ∧ b < (tableS h).length ∧ bfrAt (tableS h) a b = true := fun a b he => by
    have := he.2.2
    rw [aft_after] at this
    exact ⟨(bfrAt_lt this).1, (bfrAt_lt this).2, this⟩
  have hT : ∀ a b, Relation.TransGen (Edge (afterS (tableS h))) a b → a < (tableS h).length ∧ b < (tableS h).length ∧ bfrAt (tableS h) a b = true := by
    intro a b hb
    induction hb with
    | single h => exact hE _ _ h
    | tail _ h ih =>
      have h1 := hE _ _ h
      exact ⟨ih.1, h1.2.1, bfrAt_trans ih.1 h1.1 h1.2.1 ih.2.2 h1.2.2⟩
  intro a ha
  have h1 := hT a a ha
  rw [bfrAt_self h1.1] at h1
  cases h1.2.2
theorem may_after {h : List Ev} (h0 : (checkS h).2 = 0) : mayE (afterS (tableS h)) = 0 := by
  rw [mayE_zero, afterS_len]
  refine ⟨table_six h0, fun a ha => ?_, free_after h⟩
  obtain ⟨X, _, rfl⟩ := List.mem_map.1 ha
  exact afterN_lt _ _
theorem two_bits (n k : Nat) : (2 ^ n - 1).testBit k = decide (k < n) := Nat.testBit_two_pow_sub_one ..
/-- to explain all: a row that keeps the order, and is legal -/
theorem expl_all {l : List Tx} {c : Nat} {row : List Nat} : Expl l (2 ^ l.length - 1) c row ↔ row ∈ allS (afterS l) ∧ legalS l c row = row.length := by
  rw [allS_mem, afterS_len]
  have hg : ∀ b a, goes (afterS l) b a ↔ a ≠ b ∧ bfrAt l a b = false := fun b a => by unfold goes; rw [aft_after]
  constructor
  · intro h
    have hlt : ∀ k ∈ row, k < l.length := fun k hk => ((h.mem k).1 hk).1
    have hfull : ∀ k, k < l.length → k ∈ row := fun k hk => (h.mem k).2 ⟨hk, by rw [two_bits]; simpa using hk⟩
    have h1 := nodup_le row (List.range l.length) h.nodup (fun x hx => List.mem_range.2 (hlt x hx))
    have h2 := nodup_le (List.range l.length) row List.nodup_range (fun x hx => hfull x (List.mem_range.1 hx))
    rw [List.length_range] at h1 h2
    refine ⟨⟨by omega, hlt, ?_⟩, h.legal⟩
    have := List.pairwise_and_iff.2 ⟨h.nodup, h.keeps⟩
    exact this.imp fun {b a} hab => (hg b a).2 ⟨fun hc => hab.1 hc.symm, hab.2⟩
  · rintro ⟨⟨h1, h2, h3⟩, h4⟩
    have hn := goes_nodup h3
    refine ⟨hn, fun k => ⟨fun hk => ⟨h2 k hk, by rw [two_bits]; simpa using h2 k hk⟩, fun hk => nodup_full row l.length hn h2 h1 k hk.1⟩, h3.imp fun {b a} hab => ((hg b a).1 hab).2, h4⟩
end Go.Proofs.YtmnblljenobofaaDoor.RPlain
/- Plain words: who is to come behind whom. -/
namespace Go.Proofs.YtmnblljenobofaaDoor.WPlain
end Go.Proofs.YtmnblljenobofaaDoor.WPlain
namespace Go.Proofs.YtmnblljenobofaaDoor.QPlain
end Go.Proofs.YtmnblljenobofaaDoor.QPlain
namespace Go.Proofs.YtmnblljenobofaaDoor.RPlain
open WPlain QPlain

/-- is a value what is written last of a variable? -/
def finB (ops : List Rwo) (v x : Int) : Bool := ops.foldl (fun b o => if (o.w && decide (o.v = v)) = true then decide (o.x = x) else b) false
def expl1 (l : List Tx) (c t i : Nat) : Bool := match (opsAt l t)[i]? with
  | none => true
  | some o => if o.w = true then true else if srcS l t i = (t : Int) then finB ((opsAt l t).take i) o.v o.x
    else if srcS l t i < 0 then decide (srcS l t i = -1) else finB (opsAt l (srcS l t i).toNat) o.v o.x && c.testBit (srcS l t i).toNat
def readS (l : List Tx) (c : Nat) : Bool := (List.range l.length).all fun t => (List.range (opsAt l t).length).all (expl1 l c t)
def aheadB (a b : Nat) : List Nat → Bool
  | [] => false
  | x :: r => if x = b then false else if x = a then true else aheadB a b r
def wrt (l : List Tx) (c k : Nat) (v : Int) : Bool := c.testBit k && ownsB (opsAt l k) v
def third (l : List Tx) (c : Nat) (row : List Nat) (i k : Nat) : Bool := (List.range (opsAt l i).length).any fun n => match (opsAt l i)[n]? with
  | none => false
  | some o => !o.w && !decide (srcS l i n = (i : Int)) && !decide (k = i) && !decide ((k : Int) = srcS l i n) && wrt l c k o.v && (decide (srcS l i n < 0) || aheadB (srcS l i n).toNat k row)
def fourth (l : List Tx) (c : Nat) (row : List Nat) (t i k : Nat) : Bool := (List.range (opsAt l t).length).any fun n => match (opsAt l t)[n]? with
  | none => false
  | some o => !o.w && !decide (srcS l t n = (t : Int)) && decide (srcS l t n = (k : Int)) && !decide (i = t) && !decide (i = k) && wrt l c i o.v && aheadB i k row
def secnd (l : List Tx) (i k : Nat) : Bool := (List.range (opsAt l k).length).any fun n => match (opsAt l k)[n]? with
  | none => false
  | some o => !o.w && !decide (i = k) && decide (srcS l k n = (i : Int))
def behB (l : List Tx) (c : Nat) (row : List Nat) (i k : Nat) : Bool := bfrAt l i k || third l c row i k || secnd l i k || (List.range l.length).any fun t => fourth l c row t i k
def buildS (l : List Tx) (c : Nat) (row : List Nat) : List Nat := (List.range l.length).map fun i => bitsN (behB l c row i) l.length

theorem any_ops {l : List Tx} {i : Nat} {p : Nat → Rwo → Bool} : ((List.range (opsAt l i).length).any fun n => match (opsAt l i)[n]? with | none => false | some o => p n o) = true ↔ ∃ n o, (opsAt l i)[n]? = some o ∧ p n o = true := by
  rw [List.any_eq_true]
  constructor
  · rintro ⟨n, _, hp⟩
    cases ho : (opsAt l i)[n]? with
    | none => rw [ho] at hp; cases hp
    | some o => rw [ho] at hp; exact ⟨n, o, ho, hp⟩
  · rintro ⟨n, o, ho, hp⟩
    exact ⟨n, List.mem_range.2 (List.getElem?_eq_some_iff.1 ho).1, by rw [ho]; exact hp⟩
theorem third_iff {l : List Tx} {c : Nat} {row : List Nat} {i k : Nat} : third l c row i k = true ↔ ∃ n o, (opsAt l i)[n]? = some o ∧ o.w = false ∧ srcS l i n ≠ (i : Int) ∧ k ≠ i ∧ (k : Int) ≠ srcS l i n ∧ wrt l c k o.v = true ∧ (srcS l i n < 0 ∨ aheadB (srcS l i n).toNat k row = true) := by
  unfold third
  rw [any_ops (p := fun n o => !o.w && !decide (srcS l i n = (i : Int)) && !decide (k = i) && !decide ((k : Int) = srcS l i n) && wrt l c k o.v && (decide (srcS l i n < 0) || aheadB (srcS l i n).toNat k row))]
  refine exists_congr fun n => exists_congr fun o => and_congr_right fun _ => ?_
  simp [and_assoc]
theorem fourth_iff {l : List Tx} {c : Nat} {row : List Nat} {t i k : Nat} : fourth l c row t i k = true ↔ ∃ n o, (opsAt l t)[n]? = some o ∧ o.w = false ∧ srcS l t n ≠ (t : Int) ∧ srcS l t n = (k : Int) ∧ i ≠ t ∧ i ≠ k ∧ wrt l c i o.v = true ∧ aheadB i k row = true := by
  unfold fourth
  rw [any_ops (p := fun n o => !o.w && !decide (srcS l t n = (t : Int)) && decide (srcS l t n = (k : Int)) && !decide (i = t) && !decide (i = k) && wrt l c i o.v && aheadB i k row)]
  refine exists_congr fun n => exists_congr fun o => and_congr_right fun _ => ?_
  simp [and_assoc]
theorem secnd_iff {l : List Tx} {i k : Nat} : secnd l i k = true ↔ ∃ n o, (opsAt l k)[n]? = some o ∧ o.w = false ∧ i ≠ k ∧ srcS l k n = (i : Int) := by
  unfold secnd
  rw [any_ops (p := fun n o => !o.w && !decide (i = k) && decide (srcS l k n = (i : Int)))]
  refine exists_congr fun n => exists_congr fun o => and_congr_right fun _ => ?_
  simp [and_assoc]
/-- what is written last -/
theorem fin_snoc (ops : List Rwo) (o : Rwo) (v x : Int) : finB (ops ++ [o]) v x = if (o.w && decide (o.v = v)) = true then decide (o.x = x) else finB ops v x := by unfold finB; rw [List.foldl_append]; rfl
theorem snocRG {p : List Rwo → Prop} (h0 : p []) (h1 : ∀ l X, p l → p (l ++ [X])) (l : List Rwo) : p l := by
  rw [← List.reverse_reverse l]
  induction l.reverse with
  | nil => exact h0
  | cons e r ih => rw [List.reverse_cons]; exact h1 _ _ ih
theorem fin_with (M : Int → Int) (v x : Int) (ops : List Rwo) : (ownsB ops v = true → finB ops v x = decide (withM M ops v = x)) ∧ (ownsB ops v = false → withM M ops v = M v) := by
  refine snocRG (p := fun ops => (ownsB ops v = true → finB ops v x = decide (withM M ops v = x)) ∧ (ownsB ops v = false → withM M ops v = M v)) ⟨fun h => (by cases h), fun _ => rfl⟩ ?_ ops
  intro ops o ih
  have hw : withM M (ops ++ [o]) v = if (o.w && decide (o.v = v)) = true then o.x else withM M ops v := by
    rw [withM_app, withM_cons, withM_nil]
    cases hb : o.w with
    | false => simp
    | true =>
      simp only [if_true, Bool.true_and, decide_eq_true_eq, putM]
      by_cases hv : o.v = v
      · rw [if_pos hv.symm, if_pos hv]
      · rw [if_neg (fun hc => hv hc.symm), if_neg hv]
  have ho : ownsB (ops ++ [o]) v = (ownsB ops v || (o.w && decide (o.v = v))) := by unfold ownsB; rw [List.any_append]; simp
  rw [fin_snoc, hw, ho]
  by_cases hc : (o.w && decide (o.v = v)) = true
  · rw [if_pos hc, if_pos hc, hc, Bool.or_true]
    exact ⟨fun _ => rfl, fun h => by cases h⟩
  · rw [if_neg hc, if_neg hc, show (o.w && decide (o.v = v)) = false from by simpa using hc, Bool.or_false]
    exact ih
theorem fin_writes {ops : List Rwo} {v x : Int} (h : finB ops v x = true) : writesB ops v x = true := by
  revert h
  refine snocRG (p := fun ops => finB ops v x = true → writesB ops v x = true) (fun h => by cases h) ?_ ops
  intro ops o ih h
  rw [fin_snoc] at h
  by_cases hc : (o.w && decide (o.v = v)) = true
  · rw [if_pos hc] at h
    simp only [Bool.and_eq_true, decide_eq_true_eq] at hc h
    exact writes_iff.2 ⟨o, by simp, hc.1, hc.2, h⟩
  · rw [if_neg hc] at h
    exact writes_pre (List.prefix_append _ _) (ih h)
theorem fin_owns {ops : List Rwo} {v x : Int} (h : finB ops v x = true) : ownsB ops v = true := by
  obtain ⟨o, ho, hw, hv, _⟩ := writes_iff.1 (fin_writes h)
  exact owns_iff.2 ⟨o, ho, hw, hv⟩
/-- the memory of a variable: of the last one that commits and writes it -/
theorem mem_last (l : List Tx) (c : Nat) (v : Int) : ∀ (P : List Nat) (M : Int → Int), ((∀ k ∈ P, wrt l c k v = false) ∧ behindS l c M P v = M v) ∨
    ∃ P1 k P2, P = P1 ++ k :: P2 ∧ wrt l c k v = true ∧ (∀ k' ∈ P2, wrt l c k' v = false) ∧ ∀ x, finB (opsAt l k) v x = decide (behindS l c M P v = x) := by
  intro P
  induction P with
  | nil => intro M; exact .inl ⟨fun k hk => (by cases hk), rfl⟩
  | cons i r ih =>
    intro M
    rw [behind_cons]
    rcases ih (stepM l c M i) with ⟨h1, h2⟩ | ⟨P1, k, P2, h1, h2, h3, h4⟩
    · cases hw : wrt l c i v with
      | false =>
        left
        refine ⟨fun k hk => ?_, ?_⟩
        · rcases List.mem_cons.1 hk with rfl | hk
          · exact hw
          · exact h1 k hk
        · rw [h2]
          unfold stepM
          unfold wrt at hw
          cases hc : c.testBit i with
          | false => simp
          | true =>
            rw [hc, Bool.true_and] at hw
            rw [if_pos rfl]
            exact (fin_with M v 0 _).2 hw
      | true =>
        right
        refine ⟨[], i, r, rfl, hw, h1, fun x => ?_⟩
        rw [h2]
        unfold stepM
        unfold wrt at hw
        rw [Bool.and_eq_true] at hw
        rw [if_pos hw.1]
        exact (fin_with M v x _).1 hw.2
    · exact .inr ⟨i :: P1, k, P2, by rw [h1]; rfl, h2, h3, h4⟩
theorem ahead_iff {a b : Nat} : ∀ {row : List Nat} {p q : Nat}, row.Nodup → ∀ (hp : p < row.length) (hq : q < row.length), row[p] = a → row[q] = b → (aheadB a b row = true ↔ p < q) := by
  intro row
  induction row with
  | nil => intro p q _ hp; exact absurd hp (by simp)
  | cons x r ih =>
    intro p q hn hp hq ha hb
    obtain ⟨hx, hr⟩ := List.nodup_cons.1 hn
    rw [aheadB]
    cases q with
    | zero =>
      rw [List.getElem_cons_zero] at hb
      rw [if_pos hb]
      simp
    | succ q =>
      rw [List.getElem_cons_succ] at hb
      have hxb : x ≠ b := fun hc => hx (by rw [hc, ← hb]; exact List.getElem_mem _)
      rw [if_neg hxb]
      cases p with
      | zero =>
        rw [List.getElem_cons_zero] at ha
        rw [if_pos ha]
        simp
      | succ p =>
        rw [List.getElem_cons_succ] at ha
        have hxa : x ≠ a := fun hc => hx (by rw [hc, ← ha]; exact List.getElem_mem _)
        rw [if_neg hxa, ih hr (by simpa using hp) (by simpa using hq) ha hb]
        omega
/-- a source that is another one -/
theorem src_cases {l : List Tx} {t i : Nat} {o : Rwo} (ho : (opsAt l t)[i]? = some o) (hw : o.w = false) :
    (ownsB ((opsAt l t).take i) o.v = true ∧ srcS l t i = (t : Int)) ∨ (ownsB ((opsAt l t).take i) o.v = false ∧ o.x = 0 ∧ srcS l t i = -1) ∨
      (ownsB ((opsAt l t).take i) o.v = false ∧ o.x ≠ 0 ∧ ((∃ k, k < l.length ∧ k ≠ t ∧ writesB (opsAt l k) o.v o.x = true ∧ srcS l t i = (k : Int)) ∨ ((∀ k, k < l.length → k ≠ t → writesB (opsAt l k) o.v o.x = false) ∧ srcS l t i = -2))) := by
  unfold srcS
  rw [ho]
  dsimp only
  cases h1 : ownsB ((opsAt l t).take i) o.v with
  | true => exact .inl ⟨rfl, if_pos (.inr rfl)⟩
  | false =>
    have h2 : ¬ (o.w = true ∨ false = true) := by rw [hw]; simp
    rw [if_neg h2]
    by_cases h3 : o.x = 0
    · rw [if_pos h3]; exact .inr (.inl ⟨rfl, h3, rfl⟩)
    · rw [if_neg h3]
      refine .inr (.inr ⟨rfl, h3, ?_⟩)
      cases hf : (List.range l.length).find? (fun k => !decide (k = t) && writesB (opsAt l k) o.v o.x) with
      | some k =>
        have h4 := List.find?_some hf
        have h5 := List.mem_range.1 (List.mem_of_find?_eq_some hf)
        rw [Bool.and_eq_true] at h4
        exact .inl ⟨k, h5, by simpa using h4.1, h4.2, rfl⟩
      | none =>
        refine .inr ⟨fun k hk hne => ?_, rfl⟩
        have := List.find?_eq_none.1 hf k (List.mem_range.2 hk)
        simpa [hne] using this
/-- a row of all places, each once -/
structure Whole (l : List Tx) (row : List Nat) : Prop where
  nodup : row.Nodup
  mem : ∀ k, k ∈ row ↔ k < l.length
theorem readOk_iff {M : Int → Int} {ops : List Rwo} {j : Nat} {o : Rwo} (ho : ops[j]? = some o) (hw : o.w = false) : readOk M ops j ↔ withM M (ops.take j) o.v = o.x := by
  unfold readOk
  rw [ho]
  simp [hw]
theorem own_all {M : Int → Int} {ops : List Rwo} : ownS M ops = ops.length ↔ ∀ j o, ops[j]? = some o → o.w = false → withM M (ops.take j) o.v = o.x := by
  constructor
  · intro h j o ho hw
    exact (readOk_iff ho hw).1 ((own_reads ops M).1 j (by rw [h]; exact (List.getElem?_eq_some_iff.1 ho).1))
  · intro h
    refine own_is (Nat.le_refl _) (fun j hj => ?_) (fun hc => absurd hc (Nat.lt_irrefl _))
    cases hw : ops[j].w with
    | true => unfold readOk; rw [List.getElem?_eq_getElem hj]; exact .inl hw
    | false => exact (readOk_iff (List.getElem?_eq_getElem hj) hw).2 (h j _ (List.getElem?_eq_getElem hj) hw)
theorem legal_each {l : List Tx} {c : Nat} : ∀ {row : List Nat} {M : Int → Int}, legalG l c M row = row.length ↔ ∀ p (hp : p < row.length), ownS (behindS l c M (row.take p)) (opsAt l row[p]) = (opsAt l row[p]).length := by
  intro row
  induction row with
  | nil => intro M; exact ⟨fun _ p hp => absurd hp (by simp), fun _ => rfl⟩
  | cons i r ih =>
    intro M
    rw [legal_all, ih]
    constructor
    · rintro ⟨h1, h2⟩ p hp
      cases p with
      | zero => exact h1
      | succ p => rw [List.take_succ_cons, behind_cons, List.getElem_cons_succ]; exact h2 p (by simpa using hp)
    · intro h
      refine ⟨h 0 (by simp), fun p hp => ?_⟩
      have := h (p + 1) (by simpa using hp)
      rwa [List.take_succ_cons, behind_cons, List.getElem_cons_succ] at this
end Go.Proofs.YtmnblljenobofaaDoor.RPlain
