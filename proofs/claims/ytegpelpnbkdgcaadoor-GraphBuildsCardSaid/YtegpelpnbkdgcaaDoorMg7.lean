/- Merged: GphA, GphB. -/
import Derived.Test.YtegpelpnbkdgcaaDoorMg5
import Derived.Test.YtegpelpnbkdgcaaDoorMg6
/- Plain words: who is to come behind whom. -/
namespace Go.Proofs.YtegpelpnbkdgcaaDoor.WPlain
end Go.Proofs.YtegpelpnbkdgcaaDoor.WPlain
namespace Go.Proofs.YtegpelpnbkdgcaaDoor.QPlain
end Go.Proofs.YtegpelpnbkdgcaaDoor.QPlain
namespace Go.Proofs.YtegpelpnbkdgcaaDoor.RPlain
open WPlain QPlain

/-- is a value what is written last of a variable? -/
def finB (ops : List Rwo) (v x : Int) : Bool := ops.foldl (fun b o => if (o.w && decide (o.v = v)) = true then decide (o.x = x) else b) false
def expl1 (l : List Tx) (c t i : Nat) : Bool := match (opsAt l t)[i]? with
  | none => true
  | some o => if o.w = true then true else if srcS l t i = (t : Int) then finB ((opsAt l t).take i) o.v o.x
    else if srcS l t i < 0 then decide (srcS l t i = -1) else finB (opsAt l (srcS l t i).toNat) o.v o.x && c.testBit (srcS l t i).toNat
def readS (l : List Tx) (c : Nat) : Bool := (List.range l.length).all fun t => (List.range (opsAt l t).length).all (expl1 l c t)
def aheadB (a b : Nat) : List Nat → Bool
  | [] => false
  | x :: r => if x = b then false else if x = a then true else aheadB a b r
def wrt (l : List Tx) (c k : Nat) (v : Int) : Bool := c.testBit k && ownsB (opsAt l k) v
def third (l : List Tx) (c : Nat) (row : List Nat) (i k : Nat) : Bool := (List.range (opsAt l i).length).any fun n => match (opsAt l i)[n]? with
  | none => false
  | some o => !o.w && !decide (srcS l i n = (i : Int)) && !decide (k = i) && !decide ((k : Int) = srcS l i n) && wrt l c k o.v && (decide (srcS l i n < 0) || aheadB (srcS l i n).toNat k row)
def fourth (l : List Tx) (c : Nat) (row : List Nat) (t i k : Nat) : Bool := (List.range (opsAt l t).length).any fun n => match (opsAt l t)[n]? with
  | none => false
  | some o => !o.w && !decide (srcS l t n = (t : Int)) && decide (srcS l t n = (k : Int)) && !decide (i = t) && !decide (i = k) && wrt l c i o.v && aheadB i k row
def secnd (l : List Tx) (i k : Nat) : Bool := (List.range (opsAt l k).length).any fun n => match (opsAt l k)[n]? with
  | none => false
  | some o => !o.w && !decide (i = k) && decide (srcS l k n = (i : Int))
def behB (l : List Tx) (c : Nat) (row : List Nat) (i k : Nat) : Bool := bfrAt l i k || third l c row i k || secnd l i k || (List.range l.length).any fun t => fourth l c row t i k
def buildS (l : List Tx) (c : Nat) (row : List Nat) : List Nat := (List.range l.length).map fun i => bitsN (behB l c row i) l.length

theorem any_ops {l : List Tx} {i : Nat} {p : Nat → Rwo → Bool} : ((List.range (opsAt l i).length).any fun n => match (opsAt l i)[n]? with | none => false | some o => p n o) = true ↔ ∃ n o, (opsAt l i)[n]? = some o ∧ p n o = true := by
  rw [List.any_eq_true]
  constructor
  · rintro ⟨n, _, hp⟩
    cases ho : (opsAt l i)[n]? with
    | none => rw [ho] at hp; cases hp
    | some o => rw [ho] at hp; exact ⟨n, o, ho, hp⟩
  · rintro ⟨n, o, ho, hp⟩
    exact ⟨n, List.mem_range.2 (List.getElem?_eq_some_iff.1 ho).1, by rw [ho]; exact hp⟩
theorem third_iff {l : List Tx} {c : Nat} {row : List Nat} {i k : Nat} : third l c row i k = true ↔ ∃ n o, (opsAt l i)[n]? = some o ∧ o.w = false ∧ srcS l i n ≠ (i : Int) ∧ k ≠ i ∧ (k : Int) ≠ srcS l i n ∧ wrt l c k o.v = true ∧ (srcS l i n < 0 ∨ aheadB (srcS l i n).toNat k row = true) := by
  unfold third
  rw [any_ops (p := fun n o => !o.w && !decide (srcS l i n = (i : Int)) && !decide (k = i) && !decide ((k : Int) = srcS l i n) && wrt l c k o.v && (decide (srcS l i n < 0) || aheadB (srcS l i n).toNat k row))]
  refine exists_congr fun n => exists_congr fun o => and_congr_right fun _ => ?_
  simp [and_assoc]
theorem fourth_iff {l : List Tx} {c : Nat} {row : List Nat} {t i k : Nat} : fourth l c row t i k = true ↔ ∃ n o, (opsAt l t)[n]? = some o ∧ o.w = false ∧ srcS l t n ≠ (t : Int) ∧ srcS l t n = (k : Int) ∧ i ≠ t ∧ i ≠ k ∧ wrt l c i o.v = true ∧ aheadB i k row = true := by
  unfold fourth
  rw [any_ops (p := fun n o => !o.w && !decide (srcS l t n = (t : Int)) && decide (srcS l t n = (k : Int)) && !decide (i = t) && !decide (i = k) && wrt l c i o.v && aheadB i k row)]
  refine exists_congr fun n => exists_congr fun o => and_congr_right fun _ => ?_
  simp [and_assoc]
theorem secnd_iff {l : List Tx} {i k : Nat} : secnd l i k = true ↔ ∃ n o, (opsAt l k)[n]? = some o ∧ o.w = false ∧ i ≠ k ∧ srcS l k n = (i : Int) := by
  unfold secnd
  rw [any_ops (p := fun n o => !o.w && !decide (i = k) && decide (srcS l k n = (i : Int)))]
  refine exists_congr fun n => exists_congr fun o => and_congr_right fun _ => ?_
  simp [and_assoc]
/-- what is written last -/
theorem fin_snoc (ops : List Rwo) (o : Rwo) (v x : Int) : finB (ops ++ [o]) v x = if (o.w && decide (o.v = v)) = true then decide (o.x = x) else finB ops v x := by unfold finB; rw [List.foldl_append]; rfl
theorem snocRG {p : List Rwo → Prop} (h0 : p []) (h1 : ∀ l X, p l → p (l ++ [X])) (l : List Rwo) : p l := by
  rw [← List.reverse_reverse l]
  induction l.reverse with
  | nil => exact h0
  | cons e r ih => rw [List.reverse_cons]; exact h1 _ _ ih
theorem fin_with (M : Int → Int) (v x : Int) (ops : List Rwo) : (ownsB ops v = true → finB ops v x = decide (withM M ops v = x)) ∧ (ownsB ops v = false → withM M ops v = M v) := by
  refine snocRG (p := fun ops => (ownsB ops v = true → finB ops v x = decide (withM M ops v = x)) ∧ (ownsB ops v = false → withM M ops v = M v)) ⟨fun h => (by cases h), fun _ => rfl⟩ ?_ ops
  intro ops o ih
  have hw : withM M (ops ++ [o]) v = if (o.w && decide (o.v = v)) = true then o.x else withM M ops v := by
    rw [withM_app, withM_cons, withM_nil]
    cases hb : o.w with
    | false => simp
    | true =>
      simp only [if_true, Bool.true_and, decide_eq_true_eq, putM]
      by_cases hv : o.v = v
      · rw [if_pos hv.symm, if_pos hv]
      · rw [if_neg (fun hc => hv hc.symm), if_neg hv]
  have ho : ownsB (ops ++ [o]) v = (ownsB ops v || (o.w && decide (o.v = v))) := by unfold ownsB; rw [List.any_append]; simp
  rw [fin_snoc, hw, ho]
  by_cases hc : (o.w && decide (o.v = v)) = true
  · rw [if_pos hc, if_pos hc, hc, Bool.or_true]
    exact ⟨fun _ => rfl, fun h => by cases h⟩
  · rw [if_neg hc, if_neg hc, show (o.w && decide (o.v = v)) = false from by simpa using hc, Bool.or_false]
    exact ih
theorem fin_writes {ops : List Rwo} {v x : Int} (h : finB ops v x = true) : writesB ops v x = true := by
  revert h
  refine snocRG (p := fun ops => finB ops v x = true → writesB ops v x = true) (fun h => by cases h) ?_ ops
  intro ops o ih h
  rw [fin_snoc] at h
  by_cases hc : (o.w && decide (o.v = v)) = true
  · rw [if_pos hc] at h
    simp only [Bool.and_eq_true, decide_eq_true_eq] at hc h
    exact writes_iff.2 ⟨o, by simp, hc.1, hc.2, h⟩
  · rw [if_neg hc] at h
    exact writes_pre (List.prefix_append _ _) (ih h)
theorem fin_owns {ops : List Rwo} {v x : Int} (h : finB ops v x = true) : ownsB ops v = true := by
  obtain ⟨o, ho, hw, hv, _⟩ := writes_iff.1 (fin_writes h)
  exact owns_iff.2 ⟨o, ho, hw, hv⟩
/-- the memory of a variable: of the last one that commits and writes it -/
theorem mem_last (l : List Tx) (c : Nat) (v : Int) : ∀ (P : List Nat) (M : Int → Int), ((∀ k ∈ P, wrt l c k v = false) ∧ behindS l c M P v = M v) ∨
    ∃ P1 k P2, P = P1 ++ k :: P2 ∧ wrt l c k v = true ∧ (∀ k' ∈ P2, wrt l c k' v = false) ∧ ∀ x, finB (opsAt l k) v x = decide (behindS l c M P v = x) := by
  intro P
  induction P with
  | nil => intro M; exact .inl ⟨fun k hk => (by cases hk), rfl⟩
  | cons i r ih =>
    intro M
    rw [behind_cons]
    rcases ih (stepM l c M i) with ⟨h1, h2⟩ | ⟨P1, k, P2, h1, h2, h3, h4⟩
    · cases hw : wrt l c i v with
      | false =>
        left
        refine ⟨fun k hk => ?_, ?_⟩
        · rcases List.mem_cons.1 hk with rfl | hk
          · exact hw
          · exact h1 k hk
        · rw [h2]
          unfold stepM
          unfold wrt at hw
          cases hc : c.testBit i with
          | false => simp
          | true =>
            rw [hc, Bool.true_and] at hw
            rw [if_pos rfl]
            exact (fin_with M v 0 _).2 hw
      | true =>
        right
        refine ⟨[], i, r, rfl, hw, h1, fun x => ?_⟩
        rw [h2]
        unfold stepM
        unfold wrt at hw
        rw [Bool.and_eq_true] at hw
        rw [if_pos hw.1]
        exact (fin_with M v x _).1 hw.2
    · exact .inr ⟨i :: P1, k, P2, by rw [h1]; rfl, h2, h3, h4⟩
theorem ahead_iff {a b : Nat} : ∀ {row : List Nat} {p q : Nat}, row.Nodup → ∀ (hp : p < row.length) (hq : q < row.length), row[p] = a → row[q] = b → (aheadB a b row = true ↔ p < q) := by
  intro row
  induction row with
  | nil => intro p q _ hp; exact absurd hp (by simp)
  | cons x r ih =>
    intro p q hn hp hq ha hb
    obtain ⟨hx, hr⟩ := List.nodup_cons.1 hn
    rw [aheadB]
    cases q with
    | zero =>
      rw [List.getElem_cons_zero] at hb
      rw [if_pos hb]
      simp
    | succ q =>
      rw [List.getElem_cons_succ] at hb
      have hxb : x ≠ b := fun hc => hx (by rw [hc, ← hb]; exact List.getElem_mem _)
      rw [if_neg hxb]
      cases p with
      | zero =>
        rw [List.getElem_cons_zero] at ha
        rw [if_pos ha]
        simp
      | succ p =>
        rw [List.getElem_cons_succ] at ha
        have hxa : x ≠ a := fun hc => hx (by rw [hc, ← ha]; exact List.getElem_mem _)
        rw [if_neg hxa, ih hr (by simpa using hp) (by simpa using hq) ha hb]
        omega
/-- a source that is another one -/
theorem src_cases {l : List Tx} {t i : Nat} {o : Rwo} (ho : (opsAt l t)[i]? = some o) (hw : o.w = false) :
    (ownsB ((opsAt l t).take i) o.v = true ∧ srcS l t i = (t : Int)) ∨ (ownsB ((opsAt l t).take i) o.v = false ∧ o.x = 0 ∧ srcS l t i = -1) ∨
      (ownsB ((opsAt l t).take i) o.v = false ∧ o.x ≠ 0 ∧ ((∃ k, k < l.length ∧ k ≠ t ∧ writesB (opsAt l k) o.v o.x = true ∧ srcS l t i = (k : Int)) ∨ ((∀ k, k < l.length → k ≠ t → writesB (opsAt l k) o.v o.x = false) ∧ srcS l t i = -2))) := by
  unfold srcS
  rw [ho]
  dsimp only
  cases h1 : ownsB ((opsAt l t).take i) o.v with
  | true => exact .inl ⟨rfl, if_pos (.inr rfl)⟩
  | false =>
    have h2 : ¬ (o.w = true ∨ false = true) := by rw [hw]; simp
    rw [if_neg h2]
    by_cases h3 : o.x = 0
    · rw [if_pos h3]; exact .inr (.inl ⟨rfl, h3, rfl⟩)
    · rw [if_neg h3]
      refine .inr (.inr ⟨rfl, h3, ?_⟩)
      cases hf : (List.range l.length).find? (fun k => !decide (k = t) && writesB (opsAt l k) o.v o.x) with
      | some k =>
        have h4 := List.find?_some hf
        have h5 := List.mem_range.1 (List.mem_of_find?_eq_some hf)
        rw [Bool.and_eq_true] at h4
        exact .inl ⟨k, h5, by simpa using h4.1, h4.2, rfl⟩
      | none =>
        refine .inr ⟨fun k hk hne => ?_, rfl⟩
        have := List.find?_eq_none.1 hf k (List.mem_range.2 hk)
        simpa [hne] using this
/-- a row of all places, each once -/
structure Whole (l : List Tx) (row : List Nat) : Prop where
  nodup : row.Nodup
  mem : ∀ k, k ∈ row ↔ k < l.length
theorem readOk_iff {M : Int → Int} {ops : List Rwo} {j : Nat} {o : Rwo} (ho : ops[j]? = some o) (hw : o.w = false) : readOk M ops j ↔ withM M (ops.take j) o.v = o.x := by
  unfold readOk
  rw [ho]
  simp [hw]
theorem own_all {M : Int → Int} {ops : List Rwo} : ownS M ops = ops.length ↔ ∀ j o, ops[j]? = some o → o.w = false → withM M (ops.take j) o.v = o.x := by
  constructor
  · intro h j o ho hw
    exact (readOk_iff ho hw).1 ((own_reads ops M).1 j (by rw [h]; exact (List.getElem?_eq_some_iff.1 ho).1))
  · intro h
    refine own_is (Nat.le_refl _) (fun j hj => ?_) (fun hc => absurd hc (Nat.lt_irrefl _))
    cases hw : ops[j].w with
    | true => unfold readOk; rw [List.getElem?_eq_getElem hj]; exact .inl hw
    | false => exact (readOk_iff (List.getElem?_eq_getElem hj) hw).2 (h j _ (List.getElem?_eq_getElem hj) hw)
theorem legal_each {l : List Tx} {c : Nat} : ∀ {row : List Nat} {M : Int → Int}, legalG l c M row = row.length ↔ ∀ p (hp : p < row.length), ownS (behindS l c M (row.take p)) (opsAt l row[p]) = (opsAt l row[p]).length := by
  intro row
  induction row with
  | nil => intro M; exact ⟨fun _ p hp => absurd hp (by simp), fun _ => rfl⟩
  | cons i r ih =>
    intro M
    rw [legal_all, ih]
    constructor
    · rintro ⟨h1, h2⟩ p hp
      cases p with
      | zero => exact h1
      | succ p => rw [List.take_succ_cons, behind_cons, List.getElem_cons_succ]; exact h2 p (by simpa using hp)
    · intro h
      refine ⟨h 0 (by simp), fun p hp => ?_⟩
      have := h (p + 1) (by simpa using hp)
      rwa [List.take_succ_cons, behind_cons, List.getElem_cons_succ] at this
end Go.Proofs.YtegpelpnbkdgcaaDoor.RPlain
/- Plain words: graphs explain. -/
namespace Go.Proofs.YtegpelpnbkdgcaaDoor.WPlain
end Go.Proofs.YtegpelpnbkdgcaaDoor.WPlain
namespace Go.Proofs.YtegpelpnbkdgcaaDoor.QPlain
end Go.Proofs.YtegpelpnbkdgcaaDoor.QPlain
namespace Go.Proofs.YtegpelpnbkdgcaaDoor.RPlain
open WPlain QPlain

theorem whole_at {l : List Tx} {row : List Nat} (hw : Whole l row) {k : Nat} (hk : k < l.length) : ∃ p, ∃ hp : p < row.length, row[p] = k := by
  obtain ⟨p, hp, he⟩ := List.getElem_of_mem ((hw.mem k).2 hk)
  exact ⟨p, hp, he⟩
theorem owns_lt {l : List Tx} {c k : Nat} {v : Int} (h : wrt l c k v = true) : k < l.length := by
  unfold wrt at h
  rw [Bool.and_eq_true] at h
  obtain ⟨o, ho, _⟩ := owns_iff.1 h.2
  unfold opsAt at ho
  cases hl : l[k]? with
  | none => rw [hl] at ho; cases ho
  | some X => exact (List.getElem?_eq_some_iff.1 hl).1
/-- of a row that is legal: where what was read is from -/
theorem legal_src {l : List Tx} {c : Nat} {row : List Nat} (hu : Uniq l) (hw : Whole l row) (hl : legalS l c row = row.length) {p : Nat} (hp : p < row.length) {n : Nat} {o : Rwo} (ho : (opsAt l row[p])[n]? = some o) (hr : o.w = false) :
    (srcS l row[p] n = (row[p] : Int) ∧ finB ((opsAt l row[p]).take n) o.v o.x = true) ∨
      (srcS l row[p] n = -1 ∧ ∀ q (hq : q < p), wrt l c (row[q]'(by omega)) o.v = false) ∨
      ∃ q, ∃ hq : q < p, srcS l row[p] n = ((row[q]'(by omega) : Nat) : Int) ∧ wrt l c (row[q]'(by omega)) o.v = true ∧ finB (opsAt l (row[q]'(by omega))) o.v o.x = true ∧ ∀ r (_ : q < r) (hrp : r < p), wrt l c (row[r]'(by omega)) o.v = false := by
  have h1 := own_all.1 (legal_each.1 hl p hp) n o ho hr
  rcases src_cases ho hr with ⟨e1, e2⟩ | ⟨e1, e2, e3⟩ | ⟨e1, e2, e3⟩
  · left
    refine ⟨e2, ?_⟩
    rw [(fin_with _ _ _ _).1 e1, decide_eq_true_eq]
    exact h1
  · right; left
    refine ⟨e3, fun q hq => ?_⟩
    rw [(fin_with _ _ 0 _).2 e1] at h1
    rcases mem_last l c o.v (row.take p) zeroM with ⟨g1, _⟩ | ⟨P1, k, P2, g1, g2, _, g4⟩
    · exact g1 _ (List.mem_take_iff_getElem.2 ⟨q, by omega, rfl⟩)
    · have hf := g4 o.x
      rw [h1, decide_eq_true rfl] at hf
      obtain ⟨w, hwm, hww, _, hwx⟩ := writes_iff.1 (fin_writes hf)
      exact absurd (hwx.trans e2) (hu.zero k (owns_lt g2) w hwm hww)
  · right; right
    rw [(fin_with _ _ 0 _).2 e1] at h1
    rcases mem_last l c o.v (row.take p) zeroM with ⟨_, g2⟩ | ⟨P1, k, P2, g1, g2, g3, g4⟩
    · rw [g2] at h1; exact absurd h1.symm e2
    · have hf := g4 o.x
      rw [h1, decide_eq_true rfl] at hf
      have hlenP : (row.take p).length = p := by rw [List.length_take]; omega
      have hq : P1.length < p := by rw [← hlenP, g1, List.length_append, List.length_cons]; omega
      have hk : row[P1.length]'(by omega) = k := by
        have h5 : (row.take p)[P1.length]'(by omega) = k := by simp only [g1]; simp
        rwa [List.getElem_take] at h5
      have hne : k ≠ row[p] := fun hc => by
        rw [← hk] at hc
        have := (List.getElem_inj hw.nodup).1 hc
        omega
      have hwr := fin_writes hf
      refine ⟨P1.length, hq, ?_, by rw [hk]; exact g2, by rw [hk]; exact hf, fun r hqr hrp => ?_⟩
      · rcases e3 with ⟨k', f1, f2, f3, f4⟩ | ⟨f1, _⟩
        · rw [f4, hk, hu.one k' k f1 (owns_lt g2) _ _ f3 hwr]
        · rw [f1 k (owns_lt g2) hne] at hwr; cases hwr
      · have h6 : (row.take p)[r]'(by omega) = row[r]'(by omega) := List.getElem_take ..
        refine g3 _ ?_
        rw [← h6]
        have h7 : ∀ x (hx : r < (P1 ++ k :: P2).length), (P1 ++ k :: P2)[r] = x → x ∈ P2 := by
          intro x hx he
          rw [List.getElem_append_right (by omega)] at he
          obtain ⟨d, hd⟩ : ∃ d, r - P1.length = d + 1 := ⟨r - P1.length - 1, by omega⟩
          simp only [hd, List.getElem_cons_succ] at he
          rw [← he]
          exact List.getElem_mem _
        exact h7 _ (by rw [← g1]; omega) (by simp only [g1])
/-- a row that is legal, and keeps the order: what was read can be explained -/
theorem legal_read {l : List Tx} {c : Nat} {row : List Nat} (hu : Uniq l) (hw : Whole l row) (hl : legalS l c row = row.length) : readS l c = true := by
  unfold readS
  rw [List.all_eq_true]
  intro t ht
  rw [List.all_eq_true]
  intro n hn
  obtain ⟨p, hp, rfl⟩ := whole_at hw (List.mem_range.1 ht)
  obtain ⟨o, hno⟩ : ∃ o, (opsAt l row[p])[n]? = some o := ⟨_, List.getElem?_eq_getElem (List.mem_range.1 hn)⟩
  unfold expl1
  rw [hno]
  dsimp only
  cases hr : o.w with
  | true => rfl
  | false =>
    rw [if_neg (by simp)]
    rcases legal_src hu hw hl hp hno hr with ⟨h1, h2⟩ | ⟨h1, _⟩ | ⟨q, hq, h1, h2, h3, _⟩
    · rw [if_pos h1]; exact h2
    · rw [h1, if_neg (by omega), if_pos (by omega)]; rfl
    · have hne : ¬ (((row[q]'(by omega) : Nat) : Int) = (row[p] : Int)) := fun hc => by
        have := (List.getElem_inj hw.nodup).1 (Int.ofNat.inj hc)
        omega
      rw [h1, if_neg hne, if_neg (by omega), Int.toNat_natCast, h3, Bool.true_and]
      unfold wrt at h2
      rw [Bool.and_eq_true] at h2
      exact h2.1
/-- .. and it keeps what its own graph tells -/
theorem legal_keeps {l : List Tx} {c : Nat} {row : List Nat} (hu : Uniq l) (hw : Whole l row) (hk : row.Pairwise fun b a => bfrAt l a b = false) (hl : legalS l c row = row.length) : row.Pairwise fun b a => behB l c row a b = false := by
  rw [List.pairwise_iff_getElem] at hk ⊢
  intro a b ha hb hab
  unfold behB
  rw [hk a b ha hb hab, Bool.false_or]
  have hpos : ∀ x y (hx : x < row.length) (hy : y < row.length), aheadB row[x] row[y] row = true ↔ x < y := fun x y hx hy => ahead_iff hw.nodup hx hy rfl rfl
  have h3 : third l c row row[b] row[a] = false := by
    cases ht : third l c row row[b] row[a] with
    | false => rfl
    | true =>
      obtain ⟨n, o, ho, hr, e1, e2, e3, e4, e5⟩ := third_iff.1 ht
      rcases legal_src hu hw hl hb ho hr with ⟨h1, _⟩ | ⟨h1, h2⟩ | ⟨q, hq, h1, h2, h3, h4⟩
      · exact absurd h1 e1
      · rw [h2 a hab] at e4; cases e4
      · rcases e5 with e5 | e5
        · omega
        · rw [h1, Int.toNat_natCast, hpos q a (by omega) ha] at e5
          rw [h4 a e5 hab] at e4
          cases e4
  have h2 : secnd l row[b] row[a] = false := by
    cases ht : secnd l row[b] row[a] with
    | false => rfl
    | true =>
      obtain ⟨n, o, ho, hr, e1, e2⟩ := secnd_iff.1 ht
      rcases legal_src hu hw hl ha ho hr with ⟨h1, _⟩ | ⟨h1, _⟩ | ⟨q, hq, h1, _⟩
      · rw [h1] at e2
        have := (List.getElem_inj hw.nodup).1 (Int.ofNat.inj e2)
        omega
      · omega
      · rw [h1] at e2
        have := (List.getElem_inj hw.nodup).1 (Int.ofNat.inj e2)
        omega
  rw [h3, h2, Bool.false_or, Bool.false_or]
  cases ht : (List.range l.length).any fun t => fourth l c row t row[b] row[a] with
  | false => rfl
  | true =>
    obtain ⟨t, _, hf⟩ := List.any_eq_true.1 ht
    obtain ⟨n, o, _, _, _, _, _, _, _, e8⟩ := fourth_iff.1 hf
    rw [hpos b a hb ha] at e8
    omega
/-- a row that keeps what any graph tells is legal -/
theorem graph_legal {l : List Tx} {c : Nat} {R F : List Nat} (hR : Whole l R) (hF : Whole l F) (hread : readS l c = true) (hk : F.Pairwise fun b a => behB l c R a b = false) : legalS l c F = F.length := by
  refine legal_each.2 fun p hp => own_all.2 fun n o ho hr => ?_
  have hn := (List.getElem?_eq_some_iff.1 ho).1
  have hpl : F[p] < l.length := (hF.mem _).1 (List.getElem_mem hp)
  have hex : expl1 l c F[p] n = true := by
    unfold readS at hread
    rw [List.all_eq_true] at hread
    have := hread F[p] (List.mem_range.2 hpl)
    rw [List.all_eq_true] at this
    exact this n (List.mem_range.2 hn)
  unfold expl1 at hex
  rw [ho] at hex
  dsimp only at hex
  rw [if_neg (by rw [hr]; simp)] at hex
  rw [List.pairwise_iff_getElem] at hk
  -- of two places, the one that is to come behind is behind
  have horder : ∀ i k, i < l.length → k < l.length → i ≠ k → behB l c R i k = true → ∀ x y (hx : x < F.length) (hy : y < F.length), F[x] = i → F[y] = k → x < y := fun i k hi hkl hne hb x y hx hy hxi hyk => by
    rcases Nat.lt_trichotomy x y with h | h | h
    · exact h
    · subst h; exact absurd (hxi.symm.trans hyk) hne
    · have := hk y x hy hx h
      rw [hxi, hyk, hb] at this
      cases this
  have hthird : ∀ i k, third l c R i k = true → behB l c R i k = true := fun i k h => by unfold behB; rw [h]; simp
  have hsecnd : ∀ i k, secnd l i k = true → behB l c R i k = true := fun i k h => by unfold behB; rw [h]; simp
  have hfourth : ∀ t i k, t < l.length → fourth l c R t i k = true → behB l c R i k = true := fun t i k ht h => by
    unfold behB
    have : ((List.range l.length).any fun t => fourth l c R t i k) = true := List.any_eq_true.2 ⟨t, List.mem_range.2 ht, h⟩
    rw [this, Bool.or_true]
  rcases src_cases ho hr with ⟨e1, e2⟩ | ⟨e1, e2, e3⟩ | ⟨e1, e2, e3⟩
  · rw [if_pos e2, (fin_with (behindS l c zeroM (F.take p)) _ _ _).1 e1, decide_eq_true_eq] at hex
    exact hex
  · rw [(fin_with _ _ 0 _).2 e1, e2]
    rcases mem_last l c o.v (F.take p) zeroM with ⟨_, g2⟩ | ⟨P1, k, P2, g1, g2, _, _⟩
    · rw [g2]; rfl
    · exfalso
      have hkm : k ∈ F.take p := by rw [g1]; simp
      obtain ⟨q, hq, hqe⟩ := List.mem_take_iff_getElem.1 hkm
      have hqp : q < p := by omega
      have hne : k ≠ F[p] := fun hc => by
        rw [← hqe] at hc
        have := (List.getElem_inj hF.nodup).1 hc
        omega
      have h3 : third l c R F[p] k = true := third_iff.2 ⟨n, o, ho, hr, by rw [e3]; omega, hne, by rw [e3]; omega, g2, .inl (by rw [e3]; omega)⟩
      have := horder _ _ hpl (owns_lt g2) (fun hc => hne hc.symm) (hthird _ _ h3) p q hp (by omega) rfl hqe
      omega
  · rw [(fin_with _ _ 0 _).2 e1]
    rcases e3 with ⟨w, f1, f2, f3, f4⟩ | ⟨_, f2⟩
    · have hne1 : ¬ ((w : Int) = (F[p] : Int)) := by omega
      rw [f4, if_neg hne1, if_neg (by omega), Int.toNat_natCast, Bool.and_eq_true] at hex
      have hww : wrt l c w o.v = true := by unfold wrt; rw [hex.2, fin_owns hex.1]; rfl
      obtain ⟨pw, hpw, hpwe⟩ := whole_at hF f1
      have h2 : secnd l w F[p] = true := secnd_iff.2 ⟨n, o, ho, hr, f2, f4⟩
      have hlt := horder w F[p] f1 hpl f2 (hsecnd _ _ h2) pw p hpw hp hpwe rfl
      rcases mem_last l c o.v (F.take p) zeroM with ⟨g1, _⟩ | ⟨P1, k, P2, g1, g2, g3, g4⟩
      · have := g1 w (List.mem_take_iff_getElem.2 ⟨pw, by omega, hpwe⟩)
        rw [hww] at this; cases this
      · by_cases hkw : k = w
        · have := g4 o.x
          rw [hkw, hex.1] at this
          exact of_decide_eq_true this.symm
        · exfalso
          have hlenP : (F.take p).length = p := by rw [List.length_take]; omega
          have hqp : P1.length < p := by rw [← hlenP, g1, List.length_append, List.length_cons]; omega
          have hk1 : F[P1.length]'(by omega) = k := by
            have h5 : (F.take p)[P1.length]'(by omega) = k := by simp only [g1]; simp
            rwa [List.getElem_take] at h5
          have hpk : pw < P1.length := by
            rcases Nat.lt_trichotomy pw P1.length with h | h | h
            · exact h
            · subst h; exact absurd (hk1.symm.trans hpwe) hkw
            · exfalso
              have h6 : (F.take p)[pw]'(by omega) = w := by rw [List.getElem_take]; exact hpwe
              have h7 : w ∈ P2 := by
                simp only [g1] at h6
                rw [List.getElem_append_right (by omega)] at h6
                obtain ⟨d, hd⟩ : ∃ d, pw - P1.length = d + 1 := ⟨pw - P1.length - 1, by omega⟩
                simp only [hd, List.getElem_cons_succ] at h6
                rw [← h6]
                exact List.getElem_mem _
              rw [g3 w h7] at hww
              cases hww
          have hkp : k ≠ F[p] := fun hc => by
            rw [← hk1] at hc
            have := (List.getElem_inj hF.nodup).1 hc
            omega
          obtain ⟨rw', hrw, hrwe⟩ := whole_at hR f1
          obtain ⟨rk, hrk, hrke⟩ := whole_at hR (owns_lt g2)
          have hah : ∀ x y (hx : x < R.length) (hy : y < R.length), aheadB R[x] R[y] R = true ↔ x < y := fun x y hx hy => ahead_iff hR.nodup hx hy rfl rfl
          rcases Nat.lt_trichotomy rw' rk with h | h | h
          · have h3 : third l c R F[p] k = true := third_iff.2 ⟨n, o, ho, hr, by rw [f4]; exact hne1, hkp, by rw [f4]; omega, g2, .inr (by rw [f4, Int.toNat_natCast, ← hrwe, ← hrke, hah]; exact h)⟩
            have := horder _ _ hpl (owns_lt g2) (fun hc => hkp hc.symm) (hthird _ _ h3) p P1.length hp (by omega) rfl hk1
            omega
          · subst h; exact hkw (hrke.symm.trans hrwe)
          · have h4 : fourth l c R F[p] k w = true := fourth_iff.2 ⟨n, o, ho, hr, by rw [f4]; exact hne1, f4, hkp, hkw, g2, by rw [← hrwe, ← hrke, hah]; exact h⟩
            have := horder _ _ (owns_lt g2) f1 hkw (hfourth _ _ _ hpl h4) P1.length pw (by omega) hpw hk1 hpwe
            omega
    · rw [f2, if_neg (by omega), if_pos (by omega)] at hex
      cases hex
/-- .. and keeps the order -/
theorem graph_order {l : List Tx} {c : Nat} {R F : List Nat} (hk : F.Pairwise fun b a => behB l c R a b = false) : F.Pairwise fun b a => bfrAt l a b = false := hk.imp fun {b a} h => by
  unfold behB at h
  simp only [Bool.or_eq_false_iff] at h
  exact h.1.1.1
/-- if more commit, the graph has all edges that it had -/
theorem graph_more {l : List Tx} {c d : Nat} {row : List Nat} (hcd : ∀ k, c.testBit k = true → d.testBit k = true) {i k : Nat} (h : behB l c row i k = true) : behB l d row i k = true := by
  have hw : ∀ k v, wrt l c k v = true → wrt l d k v = true := fun k v h => by
    unfold wrt at h ⊢
    rw [Bool.and_eq_true] at h ⊢
    exact ⟨hcd k h.1, h.2⟩
  unfold behB at h ⊢
  simp only [Bool.or_eq_true, List.any_eq_true, List.mem_range] at h ⊢
  rcases h with ((h | h) | h) | ⟨t, ht, h⟩
  · exact .inl (.inl (.inl h))
  · obtain ⟨n, o, h1, h2, h3, h4, h5, h6, h7⟩ := third_iff.1 h
    exact .inl (.inl (.inr (third_iff.2 ⟨n, o, h1, h2, h3, h4, h5, hw _ _ h6, h7⟩)))
  · exact .inl (.inr h)
  · obtain ⟨n, o, h1, h2, h3, h4, h5, h6, h7, h8⟩ := fourth_iff.1 h
    exact .inr ⟨t, ht, fourth_iff.2 ⟨n, o, h1, h2, h3, h4, h5, h6, hw _ _ h7, h8⟩⟩
theorem beh_self {l : List Tx} {c : Nat} {row : List Nat} {i : Nat} (hs : bfrAt l i i = false) : behB l c row i i = false := by
  cases h : behB l c row i i with
  | false => rfl
  | true =>
    exfalso
    unfold behB at h
    simp only [Bool.or_eq_true, List.any_eq_true] at h
    rcases h with ((h | h) | h) | ⟨t, _, h⟩
    · rw [hs] at h; cases h
    · obtain ⟨n, o, _, _, _, h4, _⟩ := third_iff.1 h; exact h4 rfl
    · obtain ⟨n, o, _, _, h3, _⟩ := secnd_iff.1 h; exact h3 rfl
    · obtain ⟨n, o, _, _, _, _, _, h6, _⟩ := fourth_iff.1 h; exact h6 rfl
end Go.Proofs.YtegpelpnbkdgcaaDoor.RPlain
