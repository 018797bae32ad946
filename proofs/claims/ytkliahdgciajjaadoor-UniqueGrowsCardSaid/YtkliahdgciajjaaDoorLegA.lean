/- Plain words: memories, and rows that read what they may. -/
import Derived.Test.YtkliahdgciajjaaDoorMg5
namespace Go.Proofs.YtkliahdgciajjaaDoor.WPlain
end Go.Proofs.YtkliahdgciajjaaDoor.WPlain
namespace Go.Proofs.YtkliahdgciajjaaDoor.QPlain
end Go.Proofs.YtkliahdgciajjaaDoor.QPlain
namespace Go.Proofs.YtkliahdgciajjaaDoor.RPlain
open WPlain QPlain

def putM (M : Int → Int) (v x : Int) : Int → Int := fun u => if u = v then x else M u
def withM (M : Int → Int) (ops : List Rwo) : Int → Int := ops.foldl (fun M o => if o.w = true then putM M o.v o.x else M) M
/-- the place of the first read that is not of what it may -/
def ownS : (Int → Int) → List Rwo → Nat
  | _, [] => 0
  | M, o :: r => if o.w = true then 1 + ownS (putM M o.v o.x) r else if M o.v = o.x then 1 + ownS M r else 0
def opsAt (l : List Tx) (i : Nat) : List Rwo := match l[i]? with | some X => X.o | none => []
def stepM (l : List Tx) (c : Nat) (M : Int → Int) (i : Nat) : Int → Int := if c.testBit i = true then withM M (opsAt l i) else M
def behindS (l : List Tx) (c : Nat) (M : Int → Int) (row : List Nat) : Int → Int := row.foldl (stepM l c) M
def legalG (l : List Tx) (c : Nat) : (Int → Int) → List Nat → Nat
  | _, [] => 0
  | M, i :: r => if ownS M (opsAt l i) = (opsAt l i).length then 1 + legalG l c (stepM l c M i) r else 0
def zeroM : Int → Int := fun _ => 0
def legalS (l : List Tx) (c : Nat) (row : List Nat) : Nat := legalG l c zeroM row

theorem withM_nil (M : Int → Int) : withM M [] = M := rfl
theorem withM_cons (M : Int → Int) (o : Rwo) (r : List Rwo) : withM M (o :: r) = withM (if o.w = true then putM M o.v o.x else M) r := rfl
theorem withM_app (M : Int → Int) (a b : List Rwo) : withM M (a ++ b) = withM (withM M a) b := List.foldl_append ..
theorem behind_nil (l : List Tx) (c : Nat) (M : Int → Int) : behindS l c M [] = M := rfl
theorem behind_cons (l : List Tx) (c : Nat) (M : Int → Int) (i : Nat) (r : List Nat) : behindS l c M (i :: r) = behindS l c (stepM l c M i) r := rfl
theorem behind_app (l : List Tx) (c : Nat) (M : Int → Int) (a b : List Nat) : behindS l c M (a ++ b) = behindS l c (behindS l c M a) b := List.foldl_append ..
theorem own_le : ∀ (ops : List Rwo) (M : Int → Int), ownS M ops ≤ ops.length := by
  intro ops
  induction ops with
  | nil => intro M; exact Nat.le_refl _
  | cons o r ih =>
    intro M
    rw [ownS, List.length_cons]
    split
    · have := ih (putM M o.v o.x); omega
    · split
      · have := ih M; omega
      · omega
/-- read by read -/
def readOk (M : Int → Int) (ops : List Rwo) (i : Nat) : Prop := match ops[i]? with | some o => o.w = true ∨ withM M (ops.take i) o.v = o.x | none => True
theorem own_reads : ∀ (ops : List Rwo) (M : Int → Int), (∀ j, j < ownS M ops → readOk M ops j) ∧ (ownS M ops < ops.length → ¬ readOk M ops (ownS M ops)) := by
  intro ops
  induction ops with
  | nil => intro M; exact ⟨fun j hj => absurd hj (Nat.not_lt_zero _), fun h => absurd h (Nat.lt_irrefl _)⟩
  | cons o r ih =>
    intro M
    have hsucc : ∀ M', (if o.w = true then putM M o.v o.x else M) = M' → ∀ j, readOk M (o :: r) (j + 1) ↔ readOk M' r j := fun M' hM j => by
      unfold readOk
      rw [List.getElem?_cons_succ, List.take_succ_cons, withM_cons, hM]
    rw [ownS]
    by_cases hw : o.w = true
    · rw [if_pos hw]
      have h1 := ih (putM M o.v o.x)
      have h2 := hsucc _ (if_pos hw)
      refine ⟨fun j hj => ?_, fun hlt => ?_⟩
      · cases j with
        | zero => exact .inl hw
        | succ j => exact (h2 j).2 (h1.1 j (by omega))
      · rw [Nat.add_comm, h2]
        rw [List.length_cons] at hlt
        exact h1.2 (by omega)
    · rw [if_neg hw]
      by_cases hr : M o.v = o.x
      · rw [if_pos hr]
        have h1 := ih M
        have h2 := hsucc _ (if_neg hw)
        refine ⟨fun j hj => ?_, fun hlt => ?_⟩
        · cases j with
          | zero => exact .inr hr
          | succ j => exact (h2 j).2 (h1.1 j (by omega))
        · rw [Nat.add_comm, h2]
          rw [List.length_cons] at hlt
          exact h1.2 (by omega)
      · rw [if_neg hr]
        refine ⟨fun j hj => absurd hj (Nat.not_lt_zero _), fun _ h => ?_⟩
        rcases h with h | h
        · exact hw h
        · exact hr h
theorem own_is {M : Int → Int} {ops : List Rwo} {k : Nat} (hk : k ≤ ops.length) (h1 : ∀ j, j < k → readOk M ops j) (h2 : k < ops.length → ¬ readOk M ops k) : ownS M ops = k := by
  obtain ⟨g1, g2⟩ := own_reads ops M
  have hle := own_le ops M
  rcases Nat.lt_trichotomy (ownS M ops) k with h | h | h
  · exact absurd (h1 _ h) (g2 (by omega))
  · exact h
  · exact absurd (g1 _ h) (h2 (by omega))
theorem own_congr : ∀ (ops : List Rwo) (M M' : Int → Int), (∀ o ∈ ops, M o.v = M' o.v) → ownS M ops = ownS M' ops := by
  intro ops
  induction ops with
  | nil => intro M M' _; rfl
  | cons o r ih =>
    intro M M' h
    rw [ownS, ownS, h o (List.mem_cons_self ..)]
    by_cases hw : o.w = true
    · rw [if_pos hw, if_pos hw, ih (putM M o.v o.x) (putM M' o.v o.x) (fun p hp => by
        unfold putM
        split
        · rfl
        · exact h p (List.mem_cons_of_mem _ hp))]
    · rw [if_neg hw, if_neg hw, ih M M' (fun p hp => h p (List.mem_cons_of_mem _ hp))]
theorem with_far : ∀ (ops : List Rwo) (M : Int → Int) (v : Int), (∀ o ∈ ops, o.v ≠ v) → withM M ops v = M v := by
  intro ops
  induction ops with
  | nil => intro M v _; rfl
  | cons o r ih =>
    intro M v h
    rw [withM_cons, ih _ v (fun p hp => h p (List.mem_cons_of_mem _ hp))]
    split
    · unfold putM; rw [if_neg (fun hc => h o (List.mem_cons_self ..) hc.symm)]
    · rfl
theorem with_congr : ∀ (ops : List Rwo) (M M' : Int → Int) (v : Int), M v = M' v → withM M ops v = withM M' ops v := by
  intro ops
  induction ops with
  | nil => intro M M' v h; exact h
  | cons o r ih =>
    intro M M' v h
    rw [withM_cons, withM_cons]
    refine ih _ _ v ?_
    split
    · unfold putM; split
      · rfl
      · exact h
    · exact h
/-- what shares no variable may change places -/
theorem with_comm (a b : List Rwo) (M : Int → Int) (h : ∀ o ∈ a, ∀ p ∈ b, p.v ≠ o.v) : withM (withM M a) b = withM (withM M b) a := by
  funext v
  by_cases hb : ∃ p ∈ b, p.v = v
  · obtain ⟨p, hp, rfl⟩ := hb
    have ha : ∀ o ∈ a, o.v ≠ p.v := fun o ho hc => h o ho p hp hc.symm
    rw [with_far a _ _ ha]
    exact with_congr b _ _ _ (with_far a _ _ ha)
  · have hb' : ∀ p ∈ b, p.v ≠ v := fun p hp hc => hb ⟨p, hp, hc⟩
    rw [with_far b _ _ hb']
    exact (with_congr a _ _ _ (with_far b _ _ hb')).symm
theorem own_far (a b : List Rwo) (M : Int → Int) (h : ∀ o ∈ a, ∀ p ∈ b, p.v ≠ o.v) : ownS (withM M a) b = ownS M b :=
  own_congr b _ _ fun p hp => with_far a M p.v fun o ho hc => h o ho p hp hc.symm
theorem legal_le (l : List Tx) (c : Nat) : ∀ (row : List Nat) (M : Int → Int), legalG l c M row ≤ row.length := by
  intro row
  induction row with
  | nil => intro M; exact Nat.le_refl _
  | cons i r ih =>
    intro M
    rw [legalG, List.length_cons]
    split
    · have := ih (stepM l c M i); omega
    · omega
/-- a shorter row is legal as far as it goes -/
theorem legal_take (l : List Tx) (c : Nat) : ∀ (row : List Nat) (k : Nat) (M : Int → Int), legalG l c M (row.take k) = min (legalG l c M row) k := by
  intro row
  induction row with
  | nil => intro k M; simp [legalG]
  | cons i r ih =>
    intro k M
    cases k with
    | zero => simp [legalG]
    | succ k =>
      rw [List.take_succ_cons, legalG, legalG, ih k]
      split
      · omega
      · omega
theorem legal_app (l : List Tx) (c : Nat) : ∀ (a b : List Nat) (M : Int → Int), legalG l c M (a ++ b) = if legalG l c M a = a.length then a.length + legalG l c (behindS l c M a) b else legalG l c M a := by
  intro a
  induction a with
  | nil => intro b M; simp [legalG, behindS]
  | cons i r ih =>
    intro b M
    rw [List.cons_append, legalG, legalG, ih, behind_cons, List.length_cons]
    have h1 := legal_le l c r (stepM l c M i)
    by_cases ho : ownS M (opsAt l i) = (opsAt l i).length
    · rw [if_pos ho, if_pos ho]
      by_cases hr : legalG l c (stepM l c M i) r = r.length
      · rw [if_pos hr, if_pos (by omega)]; omega
      · rw [if_neg hr, if_neg (by omega)]
    · rw [if_neg ho, if_neg ho, if_neg (by omega)]
theorem legal_all (l : List Tx) (c : Nat) (i : Nat) (r : List Nat) (M : Int → Int) : legalG l c M (i :: r) = (i :: r).length ↔ ownS M (opsAt l i) = (opsAt l i).length ∧ legalG l c (stepM l c M i) r = r.length := by
  have h1 := legal_le l c r (stepM l c M i)
  rw [legalG, List.length_cons]
  by_cases ho : ownS M (opsAt l i) = (opsAt l i).length
  · rw [if_pos ho]; omega
  · rw [if_neg ho]; omega
theorem legal_at (l : List Tx) (c : Nat) : ∀ (row : List Nat) (M : Int → Int) (j : Nat), j < legalG l c M row → ∀ i, row[j]? = some i → ownS (behindS l c M (row.take j)) (opsAt l i) = (opsAt l i).length := by
  intro row
  induction row with
  | nil => intro M j hj; exact absurd hj (Nat.not_lt_zero _)
  | cons x r ih =>
    intro M j hj i hi
    rw [legalG] at hj
    by_cases ho : ownS M (opsAt l x) = (opsAt l x).length
    · rw [if_pos ho] at hj
      cases j with
      | zero =>
        rw [List.getElem?_cons_zero] at hi
        rw [← Option.some.inj hi]
        exact ho
      | succ j =>
        rw [List.take_succ_cons, behind_cons]
        exact ih (stepM l c M x) j (by omega) i (by rwa [List.getElem?_cons_succ] at hi)
    · rw [if_neg ho] at hj; exact absurd hj (Nat.not_lt_zero _)
/-- those that are not committed leave the memory -/
theorem behind_filter (l : List Tx) (c : Nat) : ∀ (row : List Nat) (M : Int → Int), behindS l c M (row.filter c.testBit) = behindS l c M row := by
  intro row
  induction row with
  | nil => intro M; rfl
  | cons i r ih =>
    intro M
    rw [behind_cons, List.filter_cons]
    by_cases hb : c.testBit i = true
    · rw [if_pos hb, behind_cons, ih]
    · rw [if_neg hb, ih]
      unfold stepM
      rw [if_neg hb]
def apart (l : List Tx) (a b : Nat) : Prop := ∀ o ∈ opsAt l a, ∀ p ∈ opsAt l b, p.v ≠ o.v
theorem apart.symm {l : List Tx} {a b : Nat} (h : apart l a b) : apart l b a := fun o ho p hp hc => h p hp o ho hc.symm
theorem step_comm {l : List Tx} {a b : Nat} (h : apart l a b) (c : Nat) (M : Int → Int) : stepM l c (stepM l c M a) b = stepM l c (stepM l c M b) a := by
  unfold stepM
  by_cases ha : c.testBit a = true
  · by_cases hb : c.testBit b = true
    · rw [if_pos ha, if_pos hb, if_pos hb, if_pos ha]; exact with_comm _ _ _ h
    · rw [if_neg hb, if_neg hb]
  · rw [if_neg ha, if_neg ha]
theorem own_step {l : List Tx} {a b : Nat} (h : apart l a b) (c : Nat) (M : Int → Int) : ownS (stepM l c M a) (opsAt l b) = ownS M (opsAt l b) := by
  unfold stepM
  by_cases ha : c.testBit a = true
  · rw [if_pos ha]; exact own_far _ _ _ h
  · rw [if_neg ha]
/-- two neighbours that share no variable may change places -/
theorem swap_legal {l : List Tx} {a b : Nat} (h : apart l a b) (c : Nat) (p q : List Nat) (M : Int → Int) :
    behindS l c M (p ++ a :: b :: q) = behindS l c M (p ++ b :: a :: q) ∧ (legalG l c M (p ++ a :: b :: q) = (p ++ a :: b :: q).length ↔ legalG l c M (p ++ b :: a :: q) = (p ++ b :: a :: q).length) := by
  refine ⟨?_, ?_⟩
  · rw [behind_app, behind_app, behind_cons, behind_cons, behind_cons, behind_cons, step_comm h]
  · have h1 := legal_le l c p M
    rw [legal_app, legal_app, List.length_append, List.length_append]
    by_cases hp : legalG l c M p = p.length
    · rw [if_pos hp, if_pos hp]
      have e1 := legal_all l c a (b :: q) (behindS l c M p)
      have e2 := legal_all l c b q (stepM l c (behindS l c M p) a)
      have e3 := legal_all l c b (a :: q) (behindS l c M p)
      have e4 := legal_all l c a q (stepM l c (behindS l c M p) b)
      rw [own_step h] at e2
      rw [own_step h.symm] at e4
      rw [step_comm h] at e2
      constructor
      · intro hh
        have g1 := e1.1 (by omega)
        have g2 := e2.1 g1.2
        have := e3.2 ⟨g2.1, e4.2 ⟨g1.1, g2.2⟩⟩
        omega
      · intro hh
        have g1 := e3.1 (by omega)
        have g2 := e4.1 g1.2
        have := e1.2 ⟨g2.1, e2.2 ⟨g1.1, g2.2⟩⟩
        omega
    · rw [if_neg hp, if_neg hp]
      simp only [List.length_cons]
/-- what a legal transaction reads of a variable that it never wrote is the same each time -/
def sameR : (Int → Option Int) → (Int → Bool) → List Rwo → Bool
  | _, _, [] => true
  | S, W, o :: r => if o.w = true then sameR S (fun u => if u = o.v then true else W u) r
    else (match S o.v with | some x => W o.v || decide (x = o.x) | none => true) && sameR (fun u => if u = o.v then some o.x else S u) W r
theorem own_same : ∀ (ops : List Rwo) (M M0 : Int → Int) (S : Int → Option Int) (W : Int → Bool), ownS M ops = ops.length → (∀ v, W v = false → M v = M0 v) → (∀ v x, S v = some x → W v = false → x = M0 v) → sameR S W ops = true := by
  intro ops
  induction ops with
  | nil => intro M M0 S W _ _ _; rfl
  | cons o r ih =>
    intro M M0 S W ho hM hS
    rw [ownS, List.length_cons] at ho
    rw [sameR]
    by_cases hw : o.w = true
    · rw [if_pos hw] at ho ⊢
      refine ih (putM M o.v o.x) M0 _ _ (by omega) (fun v hv => ?_) (fun v x hx hv => ?_)
      · by_cases h : v = o.v
        · rw [if_pos h] at hv; cases hv
        · rw [if_neg h] at hv; unfold putM; rw [if_neg h]; exact hM v hv
      · by_cases h : v = o.v
        · rw [if_pos h] at hv; cases hv
        · rw [if_neg h] at hv; exact hS v x hx hv
    · rw [if_neg hw] at ho ⊢
      by_cases hr : M o.v = o.x
      · rw [if_pos hr] at ho
        rw [Bool.and_eq_true]
        refine ⟨?_, ih M M0 _ _ (by omega) hM (fun v x hx hv => ?_)⟩
        · cases hs : S o.v with
          | none => rfl
          | some x =>
            cases hW : W o.v with
            | true => rfl
            | false =>
              have h1 := hS _ _ hs hW
              have h2 := hM _ hW
              simp only [Bool.false_or, decide_eq_true_eq]
              rw [h1, ← h2, hr]
        · by_cases h : v = o.v
          · rw [if_pos h] at hx
            rw [h] at hv ⊢
            rw [← Option.some.inj hx, ← hr]
            exact hM _ hv
          · rw [if_neg h] at hx; exact hS v x hx hv
      · rw [if_neg hr] at ho; omega
/-- of a memory that is told as writes, the last one first -/
def memL (L : List Rwo) : Int → Int := fun v => match L.find? (fun o => decide (o.v = v)) with | some o => o.x | none => 0
theorem memL_nil : memL [] = zeroM := rfl
theorem memL_put (L : List Rwo) (o : Rwo) : memL (o :: L) = putM (memL L) o.v o.x := by
  funext v
  unfold memL putM
  rw [List.find?_cons]
  by_cases h : o.v = v
  · simp [h]
  · rw [decide_eq_false h, if_neg (fun hc => h hc.symm)]
end Go.Proofs.YtkliahdgciajjaaDoor.RPlain
