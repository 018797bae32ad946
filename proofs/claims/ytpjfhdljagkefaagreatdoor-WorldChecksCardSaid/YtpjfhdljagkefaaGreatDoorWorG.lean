/- A range over an iterator of anything, in a function and within a round of another loop: what each round may turn is a set of blocks that grows with the rounds. -/
import Derived.Test.YtpjfhdljagkefaaGreatDoorMg1
namespace Go.Proofs.YtpjfhdljagkefaaGreatDoor
open Go.RowKit

/-- what is said abides new blocks, and the turn of a block that is no cells, from B on -/
def OwnE {α : Type} (B : Nat) (J : List α → (Nat → Prop) → World → Prop) : Prop :=
  ∀ s X W W' row, J s X W → W.grownBy W' row → (∀ r, row = some r → B ≤ r ∧ ∃ o : Obj, W.heap[r]? = some o ∧ o.isCells = false) → J s X W'
section
variable {α : Type} {B : Nat} {J : List α → (Nat → Prop) → World → Prop} {s : List α} {X : Nat → Prop} {W W' : World}
theorem OwnE.below (h : OwnE B J) (hs : J s X W) (hb : Below W.heap.size W W') : J s X W' := h s X W W' none hs (grownB11 hb) (fun r e => by cases e)
theorem OwnE.mono {B' : Nat} (h : OwnE B J) (hB : B ≤ B') : OwnE B' J := fun s X W W' row hs hg hr => h s X W W' row hs hg (fun r e => ⟨Nat.le_trans hB (hr r e).1, (hr r e).2⟩)
theorem OwnE.alloc (h : OwnE B J) (o : Obj) (hs : J s X W) : J s X (W.alloc o) := h s X W _ none hs (World.grownBy_alloc W o none) (fun r e => by cases e)
theorem OwnE.putObj (h : OwnE B J) {l : Nat} {o : Obj} (o' : Obj) (hs : J s X W) (hB : B ≤ l) (hl : W.heap[l]? = some o) (ho : o.isCells = false) : J s X (W.putObj l o') :=
  h s X W _ (some l) hs (grownBy_putObj' W l o') (fun r e => by cases e; exact ⟨hB, o, hl, ho⟩)
end
/-- THE ROUNDS OF A LOOP, as an iterator meets them: each row that comes is read, and lies apart from what the rounds turn. -/
def RoundsE {α : Type} (Enc : α → Array Value → (Nat → Prop) → World → Prop) (P : Program) (l : Nat) (T : List α) (J Jx : List α → (Nat → Prop) → World → Prop) : Prop :=
  ∀ pre r vs X W, J pre X W → (pre ++ [r]) <+: T → Enc r vs X W → YieldAt Fence.wide 3 P l vs W fun e W' =>
    (e = .returned (.bool true) ∧ ∃ X', J (pre ++ [r]) X' W' ∧ Kept X X' W W') ∨ (e = .returned (.bool false) ∧ ∃ X', Jx (pre ++ [r]) X' W' ∧ Kept X X' W W')
/-- AN ITERATOR GIVES ROWS, behind those that have come. -/
def GivesE {α : Type} (Enc : α → Array Value → (Nat → Prop) → World → Prop) (P : Program) (g : Nat) (lb : Array Value) (Hyp : (Nat → Prop) → World → Prop) (pre0 T rows : List α) : Prop :=
  ∀ (l : Nat) (J Jx : List α → (Nat → Prop) → World → Prop) (X : Nat → Prop) (W : World), Hyp X W → OwnE W.heap.size J → OwnE W.heap.size Jx →
    (∀ pre X W, J pre X W → ∀ k, X k → k < W.heap.size) → RoundsE Enc P l T J Jx → J pre0 X W →
    Calls P g (#[.func (.yield l) #[] #[]] ++ lb) W fun e W' => (∃ v, e = .returned v) ∧ ((∃ X', J (pre0 ++ rows) X' W') ∨ ∃ q X', q <+: rows ∧ Jx (pre0 ++ q) X' W')
/-- HOW A ROUND's BODY MAY BE LEFT. -/
def postE {α : Type} (I : List α → (Nat → Prop) → World → Prop) (Ix : Code → List α → (Nat → Prop) → World → Prop) (s : List α) (X : Nat → Prop) (W : World) : Exit → Act → World → Prop
  | .normal, _, W' => ∃ X', I s X' W' ∧ Kept X X' W W'
  | .ret, _, W' => ∃ X', Ix .ret s X' W' ∧ Kept X X' W W'
  | .exit id, _, W' => ∃ X', Ix (.exit id) s X' W' ∧ Kept X X' W W'
  | .goto t, _, W' => ∃ X', Ix (.goto t) s X' W' ∧ Kept X X' W W'
  | .panic _, _, _ => False
  | .outgrown, _, _ => False
/-- THE LAW: a loop over such an iterator. -/
theorem range_e {α : Type} {Enc : α → Array Value → (Nat → Prop) → World → Prop} {n : Nat} {P : Program} {g : Operand} {ps : Array Tmp} {assign body : Code} {Q : Exit → Act → World → Prop} {a : Act} {w : World}
    {gf : Nat} {lb : Array Value} (hg : a.eval g = .func (.func gf) #[] lb) (eg : ∀ args w, (callFunc gf args).run P w = .ok (.enter gf args) w) (hps : ∀ r vs X W, Enc r vs X W → vs.size = ps.size) (hless : ∀ r vs X Y W, Enc r vs X W → (∀ k, Y k → X k) → Enc r vs Y W)
    {Hyp : (Nat → Prop) → World → Prop} {pre0 T rows : List α} (hgive : GivesE Enc P gf lb Hyp pre0 T rows)
    (I : List α → (Nat → Prop) → World → Prop) (Ix : Code → List α → (Nat → Prop) → World → Prop) (X0 : Nat → Prop)
    (hHyp : ∀ W1, Below w.heap.size w W1 → Hyp (addX X0 (w.heap.size + 1)) W1)
    (htop : ∀ pre X W, I pre X W → ∀ k, X k → k < W.heap.size)
    (hI : OwnE w.heap.size I) (hIx : ∀ c, OwnE w.heap.size (Ix c)) (h0 : I pre0 X0 w)
    (hround : ∀ (l : Nat) (pre : List α) (r : α) (vs : Array Value) (X : Nat → Prop) (W : World), w.heap.size ≤ l → l < W.heap.size → ¬ X l → I pre X W → (pre ++ [r]) <+: T → Enc r vs X W →
      assign.wpIn (Fence.wide.inRound l) 3 P (Exit.then (fun a1 W1 => Kept X X W W1 ∧ ∀ W2, W1.grownBy W2 (some l) → (∃ o : Obj, W1.heap[l]? = some o ∧ o.isCells = false) → (∃ q, W2.heap[l]? = some (.loop q)) →
        body.wpIn (Fence.wide.inRound l) 3 P (postE I Ix (pre ++ [r]) X W2) a1 W2) (fun _ _ _ => False)) { tmps := (ps.zip vs).foldl (fun t (p, v) => t.setIfInBounds p v) a.tmps, defers := [] } W)
    (hdone : ∀ (X : Nat → Prop) (W : World), I (pre0 ++ rows) X W → ¬ X w.heap.size → W.heap[w.heap.size]? = some (.deferred (some [])) → Q .normal { a with defers := { target := .collected w.heap.size, args := #[] } :: a.defers } W)
    (hstop : ∀ (c : Code) (q : List α) (X : Nat → Prop) (W : World), q <+: rows → Ix c (pre0 ++ q) X W → ¬ X w.heap.size → W.heap[w.heap.size]? = some (.deferred (some [])) → c.wpIn Fence.wide n P Q { a with defers := { target := .collected w.heap.size, args := #[] } :: a.defers } W) :
    (Code.rangeFunc g ps assign body).wpIn Fence.wide n P Q a w := by
  refine wpIn_rangeFunc ?_
  intro fn hfn
  obtain ⟨rec, hrec⟩ : ∃ rec : LoopState → Option Code → Loop, rec = fun st pe => { state := st, pending := pe, fn, tmps := a.tmps, params := ps, assign, body, defers := w.heap.size } := ⟨_, rfl⟩
  obtain ⟨d, hd⟩ : ∃ d, d = w.heap.size := ⟨_, rfl⟩
  obtain ⟨l, hl⟩ : ∃ l, l = w.heap.size + 1 := ⟨_, rfl⟩
  obtain ⟨W1, hW1⟩ : ∃ W1, (w.alloc (.deferred (some []))).alloc (.loop (rec .ready none)) = W1 := ⟨_, rfl⟩
  have hs1 : W1.heap.size = w.heap.size + 2 := by rw [← hW1]; simp
  have hL1 : W1.heap[l]? = some (.loop (rec .ready none)) := by
    rw [← hW1, hl]
    have := World.alloc_heap_new (w.alloc (.deferred (some []))) (.loop (rec .ready none))
    rwa [World.size_alloc] at this
  have hD1 : W1.heap[d]? = some (.deferred (some [])) := by
    rw [← hW1, hd]
    exact (Below.heap_alloc _ _ _ (by simp)).trans (World.alloc_heap_new w _)
  have hb1 : Below w.heap.size w W1 := by
    rw [← hW1]
    exact ((Below.refl _ w).alloc (Nat.le_refl _) _).alloc (by simp) _
  have hx0 : ∀ k, X0 k → k < w.heap.size := htop _ _ _ h0
  refine ⟨l, [{ target := .collected d, args := #[] }], W1, { target := .fn (.func gf) lb, args := #[.func (.yield l) #[] #[]] }, W1, gf, #[.func (.yield l) #[] #[]] ++ lb, W1, ?_, ?_, fun _ _ => trivial, ?_, fun h => by simp [Fence.wide] at h, ?_⟩
  · rw [← hW1, hrec, hl, hd]; exact run_enterLoop_outer _ _ _ _ _
  · simp only [resolve, hg]
    simp [go_sem]
  · simp [invoke, go_sem, eg]
  refine callsIn_wide.2 ?_
  refine (hgive l (fun pre X W => ∃ X', I pre X' W ∧ X = addX X' l ∧ ¬ X' l ∧ ¬ X' d ∧ W.heap[l]? = some (.loop (rec .ready none)) ∧ W.heap[d]? = some (.deferred (some [])))
    (fun pre X W => ∃ c X', Ix c pre X' W ∧ X = addX X' l ∧ ¬ X' d ∧ W.heap[l]? = some (.loop (rec .done (some c))) ∧ W.heap[d]? = some (.deferred (some [])))
    (addX X0 l) W1 (by rw [hl]; exact hHyp W1 hb1) ?ownJ ?ownX ?top ?rounds ⟨X0, hI.below h0 hb1, rfl, fun h => by have := hx0 l h; omega, fun h => by have := hx0 d h; omega, hL1, hD1⟩).mono ?post
  case ownJ =>
    rintro s X A A' row ⟨X', h1, h2, h3, h4, h5, h6⟩ hgr hr
    have hnl : ∀ k, k < W1.heap.size → ∀ o, A.heap[k]? = some o → A'.heap[k]? = some o := fun k hk o ho => by
      refine (hgr.block k (Array.getElem?_eq_some_iff.1 ho).1 fun e => ?_).trans ho
      have := (hr k e.symm).1
      omega
    exact ⟨X', hI _ _ _ _ _ h1 hgr (fun r e => ⟨by have := (hr r e).1; omega, (hr r e).2⟩), h2, h3, h4, hnl l (by omega) _ h5, hnl d (by omega) _ h6⟩
  case ownX =>
    rintro s X A A' row ⟨c, X', h1, h2, h4, h5, h6⟩ hgr hr
    have hnl : ∀ k, k < W1.heap.size → ∀ o, A.heap[k]? = some o → A'.heap[k]? = some o := fun k hk o ho => by
      refine (hgr.block k (Array.getElem?_eq_some_iff.1 ho).1 fun e => ?_).trans ho
      have := (hr k e.symm).1
      omega
    exact ⟨c, X', hIx c _ _ _ _ _ h1 hgr (fun r e => ⟨by have := (hr r e).1; omega, (hr r e).2⟩), h2, h4, hnl l (by omega) _ h5, hnl d (by omega) _ h6⟩
  case top =>
    rintro pre X W ⟨X', h1, rfl, h3, h4, h5, h6⟩ k hk
    rcases hk with hk | rfl
    · exact htop _ _ _ h1 k hk
    · exact (Array.getElem?_eq_some_iff.1 h5).1
  case rounds =>
    rintro pre r vs X W ⟨X', h1, rfl, h3, h4, h5, h6⟩ hT hv
    have hlw : l < W.heap.size := (Array.getElem?_eq_some_iff.1 h5).1
    have hdw : d < W.heap.size := (Array.getElem?_eq_some_iff.1 h6).1
    have hy := run_yield (P := P) (args := vs) h5 (by rw [hrec]; exact hps _ _ _ _ hv)
    rw [hrec] at hy
    refine ⟨fn, _, assign, body, hy, roundIn_of_wpIn hfn ?_⟩
    refine wpIn_mono (hround l pre r vs X' W (by omega) hlw h3 h1 hT (hless _ _ _ _ _ hv fun k hk => .inl hk)) ?_
    rintro e a1 Wa hp
    cases e with
    | normal =>
      obtain ⟨hk1, hbody⟩ := hp
      have hla : Wa.heap[l]? = some (.loop (rec .ready none)) := (hk1.same l hlw h3).trans h5
      have hda : Wa.heap[d]? = some (.deferred (some [])) := (hk1.same d hdw h4).trans h6
      have hlwa : l < Wa.heap.size := Nat.lt_of_lt_of_le hlw hk1.size
      refine ⟨_, run_beginRound hla (by rw [hrec]), ?_⟩
      obtain ⟨Wb, hWb⟩ : ∃ Wb, Wa.putObj l (.loop { rec .ready none with state := .busy }) = Wb := ⟨_, rfl⟩
      have hlb : Wb.heap[l]? = some (.loop { rec .ready none with state := .busy }) := by rw [← hWb]; exact World.putObj_heap_same hlwa
      have hsb : Wb.heap.size = Wa.heap.size := by rw [← hWb]; simp
      have hob : ∀ k, k ≠ l → Wb.heap[k]? = Wa.heap[k]? := fun k hk => by rw [← hWb]; exact World.putObj_heap_other hk
      rw [hWb]
      have hgb : Wa.grownBy Wb (some l) := by rw [← hWb]; exact grownBy_putObj' Wa l _
      refine wpIn_mono (hbody Wb hgb ⟨_, hla, rfl⟩ ⟨_, hlb⟩) ?_
      -- what lay ahead of the round, behind it
      have fin : ∀ (jump : Option Code) (X3 : Nat → Prop) (W3 : World), Kept X' X3 Wb W3 → ∃ W4, (Instr.endRound l jump).run P W3 = .ok (.bool jump.isNone) W4 ∧ W4 = W3.putObj l (.loop (rec (if jump.isNone then .ready else .done) jump)) ∧
          W3.heap[l]? = some (.loop { rec .ready none with state := .busy }) ∧ W4.heap[l]? = some (.loop (rec (if jump.isNone then .ready else .done) jump)) ∧ W4.heap[d]? = some (.deferred (some [])) ∧ Kept (addX X' l) (addX X3 l) W W4 ∧ ¬ X3 l ∧ ¬ X3 d := fun jump X3 W3 hk3 => by
        have hl3 := (hk3.same l (by omega) h3).trans hlb
        have hd3 := ((hk3.same d (by omega) h4).trans (hob d (by omega))).trans hda
        have hl3s : l < W3.heap.size := (Array.getElem?_eq_some_iff.1 hl3).1
        have hr := run_endRound (P := P) jump hl3
        rw [hrec] at hr hl3 ⊢
        refine ⟨_, hr, rfl, hl3, World.putObj_heap_same hl3s, (World.putObj_heap_other (by omega)).trans hd3, ⟨?_, fun k hk hx => ?_, fun k hk => ?_⟩, hk3.not (by omega) h3, hk3.not (by omega) h4⟩
        · have h7 := hk1.size
          have h8 := hk3.size
          simp only [World.putObj_size]
          omega
        · have hkl : k ≠ l := fun e => hx (.inr e)
          have hkx : ¬ X' k := fun e => hx (.inl e)
          have h7 := hk1.size
          exact ((World.putObj_heap_other hkl).trans (hk3.same k (by omega) hkx)).trans ((hob k hkl).trans (hk1.same k hk hkx))
        · rcases hk with hk | rfl
          · rcases hk3.new k hk with h9 | h9
            · exact .inl (.inl h9)
            · have h7 := hk1.size
              exact .inr (by omega)
          · exact .inl (.inr rfl)
      rintro e a3 W3 hp3
      cases e with
      | normal =>
        obtain ⟨X3, hi3, hk3⟩ := hp3
        obtain ⟨W4, hr, h4e, hl3, hl4, hd4, hkk, hn1, hn2⟩ := fin none X3 W3 hk3
        exact ⟨_, _, hr, .inl ⟨rfl, _, ⟨X3, by rw [h4e]; exact hI.putObj _ hi3 (by omega) hl3 rfl, rfl, hn1, hn2, hl4, hd4⟩, hkk⟩⟩
      | ret =>
        obtain ⟨X3, hi3, hk3⟩ := hp3
        obtain ⟨W4, hr, h4e, hl3, hl4, hd4, hkk, hn1, hn2⟩ := fin (some .ret) X3 W3 hk3
        exact ⟨_, _, hr, .inr ⟨rfl, _, ⟨.ret, X3, by rw [h4e]; exact (hIx _).putObj _ hi3 (by omega) hl3 rfl, rfl, hn2, hl4, hd4⟩, hkk⟩⟩
      | exit id =>
        obtain ⟨X3, hi3, hk3⟩ := hp3
        obtain ⟨W4, hr, h4e, hl3, hl4, hd4, hkk, hn1, hn2⟩ := fin (some (.exit id)) X3 W3 hk3
        exact ⟨_, _, hr, .inr ⟨rfl, _, ⟨.exit id, X3, by rw [h4e]; exact (hIx _).putObj _ hi3 (by omega) hl3 rfl, rfl, hn2, hl4, hd4⟩, hkk⟩⟩
      | goto t =>
        obtain ⟨X3, hi3, hk3⟩ := hp3
        obtain ⟨W4, hr, h4e, hl3, hl4, hd4, hkk, hn1, hn2⟩ := fin (some (.goto t)) X3 W3 hk3
        exact ⟨_, _, hr, .inr ⟨rfl, _, ⟨.goto t, X3, by rw [h4e]; exact (hIx _).putObj _ hi3 (by omega) hl3 rfl, rfl, hn2, hl4, hd4⟩, hkk⟩⟩
      | panic ch => exact hp3.elim
      | outgrown => exact hp3.elim
    | ret => exact hp.elim
    | exit id => exact hp.elim
    | goto t => exact hp.elim
    | panic ch => exact hp.elim
    | outgrown => exact hp.elim
  case post =>
    rintro e W2 ⟨⟨v, rfl⟩, ⟨X2, X', h1, h2, h3, h4, h5, h6⟩ | ⟨q, X2, hq, c, X', h1, h2, h4, h5, h6⟩⟩
    · have hr := run_endLoop (P := P) h5 (by rw [hrec]; simp)
      rw [hrec] at hr
      refine ⟨none, _, hr, ?_⟩
      have hdd : (W2.putObj l (.loop { rec .ready none with state := .exhausted })).heap[d]? = some (.deferred (some [])) := (World.putObj_heap_other (by omega)).trans h6
      have hii := hI.putObj (.loop { rec .ready none with state := .exhausted }) h1 (by omega) h5 rfl
      rw [hrec] at hdd hii
      subst hd
      exact hdone X' _ hii h4 hdd
    · have hr := run_endLoop (P := P) h5 (by rw [hrec]; simp)
      rw [hrec] at hr
      refine ⟨some c, _, hr, ?_⟩
      have hdd : (W2.putObj l (.loop { rec .done (some c) with state := .exhausted })).heap[d]? = some (.deferred (some [])) := (World.putObj_heap_other (by omega)).trans h6
      have hii := (hIx c).putObj (.loop { rec .done (some c) with state := .exhausted }) h1 (by omega) h5 rfl
      rw [hrec] at hdd hii
      subst hd
      exact hstop c q X' _ hq hii h4 hdd
/-- THE LAW within a round of another loop: one block, no mark. -/
theorem range_ei {α : Type} {Enc : α → Array Value → (Nat → Prop) → World → Prop} {n : Nat} {P : Program} {g : Operand} {ps : Array Tmp} {assign body : Code} {Q : Exit → Act → World → Prop} {a : Act} {w : World}
    {l0 : Nat} (hl0 : ∃ r0, w.heap[l0]? = some (.loop r0)) {gf : Nat} {lb : Array Value} (hg : a.eval g = .func (.func gf) #[] lb) (eg : ∀ args w, (callFunc gf args).run P w = .ok (.enter gf args) w) (hps : ∀ r vs X W, Enc r vs X W → vs.size = ps.size) (hless : ∀ r vs X Y W, Enc r vs X W → (∀ k, Y k → X k) → Enc r vs Y W)
    {Hyp : (Nat → Prop) → World → Prop} {pre0 T rows : List α} (hgive : GivesE Enc P gf lb Hyp pre0 T rows)
    (I : List α → (Nat → Prop) → World → Prop) (Ix : Code → List α → (Nat → Prop) → World → Prop) (X0 : Nat → Prop)
    (hHyp : ∀ W1, Below w.heap.size w W1 → Hyp (addX X0 w.heap.size) W1)
    (htop : ∀ pre X W, I pre X W → ∀ k, X k → k < W.heap.size)
    (hI : OwnE w.heap.size I) (hIx : ∀ c, OwnE w.heap.size (Ix c)) (h0 : I pre0 X0 w)
    (hround : ∀ (l : Nat) (pre : List α) (r : α) (vs : Array Value) (X : Nat → Prop) (W : World), w.heap.size ≤ l → l < W.heap.size → ¬ X l → I pre X W → (pre ++ [r]) <+: T → Enc r vs X W →
      assign.wpIn (Fence.wide.inRound l) 3 P (Exit.then (fun a1 W1 => Kept X X W W1 ∧ ∀ W2, W1.grownBy W2 (some l) → (∃ o : Obj, W1.heap[l]? = some o ∧ o.isCells = false) → (∃ q, W2.heap[l]? = some (.loop q)) →
        body.wpIn (Fence.wide.inRound l) 3 P (postE I Ix (pre ++ [r]) X W2) a1 W2) (fun _ _ _ => False)) { tmps := (ps.zip vs).foldl (fun t (p, v) => t.setIfInBounds p v) a.tmps, defers := [] } W)
    (hdone : ∀ (X : Nat → Prop) (W : World), I (pre0 ++ rows) X W → ¬ X w.heap.size → Q .normal a W)
    (hstop : ∀ (c : Code) (q : List α) (X : Nat → Prop) (W : World), q <+: rows → Ix c (pre0 ++ q) X W → c.wpIn (Fence.wide.inRound l0) n P Q a W) :
    (Code.rangeFunc g ps assign body).wpIn (Fence.wide.inRound l0) n P Q a w := by
  obtain ⟨r0, hr0⟩ := hl0
  refine wpIn_rangeFunc ?_
  intro fn hfn
  obtain ⟨rec, hrec⟩ : ∃ rec : LoopState → Option Code → Loop, rec = fun st pe => { state := st, pending := pe, fn, tmps := a.tmps, params := ps, assign, body, defers := r0.defers } := ⟨_, rfl⟩
  obtain ⟨l, hl⟩ : ∃ l, l = w.heap.size := ⟨_, rfl⟩
  obtain ⟨W1, hW1⟩ : ∃ W1, w.alloc (.loop (rec .ready none)) = W1 := ⟨_, rfl⟩
  have hs1 : W1.heap.size = w.heap.size + 1 := by rw [← hW1]; simp
  have hL1 : W1.heap[l]? = some (.loop (rec .ready none)) := by
    rw [← hW1, hl]
    exact World.alloc_heap_new w _
  have hb1 : Below w.heap.size w W1 := by
    rw [← hW1]
    exact (Below.refl _ w).alloc (Nat.le_refl _) _
  have hx0 : ∀ k, X0 k → k < w.heap.size := htop _ _ _ h0
  refine ⟨l, [], W1, { target := .fn (.func gf) lb, args := #[.func (.yield l) #[] #[]] }, W1, gf, #[.func (.yield l) #[] #[]] ++ lb, W1, ?_, ?_, fun _ _ => trivial, ?_, fun h => by simp [Fence.wide] at h, ?_⟩
  · rw [← hW1, hrec, hl]; exact run_enterLoop_inner hr0 _ _ _ _ _
  · simp only [resolve, hg]
    simp [go_sem]
  · simp [invoke, go_sem, eg]
  refine CallsIn.inRound l0 (callsIn_wide.2 ?_)
  refine (hgive l (fun pre X W => ∃ X', I pre X' W ∧ X = addX X' l ∧ ¬ X' l ∧ W.heap[l]? = some (.loop (rec .ready none)))
    (fun pre X W => ∃ c X', Ix c pre X' W ∧ X = addX X' l ∧ W.heap[l]? = some (.loop (rec .done (some c))))
    (addX X0 l) W1 (by rw [hl]; exact hHyp W1 hb1) ?ownJ ?ownX ?top ?rounds ⟨X0, hI.below h0 hb1, rfl, fun h => by have := hx0 l h; omega, hL1⟩).mono ?post
  case ownJ =>
    rintro s X A A' row ⟨X', h1, h2, h3, h5⟩ hgr hr
    have hnl : ∀ k, k < W1.heap.size → ∀ o, A.heap[k]? = some o → A'.heap[k]? = some o := fun k hk o ho => by
      refine (hgr.block k (Array.getElem?_eq_some_iff.1 ho).1 fun e => ?_).trans ho
      have := (hr k e.symm).1
      omega
    exact ⟨X', hI _ _ _ _ _ h1 hgr (fun r e => ⟨by have := (hr r e).1; omega, (hr r e).2⟩), h2, h3, hnl l (by omega) _ h5⟩
  case ownX =>
    rintro s X A A' row ⟨c, X', h1, h2, h5⟩ hgr hr
    have hnl : ∀ k, k < W1.heap.size → ∀ o, A.heap[k]? = some o → A'.heap[k]? = some o := fun k hk o ho => by
      refine (hgr.block k (Array.getElem?_eq_some_iff.1 ho).1 fun e => ?_).trans ho
      have := (hr k e.symm).1
      omega
    exact ⟨c, X', hIx c _ _ _ _ _ h1 hgr (fun r e => ⟨by have := (hr r e).1; omega, (hr r e).2⟩), h2, hnl l (by omega) _ h5⟩
  case top =>
    rintro pre X W ⟨X', h1, rfl, h3, h5⟩ k hk
    rcases hk with hk | rfl
    · exact htop _ _ _ h1 k hk
    · exact (Array.getElem?_eq_some_iff.1 h5).1
  case rounds =>
    rintro pre r vs X W ⟨X', h1, rfl, h3, h5⟩ hT hv
    have hlw : l < W.heap.size := (Array.getElem?_eq_some_iff.1 h5).1
    have hy := run_yield (P := P) (args := vs) h5 (by rw [hrec]; exact hps _ _ _ _ hv)
    rw [hrec] at hy
    refine ⟨fn, _, assign, body, hy, roundIn_of_wpIn hfn ?_⟩
    refine wpIn_mono (hround l pre r vs X' W (by omega) hlw h3 h1 hT (hless _ _ _ _ _ hv fun k hk => .inl hk)) ?_
    rintro e a1 Wa hp
    cases e with
    | normal =>
      obtain ⟨hk1, hbody⟩ := hp
      have hla : Wa.heap[l]? = some (.loop (rec .ready none)) := (hk1.same l hlw h3).trans h5
      have hlwa : l < Wa.heap.size := Nat.lt_of_lt_of_le hlw hk1.size
      refine ⟨_, run_beginRound hla (by rw [hrec]), ?_⟩
      obtain ⟨Wb, hWb⟩ : ∃ Wb, Wa.putObj l (.loop { rec .ready none with state := .busy }) = Wb := ⟨_, rfl⟩
      have hlb : Wb.heap[l]? = some (.loop { rec .ready none with state := .busy }) := by rw [← hWb]; exact World.putObj_heap_same hlwa
      have hsb : Wb.heap.size = Wa.heap.size := by rw [← hWb]; simp
      have hob : ∀ k, k ≠ l → Wb.heap[k]? = Wa.heap[k]? := fun k hk => by rw [← hWb]; exact World.putObj_heap_other hk
      rw [hWb]
      have hgb : Wa.grownBy Wb (some l) := by rw [← hWb]; exact grownBy_putObj' Wa l _
      refine wpIn_mono (hbody Wb hgb ⟨_, hla, rfl⟩ ⟨_, hlb⟩) ?_
      -- what lay ahead of the round, behind it
      have fin : ∀ (jump : Option Code) (X3 : Nat → Prop) (W3 : World), Kept X' X3 Wb W3 → ∃ W4, (Instr.endRound l jump).run P W3 = .ok (.bool jump.isNone) W4 ∧ W4 = W3.putObj l (.loop (rec (if jump.isNone then .ready else .done) jump)) ∧
          W3.heap[l]? = some (.loop { rec .ready none with state := .busy }) ∧ W4.heap[l]? = some (.loop (rec (if jump.isNone then .ready else .done) jump)) ∧ Kept (addX X' l) (addX X3 l) W W4 ∧ ¬ X3 l := fun jump X3 W3 hk3 => by
        have hl3 := (hk3.same l (by omega) h3).trans hlb
        have hl3s : l < W3.heap.size := (Array.getElem?_eq_some_iff.1 hl3).1
        have hr := run_endRound (P := P) jump hl3
        rw [hrec] at hr hl3 ⊢
        refine ⟨_, hr, rfl, hl3, World.putObj_heap_same hl3s, ⟨?_, fun k hk hx => ?_, fun k hk => ?_⟩, hk3.not (by omega) h3⟩
        · have h7 := hk1.size
          have h8 := hk3.size
          simp only [World.putObj_size]
          omega
        · have hkl : k ≠ l := fun e => hx (.inr e)
          have hkx : ¬ X' k := fun e => hx (.inl e)
          have h7 := hk1.size
          exact ((World.putObj_heap_other hkl).trans (hk3.same k (by omega) hkx)).trans ((hob k hkl).trans (hk1.same k hk hkx))
        · rcases hk with hk | rfl
          · rcases hk3.new k hk with h9 | h9
            · exact .inl (.inl h9)
            · have h7 := hk1.size
              exact .inr (by omega)
          · exact .inl (.inr rfl)
      rintro e a3 W3 hp3
      cases e with
      | normal =>
        obtain ⟨X3, hi3, hk3⟩ := hp3
        obtain ⟨W4, hr, h4e, hl3, hl4, hkk, hn1⟩ := fin none X3 W3 hk3
        exact ⟨_, _, hr, .inl ⟨rfl, _, ⟨X3, by rw [h4e]; exact hI.putObj _ hi3 (by omega) hl3 rfl, rfl, hn1, hl4⟩, hkk⟩⟩
      | ret =>
        obtain ⟨X3, hi3, hk3⟩ := hp3
        obtain ⟨W4, hr, h4e, hl3, hl4, hkk, hn1⟩ := fin (some .ret) X3 W3 hk3
        exact ⟨_, _, hr, .inr ⟨rfl, _, ⟨.ret, X3, by rw [h4e]; exact (hIx _).putObj _ hi3 (by omega) hl3 rfl, rfl, hl4⟩, hkk⟩⟩
      | exit id =>
        obtain ⟨X3, hi3, hk3⟩ := hp3
        obtain ⟨W4, hr, h4e, hl3, hl4, hkk, hn1⟩ := fin (some (.exit id)) X3 W3 hk3
        exact ⟨_, _, hr, .inr ⟨rfl, _, ⟨.exit id, X3, by rw [h4e]; exact (hIx _).putObj _ hi3 (by omega) hl3 rfl, rfl, hl4⟩, hkk⟩⟩
      | goto t =>
        obtain ⟨X3, hi3, hk3⟩ := hp3
        obtain ⟨W4, hr, h4e, hl3, hl4, hkk, hn1⟩ := fin (some (.goto t)) X3 W3 hk3
        exact ⟨_, _, hr, .inr ⟨rfl, _, ⟨.goto t, X3, by rw [h4e]; exact (hIx _).putObj _ hi3 (by omega) hl3 rfl, rfl, hl4⟩, hkk⟩⟩
      | panic ch => exact hp3.elim
      | outgrown => exact hp3.elim
    | ret => exact hp.elim
    | exit id => exact hp.elim
    | goto t => exact hp.elim
    | panic ch => exact hp.elim
    | outgrown => exact hp.elim
  case post =>
    rintro e W2 ⟨⟨v, rfl⟩, ⟨X2, X', h1, h2, h3, h5⟩ | ⟨q, X2, hq, c, X', h1, h2, h5⟩⟩
    · have hr := run_endLoop (P := P) h5 (by rw [hrec]; simp)
      rw [hrec] at hr
      refine ⟨none, _, hr, ?_⟩
      have hii := hI.putObj (.loop { rec .ready none with state := .exhausted }) h1 (by omega) h5 rfl
      rw [hrec] at hii
      rw [hl] at h3
      exact hdone X' _ hii h3
    · have hr := run_endLoop (P := P) h5 (by rw [hrec]; simp)
      rw [hrec] at hr
      refine ⟨some c, _, hr, ?_⟩
      have hii := (hIx c).putObj (.loop { rec .done (some c) with state := .exhausted }) h1 (by omega) h5 rfl
      rw [hrec] at hii
      exact hstop c q X' _ hq hii
/-- what lay, and what may have been turned since: it abides what is beyond -/
theorem Kept.own {X Z : Nat → Prop} {W0 V V' : World} {r : Option Nat} (h : Kept X Z W0 V) (hg : V.grownBy V' r) (hr : ∀ k, r = some k → W0.heap.size ≤ k) : Kept X Z W0 V' := by
  refine ⟨Nat.le_trans h.size hg.size, fun k hk hx => ?_, h.new⟩
  refine (hg.block k (Nat.lt_of_lt_of_le hk h.size) fun e => ?_).trans (h.same k hk hx)
  have := hr k e.symm
  omega
/-- .. and what is no longer told apart -/
theorem Kept.more {X Y Z : Nat → Prop} {W W' : World} (h : Kept X Z W W') (hs : ∀ k, k < W.heap.size → ¬ Y k → ¬ X k) (hz : ∀ k, Z k → Y k ∨ W.heap.size ≤ k) : Kept Y Z W W' :=
  ⟨h.size, fun k hk hy => h.same k hk (hs k hk hy), hz⟩
end Go.Proofs.YtpjfhdljagkefaaGreatDoor
