/- A range over an iterator that itself ranges over iterators: what each round may turn is a set of blocks that grows with the rounds; all others lie as they lay. -/
import Derived.Test.YtmnblljenobofaaDoorMg2
import Derived.Test.YtmnblljenobofaaDoorRows
import Derived.RangeFuncNested
namespace Go.Proofs.YtmnblljenobofaaDoor
open Go.RowKit

def nats (L : List Nat) : List Value := L.map fun (x : Nat) => Value.int .i64 (x : Int)
theorem nats_len (L : List Nat) : (nats L).length = L.length := by simp [nats]
/-- the blocks that are not of X lie as they lay; what is of X' is of X, or new -/
structure Kept (X X' : Nat → Prop) (W W' : World) : Prop where
  size : W.heap.size ≤ W'.heap.size
  same : ∀ k, k < W.heap.size → ¬ X k → W'.heap[k]? = W.heap[k]?
  new : ∀ k, X' k → X k ∨ W.heap.size ≤ k
theorem Kept.refl (X : Nat → Prop) (W : World) : Kept X X W W := ⟨Nat.le_refl _, fun _ _ _ => rfl, fun _ h => .inl h⟩
theorem Kept.trans {X Y Z : Nat → Prop} {A B C : World} (h : Kept X Y A B) (k : Kept Y Z B C) : Kept X Z A C := by
  refine ⟨Nat.le_trans h.size k.size, fun i hi hx => ?_, fun i hi => ?_⟩
  · refine (k.same i (Nat.lt_of_lt_of_le hi h.size) fun hy => ?_).trans (h.same i hi hx)
    rcases h.new i hy with h1 | h1
    · exact hx h1
    · omega
  · rcases k.new i hi with h1 | h1
    · exact h.new i h1
    · exact .inr (Nat.le_trans h.size h1)
theorem Kept.below (X : Nat → Prop) {W W' : World} (h : Below W.heap.size W W') : Kept X X W W' := ⟨h.size, fun k hk _ => h.block k hk, fun _ h => .inl h⟩
theorem Kept.not {X X' : Nat → Prop} {W W' : World} (h : Kept X X' W W') {k : Nat} (hk : k < W.heap.size) (hx : ¬ X k) : ¬ X' k := fun hy => by
  rcases h.new k hy with h1 | h1
  · exact hx h1
  · omega
theorem Kept.at {X X' : Nat → Prop} {W W' : World} (h : Kept X X' W W') {b : Nat} {cs : Array Value} {t : TypeId} (ha : At W b cs t) (hx : ¬ X b) : At W' b cs t := by
  have h1 := h.same b ha.lt hx
  unfold At at *
  rw [h1]; exact ha
theorem Kept.cell {X X' : Nat → Prop} {W W' : World} (h : Kept X X' W W') {p : Addr} {v : Value} (hv : W.cell? p = some v) (hx : ¬ X p.block) : W'.cell? p = some v :=
  (World.cell?_of_block (w := W) (h.same p.block (World.block_lt_of_cell? W p hv) hx)).trans hv
/-- a slice value reads as a list of one-cell values, and its block is none of X -/
def RdX (X : Nat → Prop) (w : World) (v : Value) (xs : List Value) : Prop :=
  (xs = [] ∧ ∃ a c, v = .slice a 0 c) ∨ (0 < xs.length ∧ ∃ b o c, v = .slice (some ⟨b, o, none⟩) xs.length c ∧ ¬ X b ∧ ∀ i u, xs[i]? = some u → w.cell? ⟨b, o + i, none⟩ = some u)
theorem RdX.rd {X : Nat → Prop} {W : World} {v : Value} {xs : List Value} (h : RdX X W v xs) : Rd W v xs := by
  rcases h with h0 | ⟨h0, b, o, c, rfl, _, hc⟩
  · exact .inl h0
  · exact .inr ⟨h0, b, o, c, rfl, hc⟩
theorem RdX.less {X Y : Nat → Prop} {W : World} {v : Value} {xs : List Value} (h : RdX X W v xs) (hy : ∀ k, Y k → X k) : RdX Y W v xs := by
  rcases h with h0 | ⟨h0, b, o, c, rfl, hb, hc⟩
  · exact .inl h0
  · exact .inr ⟨h0, b, o, c, rfl, fun h => hb (hy _ h), hc⟩
/-- a block that is of Y alone is none that is read -/
theorem RdX.more {X Y : Nat → Prop} {W : World} {v : Value} {xs : List Value} (h : RdX X W v xs) (hy : ∀ k, k < W.heap.size → Y k → X k) : RdX Y W v xs := by
  rcases h with h0 | ⟨h0, b, o, c, rfl, hb, hc⟩
  · exact .inl h0
  · refine .inr ⟨h0, b, o, c, rfl, fun h => hb (hy _ ?_ h), hc⟩
    exact World.block_lt_of_cell? (a := ⟨b, o + 0, none⟩) W (hc 0 _ (List.getElem?_eq_getElem h0))
theorem Kept.rd {X X' : Nat → Prop} {W W' : World} (h : Kept X X' W W') {v : Value} {xs : List Value} (hr : RdX X W v xs) : RdX X' W' v xs := by
  rcases hr with h0 | ⟨h0, b, o, c, rfl, hb, hc⟩
  · exact .inl h0
  · have hlt : b < W.heap.size := World.block_lt_of_cell? (a := ⟨b, o + 0, none⟩) W (hc 0 _ (List.getElem?_eq_getElem h0))
    exact .inr ⟨h0, b, o, c, rfl, h.not hlt hb, fun i u hu => h.cell (hc i u hu) hb⟩
theorem RdX.below {X : Nat → Prop} {W W' : World} {v : Value} {xs : List Value} (h : RdX X W v xs) (hb : Below W.heap.size W W') : RdX X W' v xs := (Kept.below X hb).rd h
/-- what is said abides new blocks, and the turn of a block that is no cells, from B on -/
def OwnX (B : Nat) (J : List (List Nat) → (Nat → Prop) → World → Prop) : Prop :=
  ∀ s X W W' row, J s X W → W.grownBy W' row → (∀ r, row = some r → B ≤ r ∧ ∃ o : Obj, W.heap[r]? = some o ∧ o.isCells = false) → J s X W'
theorem grownB11 {W W' : World} (h : Below W.heap.size W W') : W.grownBy W' none := ⟨h.os, h.tape, h.output, h.size, fun k hk _ => h.block k hk⟩
section
variable {B : Nat} {J : List (List Nat) → (Nat → Prop) → World → Prop} {s : List (List Nat)} {X : Nat → Prop} {W W' : World}
theorem OwnX.below (h : OwnX B J) (hs : J s X W) (hb : Below W.heap.size W W') : J s X W' := h s X W W' none hs (grownB11 hb) (fun r e => by cases e)
theorem OwnX.mono {B' : Nat} (h : OwnX B J) (hB : B ≤ B') : OwnX B' J := fun s X W W' row hs hg hr => h s X W W' row hs hg (fun r e => ⟨Nat.le_trans hB (hr r e).1, (hr r e).2⟩)
theorem OwnX.alloc (h : OwnX B J) (o : Obj) (hs : J s X W) : J s X (W.alloc o) := h s X W _ none hs (World.grownBy_alloc W o none) (fun r e => by cases e)
theorem OwnX.putObj (h : OwnX B J) {l : Nat} {o : Obj} (o' : Obj) (hs : J s X W) (hB : B ≤ l) (hl : W.heap[l]? = some o) (ho : o.isCells = false) : J s X (W.putObj l o') :=
  h s X W _ (some l) hs (grownBy_putObj' W l o') (fun r e => by cases e; exact ⟨hB, o, hl, ho⟩)
end
theorem at_own {W W' : World} {row : Option Nat} {b : Nat} {cs : Array Value} {t : TypeId} (h : At W b cs t) (hg : W.grownBy W' row) (hr : ∀ r, row = some r → ∃ o : Obj, W.heap[r]? = some o ∧ o.isCells = false) : At W' b cs t :=
  h.grown hg (fun e => by obtain ⟨o, ho, hc⟩ := hr _ e.symm; rw [show W.heap[b]? = _ from h] at ho; cases ho; cases hc)
theorem rd_own {X : Nat → Prop} {W W' : World} {row : Option Nat} {v : Value} {xs : List Value} (h : RdX X W v xs) (hg : W.grownBy W' row) (hr : ∀ r, row = some r → ∃ o : Obj, W.heap[r]? = some o ∧ o.isCells = false) : RdX X W' v xs := by
  rcases h with h0 | ⟨h0, b, o, c, rfl, hb, hc⟩
  · exact .inl h0
  · exact .inr ⟨h0, b, o, c, rfl, hb, fun i u hu => cell_kept (hc i u hu) hg hr⟩
/-- THE ROUNDS OF A LOOP, as an iterator meets them: each row that comes is read, and lies apart from what the rounds turn. -/
def Rounds (P : Program) (l : Nat) (T : List (List Nat)) (J Jx : List (List Nat) → (Nat → Prop) → World → Prop) : Prop :=
  ∀ pre r v X W, J pre X W → (pre ++ [r]) <+: T → RdX X W v (nats r) → YieldAt Fence.wide 3 P l #[v] W fun e W' =>
    (e = .returned (.bool true) ∧ ∃ X', J (pre ++ [r]) X' W' ∧ Kept X X' W W') ∨ (e = .returned (.bool false) ∧ ∃ X', Jx (pre ++ [r]) X' W' ∧ Kept X X' W W')
/-- AN ITERATOR GIVES ROWS, behind those that have come. -/
def Gives (P : Program) (g : Nat) (lb : Array Value) (Hyp : (Nat → Prop) → World → Prop) (pre0 T rows : List (List Nat)) : Prop :=
  ∀ (l : Nat) (J Jx : List (List Nat) → (Nat → Prop) → World → Prop) (X : Nat → Prop) (W : World), Hyp X W → OwnX W.heap.size J → OwnX W.heap.size Jx →
    (∀ pre X W, J pre X W → ∀ k, X k → k < W.heap.size) → Rounds P l T J Jx → J pre0 X W →
    Calls P g (#[.func (.yield l) #[] #[]] ++ lb) W fun e W' => (∃ v, e = .returned v) ∧ ((∃ X', J (pre0 ++ rows) X' W') ∨ ∃ q X', q <+: rows ∧ Jx (pre0 ++ q) X' W')
def addX (X : Nat → Prop) (l : Nat) : Nat → Prop := fun k => X k ∨ k = l
/-- HOW A ROUND's BODY MAY BE LEFT. -/
def postX (I : List (List Nat) → (Nat → Prop) → World → Prop) (Ix : Code → List (List Nat) → (Nat → Prop) → World → Prop) (s : List (List Nat)) (X : Nat → Prop) (W : World) : Exit → Act → World → Prop
  | .normal, _, W' => ∃ X', I s X' W' ∧ Kept X X' W W'
  | .ret, _, W' => ∃ X', Ix .ret s X' W' ∧ Kept X X' W W'
  | .exit id, _, W' => ∃ X', Ix (.exit id) s X' W' ∧ Kept X X' W W'
  | .goto t, _, W' => ∃ X', Ix (.goto t) s X' W' ∧ Kept X X' W W'
  | .panic _, _, _ => False
  | .outgrown, _, _ => False
theorem round_depth {m m' : Nat} {P : Program} {l : Nat} {f : FuncId} {tmps : Array Value} {assign body : Code} {w : World} {R : Ending → World → Prop}
    (h : RoundIn Fence.wide m P l f tmps assign body w R) : RoundIn Fence.wide m' P l f tmps assign body w R := ⟨h.1, fun c cs _ => h.2 c cs (room_wide _)⟩
/-- THE LAW: a loop over such an iterator. -/
theorem range_x {n : Nat} {P : Program} {g : Operand} {ps : Array Tmp} {assign body : Code} {Q : Exit → Act → World → Prop} {a : Act} {w : World}
    {gf : Nat} {lb : Array Value} (hg : a.eval g = .func (.func gf) #[] lb) (eg : ∀ args w, (callFunc gf args).run P w = .ok (.enter gf args) w) (hps : ps.size = 1)
    {Hyp : (Nat → Prop) → World → Prop} {pre0 T rows : List (List Nat)} (hgive : Gives P gf lb Hyp pre0 T rows)
    (I : List (List Nat) → (Nat → Prop) → World → Prop) (Ix : Code → List (List Nat) → (Nat → Prop) → World → Prop) (X0 : Nat → Prop)
    (hHyp : ∀ W1, Below w.heap.size w W1 → Hyp (addX X0 (w.heap.size + 1)) W1)
    (htop : ∀ pre X W, I pre X W → ∀ k, X k → k < W.heap.size)
    (hI : OwnX w.heap.size I) (hIx : ∀ c, OwnX w.heap.size (Ix c)) (h0 : I pre0 X0 w)
    (hround : ∀ (l : Nat) (pre : List (List Nat)) (r : List Nat) (v : Value) (X : Nat → Prop) (W : World), w.heap.size ≤ l → l < W.heap.size → ¬ X l → I pre X W → (pre ++ [r]) <+: T → RdX X W v (nats r) →
      assign.wpIn (Fence.wide.inRound l) 3 P (Exit.then (fun a1 W1 => Kept X X W W1 ∧ ∀ W2, W1.grownBy W2 (some l) → (∃ o : Obj, W1.heap[l]? = some o ∧ o.isCells = false) →
        body.wpIn (Fence.wide.inRound l) 3 P (postX I Ix (pre ++ [r]) X W2) a1 W2) (fun _ _ _ => False)) { tmps := (ps.zip #[v]).foldl (fun t (p, v) => t.setIfInBounds p v) a.tmps, defers := [] } W)
    (hdone : ∀ (X : Nat → Prop) (W : World), I (pre0 ++ rows) X W → ¬ X w.heap.size → W.heap[w.heap.size]? = some (.deferred (some [])) → Q .normal { a with defers := { target := .collected w.heap.size, args := #[] } :: a.defers } W)
    (hstop : ∀ (c : Code) (q : List (List Nat)) (X : Nat → Prop) (W : World), q <+: rows → Ix c (pre0 ++ q) X W → ¬ X w.heap.size → W.heap[w.heap.size]? = some (.deferred (some [])) → c.wpIn Fence.wide n P Q { a with defers := { target := .collected w.heap.size, args := #[] } :: a.defers } W) :
    (Code.rangeFunc g ps assign body).wpIn Fence.wide n P Q a w := by
  refine wpIn_rangeFunc ?_
  intro fn hfn
  obtain ⟨rec, hrec⟩ : ∃ rec : LoopState → Option Code → Loop, rec = fun st pe => { state := st, pending := pe, fn, tmps := a.tmps, params := ps, assign, body, defers := w.heap.size } := ⟨_, rfl⟩
  obtain ⟨d, hd⟩ : ∃ d, d = w.heap.size := ⟨_, rfl⟩
  obtain ⟨l, hl⟩ : ∃ l, l = w.heap.size + 1 := ⟨_, rfl⟩
  obtain ⟨W1, hW1⟩ : ∃ W1, (w.alloc (.deferred (some []))).alloc (.loop (rec .ready none)) = W1 := ⟨_, rfl⟩
  have hs1 : W1.heap.size = w.heap.size + 2 := by rw [← hW1]; simp
  have hL1 : W1.heap[l]? = some (.loop (rec .ready none)) := by
    rw [← hW1, hl]
    have := World.alloc_heap_new (w.alloc (.deferred (some []))) (.loop (rec .ready none))
    rwa [World.size_alloc] at this
  have hD1 : W1.heap[d]? = some (.deferred (some [])) := by
    rw [← hW1, hd]
    exact (Below.heap_alloc _ _ _ (by simp)).trans (World.alloc_heap_new w _)
  have hb1 : Below w.heap.size w W1 := by
    rw [← hW1]
    exact ((Below.refl _ w).alloc (Nat.le_refl _) _).alloc (by simp) _
  have hx0 : ∀ k, X0 k → k < w.heap.size := htop _ _ _ h0
  refine ⟨l, [{ target := .collected d, args := #[] }], W1, { target := .fn (.func gf) lb, args := #[.func (.yield l) #[] #[]] }, W1, gf, #[.func (.yield l) #[] #[]] ++ lb, W1, ?_, ?_, fun _ _ => trivial, ?_, fun h => by simp [Fence.wide] at h, ?_⟩
  · rw [← hW1, hrec, hl, hd]; exact run_enterLoop_outer _ _ _ _ _
  · simp only [resolve, hg]
    simp [go_sem]
  · simp [invoke, go_sem, eg]
  refine callsIn_wide.2 ?_
  refine (hgive l (fun pre X W => ∃ X', I pre X' W ∧ X = addX X' l ∧ ¬ X' l ∧ ¬ X' d ∧ W.heap[l]? = some (.loop (rec .ready none)) ∧ W.heap[d]? = some (.deferred (some [])))
    (fun pre X W => ∃ c X', Ix c pre X' W ∧ X = addX X' l ∧ ¬ X' d ∧ W.heap[l]? = some (.loop (rec .done (some c))) ∧ W.heap[d]? = some (.deferred (some [])))
    (addX X0 l) W1 (by rw [hl]; exact hHyp W1 hb1) ?ownJ ?ownX ?top ?rounds ⟨X0, hI.below h0 hb1, rfl, fun h => by have := hx0 l h; omega, fun h => by have := hx0 d h; omega, hL1, hD1⟩).mono ?post
  case ownJ =>
    rintro s X A A' row ⟨X', h1, h2, h3, h4, h5, h6⟩ hgr hr
    have hnl : ∀ k, k < W1.heap.size → ∀ o, A.heap[k]? = some o → A'.heap[k]? = some o := fun k hk o ho => by
      refine (hgr.block k (Array.getElem?_eq_some_iff.1 ho).1 fun e => ?_).trans ho
      have := (hr k e.symm).1
      omega
    exact ⟨X', hI _ _ _ _ _ h1 hgr (fun r e => ⟨by have := (hr r e).1; omega, (hr r e).2⟩), h2, h3, h4, hnl l (by omega) _ h5, hnl d (by omega) _ h6⟩
  case ownX =>
    rintro s X A A' row ⟨c, X', h1, h2, h4, h5, h6⟩ hgr hr
    have hnl : ∀ k, k < W1.heap.size → ∀ o, A.heap[k]? = some o → A'.heap[k]? = some o := fun k hk o ho => by
      refine (hgr.block k (Array.getElem?_eq_some_iff.1 ho).1 fun e => ?_).trans ho
      have := (hr k e.symm).1
      omega
    exact ⟨c, X', hIx c _ _ _ _ _ h1 hgr (fun r e => ⟨by have := (hr r e).1; omega, (hr r e).2⟩), h2, h4, hnl l (by omega) _ h5, hnl d (by omega) _ h6⟩
  case top =>
    rintro pre X W ⟨X', h1, rfl, h3, h4, h5, h6⟩ k hk
    rcases hk with hk | rfl
    · exact htop _ _ _ h1 k hk
    · exact (Array.getElem?_eq_some_iff.1 h5).1
  case rounds =>
    rintro pre r v X W ⟨X', h1, rfl, h3, h4, h5, h6⟩ hT hv
    have hlw : l < W.heap.size := (Array.getElem?_eq_some_iff.1 h5).1
    have hdw : d < W.heap.size := (Array.getElem?_eq_some_iff.1 h6).1
    have hy := run_yield (P := P) (args := #[v]) h5 (by rw [hrec]; exact hps.symm)
    rw [hrec] at hy
    refine ⟨fn, _, assign, body, hy, roundIn_of_wpIn hfn ?_⟩
    refine wpIn_mono (hround l pre r v X' W (by omega) hlw h3 h1 hT (hv.less fun k hk => .inl hk)) ?_
    rintro e a1 Wa hp
    cases e with
    | normal =>
      obtain ⟨hk1, hbody⟩ := hp
      have hla : Wa.heap[l]? = some (.loop (rec .ready none)) := (hk1.same l hlw h3).trans h5
      have hda : Wa.heap[d]? = some (.deferred (some [])) := (hk1.same d hdw h4).trans h6
      have hlwa : l < Wa.heap.size := Nat.lt_of_lt_of_le hlw hk1.size
      refine ⟨_, run_beginRound hla (by rw [hrec]), ?_⟩
      obtain ⟨Wb, hWb⟩ : ∃ Wb, Wa.putObj l (.loop { rec .ready none with state := .busy }) = Wb := ⟨_, rfl⟩
      have hlb : Wb.heap[l]? = some (.loop { rec .ready none with state := .busy }) := by rw [← hWb]; exact World.putObj_heap_same hlwa
      have hsb : Wb.heap.size = Wa.heap.size := by rw [← hWb]; simp
      have hob : ∀ k, k ≠ l → Wb.heap[k]? = Wa.heap[k]? := fun k hk => by rw [← hWb]; exact World.putObj_heap_other hk
      rw [hWb]
      have hgb : Wa.grownBy Wb (some l) := by rw [← hWb]; exact grownBy_putObj' Wa l _
      refine wpIn_mono (hbody Wb hgb ⟨_, hla, rfl⟩) ?_
      -- what lay ahead of the round, behind it
      have fin : ∀ (jump : Option Code) (X3 : Nat → Prop) (W3 : World), Kept X' X3 Wb W3 → ∃ W4, (Instr.endRound l jump).run P W3 = .ok (.bool jump.isNone) W4 ∧ W4 = W3.putObj l (.loop (rec (if jump.isNone then .ready else .done) jump)) ∧
          W3.heap[l]? = some (.loop { rec .ready none with state := .busy }) ∧ W4.heap[l]? = some (.loop (rec (if jump.isNone then .ready else .done) jump)) ∧ W4.heap[d]? = some (.deferred (some [])) ∧ Kept (addX X' l) (addX X3 l) W W4 ∧ ¬ X3 l ∧ ¬ X3 d := fun jump X3 W3 hk3 => by
        have hl3 := (hk3.same l (by omega) h3).trans hlb
        have hd3 := ((hk3.same d (by omega) h4).trans (hob d (by omega))).trans hda
        have hl3s : l < W3.heap.size := (Array.getElem?_eq_some_iff.1 hl3).1
        have hr := run_endRound (P := P) jump hl3
        rw [hrec] at hr hl3 ⊢
        refine ⟨_, hr, rfl, hl3, World.putObj_heap_same hl3s, (World.putObj_heap_other (by omega)).trans hd3, ⟨?_, fun k hk hx => ?_, fun k hk => ?_⟩, hk3.not (by omega) h3, hk3.not (by omega) h4⟩
        · have h7 := hk1.size
          have h8 := hk3.size
          simp only [World.putObj_size]
          omega
        · have hkl : k ≠ l := fun e => hx (.inr e)
          have hkx : ¬ X' k := fun e => hx (.inl e)
          have h7 := hk1.size
          exact ((World.putObj_heap_other hkl).trans (hk3.same k (by omega) hkx)).trans ((hob k hkl).trans (hk1.same k hk hkx))
        · rcases hk with hk | rfl
          · rcases hk3.new k hk with h9 | h9
            · exact .inl (.inl h9)
            · have h7 := hk1.size
              exact .inr (by omega)
          · exact .inl (.inr rfl)
      rintro e a3 W3 hp3
      cases e with
      | normal =>
        obtain ⟨X3, hi3, hk3⟩ := hp3
        obtain ⟨W4, hr, h4e, hl3, hl4, hd4, hkk, hn1, hn2⟩ := fin none X3 W3 hk3
        exact ⟨_, _, hr, .inl ⟨rfl, _, ⟨X3, by rw [h4e]; exact hI.putObj _ hi3 (by omega) hl3 rfl, rfl, hn1, hn2, hl4, hd4⟩, hkk⟩⟩
      | ret =>
        obtain ⟨X3, hi3, hk3⟩ := hp3
        obtain ⟨W4, hr, h4e, hl3, hl4, hd4, hkk, hn1, hn2⟩ := fin (some .ret) X3 W3 hk3
        exact ⟨_, _, hr, .inr ⟨rfl, _, ⟨.ret, X3, by rw [h4e]; exact (hIx _).putObj _ hi3 (by omega) hl3 rfl, rfl, hn2, hl4, hd4⟩, hkk⟩⟩
      | exit id =>
        obtain ⟨X3, hi3, hk3⟩ := hp3
        obtain ⟨W4, hr, h4e, hl3, hl4, hd4, hkk, hn1, hn2⟩ := fin (some (.exit id)) X3 W3 hk3
        exact ⟨_, _, hr, .inr ⟨rfl, _, ⟨.exit id, X3, by rw [h4e]; exact (hIx _).putObj _ hi3 (by omega) hl3 rfl, rfl, hn2, hl4, hd4⟩, hkk⟩⟩
      | goto t =>
        obtain ⟨X3, hi3, hk3⟩ := hp3
        obtain ⟨W4, hr, h4e, hl3, hl4, hd4, hkk, hn1, hn2⟩ := fin (some (.goto t)) X3 W3 hk3
        exact ⟨_, _, hr, .inr ⟨rfl, _, ⟨.goto t, X3, by rw [h4e]; exact (hIx _).putObj _ hi3 (by omega) hl3 rfl, rfl, hn2, hl4, hd4⟩, hkk⟩⟩
      | panic ch => exact hp3.elim
      | outgrown => exact hp3.elim
    | ret => exact hp.elim
    | exit id => exact hp.elim
    | goto t => exact hp.elim
    | panic ch => exact hp.elim
    | outgrown => exact hp.elim
  case post =>
    rintro e W2 ⟨⟨v, rfl⟩, ⟨X2, X', h1, h2, h3, h4, h5, h6⟩ | ⟨q, X2, hq, c, X', h1, h2, h4, h5, h6⟩⟩
    · have hr := run_endLoop (P := P) h5 (by rw [hrec]; simp)
      rw [hrec] at hr
      refine ⟨none, _, hr, ?_⟩
      have hdd : (W2.putObj l (.loop { rec .ready none with state := .exhausted })).heap[d]? = some (.deferred (some [])) := (World.putObj_heap_other (by omega)).trans h6
      have hii := hI.putObj (.loop { rec .ready none with state := .exhausted }) h1 (by omega) h5 rfl
      rw [hrec] at hdd hii
      subst hd
      exact hdone X' _ hii h4 hdd
    · have hr := run_endLoop (P := P) h5 (by rw [hrec]; simp)
      rw [hrec] at hr
      refine ⟨some c, _, hr, ?_⟩
      have hdd : (W2.putObj l (.loop { rec .done (some c) with state := .exhausted })).heap[d]? = some (.deferred (some [])) := (World.putObj_heap_other (by omega)).trans h6
      have hii := (hIx c).putObj (.loop { rec .done (some c) with state := .exhausted }) h1 (by omega) h5 rfl
      rw [hrec] at hdd hii
      subst hd
      exact hstop c q X' _ hq hii h4 hdd
end Go.Proofs.YtmnblljenobofaaDoor
