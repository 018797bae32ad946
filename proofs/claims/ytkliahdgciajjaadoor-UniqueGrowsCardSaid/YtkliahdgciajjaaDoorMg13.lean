/- Merged: ExtC, ExtI, ExtL, ExtO. -/
import Derived.Test.YtkliahdgciajjaaDoorKit
import Derived.Test.YtkliahdgciajjaaDoorRows
import Derived.Test.YtkliahdgciajjaaDoorMg12
import Derived.Test.YtkliahdgciajjaaDoorMg11
import Derived.Test.YtkliahdgciajjaaDoorMg1
import Derived.Test.YtkliahdgciajjaaDoorMg2
import Derived.Test.YtkliahdgciajjaaDoorShelf
import Derived.Test.YtkliahdgciajjaaDoorMg10
import Derived.Test.YtkliahdgciajjaaDoorMg5
import Derived.Test.YtkliahdgciajjaaDoorPrpM
import Derived.Test.YtkliahdgciajjaaDoorTabF
import Derived.Test.YtkliahdgciajjaaDoorTxtS
import Derived.RangeFuncNested
import Derived.Shelf.Abstract
import Derived.WalkKit
import Derived.OwnWalkIn
import Derived.TacticsInMore
import Derived.LoopNIn
import Derived.LoopIn
import Derived.RangeFuncLeaves
import Derived.Deep.RegionHeld
import Derived.Laws.AppendOwnNone
import Derived.Laws.BitsAllLaws
import Derived.RangeFuncBox
import Derived.Deep.OwnRows
import Derived.OrdersIn
import Derived.RangeFuncCalls
import Derived.BigQuiet
/- A range over an iterator that itself ranges over iterators: what each round may turn is a set of blocks that grows with the rounds; all others lie as they lay. -/
namespace Go.Proofs.YtkliahdgciajjaaDoor
open Go.RowKit

def nats (L : List Nat) : List Value := L.map fun (x : Nat) => Value.int .i64 (x : Int)
/-- the blocks that are not of X lie as they lay; what is of X' is of X, or new -/
structure Kept (X X' : Nat → Prop) (W W' : World) : Prop where
  size : W.heap.size ≤ W'.heap.size
  same : ∀ k, k < W.heap.size → ¬ X k → W'.heap[k]? = W.heap[k]?
  new : ∀ k, X' k → X k ∨ W.heap.size ≤ k
theorem Kept.refl (X : Nat → Prop) (W : World) : Kept X X W W := ⟨Nat.le_refl _, fun _ _ _ => rfl, fun _ h => .inl h⟩
theorem Kept.trans {X Y Z : Nat → Prop} {A B C : World} (h : Kept X Y A B) (k : Kept Y Z B C) : Kept X Z A C := by
  refine ⟨Nat.le_trans h.size k.size, fun i hi hx => ?_, fun i hi => ?_⟩
  · refine (k.same i (Nat.lt_of_lt_of_le hi h.size) fun hy => ?_).trans (h.same i hi hx)
    rcases h.new i hy with h1 | h1
    · exact hx h1
    · omega
  · rcases k.new i hi with h1 | h1
    · exact h.new i h1
    · exact .inr (Nat.le_trans h.size h1)
theorem Kept.below (X : Nat → Prop) {W W' : World} (h : Below W.heap.size W W') : Kept X X W W' := ⟨h.size, fun k hk _ => h.block k hk, fun _ h => .inl h⟩
theorem Kept.not {X X' : Nat → Prop} {W W' : World} (h : Kept X X' W W') {k : Nat} (hk : k < W.heap.size) (hx : ¬ X k) : ¬ X' k := fun hy => by
  rcases h.new k hy with h1 | h1
  · exact hx h1
  · omega
theorem Kept.at {X X' : Nat → Prop} {W W' : World} (h : Kept X X' W W') {b : Nat} {cs : Array Value} {t : TypeId} (ha : At W b cs t) (hx : ¬ X b) : At W' b cs t := by
  have h1 := h.same b ha.lt hx
  unfold At at *
  rw [h1]; exact ha
theorem Kept.cell {X X' : Nat → Prop} {W W' : World} (h : Kept X X' W W') {p : Addr} {v : Value} (hv : W.cell? p = some v) (hx : ¬ X p.block) : W'.cell? p = some v :=
  (World.cell?_of_block (w := W) (h.same p.block (World.block_lt_of_cell? W p hv) hx)).trans hv
/-- a slice value reads as a list of one-cell values, and its block is none of X -/
def RdX (X : Nat → Prop) (w : World) (v : Value) (xs : List Value) : Prop :=
  (xs = [] ∧ ∃ a c, v = .slice a 0 c) ∨ (0 < xs.length ∧ ∃ b o c, v = .slice (some ⟨b, o, none⟩) xs.length c ∧ ¬ X b ∧ ∀ i u, xs[i]? = some u → w.cell? ⟨b, o + i, none⟩ = some u)
theorem RdX.rd {X : Nat → Prop} {W : World} {v : Value} {xs : List Value} (h : RdX X W v xs) : Rd W v xs := by
  rcases h with h0 | ⟨h0, b, o, c, rfl, _, hc⟩
  · exact .inl h0
  · exact .inr ⟨h0, b, o, c, rfl, hc⟩
theorem RdX.less {X Y : Nat → Prop} {W : World} {v : Value} {xs : List Value} (h : RdX X W v xs) (hy : ∀ k, Y k → X k) : RdX Y W v xs := by
  rcases h with h0 | ⟨h0, b, o, c, rfl, hb, hc⟩
  · exact .inl h0
  · exact .inr ⟨h0, b, o, c, rfl, fun h => hb (hy _ h), hc⟩
theorem Kept.rd {X X' : Nat → Prop} {W W' : World} (h : Kept X X' W W') {v : Value} {xs : List Value} (hr : RdX X W v xs) : RdX X' W' v xs := by
  rcases hr with h0 | ⟨h0, b, o, c, rfl, hb, hc⟩
  · exact .inl h0
  · have hlt : b < W.heap.size := World.block_lt_of_cell? (a := ⟨b, o + 0, none⟩) W (hc 0 _ (List.getElem?_eq_getElem h0))
    exact .inr ⟨h0, b, o, c, rfl, h.not hlt hb, fun i u hu => h.cell (hc i u hu) hb⟩
theorem RdX.below {X : Nat → Prop} {W W' : World} {v : Value} {xs : List Value} (h : RdX X W v xs) (hb : Below W.heap.size W W') : RdX X W' v xs := (Kept.below X hb).rd h
/-- what is said abides new blocks, and the turn of a block that is no cells, from B on -/
def OwnX (B : Nat) (J : List (List Nat) → (Nat → Prop) → World → Prop) : Prop :=
  ∀ s X W W' row, J s X W → W.grownBy W' row → (∀ r, row = some r → B ≤ r ∧ ∃ o : Obj, W.heap[r]? = some o ∧ o.isCells = false) → J s X W'
theorem grownB11 {W W' : World} (h : Below W.heap.size W W') : W.grownBy W' none := ⟨h.os, h.tape, h.output, h.size, fun k hk _ => h.block k hk⟩
section
variable {B : Nat} {J : List (List Nat) → (Nat → Prop) → World → Prop} {s : List (List Nat)} {X : Nat → Prop} {W W' : World}
theorem OwnX.below (h : OwnX B J) (hs : J s X W) (hb : Below W.heap.size W W') : J s X W' := h s X W W' none hs (grownB11 hb) (fun r e => by cases e)
theorem OwnX.mono {B' : Nat} (h : OwnX B J) (hB : B ≤ B') : OwnX B' J := fun s X W W' row hs hg hr => h s X W W' row hs hg (fun r e => ⟨Nat.le_trans hB (hr r e).1, (hr r e).2⟩)
theorem OwnX.alloc (h : OwnX B J) (o : Obj) (hs : J s X W) : J s X (W.alloc o) := h s X W _ none hs (World.grownBy_alloc W o none) (fun r e => by cases e)
end
theorem at_own {W W' : World} {row : Option Nat} {b : Nat} {cs : Array Value} {t : TypeId} (h : At W b cs t) (hg : W.grownBy W' row) (hr : ∀ r, row = some r → ∃ o : Obj, W.heap[r]? = some o ∧ o.isCells = false) : At W' b cs t :=
  h.grown hg (fun e => by obtain ⟨o, ho, hc⟩ := hr _ e.symm; rw [show W.heap[b]? = _ from h] at ho; cases ho; cases hc)
theorem rd_own {X : Nat → Prop} {W W' : World} {row : Option Nat} {v : Value} {xs : List Value} (h : RdX X W v xs) (hg : W.grownBy W' row) (hr : ∀ r, row = some r → ∃ o : Obj, W.heap[r]? = some o ∧ o.isCells = false) : RdX X W' v xs := by
  rcases h with h0 | ⟨h0, b, o, c, rfl, hb, hc⟩
  · exact .inl h0
  · exact .inr ⟨h0, b, o, c, rfl, hb, fun i u hu => cell_kept (hc i u hu) hg hr⟩
end Go.Proofs.YtkliahdgciajjaaDoor
/- The walks of package extend's rows, and of slices.AppendSeq and Collect over them. -/
namespace Go.Proofs.YtkliahdgciajjaaDoor.RPlain
end Go.Proofs.YtkliahdgciajjaaDoor.RPlain
namespace Go.Proofs.YtkliahdgciajjaaDoor
open Go.RowKit Go.Shelf RPlain

attribute [local go_sem] Oper.semAt_some

theorem infoSl : (Tryd.prog.info? 34).map (fun i => (i.zero, i.size, i.bytes)) = some (some (.slice none 0 0), 1, 24) := by kernel_rfl
/-- a slice reads as rows of places -/
def Rowl (X : Nat → Prop) (w : World) (vs : List Value) (rows : List (List Nat)) : Prop := vs.length = rows.length ∧ ∀ i (hi : i < rows.length) (h : i < vs.length), RdX X w vs[i] (nats rows[i])
theorem Rowl.snoc {X : Nat → Prop} {w : World} {vs : List Value} {rows : List (List Nat)} {v : Value} {r : List Nat} (h : Rowl X w vs rows) (hv : RdX X w v (nats r)) : Rowl X w (vs ++ [v]) (rows ++ [r]) := by
  obtain ⟨h1, h2⟩ := h
  refine ⟨by simp [h1], fun i hi hi' => ?_⟩
  by_cases hlt : i < rows.length
  · rw [List.getElem_append_left hlt, List.getElem_append_left (by omega)]
    exact h2 i hlt (by omega)
  · obtain rfl : i = rows.length := by simp at hi; omega
    rw [List.getElem_append_right (by omega), List.getElem_append_right (by omega)]
    simp [h1]
    exact hv
theorem Rowl.kept {X X' : Nat → Prop} {w w' : World} {vs : List Value} {rows : List (List Nat)} (h : Rowl X w vs rows) (hk : Kept X X' w w') : Rowl X' w' vs rows := ⟨h.1, fun i hi hi' => hk.rd (h.2 i hi hi')⟩
theorem Rowl.own {X : Nat → Prop} {w w' : World} {r : Option Nat} {vs : List Value} {rows : List (List Nat)} (h : Rowl X w vs rows) (hg : w.grownBy w' r) (hr : ∀ k, r = some k → ∃ o : Obj, w.heap[k]? = some o ∧ o.isCells = false) : Rowl X w' vs rows :=
  ⟨h.1, fun i hi hi' => rd_own (h.2 i hi hi') hg hr⟩
/-- what the loop that collects holds -/
def CollR (w0 : World) (B : Nat) (pre : List (List Nat)) (X : Nat → Prop) (W : World) : Prop :=
  ∃ v vs, At W B #[v] 25 ∧ W.ownsRow (B + 1) 34 1 v pre.length vs ∧ Rowl X W vs pre ∧ (∀ k, X k ↔ k = B ∨ v.ownBlock = some k) ∧ Below B w0 W
theorem CollR.own {w0 : World} {B C : Nat} (hC : B ≤ C) : OwnX C (CollR w0 B) := by
  rintro pre X W W' r ⟨v, vs, h1, h2, h3, h4, h5⟩ hg hr
  have hnc : ∀ k, r = some k → ∃ o : Obj, W.heap[k]? = some o ∧ o.isCells = false := fun k e => (hr k e).2
  refine ⟨v, vs, at_own h1 hg hnc, h2.kept hg ?_, h3.own hg hnc, h4, h5.grown hg (by have := h1.lt; omega) (fun k e => Nat.le_trans hC (hr k e).1)⟩
  rcases h2.2 with ⟨rfl, _⟩ | ⟨g, cap, cur, rfl, _, hgb, _⟩
  · exact .inl rfl
  · refine .inr fun e' => ?_
    obtain ⟨o, ho, hc⟩ := hnc g (by rw [← e']; rfl)
    rw [hgb] at ho
    cases ho
    cases hc
end Go.Proofs.YtkliahdgciajjaaDoor
/- The walk of the reference's ways. -/
namespace Go.Proofs.YtkliahdgciajjaaDoor.RPlain
end Go.Proofs.YtkliahdgciajjaaDoor.RPlain
namespace Go.Proofs.YtkliahdgciajjaaDoor
open Go.RowKit RPlain

theorem own_nil_int {w : World} {B : Nat} (hB : B ≤ w.heap.size) : (w.alloc (.cells #[] 3)).ownsRow B 3 1 (.slice (some ⟨w.heap.size, 0, none⟩) 0 0) 0 [] :=
  World.ownsRow_made (e := 3) (size := 1) w #[] 0 hB (by unfold maxLen; omega) (by simp)
end Go.Proofs.YtkliahdgciajjaaDoor
/- The walks of the reference's whole and All. -/
namespace Go.Proofs.YtkliahdgciajjaaDoor.RPlain
end Go.Proofs.YtkliahdgciajjaaDoor.RPlain
namespace Go.Proofs.YtkliahdgciajjaaDoor
open Go.RowKit RPlain

theorem cell_slice_at (w : World) (o : Value) (t : TypeId) : ∀ j u, [o][j]? = some u → (w.alloc (.cells #[o] t)).cell? ((⟨w.heap.size, 0, none⟩ : Addr).add j) = some u := cell_one_at w o t
theorem one_sl (a : Option Addr) (n c : Nat) : ∀ u ∈ [Value.slice a n c], u.oneCell' = true := by intro u hu; simp at hu; subst hu; rfl
theorem own_nil_rows {w : World} {B : Nat} (hB : B ≤ w.heap.size) : (w.alloc (.cells #[] 34)).ownsRow B 34 1 (.slice (some ⟨w.heap.size, 0, none⟩) 0 0) 0 [] :=
  World.ownsRow_made (e := 34) (size := 1) w #[] 0 hB (by unfold maxLen; omega) (by simp)
end Go.Proofs.YtkliahdgciajjaaDoor
