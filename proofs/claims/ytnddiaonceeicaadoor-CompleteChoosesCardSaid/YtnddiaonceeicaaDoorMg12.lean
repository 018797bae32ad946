/- Merged: TabK, TabN, TabM, TabR, BinC. -/
import Derived.Test.YtnddiaonceeicaaDoorTabD
import Derived.Test.YtnddiaonceeicaaDoorTabF
import Derived.Test.YtnddiaonceeicaaDoorTabJ
import Derived.Test.YtnddiaonceeicaaDoorMg11
import Derived.Test.YtnddiaonceeicaaDoorMg9
import Derived.Test.YtnddiaonceeicaaDoorRows
import Derived.Test.YtnddiaonceeicaaDoorKit
import Derived.Test.YtnddiaonceeicaaDoorShelf
import Derived.Test.YtnddiaonceeicaaDoorTxtS
import Derived.Test.YtnddiaonceeicaaDoorMg7
import Derived.Test.YtnddiaonceeicaaDoorTxtH
import Derived.Deep.QuietTactic
import Derived.BigQuiet
import Derived.Laws.StructEq
import Derived.Deep.RegionHeldLaw
import Derived.Deep.DrawnRows
import Derived.Deep.DeepMust
import Derived.WalkSpells
import Derived.Lib.Hide
import Derived.Laws.ShiftsVarLaws
import Derived.RegionTactic
import Derived.Laws.BitsAllLaws
import Derived.Deep.RegionHeld
import Derived.WalkLawsBesides
import Derived.Laws.AppendOwnNone
import Derived.RangeFuncBox
import Derived.RangeFuncLeaves
import Derived.Shelf.Abstract
import Derived.WalkKit
import Derived.OwnWalkIn
import Derived.TacticsInMore
import Derived.LoopNIn
import Derived.LoopIn
import Derived.Maps.AppendAt
/- The walks of the reference's Same, of isSame, of slices.EqualFunc with it, and of Like. (Written by gen_tabK.py.) -/
namespace Go.Proofs.YtnddiaonceeicaaDoor.WPlain
end Go.Proofs.YtnddiaonceeicaaDoor.WPlain
namespace Go.Proofs.YtnddiaonceeicaaDoor.RPlain
end Go.Proofs.YtnddiaonceeicaaDoor.RPlain
namespace Go.Proofs.YtnddiaonceeicaaDoor
open Go.RowKit WPlain RPlain

theorem Opv.drewN {w : World} {v : Value} {l : List Rwo} (h : Opv w v l) (n : Nat) : Opv (w.drewN n) v l := h
theorem Txs.drewN {w : World} {v : Value} {l : List Tx} (h : Txs w v l) (n : Nat) : Txs (w.drewN n) v l := h
theorem quiet_at {P : Program} {f : FuncId} {args : Array Value} {w : World} {n x : Nat} {v : Value}
    (h : Calls P f args (w.drewN (n + x)) fun e w' => e = .returned v ∧ ∃ z, w' = (w.drewN (n + x)).drewN z) : Calls P f args (w.drewN (n + x)) fun e w'' => e = .returned v ∧ ∃ m, w'' = w.drewN (n + m) :=
  h.mono fun _ _ ⟨he, z, hz⟩ => ⟨he, x + z, by rw [hz, World.drewN_drewN, Nat.add_assoc]⟩
theorem Txs.opened {w : World} {v : Value} {l : List Tx} (h : Txs w v l) (h0 : 0 < l.length) : ∃ b o c, v = .slice (some ⟨b, o, none⟩) l.length c := by
  obtain ⟨ps, rfl, hr, _⟩ := h
  rcases hr with ⟨rfl, _⟩ | ⟨_, b, o, c, rfl, _⟩
  · simp at h0
  · exact ⟨b, o, c, by simp⟩
theorem below_drN {B : Nat} {w w' : World} (h : Below B w w') (n : Nat) : Below B w (w'.drewN n) := ⟨h.os, h.tape, h.output, h.size, h.block⟩
end Go.Proofs.YtnddiaonceeicaaDoor
/- The walks of the laws' alive, and of TableTells. -/
namespace Go.Proofs.YtnddiaonceeicaaDoor.WPlain
end Go.Proofs.YtnddiaonceeicaaDoor.WPlain
namespace Go.Proofs.YtnddiaonceeicaaDoor.QPlain
end Go.Proofs.YtnddiaonceeicaaDoor.QPlain
namespace Go.Proofs.YtnddiaonceeicaaDoor.RPlain
end Go.Proofs.YtnddiaonceeicaaDoor.RPlain
namespace Go.Proofs.YtnddiaonceeicaaDoor
open Go.RowKit WPlain QPlain RPlain

theorem evs_at {w : World} {b : Nat} {t : TypeId} (c : Nat) (l : List Ev) (h : At w b (evsCells l).toArray t) : Evs w (.slice (some ⟨b, 0, none⟩) l.length c) l := by
  by_cases h0 : 0 < l.length
  · refine .inr ⟨h0, b, 0, c, rfl, h.lt, fun i hi => ?_⟩
    have hq : ∀ j, j < 4 → w.cell? ⟨b, 0 + i * 4 + j, none⟩ = (evCells l[i])[j]? := by
      intro j hj
      have h1 := evsCells_get l i hi j hj
      have hj4 : j < (evCells l[i]).length := hj
      rw [List.getElem?_eq_getElem hj4] at h1 ⊢
      rw [Nat.zero_add]
      exact h.cell (by simpa using h1)
    exact ⟨hq 0 (by omega), hq 1 (by omega), hq 2 (by omega), hq 3 (by omega)⟩
  · have : l = [] := List.length_eq_zero_iff.1 (by omega)
    subst this
    exact Evs.nil _ _ _
end Go.Proofs.YtnddiaonceeicaaDoor
/- The walks of Find, of slices.IndexFunc with its closure, and of the reference's Find. -/
namespace Go.Proofs.YtnddiaonceeicaaDoor.WPlain
end Go.Proofs.YtnddiaonceeicaaDoor.WPlain
namespace Go.Proofs.YtnddiaonceeicaaDoor.RPlain
end Go.Proofs.YtnddiaonceeicaaDoor.RPlain
namespace Go.Proofs.YtnddiaonceeicaaDoor
open Go.RowKit WPlain RPlain

/-- the place of the first transaction of a name -/
def findS (l : List Tx) (n : Int) : Option Nat := l.findIdx? (fun t => t.n == n)
theorem findS_some {l : List Tx} {n : Int} {k : Nat} (hk : k < l.length) (h1 : l[k].n = n) (h2 : ∀ y ∈ l.take k, y.n ≠ n) : findS l n = some k := by
  unfold findS
  rw [List.findIdx?_eq_some_iff_getElem]
  refine ⟨hk, by simpa using h1, fun j hj => ?_⟩
  have := h2 l[j] (List.mem_take_iff_getElem.2 ⟨j, by omega, rfl⟩)
  simpa using this
end Go.Proofs.YtnddiaonceeicaaDoor
/- Plain words: what TableGrows asks of a table. -/
namespace Go.Proofs.YtnddiaonceeicaaDoor.WPlain
end Go.Proofs.YtnddiaonceeicaaDoor.WPlain
namespace Go.Proofs.YtnddiaonceeicaaDoor.QPlain
end Go.Proofs.YtnddiaonceeicaaDoor.QPlain
namespace Go.Proofs.YtnddiaonceeicaaDoor.RPlain
open WPlain QPlain

theorem find_at {h : List Ev} {i : Nat} (hi : i < (namesOf h).length) : findS (tableS h) (namesOf h)[i] = some i := by
  have hl : i < (tableS h).length := by rw [tableS_len]; exact hi
  refine findS_some hl (by rw [tableS_get hi]; rfl) (fun y hy hc => ?_)
  obtain ⟨j, hj, rfl⟩ := List.mem_take_iff_getElem.1 hy
  have hj2 : j < (namesOf h).length := by omega
  rw [tableS_get hj2] at hc
  have h1 : (namesOf h)[j] = (namesOf h)[i] := hc
  have := (List.getElem_inj (names_nodup h)).1 h1
  omega
theorem rise_at {h : List Ev} {p i : Nat} (hi : i < (namesOf h).length) (hp : p < i) : fstOf h ((namesOf h)[p]'(by omega)) < fstOf h (namesOf h)[i] :=
  List.pairwise_iff_getElem.1 (fst_rise h) p i (by omega) hi hp
/-- answers of a transaction among the first events -/
def cnt (h : List Ev) (t : Int) : Nat := (h.filter (answers t)).length
theorem cnt_ops (h : List Ev) (t : Int) : (opsOf h t).length = cnt h t := ops_len h t
theorem cnt_take {h : List Ev} {k : Nat} (hk : k < h.length) (t : Int) : cnt (h.take (k + 1)) t = cnt (h.take k) t + (if answers t h[k] = true then 1 else 0) := by
  unfold cnt
  rw [List.take_succ_eq_append_getElem hk, List.filter_append, List.length_append]
  congr 1
  simp only [List.filter_cons, List.filter_nil]
  split <;> rfl
theorem cnt_le (h : List Ev) (t : Int) : cnt h t ≤ h.length := List.length_filter_le _ _
theorem names_cut (h : List Ev) (K : Nat) : (namesOf (h.take K)).length ≤ (namesOf h).length ∧ ∀ i (hi : i < (namesOf (h.take K)).length) (hi2 : i < (namesOf h).length), (namesOf (h.take K))[i] = (namesOf h)[i] := by
  have h1 := names_more (h.take K) (h.drop K)
  rw [List.take_append_drop] at h1
  exact ⟨h1.length_le, fun i hi hi2 => h1.getElem hi⟩
theorem tx_cut (h : List Ev) (K : Nat) (t : Int) (ht : t ∈ namesOf (h.take K)) : fstOf h t = fstOf (h.take K) t ∧ lstOf (h.take K) t ≤ lstOf h t ∧ (opsOf (h.take K) t).length ≤ (opsOf h t).length ∧ (opsOf h t).take (opsOf (h.take K) t).length = opsOf (h.take K) t := by
  have h1 := tx_more (h.take K) (h.drop K) t ht
  rw [List.take_append_drop] at h1
  exact ⟨h1.1, h1.2.1, h1.2.2.length_le, (List.prefix_iff_eq_take.1 h1.2.2).symm⟩
theorem check_cut {h : List Ev} (hc : (checkS h).2 = 0) (K : Nat) (hK : K ≤ h.length) : (checkS (h.take K)).2 = 0 := by
  rcases check_take (check_agree hc).1 hK with h1 | h1 | h1
  · rw [h1.2.2]
  · rw [h1.2.2]
  · rw [hc] at h1; exact absurd h1.1 (by decide)
end Go.Proofs.YtnddiaonceeicaaDoor.RPlain
/- The walks of slices.Clone at events, and of mayName. -/
namespace Go.Proofs.YtnddiaonceeicaaDoor.WPlain
end Go.Proofs.YtnddiaonceeicaaDoor.WPlain
namespace Go.Proofs.YtnddiaonceeicaaDoor.VPlain
end Go.Proofs.YtnddiaonceeicaaDoor.VPlain
namespace Go.Proofs.YtnddiaonceeicaaDoor.BPlain
end Go.Proofs.YtnddiaonceeicaaDoor.BPlain
attribute [local go_sem ↓] Go.wp_at_zero Go.wp_at_succ
namespace Go.Proofs.YtnddiaonceeicaaDoor
open Go.RowKit WPlain VPlain BPlain

theorem own_mono {w : World} {B B' : Nat} {e : TypeId} {z : Nat} {v : Value} {n : Nat} {xs : List Value} (h : w.ownsRow B e z v n xs) (hB : B' ≤ B) : w.ownsRow B' e z v n xs := by
  refine ⟨h.1, ?_⟩
  rcases h.2 with h0 | ⟨g, cap, cur, rfl, hb, hg, hr⟩
  · exact .inl h0
  · exact .inr ⟨g, cap, cur, rfl, Nat.le_trans hB hb, hg, hr⟩

set_option maxRecDepth 100000 in
theorem clone_any (v : Value) (h : List Ev) (w : World) (hv : Evs w v h) (hs : Src v) (hl : h.length ≤ 60) :
    Calls Tryd.prog 23 #[v] w fun e w' => ∃ v', e = .returned v' ∧ w'.ownsRow w.heap.size 54 4 v' h.length (evsCells h) ∧ Below w.heap.size w w' := by
  rcases hs with rfl | ⟨ad, m, c, rfl⟩
  · have h0 : h = [] := List.length_eq_zero_iff.1 hv.length.symm
    subst h0
    have heq := fun (W : World) => Lib.run_eql_slice_nil (P := Tryd.prog) W 22 54 none 0 0 0 0 Tryd.underlying22
    clear hv
    go_enter Tryd.func23, Tryd.ntmps23
    go_wp2
    go_ret
    exact ⟨_, rfl, World.ownsRow_nil _ _ _ _, Below.refl _ _⟩
  · obtain rfl := hv.length
    have hrow := World.ownsRow_made (size := 4) (e := 54) (base := w.heap.size) w #[] 0 (Nat.le_refl _) (by unfold maxLen; omega) rfl
    have hb0 := (Below.refl w.heap.size w).alloc (Nat.le_refl _) (.cells #[] 54)
    have hv1 := hv.below hb0 (Nat.le_refl _)
    have heq := fun (W : World) => Lib.run_eql_slice_nil (P := Tryd.prog) W 22 54 (some ad) h.length c 0 0 Tryd.underlying22
    have HV := Lib.hid hv1
    clear hv hv1
    go_enter Tryd.func23, Tryd.ntmps23
    go_wp2_with (at_builtin; refine wpList_append_src rfl _ _ rfl w.heap.size _ _ _ rfl hrow _ h rfl HV.out (.inr ⟨_, _, _, rfl⟩) (by omega) (by simp) ?_)
    intro v1 w1 h1 hg1
    have hb1 := hb0.grown hg1 (by simp) (fun k hk => by simp [Value.ownBlock] at hk; omega)
    clear heq
    go_wp2
    go_ret
    exact ⟨_, rfl, by simpa using h1, hb1⟩

/-- the event's cells and the reader's events, to be read all through mayName's region -/
def May (w : World) (g q : Nat) (ev : Value) (n : Nat) : Prop := w.cell? ⟨g, 1, none⟩ = some ev ∧ w.cell? ⟨q, 0, none⟩ = some (.int .i64 0) ∧ w.cell? ⟨q, 1, none⟩ = some (.int .i64 (n : Int)) ∧ w.cell? ⟨q, 2, none⟩ = some (.int .i64 0) ∧ w.cell? ⟨q, 3, none⟩ = some (.int .i64 0)
theorem May.below {w w' : World} {g q : Nat} {ev : Value} {n : Nat} (h : May w g q ev n) (hb : Below w.heap.size w w') : May w' g q ev n :=
  ⟨(hb.cell (p := ⟨g, 1, none⟩) (cell_lt h.1)).trans h.1, (hb.cell (p := ⟨q, 0, none⟩) (cell_lt h.2.1)).trans h.2.1,
   (hb.cell (p := ⟨q, 1, none⟩) (cell_lt h.2.1)).trans h.2.2.1, (hb.cell (p := ⟨q, 2, none⟩) (cell_lt h.2.1)).trans h.2.2.2.1, (hb.cell (p := ⟨q, 3, none⟩) (cell_lt h.2.1)).trans h.2.2.2.2⟩
end Go.Proofs.YtnddiaonceeicaaDoor
