/- Merged: TabK, TabN, TabM, TabR. -/
import Derived.Test.YtkliahdgciajjaaDoorTabD
import Derived.Test.YtkliahdgciajjaaDoorTabF
import Derived.Test.YtkliahdgciajjaaDoorTabJ
import Derived.Test.YtkliahdgciajjaaDoorTabP
import Derived.Deep.QuietTactic
import Derived.BigQuiet
import Derived.Laws.StructEq
/- The walks of the reference's Same, of isSame, of slices.EqualFunc with it, and of Like. (Written by gen_tabK.py.) -/
namespace Go.Proofs.YtkliahdgciajjaaDoor.WPlain
end Go.Proofs.YtkliahdgciajjaaDoor.WPlain
namespace Go.Proofs.YtkliahdgciajjaaDoor.RPlain
end Go.Proofs.YtkliahdgciajjaaDoor.RPlain
namespace Go.Proofs.YtkliahdgciajjaaDoor
open Go.RowKit WPlain RPlain

theorem Opv.drewN {w : World} {v : Value} {l : List Rwo} (h : Opv w v l) (n : Nat) : Opv (w.drewN n) v l := h
theorem Txs.drewN {w : World} {v : Value} {l : List Tx} (h : Txs w v l) (n : Nat) : Txs (w.drewN n) v l := h
theorem quiet_at {P : Program} {f : FuncId} {args : Array Value} {w : World} {n x : Nat} {v : Value}
    (h : Calls P f args (w.drewN (n + x)) fun e w' => e = .returned v ∧ ∃ z, w' = (w.drewN (n + x)).drewN z) : Calls P f args (w.drewN (n + x)) fun e w'' => e = .returned v ∧ ∃ m, w'' = w.drewN (n + m) :=
  h.mono fun _ _ ⟨he, z, hz⟩ => ⟨he, x + z, by rw [hz, World.drewN_drewN, Nat.add_assoc]⟩
theorem Txs.opened {w : World} {v : Value} {l : List Tx} (h : Txs w v l) (h0 : 0 < l.length) : ∃ b o c, v = .slice (some ⟨b, o, none⟩) l.length c := by
  obtain ⟨ps, rfl, hr, _⟩ := h
  rcases hr with ⟨rfl, _⟩ | ⟨_, b, o, c, rfl, _⟩
  · simp at h0
  · exact ⟨b, o, c, by simp⟩
theorem below_drN {B : Nat} {w w' : World} (h : Below B w w') (n : Nat) : Below B w (w'.drewN n) := ⟨h.os, h.tape, h.output, h.size, h.block⟩
end Go.Proofs.YtkliahdgciajjaaDoor
/- The walks of the laws' alive, and of TableTells. -/
namespace Go.Proofs.YtkliahdgciajjaaDoor.WPlain
end Go.Proofs.YtkliahdgciajjaaDoor.WPlain
namespace Go.Proofs.YtkliahdgciajjaaDoor.QPlain
end Go.Proofs.YtkliahdgciajjaaDoor.QPlain
namespace Go.Proofs.YtkliahdgciajjaaDoor.RPlain
end Go.Proofs.YtkliahdgciajjaaDoor.RPlain
namespace Go.Proofs.YtkliahdgciajjaaDoor
open Go.RowKit WPlain QPlain RPlain

theorem evs_at {w : World} {b : Nat} {t : TypeId} (c : Nat) (l : List Ev) (h : At w b (evsCells l).toArray t) : Evs w (.slice (some ⟨b, 0, none⟩) l.length c) l := by
  by_cases h0 : 0 < l.length
  · refine .inr ⟨h0, b, 0, c, rfl, h.lt, fun i hi => ?_⟩
    have hq : ∀ j, j < 4 → w.cell? ⟨b, 0 + i * 4 + j, none⟩ = (evCells l[i])[j]? := by
      intro j hj
      have h1 := evsCells_get l i hi j hj
      have hj4 : j < (evCells l[i]).length := hj
      rw [List.getElem?_eq_getElem hj4] at h1 ⊢
      rw [Nat.zero_add]
      exact h.cell (by simpa using h1)
    exact ⟨hq 0 (by omega), hq 1 (by omega), hq 2 (by omega), hq 3 (by omega)⟩
  · have : l = [] := List.length_eq_zero_iff.1 (by omega)
    subst this
    exact Evs.nil _ _ _
theorem ops_small {h : List Ev} (hl : h.length ≤ 65536) : ∀ X ∈ tableS h, X.o.length ≤ 65536 := by
  intro X hX
  obtain ⟨t, _, rfl⟩ := List.mem_map.1 hX
  exact Nat.le_trans (ops_le h t) hl
theorem table_small {h : List Ev} (hl : h.length ≤ 65536) : (tableS h).length ≤ 65536 := by
  rw [tableS_len]
  exact Nat.le_trans (namesOf_len h) hl
end Go.Proofs.YtkliahdgciajjaaDoor
/- The walks of Find, of slices.IndexFunc with its closure, and of the reference's Find. -/
namespace Go.Proofs.YtkliahdgciajjaaDoor.WPlain
end Go.Proofs.YtkliahdgciajjaaDoor.WPlain
namespace Go.Proofs.YtkliahdgciajjaaDoor.RPlain
end Go.Proofs.YtkliahdgciajjaaDoor.RPlain
namespace Go.Proofs.YtkliahdgciajjaaDoor
open Go.RowKit WPlain RPlain

/-- the place of the first transaction of a name -/
def findS (l : List Tx) (n : Int) : Option Nat := l.findIdx? (fun t => t.n == n)
theorem findS_some {l : List Tx} {n : Int} {k : Nat} (hk : k < l.length) (h1 : l[k].n = n) (h2 : ∀ y ∈ l.take k, y.n ≠ n) : findS l n = some k := by
  unfold findS
  rw [List.findIdx?_eq_some_iff_getElem]
  refine ⟨hk, by simpa using h1, fun j hj => ?_⟩
  have := h2 l[j] (List.mem_take_iff_getElem.2 ⟨j, by omega, rfl⟩)
  simpa using this
end Go.Proofs.YtkliahdgciajjaaDoor
/- Plain words: what TableGrows asks of a table. -/
namespace Go.Proofs.YtkliahdgciajjaaDoor.WPlain
end Go.Proofs.YtkliahdgciajjaaDoor.WPlain
namespace Go.Proofs.YtkliahdgciajjaaDoor.QPlain
end Go.Proofs.YtkliahdgciajjaaDoor.QPlain
namespace Go.Proofs.YtkliahdgciajjaaDoor.RPlain
open WPlain QPlain

theorem find_at {h : List Ev} {i : Nat} (hi : i < (namesOf h).length) : findS (tableS h) (namesOf h)[i] = some i := by
  have hl : i < (tableS h).length := by rw [tableS_len]; exact hi
  refine findS_some hl (by rw [tableS_get hi]; rfl) (fun y hy hc => ?_)
  obtain ⟨j, hj, rfl⟩ := List.mem_take_iff_getElem.1 hy
  have hj2 : j < (namesOf h).length := by omega
  rw [tableS_get hj2] at hc
  have h1 : (namesOf h)[j] = (namesOf h)[i] := hc
  have := (List.getElem_inj (names_nodup h)).1 h1
  omega
theorem rise_at {h : List Ev} {p i : Nat} (hi : i < (namesOf h).length) (hp : p < i) : fstOf h ((namesOf h)[p]'(by omega)) < fstOf h (namesOf h)[i] :=
  List.pairwise_iff_getElem.1 (fst_rise h) p i (by omega) hi hp
/-- answers of a transaction among the first events -/
def cnt (h : List Ev) (t : Int) : Nat := (h.filter (answers t)).length
theorem cnt_ops (h : List Ev) (t : Int) : (opsOf h t).length = cnt h t := ops_len h t
theorem cnt_take {h : List Ev} {k : Nat} (hk : k < h.length) (t : Int) : cnt (h.take (k + 1)) t = cnt (h.take k) t + (if answers t h[k] = true then 1 else 0) := by
  unfold cnt
  rw [List.take_succ_eq_append_getElem hk, List.filter_append, List.length_append]
  congr 1
  simp only [List.filter_cons, List.filter_nil]
  split <;> rfl
theorem cnt_le (h : List Ev) (t : Int) : cnt h t ≤ h.length := List.length_filter_le _ _
theorem names_cut (h : List Ev) (K : Nat) : (namesOf (h.take K)).length ≤ (namesOf h).length ∧ ∀ i (hi : i < (namesOf (h.take K)).length) (hi2 : i < (namesOf h).length), (namesOf (h.take K))[i] = (namesOf h)[i] := by
  have h1 := names_more (h.take K) (h.drop K)
  rw [List.take_append_drop] at h1
  exact ⟨h1.length_le, fun i hi hi2 => h1.getElem hi⟩
theorem tx_cut (h : List Ev) (K : Nat) (t : Int) (ht : t ∈ namesOf (h.take K)) : fstOf h t = fstOf (h.take K) t ∧ lstOf (h.take K) t ≤ lstOf h t ∧ (opsOf (h.take K) t).length ≤ (opsOf h t).length ∧ (opsOf h t).take (opsOf (h.take K) t).length = opsOf (h.take K) t := by
  have h1 := tx_more (h.take K) (h.drop K) t ht
  rw [List.take_append_drop] at h1
  exact ⟨h1.1, h1.2.1, h1.2.2.length_le, (List.prefix_iff_eq_take.1 h1.2.2).symm⟩
theorem check_cut {h : List Ev} (hc : (checkS h).2 = 0) (K : Nat) (hK : K ≤ h.length) : (checkS (h.take K)).2 = 0 := by
  rcases check_take (check_agree hc).1 hK with h1 | h1 | h1
  · rw [h1.2.2]
  · rw [h1.2.2]
  · rw [hc] at h1; exact absurd h1.1 (by decide)
end Go.Proofs.YtkliahdgciajjaaDoor.RPlain
