/- Merged: OrdD, LegB, LegC, LegH, WalkG. -/
import Derived.Test.YtkliahdgciajjaaDoorMg5
import Derived.Test.YtkliahdgciajjaaDoorPrpM
import Derived.Test.YtkliahdgciajjaaDoorMg11
import Derived.Test.YtkliahdgciajjaaDoorLegA
import Derived.Test.YtkliahdgciajjaaDoorRows
import Derived.Test.YtkliahdgciajjaaDoorMg3
import Derived.Test.YtkliahdgciajjaaDoorTabF
import Derived.Test.YtkliahdgciajjaaDoorTabH
import Derived.Test.YtkliahdgciajjaaDoorMg2
import Derived.BigQuiet
import Derived.RangeFuncBox
import Derived.RangeFuncLeaves
import Derived.Shelf.Abstract
import Derived.WalkKit
import Derived.OwnWalkIn
import Derived.TacticsInMore
import Derived.LoopNIn
import Derived.LoopIn
import Derived.Deep.OwnRows
import Derived.Laws.BitsAllLaws
import Derived.Deep.RegionHeld
import Derived.OrdersIn
import Derived.RangeFuncCalls
import Derived.Deep.QuietTactic
import Derived.Laws.AppendOwnNone
/- Plain words: the bits of what is before what, gathered pair by pair; rows of places as bits. -/
namespace Go.Proofs.YtkliahdgciajjaaDoor.WPlain
end Go.Proofs.YtkliahdgciajjaaDoor.WPlain
namespace Go.Proofs.YtkliahdgciajjaaDoor.QPlain
end Go.Proofs.YtkliahdgciajjaaDoor.QPlain
namespace Go.Proofs.YtkliahdgciajjaaDoor.RPlain
open WPlain QPlain

/-- well-formed events have few names -/
theorem table_six {h : List Ev} (h0 : (checkS h).2 = 0) : (tableS h).length ≤ 6 := by
  obtain ⟨hr, _, _⟩ := check_agree h0
  rw [tableS_len]
  unfold right at hr
  simp only [Bool.and_eq_true, decide_eq_true_eq] at hr
  exact hr.2
end Go.Proofs.YtkliahdgciajjaaDoor.RPlain
/- Plain words: rows whose places are there once; a row's bits; eight values. -/
namespace Go.Proofs.YtkliahdgciajjaaDoor.WPlain
end Go.Proofs.YtkliahdgciajjaaDoor.WPlain
namespace Go.Proofs.YtkliahdgciajjaaDoor.QPlain
end Go.Proofs.YtkliahdgciajjaaDoor.QPlain
namespace Go.Proofs.YtkliahdgciajjaaDoor.RPlain
end Go.Proofs.YtkliahdgciajjaaDoor.RPlain
namespace Go.Proofs.YtkliahdgciajjaaDoor.RPlain
open WPlain QPlain

def okOps (ops : List Rwo) : Prop := ∀ o ∈ ops, 0 ≤ o.v ∧ o.v ≤ 7
theorem askedE_any (h : List Ev) (t : Int) {p : Ev → Prop} (h0 : p ⟨0, 0, 0, 0⟩) (h1 : ∀ e ∈ h, p e) : p (askedOf h t) := by
  revert h1
  refine rev_ind (p := fun h => (∀ e ∈ h, p e) → p (askedOf h t)) ?_ ?_ h
  · intro _; exact h0
  · intro g e ih h1
    rw [askedOf_snoc]
    split
    · exact h1 e (by simp)
    · exact ih fun x hx => h1 x (List.mem_append_left _ hx)
theorem ops_any (h : List Ev) (t : Int) (h1 : ∀ e ∈ h, 0 ≤ e.v ∧ e.v ≤ 7) : okOps (opsOf h t) := by
  revert h1
  refine rev_ind (p := fun h => (∀ e ∈ h, 0 ≤ e.v ∧ e.v ≤ 7) → okOps (opsOf h t)) ?_ ?_ h
  · intro _ o ho; simp [opsOf] at ho
  · intro g e ih h1 o ho
    rw [opsOf_snoc] at ho
    have hg : ∀ e ∈ g, 0 ≤ e.v ∧ e.v ≤ 7 := fun x hx => h1 x (List.mem_append_left _ hx)
    rcases List.mem_append.1 ho with ho | ho
    · exact ih hg o ho
    · have ha := askedE_any g t (p := fun e => 0 ≤ e.v ∧ e.v ≤ 7) ⟨by decide, by decide⟩ hg
      split at ho
      · unfold opStep at ho
        split at ho
        · rw [List.mem_singleton.1 ho]; exact ha
        · split at ho
          · rw [List.mem_singleton.1 ho]; exact ha
          · cases ho
      · cases ho
theorem table_ops {h : List Ev} (h0 : (checkS h).2 = 0) : ∀ X ∈ tableS h, okOps X.o ∧ X.o.length ≤ 60 := by
  intro X hX
  obtain ⟨t, _, rfl⟩ := List.mem_map.1 hX
  have hr := (check_agree h0).1
  have h60 := (right_evs hr).1
  refine ⟨ops_any h t fun e he => ?_, ?_⟩
  · simp only [right, Bool.and_eq_true, decide_eq_true_eq, List.all_eq_true] at hr
    have := hr.1.2 e he
    simp only [evOk, inB, Bool.and_eq_true, decide_eq_true_eq] at this
    omega
  · show (opsOf h t).length ≤ 60
    rw [ops_len]
    exact Nat.le_trans (List.length_filter_le _ _) h60
end Go.Proofs.YtkliahdgciajjaaDoor.RPlain
namespace Go.Proofs.YtkliahdgciajjaaDoor
open Go.RowKit WPlain QPlain RPlain

end Go.Proofs.YtkliahdgciajjaaDoor
/- The walks of package legal's bit, isOfNoVariable, with, firstWrong and left. -/
namespace Go.Proofs.YtkliahdgciajjaaDoor.WPlain
end Go.Proofs.YtkliahdgciajjaaDoor.WPlain
namespace Go.Proofs.YtkliahdgciajjaaDoor.QPlain
end Go.Proofs.YtkliahdgciajjaaDoor.QPlain
namespace Go.Proofs.YtkliahdgciajjaaDoor.RPlain
end Go.Proofs.YtkliahdgciajjaaDoor.RPlain
namespace Go.Proofs.YtkliahdgciajjaaDoor
open Go.RowKit WPlain QPlain RPlain

theorem Opv.at {w : World} {a : Option Addr} {n c : Nat} {l : List Rwo} (h : Opv w (.slice a n c) l) (i : Nat) (hi : i < l.length) : ∃ b o, a = some ⟨b, o, none⟩ ∧ b < w.heap.size ∧
    w.cell? ⟨b, o + i * 3, none⟩ = some (.bool l[i].w) ∧ w.cell? ⟨b, o + i * 3 + 1, none⟩ = some (.int .i64 l[i].v) ∧ w.cell? ⟨b, o + i * 3 + 2, none⟩ = some (.int .i64 l[i].x) := by
  rcases h.1 with ⟨rfl, _⟩ | ⟨_, b, o, c', he, hbl, hc⟩
  · simp at hi
  · simp only [Value.slice.injEq] at he
    obtain ⟨rfl, _, _⟩ := he
    exact ⟨b, o, rfl, hbl, hc i hi 0 _ (by omega) rfl, hc i hi 1 _ (by omega) rfl, hc i hi 2 _ (by omega) rfl⟩
end Go.Proofs.YtkliahdgciajjaaDoor
/- The walks of the reference's Put, Get and With: a memory told as writes, the last one first. -/
namespace Go.Proofs.YtkliahdgciajjaaDoor.WPlain
end Go.Proofs.YtkliahdgciajjaaDoor.WPlain
namespace Go.Proofs.YtkliahdgciajjaaDoor.QPlain
end Go.Proofs.YtkliahdgciajjaaDoor.QPlain
namespace Go.Proofs.YtkliahdgciajjaaDoor.RPlain
end Go.Proofs.YtkliahdgciajjaaDoor.RPlain
namespace Go.Proofs.YtkliahdgciajjaaDoor.RPlain
open WPlain QPlain

end Go.Proofs.YtkliahdgciajjaaDoor.RPlain
namespace Go.Proofs.YtkliahdgciajjaaDoor
open Go.RowKit WPlain QPlain RPlain

/-- a memory's row of writes -/
def Mm (w : World) (u : Value) (L : List Rwo) : Prop := Opv w u L ∧ Src u
theorem Mm.below {w w' : World} {B : Nat} {u : Value} {L : List Rwo} (h : Mm w u L) (hb : Below B w w') (hB : w.heap.size ≤ B) : Mm w' u L := ⟨h.1.below hb hB, h.2⟩
theorem Mm.nil (w : World) : Mm w (.slice none 0 0) [] := ⟨Opv.nil _ _ _, .inl rfl⟩
/-- a cell of the call's own that holds a slice is none of a row of Ops -/
theorem Opv.set {w : World} {u : Value} {L : List Rwo} (h : Opv w u L) {N : Nat} {x : Option Addr} {y z : Nat} {T : TypeId} (hA : At w N #[.slice x y z] T) (v : Value) : Opv (w.setCell ⟨N, 0, none⟩ v) u L := by
  refine ⟨?_, h.2⟩
  rcases h.1 with h0 | ⟨h0, b, o, c, rfl, hbl, hc⟩
  · exact .inl h0
  · have hne : b ≠ N := by
      rintro rfl
      have h1 := hc 0 h0 0 (.bool L[0].w) (by omega) rfl
      rw [Nat.zero_mul, Nat.add_zero] at h1
      unfold At at hA
      simp only [World.cell?, hA] at h1
      match o, h1 with
      | 0, h1 => simp at h1
      | o + 1, h1 => simp at h1
    have hh := Below.heap_setCell w ⟨N, 0, none⟩ v b hne
    refine .inr ⟨h0, b, o, c, rfl, by simpa [World.setCell] using hbl, fun i hi j q hj hq => ?_⟩
    have h1 := hc i hi j q hj hq
    unfold World.cell? at h1 ⊢
    rw [hh]
    exact h1
end Go.Proofs.YtkliahdgciajjaaDoor
/- The walks of the reference's Texts and Ints, at two rows that are the same. -/
namespace Go.Proofs.YtkliahdgciajjaaDoor.WPlain
end Go.Proofs.YtkliahdgciajjaaDoor.WPlain
namespace Go.Proofs.YtkliahdgciajjaaDoor
open Go.RowKit WPlain

set_option maxHeartbeats 400000 in
theorem ints_same (xs : List Int) (v1 v2 : Value) (w : World) (hx : xs.length ≤ 2147483648) (h1 : Rd w v1 (xs.map (.int .i64))) (h2 : Rd w v2 (xs.map (.int .i64))) :
    Calls Tryd.prog 12 #[v1, v2] w fun e w' => e = .returned (.bool true) ∧ ∃ n, w' = w.drewN n := by
  rcases h1 with ⟨e1, a1, c1, rfl⟩ | ⟨l1, b1, o1, c1, rfl, g1⟩
  · have hx0 : xs = [] := by simpa using e1
    subst hx0
    rcases h2 with ⟨e2, a2, c2, rfl⟩ | ⟨l2, _⟩
    · go_enter Tryd.func12, Tryd.ntmps12
      go_wp2
      refine wp_loop_rounds 1 ?_
      rw [rounds_succ]
      go_wp2
      go_ret
      exact ⟨rfl, 0, rfl⟩
    · simp at l2
  · rcases h2 with ⟨e2, _⟩ | ⟨l2, b2, o2, c2, rfl, g2⟩
    · rw [e2] at l1; simp at l1
    · have HG : Hid (∀ i (h : i < xs.length), w.cell? ⟨b1, o1 + i, none⟩ = some (.int .i64 xs[i]) ∧ w.cell? ⟨b2, o2 + i, none⟩ = some (.int .i64 xs[i])) := by
        intro i h
        exact ⟨g1 i _ (by rw [List.getElem?_map, List.getElem?_eq_getElem h]; rfl), g2 i _ (by rw [List.getElem?_map, List.getElem?_eq_getElem h]; rfl)⟩
      clear g1 g2
      simp only [List.length_map] at l1 l2 ⊢
      go_enter Tryd.func12, Tryd.ntmps12
      go_wp2
      go_loopw [13] (fun x wr => ∃ k n : Nat, k ≤ xs.length ∧ x = .int .i64 k ∧ wr = w.drewN n) (fun x _ => xs.length - (intOf x).toNat)
      case atStart => exact ⟨0, 0, by omega, rfl, rfl⟩
      case round =>
        obtain ⟨k, n, hk, rfl, rfl⟩ := hrel
        by_cases hlt : k < xs.length
        · obtain ⟨hc1, hc2⟩ := HG.out k hlt
          generalize xs[k] = y at *
          have k1 : (k : Int) < (xs.length : Int) := by omega
          go_wp2
          go_quiet (fail)
          go_wp2
          go_roundw
          case rel => exact ⟨k + 1, _, by omega, by go_num, rfl⟩
          case measure => simp [intOf]; omega
        · go_wp2
          go_ret
          exact ⟨rfl, n, rfl⟩
end Go.Proofs.YtkliahdgciajjaaDoor
