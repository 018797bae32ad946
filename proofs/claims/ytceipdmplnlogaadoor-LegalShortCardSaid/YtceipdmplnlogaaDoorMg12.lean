/- Merged: TabK, TabN, TabM, TabR, BinC, OrdA. -/
import Derived.Test.YtceipdmplnlogaaDoorTabD
import Derived.Test.YtceipdmplnlogaaDoorTabF
import Derived.Test.YtceipdmplnlogaaDoorTabJ
import Derived.Test.YtceipdmplnlogaaDoorTabP
import Derived.Test.YtceipdmplnlogaaDoorMg10
import Derived.Test.YtceipdmplnlogaaDoorRows
import Derived.Test.YtceipdmplnlogaaDoorKit
import Derived.Test.YtceipdmplnlogaaDoorShelf
import Derived.Test.YtceipdmplnlogaaDoorTxtS
import Derived.Test.YtceipdmplnlogaaDoorMg9
import Derived.Test.YtceipdmplnlogaaDoorTxtH
import Derived.Test.YtceipdmplnlogaaDoorMg6
import Derived.Test.YtceipdmplnlogaaDoorPrpM
import Derived.Deep.QuietTactic
import Derived.BigQuiet
import Derived.Laws.StructEq
import Derived.Deep.RegionHeldLaw
import Derived.Deep.DrawnRows
import Derived.Deep.DeepMust
import Derived.WalkSpells
import Derived.Lib.Hide
import Derived.Laws.ShiftsVarLaws
import Derived.RegionTactic
import Derived.Laws.BitsAllLaws
import Derived.Deep.RegionHeld
import Derived.WalkLawsBesides
import Derived.Laws.AppendOwnNone
import Derived.RangeFuncBox
import Derived.RangeFuncLeaves
import Derived.Shelf.Abstract
import Derived.WalkKit
import Derived.OwnWalkIn
import Derived.TacticsInMore
import Derived.LoopNIn
import Derived.LoopIn
import Derived.Maps.AppendAt
/- The walks of the reference's Same, of isSame, of slices.EqualFunc with it, and of Like. (Written by gen_tabK.py.) -/
namespace Go.Proofs.YtceipdmplnlogaaDoor.WPlain
end Go.Proofs.YtceipdmplnlogaaDoor.WPlain
namespace Go.Proofs.YtceipdmplnlogaaDoor.RPlain
end Go.Proofs.YtceipdmplnlogaaDoor.RPlain
namespace Go.Proofs.YtceipdmplnlogaaDoor
open Go.RowKit WPlain RPlain

theorem Opv.drewN {w : World} {v : Value} {l : List Rwo} (h : Opv w v l) (n : Nat) : Opv (w.drewN n) v l := h
theorem Txs.drewN {w : World} {v : Value} {l : List Tx} (h : Txs w v l) (n : Nat) : Txs (w.drewN n) v l := h
theorem quiet_at {P : Program} {f : FuncId} {args : Array Value} {w : World} {n x : Nat} {v : Value}
    (h : Calls P f args (w.drewN (n + x)) fun e w' => e = .returned v ∧ ∃ z, w' = (w.drewN (n + x)).drewN z) : Calls P f args (w.drewN (n + x)) fun e w'' => e = .returned v ∧ ∃ m, w'' = w.drewN (n + m) :=
  h.mono fun _ _ ⟨he, z, hz⟩ => ⟨he, x + z, by rw [hz, World.drewN_drewN, Nat.add_assoc]⟩
theorem Txs.opened {w : World} {v : Value} {l : List Tx} (h : Txs w v l) (h0 : 0 < l.length) : ∃ b o c, v = .slice (some ⟨b, o, none⟩) l.length c := by
  obtain ⟨ps, rfl, hr, _⟩ := h
  rcases hr with ⟨rfl, _⟩ | ⟨_, b, o, c, rfl, _⟩
  · simp at h0
  · exact ⟨b, o, c, by simp⟩
theorem below_drN {B : Nat} {w w' : World} (h : Below B w w') (n : Nat) : Below B w (w'.drewN n) := ⟨h.os, h.tape, h.output, h.size, h.block⟩
end Go.Proofs.YtceipdmplnlogaaDoor
/- The walks of the laws' alive, and of TableTells. -/
namespace Go.Proofs.YtceipdmplnlogaaDoor.WPlain
end Go.Proofs.YtceipdmplnlogaaDoor.WPlain
namespace Go.Proofs.YtceipdmplnlogaaDoor.QPlain
end Go.Proofs.YtceipdmplnlogaaDoor.QPlain
namespace Go.Proofs.YtceipdmplnlogaaDoor.RPlain
end Go.Proofs.YtceipdmplnlogaaDoor.RPlain
namespace Go.Proofs.YtceipdmplnlogaaDoor
open Go.RowKit WPlain QPlain RPlain

theorem evs_at {w : World} {b : Nat} {t : TypeId} (c : Nat) (l : List Ev) (h : At w b (evsCells l).toArray t) : Evs w (.slice (some ⟨b, 0, none⟩) l.length c) l := by
  by_cases h0 : 0 < l.length
  · refine .inr ⟨h0, b, 0, c, rfl, h.lt, fun i hi => ?_⟩
    have hq : ∀ j, j < 4 → w.cell? ⟨b, 0 + i * 4 + j, none⟩ = (evCells l[i])[j]? := by
      intro j hj
      have h1 := evsCells_get l i hi j hj
      have hj4 : j < (evCells l[i]).length := hj
      rw [List.getElem?_eq_getElem hj4] at h1 ⊢
      rw [Nat.zero_add]
      exact h.cell (by simpa using h1)
    exact ⟨hq 0 (by omega), hq 1 (by omega), hq 2 (by omega), hq 3 (by omega)⟩
  · have : l = [] := List.length_eq_zero_iff.1 (by omega)
    subst this
    exact Evs.nil _ _ _
end Go.Proofs.YtceipdmplnlogaaDoor
/- The walks of Find, of slices.IndexFunc with its closure, and of the reference's Find. -/
namespace Go.Proofs.YtceipdmplnlogaaDoor.WPlain
end Go.Proofs.YtceipdmplnlogaaDoor.WPlain
namespace Go.Proofs.YtceipdmplnlogaaDoor.RPlain
end Go.Proofs.YtceipdmplnlogaaDoor.RPlain
namespace Go.Proofs.YtceipdmplnlogaaDoor
open Go.RowKit WPlain RPlain

/-- the place of the first transaction of a name -/
def findS (l : List Tx) (n : Int) : Option Nat := l.findIdx? (fun t => t.n == n)
theorem findS_some {l : List Tx} {n : Int} {k : Nat} (hk : k < l.length) (h1 : l[k].n = n) (h2 : ∀ y ∈ l.take k, y.n ≠ n) : findS l n = some k := by
  unfold findS
  rw [List.findIdx?_eq_some_iff_getElem]
  refine ⟨hk, by simpa using h1, fun j hj => ?_⟩
  have := h2 l[j] (List.mem_take_iff_getElem.2 ⟨j, by omega, rfl⟩)
  simpa using this
end Go.Proofs.YtceipdmplnlogaaDoor
/- Plain words: what TableGrows asks of a table. -/
namespace Go.Proofs.YtceipdmplnlogaaDoor.WPlain
end Go.Proofs.YtceipdmplnlogaaDoor.WPlain
namespace Go.Proofs.YtceipdmplnlogaaDoor.QPlain
end Go.Proofs.YtceipdmplnlogaaDoor.QPlain
namespace Go.Proofs.YtceipdmplnlogaaDoor.RPlain
open WPlain QPlain

theorem find_at {h : List Ev} {i : Nat} (hi : i < (namesOf h).length) : findS (tableS h) (namesOf h)[i] = some i := by
  have hl : i < (tableS h).length := by rw [tableS_len]; exact hi
  refine findS_some hl (by rw [tableS_get hi]; rfl) (fun y hy hc => ?_)
  obtain ⟨j, hj, rfl⟩ := List.mem_take_iff_getElem.1 hy
  have hj2 : j < (namesOf h).length := by omega
  rw [tableS_get hj2] at hc
  have h1 : (namesOf h)[j] = (namesOf h)[i] := hc
  have := (List.getElem_inj (names_nodup h)).1 h1
  omega
theorem rise_at {h : List Ev} {p i : Nat} (hi : i < (namesOf h).length) (hp : p < i) : fstOf h ((namesOf h)[p]'(by omega)) < fstOf h (namesOf h)[i] :=
  List.pairwise_iff_getElem.1 (fst_rise h) p i (by omega) hi hp
/-- answers of a transaction among the first events -/
def cnt (h : List Ev) (t : Int) : Nat := (h.filter (answers t)).length
theorem cnt_ops (h : List Ev) (t : Int) : (opsOf h t).length = cnt h t := ops_len h t
theorem cnt_take {h : List Ev} {k : Nat} (hk : k < h.length) (t : Int) : cnt (h.take (k + 1)) t = cnt (h.take k) t + (if answers t h[k] = true then 1 else 0) := by
  unfold cnt
  rw [List.take_succ_eq_append_getElem hk, List.filter_append, List.length_append]
  congr 1
  simp only [List.filter_cons, List.filter_nil]
  split <;> rfl
theorem cnt_le (h : List Ev) (t : Int) : cnt h t ≤ h.length := List.length_filter_le _ _
theorem names_cut (h : List Ev) (K : Nat) : (namesOf (h.take K)).length ≤ (namesOf h).length ∧ ∀ i (hi : i < (namesOf (h.take K)).length) (hi2 : i < (namesOf h).length), (namesOf (h.take K))[i] = (namesOf h)[i] := by
  have h1 := names_more (h.take K) (h.drop K)
  rw [List.take_append_drop] at h1
  exact ⟨h1.length_le, fun i hi hi2 => h1.getElem hi⟩
theorem tx_cut (h : List Ev) (K : Nat) (t : Int) (ht : t ∈ namesOf (h.take K)) : fstOf h t = fstOf (h.take K) t ∧ lstOf (h.take K) t ≤ lstOf h t ∧ (opsOf (h.take K) t).length ≤ (opsOf h t).length ∧ (opsOf h t).take (opsOf (h.take K) t).length = opsOf (h.take K) t := by
  have h1 := tx_more (h.take K) (h.drop K) t ht
  rw [List.take_append_drop] at h1
  exact ⟨h1.1, h1.2.1, h1.2.2.length_le, (List.prefix_iff_eq_take.1 h1.2.2).symm⟩
theorem check_cut {h : List Ev} (hc : (checkS h).2 = 0) (K : Nat) (hK : K ≤ h.length) : (checkS (h.take K)).2 = 0 := by
  rcases check_take (check_agree hc).1 hK with h1 | h1 | h1
  · rw [h1.2.2]
  · rw [h1.2.2]
  · rw [hc] at h1; exact absurd h1.1 (by decide)
end Go.Proofs.YtceipdmplnlogaaDoor.RPlain
/- The walks of slices.Clone at events, and of mayName. -/
namespace Go.Proofs.YtceipdmplnlogaaDoor.WPlain
end Go.Proofs.YtceipdmplnlogaaDoor.WPlain
namespace Go.Proofs.YtceipdmplnlogaaDoor.VPlain
end Go.Proofs.YtceipdmplnlogaaDoor.VPlain
namespace Go.Proofs.YtceipdmplnlogaaDoor.BPlain
end Go.Proofs.YtceipdmplnlogaaDoor.BPlain
attribute [local go_sem ↓] Go.wp_at_zero Go.wp_at_succ
namespace Go.Proofs.YtceipdmplnlogaaDoor
open Go.RowKit WPlain VPlain BPlain

theorem own_mono {w : World} {B B' : Nat} {e : TypeId} {z : Nat} {v : Value} {n : Nat} {xs : List Value} (h : w.ownsRow B e z v n xs) (hB : B' ≤ B) : w.ownsRow B' e z v n xs := by
  refine ⟨h.1, ?_⟩
  rcases h.2 with h0 | ⟨g, cap, cur, rfl, hb, hg, hr⟩
  · exact .inl h0
  · exact .inr ⟨g, cap, cur, rfl, Nat.le_trans hB hb, hg, hr⟩

end Go.Proofs.YtceipdmplnlogaaDoor
/- Plain words: what is before what. -/
namespace Go.Proofs.YtceipdmplnlogaaDoor.WPlain
end Go.Proofs.YtceipdmplnlogaaDoor.WPlain
namespace Go.Proofs.YtceipdmplnlogaaDoor.QPlain
end Go.Proofs.YtceipdmplnlogaaDoor.QPlain
namespace Go.Proofs.YtceipdmplnlogaaDoor.RPlain
open WPlain QPlain

/-- is one transaction before another? -/
def bfr (a b : Tx) : Bool := (decide (a.s = 2) || decide (a.s = 3)) && decide (a.l < b.f)
theorem state_ended (k : Int) : (decide (stateS k = 2) || decide (stateS k = 3)) = (decide (k = 7) || decide (k = 9)) := by
  unfold stateS
  by_cases h7 : k = 7
  · subst h7; rfl
  · by_cases h9 : k = 9
    · subst h9; rfl
    · by_cases h6 : k = 6
      · subst h6; rfl
      · simp [h7, h9, h6]
theorem flw_ended {t : Int} : ∀ (r : List Ev) (F : Int → Nat) (i : Nat), (flw F i r).2.2 = true → F t = 7 → ∀ e ∈ r, e.t ≠ t := by
  intro r
  induction r with
  | nil => intro F i _ _ e he; cases he
  | cons x r ih =>
    intro F i hok hF e he
    cases hm : mv (F x.t) x.k.toNat with
    | none => rw [flw_none hm] at hok; simp at hok
    | some s =>
      rw [flw_some hm] at hok
      have hx : x.t ≠ t := by
        intro hc
        rw [hc, hF] at hm
        simp [mv, mvs] at hm
      rcases List.mem_cons.1 he with rfl | he
      · exact hx
      · refine ih _ _ hok ?_ e he
        unfold upd
        rw [if_neg (fun hc => hx hc.symm)]
        exact hF
theorem ended_stop {h : List Ev} (hc : (checkS h).2 = 0) {k : Nat} {t : Int} (hl : lastOf (h.take k) t = 7 ∨ lastOf (h.take k) t = 9) : ∀ e ∈ h.drop k, e.t ≠ t := by
  obtain ⟨hr, _, hok⟩ := check_agree hc
  have hek := (right_evs hr).2
  have hsp := flw_app (h.take k) (h.drop k) (fun _ => 0) 0
  rw [List.take_append_drop] at hsp
  obtain ⟨_, _, _, hA⟩ := flw_first (h.take k) [] _ Agree.start (fun _ hc => by cases hc) (fun e he => (hek e (List.mem_of_mem_take he)).1)
  unfold flw0 at hok
  cases h1 : (flw (fun _ => 0) 0 (h.take k)).2.2 with
  | false => rw [if_neg (by rw [h1]; simp)] at hsp; rw [hsp, h1] at hok; simp at hok
  | true =>
    rw [if_pos h1] at hsp
    rw [hsp] at hok
    have hF := hA h1 t
    simp only [List.length_nil, List.nil_append] at hF
    refine flw_ended _ _ _ hok ?_
    rw [hF]
    rcases hl with hl | hl <;> rw [hl] <;> rfl
theorem none_more {h : List Ev} {t : Int} : ∀ g : List Ev, (∀ e ∈ g, e.t ≠ t) → lstOf (h ++ g) t = lstOf h t ∧ lastOf (h ++ g) t = lastOf h t := by
  intro g
  refine rev_ind (p := fun g => (∀ e ∈ g, e.t ≠ t) → lstOf (h ++ g) t = lstOf h t ∧ lastOf (h ++ g) t = lastOf h t) ?_ ?_ g
  · intro _; simp
  · intro g e ih hall
    rw [← List.append_assoc, lstOf_snoc, lastOf_snoc, if_neg (hall e (by simp)), if_neg (hall e (by simp))]
    exact ih (fun x hx => hall x (by simp [hx]))
theorem some_more {h : List Ev} {t : Int} : ∀ g : List Ev, (∃ e ∈ g, e.t = t) → (h.length : Int) ≤ lstOf (h ++ g) t := by
  intro g
  refine rev_ind (p := fun g => (∃ e ∈ g, e.t = t) → (h.length : Int) ≤ lstOf (h ++ g) t) ?_ ?_ g
  · rintro ⟨e, he, _⟩; cases he
  · intro g e ih hex
    rw [← List.append_assoc, lstOf_snoc]
    by_cases he : e.t = t
    · rw [if_pos he, List.length_append]
      omega
    · rw [if_neg he]
      refine ih ?_
      obtain ⟨x, hx, hxt⟩ := hex
      rcases List.mem_append.1 hx with hx | hx
      · exact ⟨x, hx, hxt⟩
      · rw [List.mem_singleton.1 hx] at hxt; exact absurd hxt he
/-- up to a place: what is before what stays, and nothing is added -/
theorem bfr_take {h : List Ev} (hc : (checkS h).2 = 0) {k : Nat} (hk : k ≤ h.length) {t u : Int} (hu : u ∈ namesOf (h.take k)) : bfr (txOf h t) (txOf h u) = bfr (txOf (h.take k) t) (txOf (h.take k) u) := by
  have hsp : h.take k ++ h.drop k = h := List.take_append_drop k h
  have htl : (h.take k).length = k := by rw [List.length_take]; omega
  have hfu : fstOf h u = fstOf (h.take k) u := by
    have := (tx_more (h.take k) (h.drop k) u hu).1
    rwa [hsp] at this
  have hfk := (fst_range hu).2
  rw [htl] at hfk
  unfold bfr txOf
  simp only [state_ended, hfu]
  by_cases hl : lastOf (h.take k) t = 7 ∨ lastOf (h.take k) t = 9
  · have hn := none_more (h := h.take k) (t := t) (h.drop k) (ended_stop hc hl)
    rw [hsp] at hn
    rw [hn.1, hn.2]
  · have h2 : (decide (lastOf (h.take k) t = 7) || decide (lastOf (h.take k) t = 9)) = false := by simpa using hl
    rw [h2, Bool.false_and]
    by_cases hex : ∃ e ∈ h.drop k, e.t = t
    · have := some_more (h := h.take k) (h.drop k) hex
      rw [hsp, htl] at this
      have : decide (lstOf h t < fstOf (h.take k) u) = false := decide_eq_false (by omega)
      rw [this, Bool.and_false]
    · have hn := none_more (h := h.take k) (t := t) (h.drop k) (fun e he hte => hex ⟨e, he, hte⟩)
      rw [hsp] at hn
      rw [hn.2, h2, Bool.false_and]
theorem bfr_self (h : List Ev) {t : Int} (ht : t ∈ namesOf h) : bfr (txOf h t) (txOf h t) = false := by
  have := (fst_lst h t ht).1
  unfold bfr txOf
  simp
  omega
theorem bfr_trans (h : List Ev) {a b c : Int} (hb : b ∈ namesOf h) (h1 : bfr (txOf h a) (txOf h b) = true) (h2 : bfr (txOf h b) (txOf h c) = true) : bfr (txOf h a) (txOf h c) = true := by
  have := (fst_lst h b hb).1
  unfold bfr txOf at *
  simp only [Bool.and_eq_true, decide_eq_true_eq] at *
  exact ⟨h1.1, by omega⟩
theorem bfr_interval (h : List Ev) {a b c d : Int} (h1 : bfr (txOf h a) (txOf h b) = true) (h2 : bfr (txOf h c) (txOf h d) = true) : bfr (txOf h a) (txOf h d) = true ∨ bfr (txOf h c) (txOf h b) = true := by
  unfold bfr txOf at *
  simp only [Bool.and_eq_true, decide_eq_true_eq] at *
  by_cases h3 : lstOf h a < fstOf h d
  · exact .inl ⟨h1.1, h3⟩
  · exact .inr ⟨h2.1, by omega⟩
/-- the table's own row keeps the order -/
theorem bfr_row (h : List Ev) {i j : Nat} (hij : j < i) (hi : i < (namesOf h).length) : bfr (txOf h ((namesOf h)[i])) (txOf h ((namesOf h)[j])) = false := by
  have h1 := List.pairwise_iff_getElem.1 (fst_rise h) j i (by omega) hi hij
  have h2 := (fst_lst h _ (List.getElem_mem hi)).1
  unfold bfr txOf
  simp
  omega
end Go.Proofs.YtceipdmplnlogaaDoor.RPlain
