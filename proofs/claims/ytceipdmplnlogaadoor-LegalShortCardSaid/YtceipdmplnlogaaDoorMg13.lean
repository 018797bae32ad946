/- Merged: OrdB, OrdD, OrdC, OrdE, OrdF, OrdG, CmpF. -/
import Derived.Test.YtceipdmplnlogaaDoorMg12
import Derived.Test.YtceipdmplnlogaaDoorRows
import Derived.Test.YtceipdmplnlogaaDoorTabF
import Derived.Laws.BitsAllLaws
import Derived.RangeFuncBox
import Derived.RangeFuncLeaves
import Derived.Shelf.Abstract
import Derived.WalkKit
import Derived.OwnWalkIn
import Derived.TacticsInMore
import Derived.LoopNIn
import Derived.LoopIn
import Derived.Deep.OwnRows
import Derived.Deep.RegionHeld
import Derived.OrdersIn
import Derived.RangeFuncCalls
import Derived.BigQuiet
/- Plain words: what is before what, as bits; up to a place; rows that keep it. -/
namespace Go.Proofs.YtceipdmplnlogaaDoor.WPlain
end Go.Proofs.YtceipdmplnlogaaDoor.WPlain
namespace Go.Proofs.YtceipdmplnlogaaDoor.QPlain
end Go.Proofs.YtceipdmplnlogaaDoor.QPlain
namespace Go.Proofs.YtceipdmplnlogaaDoor.RPlain
open WPlain QPlain

/-- a row of places: is any not there; is any there twice, or behind one that it is before -/
def thereS (l : List Tx) (row : List Int) : Bool := row.all fun i => decide (0 ≤ i) && decide (i < l.length)
theorem thereS_iff (l : List Tx) (row : List Int) : thereS l row = true ↔ ∀ i ∈ row, 0 ≤ i ∧ i < l.length := by
  unfold thereS
  simp [List.all_eq_true]
end Go.Proofs.YtceipdmplnlogaaDoor.RPlain
/- Plain words: the bits of what is before what, gathered pair by pair; rows of places as bits. -/
namespace Go.Proofs.YtceipdmplnlogaaDoor.WPlain
end Go.Proofs.YtceipdmplnlogaaDoor.WPlain
namespace Go.Proofs.YtceipdmplnlogaaDoor.QPlain
end Go.Proofs.YtceipdmplnlogaaDoor.QPlain
namespace Go.Proofs.YtceipdmplnlogaaDoor.RPlain
open WPlain QPlain

theorem snoc_ind {α : Type} {p : List α → Prop} (h0 : p []) (h1 : ∀ h e, p h → p (h ++ [e])) (h : List α) : p h := by
  rw [← List.reverse_reverse h]
  induction h.reverse with
  | nil => exact h0
  | cons e r ih => rw [List.reverse_cons]; exact h1 _ _ ih
/-- rows of places -/
def aheadN (row : List Nat) : Nat := row.foldl (fun a p => a ||| 2 ^ p) 0
theorem aheadN_snoc (row : List Nat) (p : Nat) : aheadN (row ++ [p]) = aheadN row ||| 2 ^ p := by simp [aheadN]
theorem aheadN_bit (row : List Nat) (j : Nat) : (aheadN row).testBit j = true ↔ j ∈ row := by
  refine snoc_ind (p := fun row => (aheadN row).testBit j = true ↔ j ∈ row) ?_ ?_ row
  · simp [aheadN]
  · intro row p ih
    rw [aheadN_snoc, Nat.testBit_or, Bool.or_eq_true, ih, Nat.testBit_two_pow]
    simp [eq_comm]
theorem aheadN_lt {row : List Nat} {n : Nat} (h : ∀ p ∈ row, p < n) : aheadN row < 2 ^ n := by
  refine Nat.lt_pow_two_of_testBit _ fun j hj => ?_
  cases hc : (aheadN row).testBit j with
  | false => rfl
  | true =>
    have := h _ ((aheadN_bit row j).1 hc)
    omega
/-- well-formed events have few names -/
theorem table_six {h : List Ev} (h0 : (checkS h).2 = 0) : (tableS h).length ≤ 6 := by
  obtain ⟨hr, _, _⟩ := check_agree h0
  rw [tableS_len]
  unfold right at hr
  simp only [Bool.and_eq_true, decide_eq_true_eq] at hr
  exact hr.2
end Go.Proofs.YtceipdmplnlogaaDoor.RPlain
/- The walks of package order's bit and isBefore. -/
namespace Go.Proofs.YtceipdmplnlogaaDoor.WPlain
end Go.Proofs.YtceipdmplnlogaaDoor.WPlain
namespace Go.Proofs.YtceipdmplnlogaaDoor.QPlain
end Go.Proofs.YtceipdmplnlogaaDoor.QPlain
namespace Go.Proofs.YtceipdmplnlogaaDoor.RPlain
end Go.Proofs.YtceipdmplnlogaaDoor.RPlain
namespace Go.Proofs.YtceipdmplnlogaaDoor
open Go.RowKit WPlain QPlain RPlain

theorem pow_u32 {k : Nat} (hk : k < 32) : (2 : Int) ^ k % 4294967296 = ((2 ^ k : Nat) : Int) := by
  have h1 : 2 ^ k < 4294967296 := Nat.pow_lt_pow_right (a := 2) (m := k) (n := 32) (by decide) hk
  have h2 : (2 : Int) ^ k = ((2 ^ k : Nat) : Int) := (Int.natCast_pow 2 k).symm
  rw [h2]
  generalize 2 ^ k = x at *
  omega
end Go.Proofs.YtceipdmplnlogaaDoor
/- The walks of package order's pairs and After: a loop over a function. -/
namespace Go.Proofs.YtceipdmplnlogaaDoor.WPlain
end Go.Proofs.YtceipdmplnlogaaDoor.WPlain
namespace Go.Proofs.YtceipdmplnlogaaDoor.QPlain
end Go.Proofs.YtceipdmplnlogaaDoor.QPlain
namespace Go.Proofs.YtceipdmplnlogaaDoor.RPlain
end Go.Proofs.YtceipdmplnlogaaDoor.RPlain
namespace Go.Proofs.YtceipdmplnlogaaDoor
open Go.RowKit Go.Shelf WPlain QPlain RPlain

attribute [local go_sem] Oper.semAt_some

theorem Rd.of_at {w : World} {b : Nat} {L : List Value} {t : TypeId} (c : Nat) (h : At w b L.toArray t) : Rd w (.slice (some ⟨b, 0, none⟩) L.length c) L := by
  by_cases h0 : 0 < L.length
  · refine .inr ⟨h0, b, 0, c, rfl, fun j u hu => ?_⟩
    rw [Nat.zero_add]
    exact h.cell (by simpa using hu)
  · have : L = [] := List.length_eq_zero_iff.1 (by omega)
    subst this
    exact .inl ⟨rfl, _, _, rfl⟩
end Go.Proofs.YtceipdmplnlogaaDoor
/- The walks of package order's afterOf, Before and Keeps. -/
namespace Go.Proofs.YtceipdmplnlogaaDoor.WPlain
end Go.Proofs.YtceipdmplnlogaaDoor.WPlain
namespace Go.Proofs.YtceipdmplnlogaaDoor.QPlain
end Go.Proofs.YtceipdmplnlogaaDoor.QPlain
namespace Go.Proofs.YtceipdmplnlogaaDoor.RPlain
end Go.Proofs.YtceipdmplnlogaaDoor.RPlain
namespace Go.Proofs.YtceipdmplnlogaaDoor
open Go.RowKit WPlain QPlain RPlain

/-- is there no transaction of a place? -/
def noneB (n : Nat) (x : Int) : Bool := decide (x < 0) || decide ((n : Int) ≤ x)
theorem none_there (l : List Tx) (row : List Int) : row.any (noneB l.length) = !(thereS l row) := by
  unfold thereS
  rw [List.not_all_eq_any_not]
  refine congrArg (fun p => row.any p) (funext fun x => ?_)
  unfold noneB
  by_cases h1 : x < 0
  · simp [h1]
  · by_cases h2 : (l.length : Int) ≤ x
    · simp [h1, h2]
    · simp [h1, h2]; omega
/-- the error of places of events -/
def errP (h : List Ev) (row : List Int) : Nat := if (checkS h).2 = 0 then (if thereS (tableS h) row = true then 0 else 7) else (checkS h).2
end Go.Proofs.YtceipdmplnlogaaDoor
/- The walks of package order's Before and Keeps. -/
namespace Go.Proofs.YtceipdmplnlogaaDoor.WPlain
end Go.Proofs.YtceipdmplnlogaaDoor.WPlain
namespace Go.Proofs.YtceipdmplnlogaaDoor.QPlain
end Go.Proofs.YtceipdmplnlogaaDoor.QPlain
namespace Go.Proofs.YtceipdmplnlogaaDoor.RPlain
end Go.Proofs.YtceipdmplnlogaaDoor.RPlain
namespace Go.Proofs.YtceipdmplnlogaaDoor.RPlain
open WPlain QPlain

/-- places that are there are numbers -/
theorem row_nats {l : List Tx} {row : List Int} (h : thereS l row = true) : ∃ rn : List Nat, row = rn.map (fun x : Nat => (x : Int)) ∧ ∀ b ∈ rn, b < l.length := by
  have h1 := (thereS_iff l row).1 h
  refine ⟨row.map Int.toNat, ?_, ?_⟩
  · refine List.ext_getElem (by simp) fun i h2 h3 => ?_
    have := (h1 row[i] (List.getElem_mem h2)).1
    simp
    omega
  · intro b hb
    obtain ⟨x, hx, rfl⟩ := List.mem_map.1 hb
    have := h1 x hx
    omega
theorem pow_32 {n x : Nat} (hn : n ≤ 6) (hx : x < 2 ^ n) : x < 4294967296 :=
  Nat.lt_of_lt_of_le hx (Nat.pow_le_pow_right (n := 2) (i := n) (j := 32) (by decide) (by omega))
theorem two_32 {n k : Nat} (hn : n ≤ 6) (hk : k < n) : 2 ^ k < 4294967296 := Nat.pow_lt_pow_right (a := 2) (m := k) (n := 32) (by decide) (by omega)
end Go.Proofs.YtceipdmplnlogaaDoor.RPlain
namespace Go.Proofs.YtceipdmplnlogaaDoor
open Go.RowKit WPlain QPlain RPlain

end Go.Proofs.YtceipdmplnlogaaDoor
/- The walks of the reference's Bit, Choice and Choices. -/
namespace Go.Proofs.YtceipdmplnlogaaDoor.WPlain
end Go.Proofs.YtceipdmplnlogaaDoor.WPlain
namespace Go.Proofs.YtceipdmplnlogaaDoor.QPlain
end Go.Proofs.YtceipdmplnlogaaDoor.QPlain
namespace Go.Proofs.YtceipdmplnlogaaDoor.RPlain
end Go.Proofs.YtceipdmplnlogaaDoor.RPlain
namespace Go.Proofs.YtceipdmplnlogaaDoor
open Go.RowKit WPlain QPlain RPlain

set_option maxRecDepth 100000 in
theorem refBit9_any (n k : Nat) (hn : n < 4294967296) (hk : k ≤ 65536) (w : World) : Calls Tryd.prog 35 #[.int .u32 (n : Int), .int .i64 (k : Int)] w fun e w' => e = .returned (.bool (n.testBit k)) ∧ w' = w := by
  have HFIN : Hid (n.testBit k = decide (n / 2 ^ k % 2 = 1)) := Nat.testBit_eq_decide_div_mod_eq
  go_enter Tryd.func35, Tryd.ntmps35
  go_wp2_with fail
  go_loopw [0, 5] (fun y x wr => ∃ i : Nat, i ≤ k ∧ x = .int .i64 i ∧ (∃ p : Nat, y = .int .u32 p ∧ p < 4294967296 ∧ Hid (p = n / 2 ^ i)) ∧ wr = w) (fun _ x _ => k - (intOf x).toNat)
  case atStart => exact ⟨0, by omega, rfl, ⟨n, rfl, hn, by unfold Hid; rw [Nat.pow_zero, Nat.div_one]⟩, rfl⟩
  case round =>
    obtain ⟨i, hi, rfl, ⟨p, rfl, hp, HP⟩, rfl⟩ := hrel
    by_cases hlt : i < k
    · have HP2 : Hid (p / 2 = n / 2 ^ (i + 1)) := by unfold Hid; rw [HP.out, Nat.div_div_eq_div_mul, Nat.pow_succ]
      clear HP
      go_wp2
      go_roundw
      case rel => exact ⟨i + 1, by omega, by go_num, ⟨p / 2, by go_num, by omega, HP2⟩, trivial⟩
      case measure => simp [intOf]; omega
    · obtain rfl : i = k := by omega
      rw [← HP.out] at HFIN
      clear HP
      go_wp2
      go_ret
      exact ⟨ret_bool (by rw [HFIN.out, Bool.eq_iff_iff]; simp; omega), rfl⟩
end Go.Proofs.YtceipdmplnlogaaDoor
