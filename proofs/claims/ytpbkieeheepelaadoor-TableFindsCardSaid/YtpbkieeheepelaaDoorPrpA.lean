/- Plain words of events that may be there: no program in sight. -/
import Derived.Test.YtpbkieeheepelaaDoorTxtA
import Derived.Maps.OwnSet
namespace Go.Proofs.YtpbkieeheepelaaDoor.WPlain
end Go.Proofs.YtpbkieeheepelaaDoor.WPlain
namespace Go.Proofs.YtpbkieeheepelaaDoor.QPlain
open WPlain

/-- the kinds that may come next in each state, and the state behind each -/
def mvs : List (List (Nat × Nat)) := [[(0, 1)], [(1, 2), (9, 7)], [(2, 3), (4, 4), (6, 5), (8, 6)], [(3, 2), (9, 7)], [(5, 2), (9, 7)], [(7, 7), (9, 7)], [(9, 7)], []]
def mv (s k : Nat) : Option Nat := (mvs.getD s []).lookup k
/-- .. as a map reads -/
def rowD (s : Nat) : DataW Unit := (mvs.getD s []).foldl (fun m p => m.put (.int .i64 (p.1 : Int)) (.lit (.int .i64 (p.2 : Int)))) (.map [])
theorem eight {s : Nat} (h : s < 8) : s = 0 ∨ s = 1 ∨ s = 2 ∨ s = 3 ∨ s = 4 ∨ s = 5 ∨ s = 6 ∨ s = 7 := by omega
theorem tenk {k : Nat} (h : k < 10) : k = 0 ∨ k = 1 ∨ k = 2 ∨ k = 3 ∨ k = 4 ∨ k = 5 ∨ k = 6 ∨ k = 7 ∨ k = 8 ∨ k = 9 := by omega
theorem row_at {s k : Nat} (hs : s < 8) (hk : k < 10) (z : DataW Unit) : (rowD s).atKey (.int .i64 (k : Int)) z = (match mv s k with | some n => .lit (.int .i64 (n : Int)) | none => z) := by
  rcases eight hs with rfl | rfl | rfl | rfl | rfl | rfl | rfl | rfl <;> rcases tenk hk with rfl | rfl | rfl | rfl | rfl | rfl | rfl | rfl | rfl | rfl <;> rfl
theorem row_has {s k : Nat} (hs : s < 8) (hk : k < 10) : Maps.has (rowD s) (.int .i64 (k : Int)) = (mv s k).isSome := by
  rcases eight hs with rfl | rfl | rfl | rfl | rfl | rfl | rfl | rfl <;> rcases tenk hk with rfl | rfl | rfl | rfl | rfl | rfl | rfl | rfl | rfl | rfl <;> rfl
theorem mv_lt {s k n : Nat} (hs : s < 8) (hk : k < 10) (h : mv s k = some n) : n < 8 := by
  have hall : ∀ s, s < 8 → ∀ k, k < 10 → (mv s k).all (fun n => decide (n < 8)) = true := by decide +kernel
  have := hall s hs k hk
  rw [h] at this
  simpa using this
/-- the states behind one more event; behind events, or the place of the first that may not be there -/
def upd (F : Int → Nat) (t : Int) (s : Nat) : Int → Nat := fun u => if u = t then s else F u
def flw (F : Int → Nat) (i : Nat) : List Ev → (Int → Nat) × Nat × Bool
  | [] => (F, i, true)
  | e :: r => match mv (F e.t) e.k.toNat with
    | none => (F, i, false)
    | some s => flw (upd F e.t s) (i + 1) r
def flw0 (h : List Ev) : (Int → Nat) × Nat × Bool := flw (fun _ => 0) 0 h
/-- how many events; or the error, and the place -/
def checkS (h : List Ev) : Nat × Nat := if right h = true then (if (flw0 h).2.2 = true then (h.length, 0) else ((flw0 h).2.1, 6)) else (0, 1)
theorem flw_none {F : Int → Nat} {i : Nat} {e : Ev} {r : List Ev} (h : mv (F e.t) e.k.toNat = none) : flw F i (e :: r) = (F, i, false) := by unfold flw; rw [h]
theorem flw_some {F : Int → Nat} {i : Nat} {e : Ev} {r : List Ev} {s : Nat} (h : mv (F e.t) e.k.toNat = some s) : flw F i (e :: r) = flw (upd F e.t s) (i + 1) r := by rw [flw, h]
theorem right_evs {h : List Ev} (hr : right h = true) : h.length ≤ 60 ∧ ∀ e ∈ h, (0 ≤ e.k ∧ e.k < 10) ∧ (0 ≤ e.t ∧ e.t ≤ 9999) := by
  simp only [right, Bool.and_eq_true, decide_eq_true_eq, List.all_eq_true] at hr
  refine ⟨hr.1.1, fun e he => ?_⟩
  have := hr.1.2 e he
  simp only [evOk, inB, Bool.and_eq_true, decide_eq_true_eq] at this
  omega
end Go.Proofs.YtpbkieeheepelaaDoor.QPlain
