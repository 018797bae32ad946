/- Plain events and lines: no program in sight. -/
import Derived.Test.YtpbkieeheepelaaDoorPlainB
import Derived.Lib.ItoaLen
import Derived.Below
namespace Go.Proofs.YtpbkieeheepelaaDoor.WPlain

/-- an event: kind, transaction, variable, value -/
structure Ev where
  k : Int
  t : Int
  v : Int
  x : Int
  deriving DecidableEq

/-- the kinds' words -/
def kwords : List (List UInt8) := [[98, 101, 103, 105, 110], [98, 101, 103, 117, 110], [114, 101, 97, 100], [103, 111, 116], [119, 114, 105, 116, 101], [119, 114, 111, 116, 101], [99, 111, 109, 109, 105, 116], [99, 111, 109, 109, 105, 116, 116, 101, 100], [99, 97, 110, 99, 101, 108], [97, 98, 111, 114, 116, 101, 100]]
def hasV (k : Nat) : Bool := k == 2 || k == 4
def hasX (k : Nat) : Bool := k == 3 || k == 4

def inB (n lo hi : Int) : Bool := decide (lo ≤ n) && decide (n ≤ hi)
def addName (a : List Int) (n : Int) : List Int := if a.contains n = true then a else a ++ [n]
/-- the transactions' names, once each -/
def namesOf (h : List Ev) : List Int := h.foldl (fun a e => addName a e.t) []
/-- may an event be? -/
def evOk (e : Ev) : Bool := inB e.k 0 9 && ((hasV e.k.toNat || e.v == 0) && (hasX e.k.toNat || e.x == 0)) && (inB e.t 0 9999 && inB e.v 0 7 && inB e.x (-2147483648) 2147483647)
def right (h : List Ev) : Bool := decide (h.length ≤ 60) && h.all evOk && decide ((namesOf h).length ≤ 6)
theorem namesOf_snoc (h : List Ev) (e : Ev) : namesOf (h ++ [e]) = addName (namesOf h) e.t := by simp [namesOf]
theorem addName_len (a : List Int) (n : Int) : (addName a n).length ≤ a.length + 1 := by unfold addName; split <;> simp
theorem namesOf_len (h : List Ev) : (namesOf h).length ≤ h.length := by
  have : ∀ (h : List Ev) (a : List Int), (h.foldl (fun a e => addName a e.t) a).length ≤ a.length + h.length := by
    intro h
    induction h with
    | nil => intro a; simp
    | cons e r ih => intro a; have h1 := ih (addName a e.t); have h2 := addName_len a e.t; simp only [List.foldl_cons, List.length_cons]; omega
  have h0 := this h []
  simpa [namesOf] using h0
end Go.Proofs.YtpbkieeheepelaaDoor.WPlain
