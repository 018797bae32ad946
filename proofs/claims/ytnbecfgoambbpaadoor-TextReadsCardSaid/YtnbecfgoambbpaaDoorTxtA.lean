/- Plain events and lines: no program in sight. -/
import Derived.Test.YtnbecfgoambbpaaDoorPlainA
import Derived.Test.YtnbecfgoambbpaaDoorPlainB
import Derived.Test.YtnbecfgoambbpaaDoorPlainL
import Derived.Lib.ItoaLen
namespace Go.Proofs.YtnbecfgoambbpaaDoor.WPlain

/-- an event: kind, transaction, variable, value -/
structure Ev where
  k : Int
  t : Int
  v : Int
  x : Int
  deriving DecidableEq

def ev0 : Ev := ⟨0, 0, 0, 0⟩

/-- the kinds' words -/
def kwords : List (List UInt8) := [[98, 101, 103, 105, 110], [98, 101, 103, 117, 110], [114, 101, 97, 100], [103, 111, 116], [119, 114, 105, 116, 101], [119, 114, 111, 116, 101], [99, 111, 109, 109, 105, 116], [99, 111, 109, 109, 105, 116, 116, 101, 100], [99, 97, 110, 99, 101, 108], [97, 98, 111, 114, 116, 101, 100]]
/-- which kind's word; 10: none's -/
def kindIx (l : List UInt8) : Nat := kwords.idxOf l
def hasV (k : Nat) : Bool := k == 2 || k == 4
def hasX (k : Nat) : Bool := k == 3 || k == 4

/-- a line: its words, where they begin, where it ends -/
structure Ln where
  ws : List (List UInt8)
  bs : List Nat
  en : Nat

def inB (n lo hi : Int) : Bool := decide (lo ≤ n) && decide (n ≤ hi)
/-- the number that the word at i is, and the error -/
def numOf (w : Option (List UInt8)) (lo hi : Int) : Int × Int :=
  match w with
  | none => (0, 4)
  | some l => if (intSpec l).2 ≠ 0 then (0, (intSpec l).2) else if inB (intSpec l).1 lo hi = true then ((intSpec l).1, 0) else (0, 3)
def numAt (L : Ln) (i : Nat) (lo hi : Int) : Int × Int := numOf L.ws[i]? lo hi
def placeAt (L : Ln) (i : Nat) : Nat := (L.bs[i]?).getD L.en

def addName (a : List Int) (n : Int) : List Int := if a.contains n = true then a else a ++ [n]
/-- the transactions' names, once each -/
def namesOf (h : List Ev) : List Int := h.foldl (fun a e => addName a e.t) []
def tooMany (n : Int) (h : List Ev) : Bool := ((namesOf h).length == 6) && !(namesOf h).contains n

/-- the event of a kind, and which word is next; or which number is wrong, and the error -/
def numsOf (L : Ln) (k : Nat) (h : List Ev) : Ev × Nat × Int :=
  if (numAt L 1 0 9999).2 ≠ 0 then (ev0, 1, (numAt L 1 0 9999).2)
  else if tooMany (numAt L 1 0 9999).1 h = true then (ev0, 1, 5)
  else if hasV k = true then
    if (numAt L 2 0 7).2 ≠ 0 then (ev0, 2, (numAt L 2 0 7).2)
    else if hasX k = true then
      if (numAt L 3 (-2147483648) 2147483647).2 ≠ 0 then (ev0, 3, (numAt L 3 (-2147483648) 2147483647).2)
      else (⟨k, (numAt L 1 0 9999).1, (numAt L 2 0 7).1, (numAt L 3 (-2147483648) 2147483647).1⟩, 4, 0)
    else (⟨k, (numAt L 1 0 9999).1, (numAt L 2 0 7).1, 0⟩, 3, 0)
  else if hasX k = true then
    if (numAt L 2 (-2147483648) 2147483647).2 ≠ 0 then (ev0, 2, (numAt L 2 (-2147483648) 2147483647).2)
    else (⟨k, (numAt L 1 0 9999).1, 0, (numAt L 2 (-2147483648) 2147483647).1⟩, 3, 0)
  else (⟨k, (numAt L 1 0 9999).1, 0, 0⟩, 2, 0)

/-- the event of a line that has words, behind others; or the error, and its place in the line -/
def evOf (L : Ln) (h : List Ev) : Ev × Nat × Int :=
  if h.length = 60 then (ev0, placeAt L 0, 5)
  else if kindIx (L.ws.headD []) = 10 then (ev0, placeAt L 0, 2)
  else if (numsOf L (kindIx (L.ws.headD [])) h).2.2 = 0 then
    if (numsOf L (kindIx (L.ws.headD [])) h).2.1 < L.ws.length then (ev0, placeAt L (numsOf L (kindIx (L.ws.headD [])) h).2.1, 2)
    else ((numsOf L (kindIx (L.ws.headD [])) h).1, 0, 0)
  else (ev0, placeAt L (numsOf L (kindIx (L.ws.headD [])) h).2.1, (numsOf L (kindIx (L.ws.headD [])) h).2.2)

def lnOf (p : List UInt8) : Ln := ⟨(words (lineOf p)).map (cutAt (lineOf p)), (words (lineOf p)).map (·.1), p.length⟩

/-- the events of lines, the first of which begins at b, behind others; or the error, and its place -/
def parseL : List (List UInt8) → Nat → List Ev → List Ev × Nat × Int
  | [], _, h => (h, 0, 0)
  | p :: r, b, h =>
    if (words (lineOf p)).length = 0 then parseL r (b + p.length + 1) h
    else if (evOf (lnOf p) h).2.2 ≠ 0 then ([], b + (evOf (lnOf p) h).2.1, (evOf (lnOf p) h).2.2)
    else parseL r (b + p.length + 1) (h ++ [(evOf (lnOf p) h).1])

/-- a text's lines -/
def linesOf : List UInt8 → List (List UInt8)
  | [] => [[]]
  | c :: r => if c = 10 then [] :: linesOf r else match linesOf r with
    | [] => [[c]]
    | l :: t => (c :: l) :: t

def parse (s : List UInt8) : List Ev × Nat × Int := if 3000 < s.length then ([], 0, 5) else parseL (linesOf s) 0 []

/-- may an event be? -/
def evOk (e : Ev) : Bool := inB e.k 0 9 && ((hasV e.k.toNat || e.v == 0) && (hasX e.k.toNat || e.x == 0)) && (inB e.t 0 9999 && inB e.v 0 7 && inB e.x (-2147483648) 2147483647)
def right (h : List Ev) : Bool := decide (h.length ≤ 60) && h.all evOk && decide ((namesOf h).length ≤ 6)
def numTxt (n : Int) : List UInt8 := Lib.itoa n
def evTxt (e : Ev) : List UInt8 := kwords.getD e.k.toNat [] ++ [32] ++ numTxt e.t ++ (if hasV e.k.toNat = true then [32] ++ numTxt e.v else []) ++ (if hasX e.k.toNat = true then [32] ++ numTxt e.x else []) ++ [10]
def printTxt (h : List Ev) : List UInt8 := h.flatMap evTxt

theorem namesOf_snoc (h : List Ev) (e : Ev) : namesOf (h ++ [e]) = addName (namesOf h) e.t := by simp [namesOf]
theorem addName_len (a : List Int) (n : Int) : (addName a n).length ≤ a.length + 1 := by unfold addName; split <;> simp
theorem addName_ge (a : List Int) (n : Int) : a.length ≤ (addName a n).length := by unfold addName; split <;> simp
theorem namesOf_len (h : List Ev) : (namesOf h).length ≤ h.length := by
  have : ∀ (h : List Ev) (a : List Int), (h.foldl (fun a e => addName a e.t) a).length ≤ a.length + h.length := by
    intro h
    induction h with
    | nil => intro a; simp
    | cons e r ih => intro a; have h1 := ih (addName a e.t); have h2 := addName_len a e.t; simp only [List.foldl_cons, List.length_cons]; omega
  have h0 := this h []
  simpa [namesOf] using h0
theorem numOf_e (w : Option (List UInt8)) (lo hi : Int) : (numOf w lo hi).2 = 0 ∨ (numOf w lo hi).2 = 2 ∨ (numOf w lo hi).2 = 3 ∨ (numOf w lo hi).2 = 4 := by
  unfold numOf
  split
  · simp
  · split
    · rename_i l _; rcases intSpec_e l with h | h | h <;> simp [h]
    · split <;> simp
theorem numOf_n (w : Option (List UInt8)) (lo hi : Int) : -2147483648 ≤ (numOf w lo hi).1 ∧ (numOf w lo hi).1 ≤ 2147483647 := by
  unfold numOf
  split
  · simp
  · split
    · simp
    · split
      · exact intSpec_n _
      · simp
theorem numOf_in (w : Option (List UInt8)) (lo hi : Int) (h : (numOf w lo hi).2 = 0) : lo ≤ (numOf w lo hi).1 ∧ (numOf w lo hi).1 ≤ hi := by
  unfold numOf at *
  split at h
  · simp at h
  · split at h
    · rename_i h1; exact absurd h h1
    · rename_i h1
      rw [if_neg h1]
      split at h
      · rename_i h2; rw [if_pos h2]; simpa [inB] using h2
      · simp at h
theorem kindIx_le (l : List UInt8) : kindIx l ≤ 10 := List.idxOf_le_length (a := l) (l := kwords)
end Go.Proofs.YtnbecfgoambbpaaDoor.WPlain
