/- Plain words of traces as bytes: no program in sight. -/
import Derived.Test.YtgdijlmfpboecaaDoorTxtA
import Derived.Test.YtgdijlmfpboecaaDoorVarA
namespace Go.Proofs.YtgdijlmfpboecaaDoor.WPlain
end Go.Proofs.YtgdijlmfpboecaaDoor.WPlain
namespace Go.Proofs.YtgdijlmfpboecaaDoor.VPlain
end Go.Proofs.YtgdijlmfpboecaaDoor.VPlain
namespace Go.Proofs.YtgdijlmfpboecaaDoor.BPlain
open WPlain VPlain

def evZ : Ev := ⟨0, 0, 0, 0⟩
def bodyB (e : Ev) : List Nat := e.k.toNat :: nb e.t.toNat ++ (if hasV e.k.toNat = true then nb e.v.toNat else []) ++ (if hasX e.k.toNat = true then nb (zigI e.x) else [])
def evB (e : Ev) : List Nat := nb (bodyB e).length ++ bodyB e
def printB (h : List Ev) : List Nat := nb h.length ++ h.flatMap evB

/-- the number at place i; the place behind it, or the fault's; the error -/
def numS (L : List Nat) (i : Nat) : Nat × Nat × Nat := ((getL 0 (L.drop i)).1, i + (getL 0 (L.drop i)).2.1, (getL 0 (L.drop i)).2.2)
/-- .. of so much at most, else the error -/
def upS (L : List Nat) (i most beyond : Nat) : Nat × Nat × Nat := if (numS L i).2.2 = 0 ∧ most < (numS L i).1 then (0, i, beyond) else numS L i
/-- a transaction's name, behind events -/
def nameS (L : List Nat) (i : Nat) (h : List Ev) : Nat × Nat × Nat :=
  if (upS L i 9999 3).2.2 ≠ 0 then (0, (upS L i 9999 3).2.1, (upS L i 9999 3).2.2)
  else if right (h ++ [⟨0, ((upS L i 9999 3).1 : Nat), 0, 0⟩]) = true then upS L i 9999 3 else (0, i, 5)
def valS (L : List Nat) (i : Nat) : Nat × Nat × Nat := upS L i 4294967295 3
/-- an event's numbers -/
def numsS (L : List Nat) (i k : Nat) (h : List Ev) : Ev × Nat × Nat :=
  if (nameS L i h).2.2 ≠ 0 then (evZ, (nameS L i h).2.1, (nameS L i h).2.2)
  else if hasV k = true then
    if (upS L (nameS L i h).2.1 7 3).2.2 ≠ 0 then (evZ, (upS L (nameS L i h).2.1 7 3).2.1, (upS L (nameS L i h).2.1 7 3).2.2)
    else if hasX k = true then
      if (valS L (upS L (nameS L i h).2.1 7 3).2.1).2.2 ≠ 0 then (evZ, (valS L (upS L (nameS L i h).2.1 7 3).2.1).2.1, (valS L (upS L (nameS L i h).2.1 7 3).2.1).2.2)
      else (⟨k, (nameS L i h).1, (upS L (nameS L i h).2.1 7 3).1, zagI (valS L (upS L (nameS L i h).2.1 7 3).2.1).1⟩, (valS L (upS L (nameS L i h).2.1 7 3).2.1).2.1, 0)
    else (⟨k, (nameS L i h).1, (upS L (nameS L i h).2.1 7 3).1, 0⟩, (upS L (nameS L i h).2.1 7 3).2.1, 0)
  else if hasX k = true then
    if (valS L (nameS L i h).2.1).2.2 ≠ 0 then (evZ, (valS L (nameS L i h).2.1).2.1, (valS L (nameS L i h).2.1).2.2)
    else (⟨k, (nameS L i h).1, 0, zagI (valS L (nameS L i h).2.1).1⟩, (valS L (nameS L i h).2.1).2.1, 0)
  else (⟨k, (nameS L i h).1, 0, 0⟩, (nameS L i h).2.1, 0)
/-- an event's body, whose bytes end where L does -/
def bodyS (L : List Nat) (i : Nat) (h : List Ev) : List Ev × Nat × Nat :=
  if 10 ≤ L.getD i 0 then (h, i, 2)
  else if (numsS L (i + 1) (L.getD i 0) h).2.2 ≠ 0 then (h, (numsS L (i + 1) (L.getD i 0) h).2.1, (numsS L (i + 1) (L.getD i 0) h).2.2)
  else (h ++ [(numsS L (i + 1) (L.getD i 0) h).1], (numsS L (i + 1) (L.getD i 0) h).2.1, if (numsS L (i + 1) (L.getD i 0) h).2.1 < L.length then 2 else 0)
def eventS (L : List Nat) (i : Nat) (h : List Ev) : List Ev × Nat × Nat :=
  if (numS L i).2.2 ≠ 0 then (h, (numS L i).2.1, (numS L i).2.2)
  else if L.length - (numS L i).2.1 < (numS L i).1 then (h, L.length, 4)
  else if (numS L i).1 = 0 then (h, i, 2)
  else bodyS (L.take ((numS L i).2.1 + (numS L i).1)) (numS L i).2.1 h
def eventsS (L : List Nat) : Nat → Nat → List Ev → List Ev × Nat × Nat
  | 0, i, h => (h, i, if i < L.length then 2 else 0)
  | n + 1, i, h => if (eventS L i h).2.2 ≠ 0 then eventS L i h else eventsS L n (eventS L i h).2.1 (eventS L i h).1
def readS (L : List Nat) : List Ev × Nat × Nat := if (upS L 0 60 5).2.2 ≠ 0 then ([], (upS L 0 60 5).2.1, (upS L 0 60 5).2.2) else eventsS L (upS L 0 60 5).1 (upS L 0 60 5).2.1 []
/-- the events that bytes tell; or the error, and where -/
def parseB (L : List Nat) : List Ev × Nat × Nat := if (readS L).2.2 ≠ 0 then ([], (readS L).2.1, (readS L).2.2) else ((readS L).1, 0, 0)

theorem numS_le {L : List Nat} {i : Nat} (hi : i ≤ L.length) : i ≤ (numS L i).2.1 ∧ (numS L i).2.1 ≤ L.length := by
  have := getL_le (L.drop i) 0
  rw [List.length_drop] at this
  unfold numS
  exact ⟨Nat.le_add_right _ _, by show i + _ ≤ _; omega⟩
theorem numS_lt {L : List Nat} (hb : ∀ x ∈ L, x < 256) (i : Nat) : (numS L i).1 < 18446744073709551616 := by
  have := getL_lt (L.drop i) (fun c hc => hb c (List.mem_of_mem_drop hc)) 0 (by omega)
  show (getL 0 (L.drop i)).1 < _
  simpa using this
theorem upS_le {L : List Nat} {i : Nat} (m b : Nat) (hi : i ≤ L.length) : i ≤ (upS L i m b).2.1 ∧ (upS L i m b).2.1 ≤ L.length := by
  unfold upS
  split
  · exact ⟨Nat.le_refl _, hi⟩
  · exact numS_le hi
theorem upS_most {L : List Nat} {i m b : Nat} (h : (upS L i m b).2.2 = 0) (hb : b ≠ 0) : (upS L i m b).1 ≤ m := by
  unfold upS at *
  split at h
  · exact absurd h hb
  · rename_i h1
    rw [if_neg h1]
    have : ¬ m < (numS L i).1 := fun hh => h1 ⟨h, hh⟩
    omega
theorem nameS_le {L : List Nat} {i : Nat} (h : List Ev) (hi : i ≤ L.length) : i ≤ (nameS L i h).2.1 ∧ (nameS L i h).2.1 ≤ L.length := by
  unfold nameS
  split
  · exact upS_le 9999 3 hi
  · split
    · exact upS_le 9999 3 hi
    · exact ⟨Nat.le_refl _, hi⟩
theorem nameS_most {L : List Nat} {i : Nat} {h : List Ev} (he : (nameS L i h).2.2 = 0) : (nameS L i h).1 ≤ 9999 := by
  unfold nameS at *
  split at he
  · rename_i h1; exact absurd he h1
  · rename_i h1
    rw [if_neg h1]
    split
    · exact upS_most (Decidable.not_not.1 h1) (by decide)
    · exact Nat.zero_le _
theorem numsS_le {L : List Nat} {i : Nat} (k : Nat) (h : List Ev) (hi : i ≤ L.length) : i ≤ (numsS L i k h).2.1 ∧ (numsS L i k h).2.1 ≤ L.length := by
  have a := nameS_le h hi
  have b := upS_le 7 3 a.2
  have c := upS_le 4294967295 3 a.2
  have d := upS_le 4294967295 3 b.2
  unfold numsS valS
  repeat' split
  all_goals (dsimp only; omega)
theorem bodyS_le {L : List Nat} {i : Nat} (h : List Ev) (hi : i < L.length) : i ≤ (bodyS L i h).2.1 ∧ (bodyS L i h).2.1 ≤ L.length := by
  have a := numsS_le (L.getD i 0) h (show i + 1 ≤ L.length from hi)
  unfold bodyS
  repeat' split
  all_goals (dsimp only; omega)
theorem bodyS_len (L : List Nat) (i : Nat) (h : List Ev) : (bodyS L i h).1.length ≤ h.length + 1 := by
  unfold bodyS
  repeat' split
  all_goals simp
theorem eventS_le {L : List Nat} {i : Nat} (h : List Ev) (hi : i ≤ L.length) : i ≤ (eventS L i h).2.1 ∧ (eventS L i h).2.1 ≤ L.length := by
  have a := numS_le hi
  unfold eventS
  split
  · exact a
  · split
    · exact ⟨hi, Nat.le_refl _⟩
    · split
      · exact ⟨Nat.le_refl _, hi⟩
      · rename_i h1 h2 h3
        have hl : (L.take ((numS L i).2.1 + (numS L i).1)).length = (numS L i).2.1 + (numS L i).1 := by rw [List.length_take]; omega
        have b := bodyS_le (L := L.take ((numS L i).2.1 + (numS L i).1)) (i := (numS L i).2.1) h (by rw [hl]; omega)
        rw [hl] at b
        omega
theorem eventS_len (L : List Nat) (i : Nat) (h : List Ev) : (eventS L i h).1.length ≤ h.length + 1 := by
  unfold eventS
  split
  · simp
  · split
    · simp
    · split
      · simp
      · exact bodyS_len _ _ _
end Go.Proofs.YtgdijlmfpboecaaDoor.BPlain
