/-
  DERIVED. GIVEN WITH THE SEED: THE CARDS: each row of YtpjfhdljagkefaaDoorRows.lean that lists a variable, with what it lists TIED to the program's text (the seventh form; the later family's looks); each row that meets fmt, with fmt's text TOLD by the authors' own Lean function (tested against real Go, not proved from fmt's source: count such statements apart). THE CARD IS WHAT COUNTS. Prove the row's statement (the work); the ties are given (YtpjfhdljagkefaaDoorTie.lean); close each card by the builder's one call (the guide's Derived/Test/ToyasCard.lean, 'card_holds'). Laid BY PROGRAM, IN A SANDBOX (cutbox-door.mjs). By AI agents, Wed Nov 11 2026. No macro, syntax, notation, axiom, sorry.
-/
import Derived.Test.YtpjfhdljagkefaaDoorRows
import GoSem.ClaimSeven
namespace Go.Proofs.YtpjfhdljagkefaaDoor
namespace Rows

/-- THE TIED CARD OF 'recantlaw15.WorldBetween'. -/
def worldBetweenCard : Claim7 := { stood := { row := worldBetweenRow, standIns := [], harness := (true, "f4a6692bed7b344f95850443002ff01073a67fb6ff57444cd2b261bd1bc2f268"), looks := true }, kinds := [], alts := [], laidByText := true, laidKinds := [.data], laidTests := true, laidLooks := .later }
def WorldBetweenCardSaid : Prop := Claim7.holds Tryd.pinned (.plain (OpenSpec.ofChange worldBetweenSpec)) worldBetweenCard

/-- THE SECOND FORM's CARD OF 'recantlaw15.WorldBetween'. -/
def worldBetweenUptoCard : Claim7 := { stood := { row := worldBetweenUptoRow, standIns := [], harness := (true, "f4a6692bed7b344f95850443002ff01073a67fb6ff57444cd2b261bd1bc2f268"), looks := true }, kinds := [], alts := [], laidByText := true, laidKinds := [.data], laidTests := true, laidLooks := .later }
def WorldBetweenUptoCardSaid : Prop := Claim7.holds Tryd.pinned (.plain (OpenSpec.upto worldBetweenSpec)) worldBetweenUptoCard
end Rows
end Go.Proofs.YtpjfhdljagkefaaDoor
