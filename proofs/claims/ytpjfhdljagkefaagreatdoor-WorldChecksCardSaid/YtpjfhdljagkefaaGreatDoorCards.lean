/-
  DERIVED. GIVEN WITH THE SEED: THE CARDS: each row of YtpjfhdljagkefaaGreatDoorRows.lean that lists a variable, with what it lists TIED to the program's text (the seventh form; the later family's looks); each row that meets fmt, with fmt's text TOLD by the authors' own Lean function (tested against real Go, not proved from fmt's source: count such statements apart). THE CARD IS WHAT COUNTS. Prove the row's statement (the work); the ties are given (YtpjfhdljagkefaaGreatDoorTie.lean); close each card by the builder's one call (the guide's Derived/Test/ToyasCard.lean, 'card_holds'). Laid BY PROGRAM, IN A SANDBOX (cutbox-door.mjs). By AI agents, Wed Nov 11 2026. No macro, syntax, notation, axiom, sorry.
-/
import Derived.Test.YtpjfhdljagkefaaGreatDoorRows
import GoSem.ClaimSeven
namespace Go.Proofs.YtpjfhdljagkefaaGreatDoor
namespace Rows

/-- THE TIED CARD OF 'recantlaw15.WorldOne'. -/
def worldOneCard : Claim7 := { stood := { row := worldOneRow, standIns := [], harness := (true, "f33c9636a1f33ca62be4f33b511c907b9178a2e5ab2296b7f9fe3c9f10dccd5c"), looks := true }, kinds := [], alts := [], laidByText := true, laidKinds := [.data], laidTests := true, laidLooks := .later }
def WorldOneCardSaid : Prop := Claim7.holds Tryz.pinned (.plain (OpenSpec.ofChange worldOneSpec)) worldOneCard

/-- THE TIED CARD OF 'recantlaw15.WorldChecks'. -/
def worldChecksCard : Claim7 := { stood := { row := worldChecksRow, standIns := [], harness := (true, "f33c9636a1f33ca62be4f33b511c907b9178a2e5ab2296b7f9fe3c9f10dccd5c"), looks := true }, kinds := [], alts := [], laidByText := true, laidKinds := [.data], laidTests := true, laidLooks := .later }
def WorldChecksCardSaid : Prop := Claim7.holds Tryz.pinned (.plain (OpenSpec.ofChange worldChecksSpec)) worldChecksCard

/-- THE SECOND FORM's CARD OF 'recantlaw15.WorldOne'. -/
def worldOneUptoCard : Claim7 := { stood := { row := worldOneUptoRow, standIns := [], harness := (true, "f33c9636a1f33ca62be4f33b511c907b9178a2e5ab2296b7f9fe3c9f10dccd5c"), looks := true }, kinds := [], alts := [], laidByText := true, laidKinds := [.data], laidTests := true, laidLooks := .later }
def WorldOneUptoCardSaid : Prop := Claim7.holds Tryz.pinned (.plain (OpenSpec.upto worldOneSpec)) worldOneUptoCard

/-- THE SECOND FORM's CARD OF 'recantlaw15.WorldChecks'. -/
def worldChecksUptoCard : Claim7 := { stood := { row := worldChecksUptoRow, standIns := [], harness := (true, "f33c9636a1f33ca62be4f33b511c907b9178a2e5ab2296b7f9fe3c9f10dccd5c"), looks := true }, kinds := [], alts := [], laidByText := true, laidKinds := [.data], laidTests := true, laidLooks := .later }
def WorldChecksUptoCardSaid : Prop := Claim7.holds Tryz.pinned (.plain (OpenSpec.upto worldChecksSpec)) worldChecksUptoCard
end Rows
end Go.Proofs.YtpjfhdljagkefaaGreatDoor
