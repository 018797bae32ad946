/-
  DERIVED. GIVEN WITH THE SEED: THE CARDS: each row of YtidgpphapehgnaaDoorRows.lean that lists a variable, with what it lists TIED to the program's text (the seventh form; the later family's looks); each row that meets fmt, with fmt's text TOLD by the authors' own Lean function (tested against real Go, not proved from fmt's source: count such statements apart). THE CARD IS WHAT COUNTS. Prove the row's statement (the work); the ties are given (YtidgpphapehgnaaDoorTie.lean); close each card by the builder's one call (the guide's Derived/Test/ToyasCard.lean, 'card_holds'). Laid BY PROGRAM, IN A SANDBOX (cutbox-door.mjs). By AI agents, Wed Nov 11 2026. No macro, syntax, notation, axiom, sorry.
-/
import Derived.Test.YtidgpphapehgnaaDoorRows
import GoSem.ClaimSeven
namespace Go.Proofs.YtidgpphapehgnaaDoor
namespace Rows

/-- THE TIED CARD OF 'recantlaw05.ProperChecks'. -/
def properChecksCard : Claim7 := { stood := { row := properChecksRow, standIns := [], harness := (true, "982e7badaae4bb95e425152a3844d47b9c8d52eb46b6119eebd2f5eb55aee9b7"), looks := false }, kinds := [], alts := [], laidByText := true, laidKinds := [.data], laidTests := true, laidLooks := .later }
def ProperChecksCardSaid : Prop := Claim7.holds Tryd.pinned (.plain (OpenSpec.ofChange properChecksSpec)) properChecksCard

/-- THE TIED CARD OF 'recantlaw05.ProperNext'. -/
def properNextCard : Claim7 := { stood := { row := properNextRow, standIns := [], harness := (true, "982e7badaae4bb95e425152a3844d47b9c8d52eb46b6119eebd2f5eb55aee9b7"), looks := false }, kinds := [], alts := [], laidByText := true, laidKinds := [.data], laidTests := true, laidLooks := .later }
def ProperNextCardSaid : Prop := Claim7.holds Tryd.pinned (.plain (OpenSpec.ofChange properNextSpec)) properNextCard

/-- THE TIED CARD OF 'recantlaw05.ProperGoes'. -/
def properGoesCard : Claim7 := { stood := { row := properGoesRow, standIns := [], harness := (true, "982e7badaae4bb95e425152a3844d47b9c8d52eb46b6119eebd2f5eb55aee9b7"), looks := false }, kinds := [], alts := [], laidByText := true, laidKinds := [.data], laidTests := true, laidLooks := .later }
def ProperGoesCardSaid : Prop := Claim7.holds Tryd.pinned (.plain (OpenSpec.ofChange properGoesSpec)) properGoesCard

/-- THE TIED CARD OF 'recantlaw05.ProperEach'. -/
def properEachCard : Claim7 := { stood := { row := properEachRow, standIns := [], harness := (true, "982e7badaae4bb95e425152a3844d47b9c8d52eb46b6119eebd2f5eb55aee9b7"), looks := false }, kinds := [], alts := [], laidByText := true, laidKinds := [.data], laidTests := true, laidLooks := .later }
def ProperEachCardSaid : Prop := Claim7.holds Tryd.pinned (.plain (OpenSpec.ofChange properEachSpec)) properEachCard

/-- THE SECOND FORM's CARD OF 'recantlaw05.ProperChecks'. -/
def properChecksUptoCard : Claim7 := { stood := { row := properChecksUptoRow, standIns := [], harness := (true, "982e7badaae4bb95e425152a3844d47b9c8d52eb46b6119eebd2f5eb55aee9b7"), looks := false }, kinds := [], alts := [], laidByText := true, laidKinds := [.data], laidTests := true, laidLooks := .later }
def ProperChecksUptoCardSaid : Prop := Claim7.holds Tryd.pinned (.plain (OpenSpec.upto properChecksSpec)) properChecksUptoCard

/-- THE SECOND FORM's CARD OF 'recantlaw05.ProperNext'. -/
def properNextUptoCard : Claim7 := { stood := { row := properNextUptoRow, standIns := [], harness := (true, "982e7badaae4bb95e425152a3844d47b9c8d52eb46b6119eebd2f5eb55aee9b7"), looks := false }, kinds := [], alts := [], laidByText := true, laidKinds := [.data], laidTests := true, laidLooks := .later }
def ProperNextUptoCardSaid : Prop := Claim7.holds Tryd.pinned (.plain (OpenSpec.upto properNextSpec)) properNextUptoCard

/-- THE SECOND FORM's CARD OF 'recantlaw05.ProperGoes'. -/
def properGoesUptoCard : Claim7 := { stood := { row := properGoesUptoRow, standIns := [], harness := (true, "982e7badaae4bb95e425152a3844d47b9c8d52eb46b6119eebd2f5eb55aee9b7"), looks := false }, kinds := [], alts := [], laidByText := true, laidKinds := [.data], laidTests := true, laidLooks := .later }
def ProperGoesUptoCardSaid : Prop := Claim7.holds Tryd.pinned (.plain (OpenSpec.upto properGoesSpec)) properGoesUptoCard

/-- THE SECOND FORM's CARD OF 'recantlaw05.ProperEach'. -/
def properEachUptoCard : Claim7 := { stood := { row := properEachUptoRow, standIns := [], harness := (true, "982e7badaae4bb95e425152a3844d47b9c8d52eb46b6119eebd2f5eb55aee9b7"), looks := false }, kinds := [], alts := [], laidByText := true, laidKinds := [.data], laidTests := true, laidLooks := .later }
def ProperEachUptoCardSaid : Prop := Claim7.holds Tryd.pinned (.plain (OpenSpec.upto properEachSpec)) properEachUptoCard
end Rows
end Go.Proofs.YtidgpphapehgnaaDoor
