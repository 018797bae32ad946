/-
  DERIVED. GIVEN WITH THE SEED: THE CARDS: each row of YtnnjlefljmbhkaaDoorRows.lean that lists a variable, with what it lists TIED to the program's text (the seventh form; the later family's looks); each row that meets fmt, with fmt's text TOLD by the authors' own Lean function (tested against real Go, not proved from fmt's source: count such statements apart). THE CARD IS WHAT COUNTS. Prove the row's statement (the work); the ties are given (YtnnjlefljmbhkaaDoorTie.lean); close each card by the builder's one call (the guide's Derived/Test/ToyasCard.lean, 'card_holds'). Laid BY PROGRAM, IN A SANDBOX (cutbox-door.mjs). By AI agents, Wed Nov 11 2026. No macro, syntax, notation, axiom, sorry.
-/
import Derived.Test.YtnnjlefljmbhkaaDoorRows
import GoSem.ClaimSeven
namespace Go.Proofs.YtnnjlefljmbhkaaDoor
namespace Rows

/-- THE TIED CARD OF 'recantlaw12.SerialRows'. -/
def serialRowsCard : Claim7 := { stood := { row := serialRowsRow, standIns := [], harness := (true, "c82e77f284f57b0d317366f6a4604b2e11ab91502818498fa13584e57471e87e"), looks := true }, kinds := [], alts := [], laidByText := true, laidKinds := [.data], laidTests := true, laidLooks := .later }
def SerialRowsCardSaid : Prop := Claim7.holds Tryd.pinned (.plain (OpenSpec.ofChange serialRowsSpec)) serialRowsCard

/-- THE TIED CARD OF 'recantlaw12.SerialSearches'. -/
def serialSearchesCard : Claim7 := { stood := { row := serialSearchesRow, standIns := [], harness := (true, "c82e77f284f57b0d317366f6a4604b2e11ab91502818498fa13584e57471e87e"), looks := true }, kinds := [], alts := [], laidByText := true, laidKinds := [.data], laidTests := true, laidLooks := .later }
def SerialSearchesCardSaid : Prop := Claim7.holds Tryd.pinned (.plain (OpenSpec.ofChange serialSearchesSpec)) serialSearchesCard

/-- THE TIED CARD OF 'recantlaw12.SerialRight'. -/
def serialRightCard : Claim7 := { stood := { row := serialRightRow, standIns := [], harness := (true, "c82e77f284f57b0d317366f6a4604b2e11ab91502818498fa13584e57471e87e"), looks := true }, kinds := [], alts := [], laidByText := true, laidKinds := [.data], laidTests := true, laidLooks := .later }
def SerialRightCardSaid : Prop := Claim7.holds Tryd.pinned (.plain (OpenSpec.ofChange serialRightSpec)) serialRightCard

/-- THE TIED CARD OF 'recantlaw12.SerialPart'. -/
def serialPartCard : Claim7 := { stood := { row := serialPartRow, standIns := [], harness := (true, "c82e77f284f57b0d317366f6a4604b2e11ab91502818498fa13584e57471e87e"), looks := true }, kinds := [], alts := [], laidByText := true, laidKinds := [.data], laidTests := true, laidLooks := .later }
def SerialPartCardSaid : Prop := Claim7.holds Tryd.pinned (.plain (OpenSpec.ofChange serialPartSpec)) serialPartCard

/-- THE SECOND FORM's CARD OF 'recantlaw12.SerialRows'. -/
def serialRowsUptoCard : Claim7 := { stood := { row := serialRowsUptoRow, standIns := [], harness := (true, "c82e77f284f57b0d317366f6a4604b2e11ab91502818498fa13584e57471e87e"), looks := true }, kinds := [], alts := [], laidByText := true, laidKinds := [.data], laidTests := true, laidLooks := .later }
def SerialRowsUptoCardSaid : Prop := Claim7.holds Tryd.pinned (.plain (OpenSpec.upto serialRowsSpec)) serialRowsUptoCard

/-- THE SECOND FORM's CARD OF 'recantlaw12.SerialSearches'. -/
def serialSearchesUptoCard : Claim7 := { stood := { row := serialSearchesUptoRow, standIns := [], harness := (true, "c82e77f284f57b0d317366f6a4604b2e11ab91502818498fa13584e57471e87e"), looks := true }, kinds := [], alts := [], laidByText := true, laidKinds := [.data], laidTests := true, laidLooks := .later }
def SerialSearchesUptoCardSaid : Prop := Claim7.holds Tryd.pinned (.plain (OpenSpec.upto serialSearchesSpec)) serialSearchesUptoCard

/-- THE SECOND FORM's CARD OF 'recantlaw12.SerialRight'. -/
def serialRightUptoCard : Claim7 := { stood := { row := serialRightUptoRow, standIns := [], harness := (true, "c82e77f284f57b0d317366f6a4604b2e11ab91502818498fa13584e57471e87e"), looks := true }, kinds := [], alts := [], laidByText := true, laidKinds := [.data], laidTests := true, laidLooks := .later }
def SerialRightUptoCardSaid : Prop := Claim7.holds Tryd.pinned (.plain (OpenSpec.upto serialRightSpec)) serialRightUptoCard

/-- THE SECOND FORM's CARD OF 'recantlaw12.SerialPart'. -/
def serialPartUptoCard : Claim7 := { stood := { row := serialPartUptoRow, standIns := [], harness := (true, "c82e77f284f57b0d317366f6a4604b2e11ab91502818498fa13584e57471e87e"), looks := true }, kinds := [], alts := [], laidByText := true, laidKinds := [.data], laidTests := true, laidLooks := .later }
def SerialPartUptoCardSaid : Prop := Claim7.holds Tryd.pinned (.plain (OpenSpec.upto serialPartSpec)) serialPartUptoCard
end Rows
end Go.Proofs.YtnnjlefljmbhkaaDoor
