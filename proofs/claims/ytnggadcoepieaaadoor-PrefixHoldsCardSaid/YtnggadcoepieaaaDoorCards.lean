/-
  DERIVED. GIVEN WITH THE SEED: THE CARDS: each row of YtnggadcoepieaaaDoorRows.lean that lists a variable, with what it lists TIED to the program's text (the seventh form; the later family's looks); each row that meets fmt, with fmt's text TOLD by the authors' own Lean function (tested against real Go, not proved from fmt's source: count such statements apart). THE CARD IS WHAT COUNTS. Prove the row's statement (the work); the ties are given (YtnggadcoepieaaaDoorTie.lean); close each card by the builder's one call (the guide's Derived/Test/ToyasCard.lean, 'card_holds'). Laid BY PROGRAM, IN A SANDBOX (cutbox-door.mjs). By AI agents, Wed Nov 11 2026. No macro, syntax, notation, axiom, sorry.
-/
import Derived.Test.YtnggadcoepieaaaDoorRows
import GoSem.ClaimSeven
namespace Go.Proofs.YtnggadcoepieaaaDoor
namespace Rows

/-- THE TIED CARD OF 'recantlaw08.PrefixCuts'. -/
def prefixCutsCard : Claim7 := { stood := { row := prefixCutsRow, standIns := [], harness := (true, "e8b1150a982714242ef0a0956f50e8fa8a97d64acf6dd70d0e46b33953c4aeb8"), looks := false }, kinds := [], alts := [], laidByText := true, laidKinds := [.data], laidTests := true, laidLooks := .later }
def PrefixCutsCardSaid : Prop := Claim7.holds Tryd.pinned (.plain (OpenSpec.ofChange prefixCutsSpec)) prefixCutsCard

/-- THE TIED CARD OF 'recantlaw08.PrefixSerial'. -/
def prefixSerialCard : Claim7 := { stood := { row := prefixSerialRow, standIns := [], harness := (true, "e8b1150a982714242ef0a0956f50e8fa8a97d64acf6dd70d0e46b33953c4aeb8"), looks := false }, kinds := [], alts := [], laidByText := true, laidKinds := [.data], laidTests := true, laidLooks := .later }
def PrefixSerialCardSaid : Prop := Claim7.holds Tryd.pinned (.plain (OpenSpec.ofChange prefixSerialSpec)) prefixSerialCard

/-- THE TIED CARD OF 'recantlaw08.PrefixHolds'. -/
def prefixHoldsCard : Claim7 := { stood := { row := prefixHoldsRow, standIns := [], harness := (true, "e8b1150a982714242ef0a0956f50e8fa8a97d64acf6dd70d0e46b33953c4aeb8"), looks := false }, kinds := [], alts := [], laidByText := true, laidKinds := [.data], laidTests := true, laidLooks := .later }
def PrefixHoldsCardSaid : Prop := Claim7.holds Tryd.pinned (.plain (OpenSpec.ofChange prefixHoldsSpec)) prefixHoldsCard

/-- THE SECOND FORM's CARD OF 'recantlaw08.PrefixCuts'. -/
def prefixCutsUptoCard : Claim7 := { stood := { row := prefixCutsUptoRow, standIns := [], harness := (true, "e8b1150a982714242ef0a0956f50e8fa8a97d64acf6dd70d0e46b33953c4aeb8"), looks := false }, kinds := [], alts := [], laidByText := true, laidKinds := [.data], laidTests := true, laidLooks := .later }
def PrefixCutsUptoCardSaid : Prop := Claim7.holds Tryd.pinned (.plain (OpenSpec.upto prefixCutsSpec)) prefixCutsUptoCard

/-- THE SECOND FORM's CARD OF 'recantlaw08.PrefixSerial'. -/
def prefixSerialUptoCard : Claim7 := { stood := { row := prefixSerialUptoRow, standIns := [], harness := (true, "e8b1150a982714242ef0a0956f50e8fa8a97d64acf6dd70d0e46b33953c4aeb8"), looks := false }, kinds := [], alts := [], laidByText := true, laidKinds := [.data], laidTests := true, laidLooks := .later }
def PrefixSerialUptoCardSaid : Prop := Claim7.holds Tryd.pinned (.plain (OpenSpec.upto prefixSerialSpec)) prefixSerialUptoCard

/-- THE SECOND FORM's CARD OF 'recantlaw08.PrefixHolds'. -/
def prefixHoldsUptoCard : Claim7 := { stood := { row := prefixHoldsUptoRow, standIns := [], harness := (true, "e8b1150a982714242ef0a0956f50e8fa8a97d64acf6dd70d0e46b33953c4aeb8"), looks := false }, kinds := [], alts := [], laidByText := true, laidKinds := [.data], laidTests := true, laidLooks := .later }
def PrefixHoldsUptoCardSaid : Prop := Claim7.holds Tryd.pinned (.plain (OpenSpec.upto prefixHoldsSpec)) prefixHoldsUptoCard
end Rows
end Go.Proofs.YtnggadcoepieaaaDoor
