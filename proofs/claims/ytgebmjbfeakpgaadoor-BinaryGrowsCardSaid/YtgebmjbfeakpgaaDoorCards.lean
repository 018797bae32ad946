/-
  DERIVED. GIVEN WITH THE SEED: THE CARDS: each row of YtgebmjbfeakpgaaDoorRows.lean that lists a variable, with what it lists TIED to the program's text (the seventh form; the later family's looks); each row that meets fmt, with fmt's text TOLD by the authors' own Lean function (tested against real Go, not proved from fmt's source: count such statements apart). THE CARD IS WHAT COUNTS. Prove the row's statement (the work); the ties are given (YtgebmjbfeakpgaaDoorTie.lean); close each card by the builder's one call (the guide's Derived/Test/ToyasCard.lean, 'card_holds'). Laid BY PROGRAM, IN A SANDBOX (cutbox-door.mjs). By AI agents, Wed Nov 11 2026. No macro, syntax, notation, axiom, sorry.
-/
import Derived.Test.YtgebmjbfeakpgaaDoorRows
import GoSem.ClaimSeven
namespace Go.Proofs.YtgebmjbfeakpgaaDoor
namespace Rows

/-- THE TIED CARD OF 'recantlaw04.BinaryReads'. -/
def binaryReadsCard : Claim7 := { stood := { row := binaryReadsRow, standIns := [], harness := (true, "8c1b38e5928372f519423212e9b1bcc9d94e122a006a45a72ba128f6306939c7"), looks := false }, kinds := [], alts := [], laidByText := true, laidKinds := [.data], laidTests := true, laidLooks := .later }
def BinaryReadsCardSaid : Prop := Claim7.holds Tryd.pinned (.plain (OpenSpec.ofChange binaryReadsSpec)) binaryReadsCard

/-- THE TIED CARD OF 'recantlaw04.BinaryPrints'. -/
def binaryPrintsCard : Claim7 := { stood := { row := binaryPrintsRow, standIns := [], harness := (true, "8c1b38e5928372f519423212e9b1bcc9d94e122a006a45a72ba128f6306939c7"), looks := false }, kinds := [], alts := [], laidByText := true, laidKinds := [.data], laidTests := true, laidLooks := .later }
def BinaryPrintsCardSaid : Prop := Claim7.holds Tryd.pinned (.plain (OpenSpec.ofChange binaryPrintsSpec)) binaryPrintsCard

/-- THE TIED CARD OF 'recantlaw04.BinaryBack'. -/
def binaryBackCard : Claim7 := { stood := { row := binaryBackRow, standIns := [], harness := (true, "8c1b38e5928372f519423212e9b1bcc9d94e122a006a45a72ba128f6306939c7"), looks := false }, kinds := [], alts := [], laidByText := true, laidKinds := [.data, .data, .data, .data], laidTests := true, laidLooks := .later }
def BinaryBackCardSaid : Prop := Claim7.holds Tryd.pinned (.plain (OpenSpec.ofChange binaryBackSpec)) binaryBackCard

/-- THE TIED CARD OF 'recantlaw04.BinaryGrows'. -/
def binaryGrowsCard : Claim7 := { stood := { row := binaryGrowsRow, standIns := [], harness := (true, "8c1b38e5928372f519423212e9b1bcc9d94e122a006a45a72ba128f6306939c7"), looks := false }, kinds := [], alts := [], laidByText := true, laidKinds := [.data], laidTests := true, laidLooks := .later }
def BinaryGrowsCardSaid : Prop := Claim7.holds Tryd.pinned (.plain (OpenSpec.ofChange binaryGrowsSpec)) binaryGrowsCard

/-- THE SECOND FORM's CARD OF 'recantlaw04.BinaryReads'. -/
def binaryReadsUptoCard : Claim7 := { stood := { row := binaryReadsUptoRow, standIns := [], harness := (true, "8c1b38e5928372f519423212e9b1bcc9d94e122a006a45a72ba128f6306939c7"), looks := false }, kinds := [], alts := [], laidByText := true, laidKinds := [.data], laidTests := true, laidLooks := .later }
def BinaryReadsUptoCardSaid : Prop := Claim7.holds Tryd.pinned (.plain (OpenSpec.upto binaryReadsSpec)) binaryReadsUptoCard

/-- THE SECOND FORM's CARD OF 'recantlaw04.BinaryPrints'. -/
def binaryPrintsUptoCard : Claim7 := { stood := { row := binaryPrintsUptoRow, standIns := [], harness := (true, "8c1b38e5928372f519423212e9b1bcc9d94e122a006a45a72ba128f6306939c7"), looks := false }, kinds := [], alts := [], laidByText := true, laidKinds := [.data], laidTests := true, laidLooks := .later }
def BinaryPrintsUptoCardSaid : Prop := Claim7.holds Tryd.pinned (.plain (OpenSpec.upto binaryPrintsSpec)) binaryPrintsUptoCard

/-- THE SECOND FORM's CARD OF 'recantlaw04.BinaryBack'. -/
def binaryBackUptoCard : Claim7 := { stood := { row := binaryBackUptoRow, standIns := [], harness := (true, "8c1b38e5928372f519423212e9b1bcc9d94e122a006a45a72ba128f6306939c7"), looks := false }, kinds := [], alts := [], laidByText := true, laidKinds := [.data, .data, .data, .data], laidTests := true, laidLooks := .later }
def BinaryBackUptoCardSaid : Prop := Claim7.holds Tryd.pinned (.plain (OpenSpec.upto binaryBackSpec)) binaryBackUptoCard

/-- THE SECOND FORM's CARD OF 'recantlaw04.BinaryGrows'. -/
def binaryGrowsUptoCard : Claim7 := { stood := { row := binaryGrowsUptoRow, standIns := [], harness := (true, "8c1b38e5928372f519423212e9b1bcc9d94e122a006a45a72ba128f6306939c7"), looks := false }, kinds := [], alts := [], laidByText := true, laidKinds := [.data], laidTests := true, laidLooks := .later }
def BinaryGrowsUptoCardSaid : Prop := Claim7.holds Tryd.pinned (.plain (OpenSpec.upto binaryGrowsSpec)) binaryGrowsUptoCard
end Rows
end Go.Proofs.YtgebmjbfeakpgaaDoor
