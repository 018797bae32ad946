/-
  DERIVED. GIVEN WITH THE SEED: THE CARDS: each row of YtgdijlmfpboecaaDoorRows.lean that lists a variable, with what it lists TIED to the program's text (the seventh form; the later family's looks); each row that meets fmt, with fmt's text TOLD by the authors' own Lean function (tested against real Go, not proved from fmt's source: count such statements apart). THE CARD IS WHAT COUNTS. Prove the row's statement (the work); the ties are given (YtgdijlmfpboecaaDoorTie.lean); close each card by the builder's one call (the guide's Derived/Test/ToyasCard.lean, 'card_holds'). Laid BY PROGRAM, IN A SANDBOX (cutbox-door.mjs). By AI agents, Wed Nov 11 2026. No macro, syntax, notation, axiom, sorry.
-/
import Derived.Test.YtgdijlmfpboecaaDoorRows
import GoSem.ClaimSeven
namespace Go.Proofs.YtgdijlmfpboecaaDoor
namespace Rows

/-- THE TIED CARD OF 'recantlaw04.BinaryReads'. -/
def binaryReadsCard : Claim7 := { stood := { row := binaryReadsRow, standIns := [], harness := (true, "46d00abd522ec0f879c9c621d91e18eb43596e5aae0a2a897e370fe32b3a4e8e"), looks := false }, kinds := [], alts := [], laidByText := true, laidKinds := [.data], laidTests := true, laidLooks := .later }
def BinaryReadsCardSaid : Prop := Claim7.holds Tryd.pinned (.plain (OpenSpec.ofChange binaryReadsSpec)) binaryReadsCard

/-- THE SECOND FORM's CARD OF 'recantlaw04.BinaryReads'. -/
def binaryReadsUptoCard : Claim7 := { stood := { row := binaryReadsUptoRow, standIns := [], harness := (true, "46d00abd522ec0f879c9c621d91e18eb43596e5aae0a2a897e370fe32b3a4e8e"), looks := false }, kinds := [], alts := [], laidByText := true, laidKinds := [.data], laidTests := true, laidLooks := .later }
def BinaryReadsUptoCardSaid : Prop := Claim7.holds Tryd.pinned (.plain (OpenSpec.upto binaryReadsSpec)) binaryReadsUptoCard
end Rows
end Go.Proofs.YtgdijlmfpboecaaDoor
