/-
  DERIVED. GIVEN WITH THE SEED: THE CARDS: each row of YtmnblljenobofaaDoorRows.lean that lists a variable, with what it lists TIED to the program's text (the seventh form; the later family's looks); each row that meets fmt, with fmt's text TOLD by the authors' own Lean function (tested against real Go, not proved from fmt's source: count such statements apart). THE CARD IS WHAT COUNTS. Prove the row's statement (the work); the ties are given (YtmnblljenobofaaDoorTie.lean); close each card by the builder's one call (the guide's Derived/Test/ToyasCard.lean, 'card_holds'). Laid BY PROGRAM, IN A SANDBOX (cutbox-door.mjs). By AI agents, Wed Nov 11 2026. No macro, syntax, notation, axiom, sorry.
-/
import Derived.Test.YtmnblljenobofaaDoorRows
import GoSem.ClaimSeven
namespace Go.Proofs.YtmnblljenobofaaDoor
namespace Rows

/-- THE TIED CARD OF 'recantlaw19.QuickSame'. -/
def quickSameCard : Claim7 := { stood := { row := quickSameRow, standIns := [], harness := (true, "250b53ec05057e321a9ad7ec3bef543765d1e4d6bb6839d287b4e02d2c27fbf4"), looks := true }, kinds := [], alts := [], laidByText := true, laidKinds := [.data], laidTests := true, laidLooks := .later }
def QuickSameCardSaid : Prop := Claim7.holds Tryd.pinned (.plain (OpenSpec.ofChange quickSameSpec)) quickSameCard

/-- THE SECOND FORM's CARD OF 'recantlaw19.QuickSame'. -/
def quickSameUptoCard : Claim7 := { stood := { row := quickSameUptoRow, standIns := [], harness := (true, "250b53ec05057e321a9ad7ec3bef543765d1e4d6bb6839d287b4e02d2c27fbf4"), looks := true }, kinds := [], alts := [], laidByText := true, laidKinds := [.data], laidTests := true, laidLooks := .later }
def QuickSameUptoCardSaid : Prop := Claim7.holds Tryd.pinned (.plain (OpenSpec.upto quickSameSpec)) quickSameUptoCard
end Rows
end Go.Proofs.YtmnblljenobofaaDoor
