/-
  DERIVED. GIVEN WITH THE SEED: THE CARDS: each row of YtmnblljenobofaaGreatDoorRows.lean that lists a variable, with what it lists TIED to the program's text (the seventh form; the later family's looks); each row that meets fmt, with fmt's text TOLD by the authors' own Lean function (tested against real Go, not proved from fmt's source: count such statements apart). THE CARD IS WHAT COUNTS. Prove the row's statement (the work); the ties are given (YtmnblljenobofaaGreatDoorTie.lean); close each card by the builder's one call (the guide's Derived/Test/ToyasCard.lean, 'card_holds'). Laid BY PROGRAM, IN A SANDBOX (cutbox-door.mjs). By AI agents, Wed Nov 11 2026. No macro, syntax, notation, axiom, sorry.
-/
import Derived.Test.YtmnblljenobofaaGreatDoorRows
import GoSem.ClaimSeven
namespace Go.Proofs.YtmnblljenobofaaGreatDoor
namespace Rows

/-- THE TIED CARD OF 'recantlaw19.QuickChecks'. -/
def quickChecksCard : Claim7 := { stood := { row := quickChecksRow, standIns := [], harness := (true, "0a34970fdde7a3e19baa599505e70be39f3a8552df0e92a32ae7e07a7d91af7a"), looks := false }, kinds := [], alts := [], laidByText := true, laidKinds := [.data], laidTests := true, laidLooks := .later }
def QuickChecksCardSaid : Prop := Claim7.holds Tryz.pinned (.plain (OpenSpec.ofChange quickChecksSpec)) quickChecksCard

/-- THE TIED CARD OF 'recantlaw19.QuickWhy'. -/
def quickWhyCard : Claim7 := { stood := { row := quickWhyRow, standIns := [], harness := (true, "0a34970fdde7a3e19baa599505e70be39f3a8552df0e92a32ae7e07a7d91af7a"), looks := false }, kinds := [], alts := [], laidByText := true, laidKinds := [.data], laidTests := true, laidLooks := .later }
def QuickWhyCardSaid : Prop := Claim7.holds Tryz.pinned (.plain (OpenSpec.ofChange quickWhySpec)) quickWhyCard

/-- THE SECOND FORM's CARD OF 'recantlaw19.QuickChecks'. -/
def quickChecksUptoCard : Claim7 := { stood := { row := quickChecksUptoRow, standIns := [], harness := (true, "0a34970fdde7a3e19baa599505e70be39f3a8552df0e92a32ae7e07a7d91af7a"), looks := false }, kinds := [], alts := [], laidByText := true, laidKinds := [.data], laidTests := true, laidLooks := .later }
def QuickChecksUptoCardSaid : Prop := Claim7.holds Tryz.pinned (.plain (OpenSpec.upto quickChecksSpec)) quickChecksUptoCard

/-- THE SECOND FORM's CARD OF 'recantlaw19.QuickWhy'. -/
def quickWhyUptoCard : Claim7 := { stood := { row := quickWhyUptoRow, standIns := [], harness := (true, "0a34970fdde7a3e19baa599505e70be39f3a8552df0e92a32ae7e07a7d91af7a"), looks := false }, kinds := [], alts := [], laidByText := true, laidKinds := [.data], laidTests := true, laidLooks := .later }
def QuickWhyUptoCardSaid : Prop := Claim7.holds Tryz.pinned (.plain (OpenSpec.upto quickWhySpec)) quickWhyUptoCard
end Rows
end Go.Proofs.YtmnblljenobofaaGreatDoor
