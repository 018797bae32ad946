/-
  DERIVED. GIVEN WITH THE SEED: THE CARDS: each row of YtkliahdgciajjaaDoorRows.lean that lists a variable, with what it lists TIED to the program's text (the seventh form; the later family's looks); each row that meets fmt, with fmt's text TOLD by the authors' own Lean function (tested against real Go, not proved from fmt's source: count such statements apart). THE CARD IS WHAT COUNTS. Prove the row's statement (the work); the ties are given (YtkliahdgciajjaaDoorTie.lean); close each card by the builder's one call (the guide's Derived/Test/ToyasCard.lean, 'card_holds'). Laid BY PROGRAM, IN A SANDBOX (cutbox-door.mjs). By AI agents, Wed Nov 11 2026. No macro, syntax, notation, axiom, sorry.
-/
import Derived.Test.YtkliahdgciajjaaDoorRows
import GoSem.ClaimSeven
namespace Go.Proofs.YtkliahdgciajjaaDoor
namespace Rows

/-- THE TIED CARD OF 'recantlaw16.UniqueSources'. -/
def uniqueSourcesCard : Claim7 := { stood := { row := uniqueSourcesRow, standIns := [], harness := (true, "64a832249d83ade5577102d71e25f20528020b20379b4388116c9eed24f86c80"), looks := false }, kinds := [], alts := [], laidByText := true, laidKinds := [.data], laidTests := true, laidLooks := .later }
def UniqueSourcesCardSaid : Prop := Claim7.holds Tryd.pinned (.plain (OpenSpec.ofChange uniqueSourcesSpec)) uniqueSourcesCard

/-- THE TIED CARD OF 'recantlaw16.UniqueGrows'. -/
def uniqueGrowsCard : Claim7 := { stood := { row := uniqueGrowsRow, standIns := [], harness := (true, "64a832249d83ade5577102d71e25f20528020b20379b4388116c9eed24f86c80"), looks := false }, kinds := [], alts := [], laidByText := true, laidKinds := [.data], laidTests := true, laidLooks := .later }
def UniqueGrowsCardSaid : Prop := Claim7.holds Tryd.pinned (.plain (OpenSpec.ofChange uniqueGrowsSpec)) uniqueGrowsCard

/-- THE SECOND FORM's CARD OF 'recantlaw16.UniqueSources'. -/
def uniqueSourcesUptoCard : Claim7 := { stood := { row := uniqueSourcesUptoRow, standIns := [], harness := (true, "64a832249d83ade5577102d71e25f20528020b20379b4388116c9eed24f86c80"), looks := false }, kinds := [], alts := [], laidByText := true, laidKinds := [.data], laidTests := true, laidLooks := .later }
def UniqueSourcesUptoCardSaid : Prop := Claim7.holds Tryd.pinned (.plain (OpenSpec.upto uniqueSourcesSpec)) uniqueSourcesUptoCard

/-- THE SECOND FORM's CARD OF 'recantlaw16.UniqueGrows'. -/
def uniqueGrowsUptoCard : Claim7 := { stood := { row := uniqueGrowsUptoRow, standIns := [], harness := (true, "64a832249d83ade5577102d71e25f20528020b20379b4388116c9eed24f86c80"), looks := false }, kinds := [], alts := [], laidByText := true, laidKinds := [.data], laidTests := true, laidLooks := .later }
def UniqueGrowsUptoCardSaid : Prop := Claim7.holds Tryd.pinned (.plain (OpenSpec.upto uniqueGrowsSpec)) uniqueGrowsUptoCard
end Rows
end Go.Proofs.YtkliahdgciajjaaDoor
