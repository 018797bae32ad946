/-
  DERIVED. GIVEN WITH THE SEED: THE CARDS: each row of YtegpelpnbkdgcaaDoorRows.lean that lists a variable, with what it lists TIED to the program's text (the seventh form; the later family's looks); each row that meets fmt, with fmt's text TOLD by the authors' own Lean function (tested against real Go, not proved from fmt's source: count such statements apart). THE CARD IS WHAT COUNTS. Prove the row's statement (the work); the ties are given (YtegpelpnbkdgcaaDoorTie.lean); close each card by the builder's one call (the guide's Derived/Test/ToyasCard.lean, 'card_holds'). Laid BY PROGRAM, IN A SANDBOX (cutbox-door.mjs). By AI agents, Wed Nov 11 2026. No macro, syntax, notation, axiom, sorry.
-/
import Derived.Test.YtegpelpnbkdgcaaDoorRows
import GoSem.ClaimSeven
namespace Go.Proofs.YtegpelpnbkdgcaaDoor
namespace Rows

/-- THE TIED CARD OF 'recantlaw17.GraphBuilds'. -/
def graphBuildsCard : Claim7 := { stood := { row := graphBuildsRow, standIns := [], harness := (true, "2f6904693b7cb3d83db646f6ffdfa3a0105f447f05d006d14c14e1ace88da883"), looks := false }, kinds := [], alts := [], laidByText := true, laidKinds := [.data], laidTests := true, laidLooks := .later }
def GraphBuildsCardSaid : Prop := Claim7.holds Tryd.pinned (.plain (OpenSpec.ofChange graphBuildsSpec)) graphBuildsCard

/-- THE TIED CARD OF 'recantlaw17.GraphExplains'. -/
def graphExplainsCard : Claim7 := { stood := { row := graphExplainsRow, standIns := [], harness := (true, "2f6904693b7cb3d83db646f6ffdfa3a0105f447f05d006d14c14e1ace88da883"), looks := false }, kinds := [], alts := [], laidByText := true, laidKinds := [.data], laidTests := true, laidLooks := .later }
def GraphExplainsCardSaid : Prop := Claim7.holds Tryd.pinned (.plain (OpenSpec.ofChange graphExplainsSpec)) graphExplainsCard

/-- THE TIED CARD OF 'recantlaw17.GraphMore'. -/
def graphMoreCard : Claim7 := { stood := { row := graphMoreRow, standIns := [], harness := (true, "2f6904693b7cb3d83db646f6ffdfa3a0105f447f05d006d14c14e1ace88da883"), looks := false }, kinds := [], alts := [], laidByText := true, laidKinds := [.data], laidTests := true, laidLooks := .later }
def GraphMoreCardSaid : Prop := Claim7.holds Tryd.pinned (.plain (OpenSpec.ofChange graphMoreSpec)) graphMoreCard

/-- THE SECOND FORM's CARD OF 'recantlaw17.GraphBuilds'. -/
def graphBuildsUptoCard : Claim7 := { stood := { row := graphBuildsUptoRow, standIns := [], harness := (true, "2f6904693b7cb3d83db646f6ffdfa3a0105f447f05d006d14c14e1ace88da883"), looks := false }, kinds := [], alts := [], laidByText := true, laidKinds := [.data], laidTests := true, laidLooks := .later }
def GraphBuildsUptoCardSaid : Prop := Claim7.holds Tryd.pinned (.plain (OpenSpec.upto graphBuildsSpec)) graphBuildsUptoCard

/-- THE SECOND FORM's CARD OF 'recantlaw17.GraphExplains'. -/
def graphExplainsUptoCard : Claim7 := { stood := { row := graphExplainsUptoRow, standIns := [], harness := (true, "2f6904693b7cb3d83db646f6ffdfa3a0105f447f05d006d14c14e1ace88da883"), looks := false }, kinds := [], alts := [], laidByText := true, laidKinds := [.data], laidTests := true, laidLooks := .later }
def GraphExplainsUptoCardSaid : Prop := Claim7.holds Tryd.pinned (.plain (OpenSpec.upto graphExplainsSpec)) graphExplainsUptoCard

/-- THE SECOND FORM's CARD OF 'recantlaw17.GraphMore'. -/
def graphMoreUptoCard : Claim7 := { stood := { row := graphMoreUptoRow, standIns := [], harness := (true, "2f6904693b7cb3d83db646f6ffdfa3a0105f447f05d006d14c14e1ace88da883"), looks := false }, kinds := [], alts := [], laidByText := true, laidKinds := [.data], laidTests := true, laidLooks := .later }
def GraphMoreUptoCardSaid : Prop := Claim7.holds Tryd.pinned (.plain (OpenSpec.upto graphMoreSpec)) graphMoreUptoCard
end Rows
end Go.Proofs.YtegpelpnbkdgcaaDoor
