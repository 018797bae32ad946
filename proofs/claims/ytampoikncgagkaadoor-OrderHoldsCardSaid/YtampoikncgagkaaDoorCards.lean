/-
  DERIVED. GIVEN WITH THE SEED: THE CARDS: each row of YtampoikncgagkaaDoorRows.lean that lists a variable, with what it lists TIED to the program's text (the seventh form; the later family's looks); each row that meets fmt, with fmt's text TOLD by the authors' own Lean function (tested against real Go, not proved from fmt's source: count such statements apart). THE CARD IS WHAT COUNTS. Prove the row's statement (the work); the ties are given (YtampoikncgagkaaDoorTie.lean); close each card by the builder's one call (the guide's Derived/Test/ToyasCard.lean, 'card_holds'). Laid BY PROGRAM, IN A SANDBOX (cutbox-door.mjs). By AI agents, Wed Nov 11 2026. No macro, syntax, notation, axiom, sorry.
-/
import Derived.Test.YtampoikncgagkaaDoorRows
import GoSem.ClaimSeven
namespace Go.Proofs.YtampoikncgagkaaDoor
namespace Rows

/-- THE TIED CARD OF 'recantlaw07.OrderTells'. -/
def orderTellsCard : Claim7 := { stood := { row := orderTellsRow, standIns := [], harness := (true, "7f482713d59d9dc756e79e2b97352f3bae6cd9e0e55370646dbfe1d67027de8d"), looks := false }, kinds := [], alts := [], laidByText := true, laidKinds := [.data], laidTests := true, laidLooks := .later }
def OrderTellsCardSaid : Prop := Claim7.holds Tryd.pinned (.plain (OpenSpec.ofChange orderTellsSpec)) orderTellsCard

/-- THE TIED CARD OF 'recantlaw07.OrderHolds'. -/
def orderHoldsCard : Claim7 := { stood := { row := orderHoldsRow, standIns := [], harness := (true, "7f482713d59d9dc756e79e2b97352f3bae6cd9e0e55370646dbfe1d67027de8d"), looks := false }, kinds := [], alts := [], laidByText := true, laidKinds := [.data], laidTests := true, laidLooks := .later }
def OrderHoldsCardSaid : Prop := Claim7.holds Tryd.pinned (.plain (OpenSpec.ofChange orderHoldsSpec)) orderHoldsCard

/-- THE TIED CARD OF 'recantlaw07.OrderGrows'. -/
def orderGrowsCard : Claim7 := { stood := { row := orderGrowsRow, standIns := [], harness := (true, "7f482713d59d9dc756e79e2b97352f3bae6cd9e0e55370646dbfe1d67027de8d"), looks := false }, kinds := [], alts := [], laidByText := true, laidKinds := [.data], laidTests := true, laidLooks := .later }
def OrderGrowsCardSaid : Prop := Claim7.holds Tryd.pinned (.plain (OpenSpec.ofChange orderGrowsSpec)) orderGrowsCard

/-- THE SECOND FORM's CARD OF 'recantlaw07.OrderTells'. -/
def orderTellsUptoCard : Claim7 := { stood := { row := orderTellsUptoRow, standIns := [], harness := (true, "7f482713d59d9dc756e79e2b97352f3bae6cd9e0e55370646dbfe1d67027de8d"), looks := false }, kinds := [], alts := [], laidByText := true, laidKinds := [.data], laidTests := true, laidLooks := .later }
def OrderTellsUptoCardSaid : Prop := Claim7.holds Tryd.pinned (.plain (OpenSpec.upto orderTellsSpec)) orderTellsUptoCard

/-- THE SECOND FORM's CARD OF 'recantlaw07.OrderHolds'. -/
def orderHoldsUptoCard : Claim7 := { stood := { row := orderHoldsUptoRow, standIns := [], harness := (true, "7f482713d59d9dc756e79e2b97352f3bae6cd9e0e55370646dbfe1d67027de8d"), looks := false }, kinds := [], alts := [], laidByText := true, laidKinds := [.data], laidTests := true, laidLooks := .later }
def OrderHoldsUptoCardSaid : Prop := Claim7.holds Tryd.pinned (.plain (OpenSpec.upto orderHoldsSpec)) orderHoldsUptoCard

/-- THE SECOND FORM's CARD OF 'recantlaw07.OrderGrows'. -/
def orderGrowsUptoCard : Claim7 := { stood := { row := orderGrowsUptoRow, standIns := [], harness := (true, "7f482713d59d9dc756e79e2b97352f3bae6cd9e0e55370646dbfe1d67027de8d"), looks := false }, kinds := [], alts := [], laidByText := true, laidKinds := [.data], laidTests := true, laidLooks := .later }
def OrderGrowsUptoCardSaid : Prop := Claim7.holds Tryd.pinned (.plain (OpenSpec.upto orderGrowsSpec)) orderGrowsUptoCard
end Rows
end Go.Proofs.YtampoikncgagkaaDoor
