/-
  DERIVED. GIVEN WITH THE SEED: THE CARDS: each row of YtceipdmplnlogaaDoorRows.lean that lists a variable, with what it lists TIED to the program's text (the seventh form; the later family's looks); each row that meets fmt, with fmt's text TOLD by the authors' own Lean function (tested against real Go, not proved from fmt's source: count such statements apart). THE CARD IS WHAT COUNTS. Prove the row's statement (the work); the ties are given (YtceipdmplnlogaaDoorTie.lean); close each card by the builder's one call (the guide's Derived/Test/ToyasCard.lean, 'card_holds'). Laid BY PROGRAM, IN A SANDBOX (cutbox-door.mjs). By AI agents, Wed Nov 11 2026. No macro, syntax, notation, axiom, sorry.
-/
import Derived.Test.YtceipdmplnlogaaDoorRows
import GoSem.ClaimSeven
namespace Go.Proofs.YtceipdmplnlogaaDoor
namespace Rows

/-- THE TIED CARD OF 'recantlaw10.LegalRows'. -/
def legalRowsCard : Claim7 := { stood := { row := legalRowsRow, standIns := [], harness := (true, "61d4111fb908912651f459e31e69dccf1642114e7de042b0f1df2ad4df624b2f"), looks := false }, kinds := [], alts := [], laidByText := true, laidKinds := [.data], laidTests := true, laidLooks := .later }
def LegalRowsCardSaid : Prop := Claim7.holds Tryd.pinned (.plain (OpenSpec.ofChange legalRowsSpec)) legalRowsCard

/-- THE TIED CARD OF 'recantlaw10.LegalOwn'. -/
def legalOwnCard : Claim7 := { stood := { row := legalOwnRow, standIns := [], harness := (true, "61d4111fb908912651f459e31e69dccf1642114e7de042b0f1df2ad4df624b2f"), looks := false }, kinds := [], alts := [], laidByText := true, laidKinds := [.data], laidTests := true, laidLooks := .later }
def LegalOwnCardSaid : Prop := Claim7.holds Tryd.pinned (.plain (OpenSpec.ofChange legalOwnSpec)) legalOwnCard

/-- THE TIED CARD OF 'recantlaw10.LegalShort'. -/
def legalShortCard : Claim7 := { stood := { row := legalShortRow, standIns := [], harness := (true, "61d4111fb908912651f459e31e69dccf1642114e7de042b0f1df2ad4df624b2f"), looks := false }, kinds := [], alts := [], laidByText := true, laidKinds := [.data], laidTests := true, laidLooks := .later }
def LegalShortCardSaid : Prop := Claim7.holds Tryd.pinned (.plain (OpenSpec.ofChange legalShortSpec)) legalShortCard

/-- THE TIED CARD OF 'recantlaw10.LegalSwap'. -/
def legalSwapCard : Claim7 := { stood := { row := legalSwapRow, standIns := [], harness := (true, "61d4111fb908912651f459e31e69dccf1642114e7de042b0f1df2ad4df624b2f"), looks := false }, kinds := [], alts := [], laidByText := true, laidKinds := [.data], laidTests := true, laidLooks := .later }
def LegalSwapCardSaid : Prop := Claim7.holds Tryd.pinned (.plain (OpenSpec.ofChange legalSwapSpec)) legalSwapCard

/-- THE SECOND FORM's CARD OF 'recantlaw10.LegalRows'. -/
def legalRowsUptoCard : Claim7 := { stood := { row := legalRowsUptoRow, standIns := [], harness := (true, "61d4111fb908912651f459e31e69dccf1642114e7de042b0f1df2ad4df624b2f"), looks := false }, kinds := [], alts := [], laidByText := true, laidKinds := [.data], laidTests := true, laidLooks := .later }
def LegalRowsUptoCardSaid : Prop := Claim7.holds Tryd.pinned (.plain (OpenSpec.upto legalRowsSpec)) legalRowsUptoCard

/-- THE SECOND FORM's CARD OF 'recantlaw10.LegalOwn'. -/
def legalOwnUptoCard : Claim7 := { stood := { row := legalOwnUptoRow, standIns := [], harness := (true, "61d4111fb908912651f459e31e69dccf1642114e7de042b0f1df2ad4df624b2f"), looks := false }, kinds := [], alts := [], laidByText := true, laidKinds := [.data], laidTests := true, laidLooks := .later }
def LegalOwnUptoCardSaid : Prop := Claim7.holds Tryd.pinned (.plain (OpenSpec.upto legalOwnSpec)) legalOwnUptoCard

/-- THE SECOND FORM's CARD OF 'recantlaw10.LegalShort'. -/
def legalShortUptoCard : Claim7 := { stood := { row := legalShortUptoRow, standIns := [], harness := (true, "61d4111fb908912651f459e31e69dccf1642114e7de042b0f1df2ad4df624b2f"), looks := false }, kinds := [], alts := [], laidByText := true, laidKinds := [.data], laidTests := true, laidLooks := .later }
def LegalShortUptoCardSaid : Prop := Claim7.holds Tryd.pinned (.plain (OpenSpec.upto legalShortSpec)) legalShortUptoCard

/-- THE SECOND FORM's CARD OF 'recantlaw10.LegalSwap'. -/
def legalSwapUptoCard : Claim7 := { stood := { row := legalSwapUptoRow, standIns := [], harness := (true, "61d4111fb908912651f459e31e69dccf1642114e7de042b0f1df2ad4df624b2f"), looks := false }, kinds := [], alts := [], laidByText := true, laidKinds := [.data], laidTests := true, laidLooks := .later }
def LegalSwapUptoCardSaid : Prop := Claim7.holds Tryd.pinned (.plain (OpenSpec.upto legalSwapSpec)) legalSwapUptoCard
end Rows
end Go.Proofs.YtceipdmplnlogaaDoor
