/-
  DERIVED. GIVEN WITH THE SEED: THE CARDS: each row of YtoemcdcabamgiaaDoorRows.lean that lists a variable, with what it lists TIED to the program's text (the seventh form; the later family's looks); each row that meets fmt, with fmt's text TOLD by the authors' own Lean function (tested against real Go, not proved from fmt's source: count such statements apart). THE CARD IS WHAT COUNTS. Prove the row's statement (the work); the ties are given (YtoemcdcabamgiaaDoorTie.lean); close each card by the builder's one call (the guide's Derived/Test/ToyasCard.lean, 'card_holds'). Laid BY PROGRAM, IN A SANDBOX (cutbox-door.mjs). By AI agents, Wed Nov 11 2026. No macro, syntax, notation, axiom, sorry.
-/
import Derived.Test.YtoemcdcabamgiaaDoorRows
import GoSem.ClaimSeven
namespace Go.Proofs.YtoemcdcabamgiaaDoor
namespace Rows

/-- THE TIED CARD OF 'recantlaw14.StrictChecks'. -/
def strictChecksCard : Claim7 := { stood := { row := strictChecksRow, standIns := [], harness := (true, "2466549b5b40452fe64d68b7b6f5bfdf9ba044e92c4468d6007a2cdc583461cd"), looks := true }, kinds := [], alts := [], laidByText := true, laidKinds := [.data], laidTests := true, laidLooks := .later }
def StrictChecksCardSaid : Prop := Claim7.holds Tryd.pinned (.plain (OpenSpec.ofChange strictChecksSpec)) strictChecksCard

/-- THE TIED CARD OF 'recantlaw14.StrictWider'. -/
def strictWiderCard : Claim7 := { stood := { row := strictWiderRow, standIns := [], harness := (true, "2466549b5b40452fe64d68b7b6f5bfdf9ba044e92c4468d6007a2cdc583461cd"), looks := true }, kinds := [], alts := [], laidByText := true, laidKinds := [.data], laidTests := true, laidLooks := .later }
def StrictWiderCardSaid : Prop := Claim7.holds Tryd.pinned (.plain (OpenSpec.ofChange strictWiderSpec)) strictWiderCard

/-- THE SECOND FORM's CARD OF 'recantlaw14.StrictChecks'. -/
def strictChecksUptoCard : Claim7 := { stood := { row := strictChecksUptoRow, standIns := [], harness := (true, "2466549b5b40452fe64d68b7b6f5bfdf9ba044e92c4468d6007a2cdc583461cd"), looks := true }, kinds := [], alts := [], laidByText := true, laidKinds := [.data], laidTests := true, laidLooks := .later }
def StrictChecksUptoCardSaid : Prop := Claim7.holds Tryd.pinned (.plain (OpenSpec.upto strictChecksSpec)) strictChecksUptoCard

/-- THE SECOND FORM's CARD OF 'recantlaw14.StrictWider'. -/
def strictWiderUptoCard : Claim7 := { stood := { row := strictWiderUptoRow, standIns := [], harness := (true, "2466549b5b40452fe64d68b7b6f5bfdf9ba044e92c4468d6007a2cdc583461cd"), looks := true }, kinds := [], alts := [], laidByText := true, laidKinds := [.data], laidTests := true, laidLooks := .later }
def StrictWiderUptoCardSaid : Prop := Claim7.holds Tryd.pinned (.plain (OpenSpec.upto strictWiderSpec)) strictWiderUptoCard
end Rows
end Go.Proofs.YtoemcdcabamgiaaDoor
