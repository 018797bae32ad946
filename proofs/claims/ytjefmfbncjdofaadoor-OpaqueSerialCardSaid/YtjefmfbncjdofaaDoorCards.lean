/-
  DERIVED. GIVEN WITH THE SEED: THE CARDS: each row of YtjefmfbncjdofaaDoorRows.lean that lists a variable, with what it lists TIED to the program's text (the seventh form; the later family's looks); each row that meets fmt, with fmt's text TOLD by the authors' own Lean function (tested against real Go, not proved from fmt's source: count such statements apart). THE CARD IS WHAT COUNTS. Prove the row's statement (the work); the ties are given (YtjefmfbncjdofaaDoorTie.lean); close each card by the builder's one call (the guide's Derived/Test/ToyasCard.lean, 'card_holds'). Laid BY PROGRAM, IN A SANDBOX (cutbox-door.mjs). By AI agents, Wed Nov 11 2026. No macro, syntax, notation, axiom, sorry.
-/
import Derived.Test.YtjefmfbncjdofaaDoorRows
import GoSem.ClaimSeven
namespace Go.Proofs.YtjefmfbncjdofaaDoor
namespace Rows

/-- THE TIED CARD OF 'recantlaw13.OpaqueChecks'. -/
def opaqueChecksCard : Claim7 := { stood := { row := opaqueChecksRow, standIns := [], harness := (true, "b5cd41ee9d933c46dd3b7891f8710cd566e64bfab3646f4beaa5cbf8b97fac36"), looks := true }, kinds := [], alts := [], laidByText := true, laidKinds := [.data], laidTests := true, laidLooks := .later }
def OpaqueChecksCardSaid : Prop := Claim7.holds Tryd.pinned (.plain (OpenSpec.ofChange opaqueChecksSpec)) opaqueChecksCard

/-- THE TIED CARD OF 'recantlaw13.OpaqueLeast'. -/
def opaqueLeastCard : Claim7 := { stood := { row := opaqueLeastRow, standIns := [], harness := (true, "b5cd41ee9d933c46dd3b7891f8710cd566e64bfab3646f4beaa5cbf8b97fac36"), looks := true }, kinds := [], alts := [], laidByText := true, laidKinds := [.data], laidTests := true, laidLooks := .later }
def OpaqueLeastCardSaid : Prop := Claim7.holds Tryd.pinned (.plain (OpenSpec.ofChange opaqueLeastSpec)) opaqueLeastCard

/-- THE TIED CARD OF 'recantlaw13.OpaqueSerial'. -/
def opaqueSerialCard : Claim7 := { stood := { row := opaqueSerialRow, standIns := [], harness := (true, "b5cd41ee9d933c46dd3b7891f8710cd566e64bfab3646f4beaa5cbf8b97fac36"), looks := true }, kinds := [], alts := [], laidByText := true, laidKinds := [.data], laidTests := true, laidLooks := .later }
def OpaqueSerialCardSaid : Prop := Claim7.holds Tryd.pinned (.plain (OpenSpec.ofChange opaqueSerialSpec)) opaqueSerialCard

/-- THE SECOND FORM's CARD OF 'recantlaw13.OpaqueChecks'. -/
def opaqueChecksUptoCard : Claim7 := { stood := { row := opaqueChecksUptoRow, standIns := [], harness := (true, "b5cd41ee9d933c46dd3b7891f8710cd566e64bfab3646f4beaa5cbf8b97fac36"), looks := true }, kinds := [], alts := [], laidByText := true, laidKinds := [.data], laidTests := true, laidLooks := .later }
def OpaqueChecksUptoCardSaid : Prop := Claim7.holds Tryd.pinned (.plain (OpenSpec.upto opaqueChecksSpec)) opaqueChecksUptoCard

/-- THE SECOND FORM's CARD OF 'recantlaw13.OpaqueLeast'. -/
def opaqueLeastUptoCard : Claim7 := { stood := { row := opaqueLeastUptoRow, standIns := [], harness := (true, "b5cd41ee9d933c46dd3b7891f8710cd566e64bfab3646f4beaa5cbf8b97fac36"), looks := true }, kinds := [], alts := [], laidByText := true, laidKinds := [.data], laidTests := true, laidLooks := .later }
def OpaqueLeastUptoCardSaid : Prop := Claim7.holds Tryd.pinned (.plain (OpenSpec.upto opaqueLeastSpec)) opaqueLeastUptoCard

/-- THE SECOND FORM's CARD OF 'recantlaw13.OpaqueSerial'. -/
def opaqueSerialUptoCard : Claim7 := { stood := { row := opaqueSerialUptoRow, standIns := [], harness := (true, "b5cd41ee9d933c46dd3b7891f8710cd566e64bfab3646f4beaa5cbf8b97fac36"), looks := true }, kinds := [], alts := [], laidByText := true, laidKinds := [.data], laidTests := true, laidLooks := .later }
def OpaqueSerialUptoCardSaid : Prop := Claim7.holds Tryd.pinned (.plain (OpenSpec.upto opaqueSerialSpec)) opaqueSerialUptoCard
end Rows
end Go.Proofs.YtjefmfbncjdofaaDoor
