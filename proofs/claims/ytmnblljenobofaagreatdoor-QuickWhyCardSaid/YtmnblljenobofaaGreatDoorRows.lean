/-
  NARROWER THAN 'FOR EVERY INPUT', by the rows' own cells (each row's printed sentence says how): QuickChecks: laid · QuickWhy: laid.
  DERIVED. THE GIVEN ROWS OF THIS SEAT. 2 by the template 'for every input the law returns true; each argument reads behind the call as it read before'; 0 by the template 'total and deterministic' (their statements: YtmnblljenobofaaGreatDoorTotals.lean).
  GIVEN WITH THE SEED: the statements are not yours to turn. If you find one false, say at which input.
  Laid BY PROGRAM, IN A SANDBOX (cutbox-rows.mjs): the forced cells as the released guide's own fill.sh prints them over the translation b9b4553fd6f9772b… (all of the seat's roots in one cut). By AI agents, Wed Nov 11 2026. No macro, syntax, notation, axiom, sorry.
-/
import Derived.Test.YtmnblljenobofaaGreatDoorChecked
import GoSem.Claim
import GoSem.ClaimJoined
import GoSem.ClaimMapViews
import Derived.JoinedTies
import Derived.KernelRfl
namespace Go.Proofs.YtmnblljenobofaaGreatDoor
/- THE CELL 'sum', in the pinned program and in every row, IS THE sha256 OF THE DUMP (.gsa) THAT YtmnblljenobofaaGreatDoorProg.lean LOADS. Nothing in Lean hashes anything: it is a label: what it is worth is what the hold of that sum in a sandbox is worth. -/
noncomputable def Tryz.pinned : Pinned := { name := "ytmnblljenobofaagreatdoor", sum := "b9b4553fd6f9772b6f137f70762e7e309a6997e6338c07231fb97a1d81e51122", checked := Tryz.checked }
namespace Rows
def none {H : Type} : Left H := { results := [], args := [] }

/- WHAT THE LISTED PACKAGE-LEVEL VARIABLES READ AS WHEN THE CALL BEGINS. Each datum BY PROGRAM (the guide's laid-datum.mjs) off the statement by which the dump's own 'gosem.cut.vars' lays the variable. In a bare row this is a premise. The card (YtmnblljenobofaaGreatDoorCards.lean) ties it to the program's text. -/
def laid_recant_text_kinds {H : Type} : DataW H := .agg [.agg [.lit (.string [98, 101, 103, 105, 110]), .lit (.bool false), .lit (.bool false)], .agg [.lit (.string [98, 101, 103, 117, 110]), .lit (.bool false), .lit (.bool false)], .agg [.lit (.string [114, 101, 97, 100]), .lit (.bool true), .lit (.bool false)], .agg [.lit (.string [103, 111, 116]), .lit (.bool false), .lit (.bool true)], .agg [.lit (.string [119, 114, 105, 116, 101]), .lit (.bool true), .lit (.bool true)], .agg [.lit (.string [119, 114, 111, 116, 101]), .lit (.bool false), .lit (.bool false)], .agg [.lit (.string [99, 111, 109, 109, 105, 116]), .lit (.bool false), .lit (.bool false)], .agg [.lit (.string [99, 111, 109, 109, 105, 116, 116, 101, 100]), .lit (.bool false), .lit (.bool false)], .agg [.lit (.string [99, 97, 110, 99, 101, 108]), .lit (.bool false), .lit (.bool false)], .agg [.lit (.string [97, 98, 111, 114, 116, 101, 100]), .lit (.bool false), .lit (.bool false)]]

/-- 'recantlaw19.QuickChecks': WHATEVER THE INPUT: true; the input reads as it did. -/
def quickChecksSpec : ChangeSpec := { name := "quickChecks", fn := fun _ => fun
  | [d1, d2] => { results := [.lit (.bool true)], args := [d1, d2] }
  | _ => none }
def quickChecksRow : OpenClaim := { program := "ytmnblljenobofaagreatdoor", sum := "b9b4553fd6f9772b6f137f70762e7e309a6997e6338c07231fb97a1d81e51122", func := "recant/recantlaw19.QuickChecks", spec := "quickChecks", unfollowed := true, recurses := true, named := ["recant/text.kinds"], plainKeys := false, apart := false, laid := [("recant/text.kinds", laid_recant_text_kinds)] }
def QuickChecksSaid : Prop := quickChecksRow.holds Tryz.pinned (OpenSpec.ofChange quickChecksSpec)

/-- ITS FALSE NEIGHBOUR: 'it returns false'. Refute it at one input. -/
def quickChecksWrong : ChangeSpec := { name := "quickChecks", fn := fun _ => fun
  | [d1, d2] => { results := [.lit (.bool false)], args := [d1, d2] }
  | _ => none }
def QuickChecksWrongFalsely : Prop := quickChecksRow.holds Tryz.pinned (OpenSpec.ofChange quickChecksWrong)

/-- 'recantlaw19.QuickWhy': WHATEVER THE INPUT: true; the input reads as it did. -/
def quickWhySpec : ChangeSpec := { name := "quickWhy", fn := fun _ => fun
  | [d1, d2, d3] => { results := [.lit (.bool true)], args := [d1, d2, d3] }
  | _ => none }
def quickWhyRow : OpenClaim := { program := "ytmnblljenobofaagreatdoor", sum := "b9b4553fd6f9772b6f137f70762e7e309a6997e6338c07231fb97a1d81e51122", func := "recant/recantlaw19.QuickWhy", spec := "quickWhy", unfollowed := true, recurses := true, named := ["recant/text.kinds"], plainKeys := false, apart := false, laid := [("recant/text.kinds", laid_recant_text_kinds)] }
def QuickWhySaid : Prop := quickWhyRow.holds Tryz.pinned (OpenSpec.ofChange quickWhySpec)

/-- ITS FALSE NEIGHBOUR: 'it returns false'. Refute it at one input. -/
def quickWhyWrong : ChangeSpec := { name := "quickWhy", fn := fun _ => fun
  | [d1, d2, d3] => { results := [.lit (.bool false)], args := [d1, d2, d3] }
  | _ => none }
def QuickWhyWrongFalsely : Prop := quickWhyRow.holds Tryz.pinned (OpenSpec.ofChange quickWhyWrong)

/- THE SECOND FORM. 'bulk': how many values and letters a reading holds, each counted each time it is reached (what is shared counts as often as it is met; a slice's spare places count too). A statement '..UptoSaid' is the law's where the arguments, and the package variables that the reading takes, are together of bulk at most 1048576: NARROWER than '..Said'. Prove '..Said' where nothing that the law and all that it calls make is longer than what came in: it says more and counts as full. Else prove '..UptoSaid'. A law counts once. -/
mutual
def uptoBulk {H : Type} : DataW H → Nat
  | .lit (.string bytes) => bytes.length + 1
  | .lit _ => 1
  | .nil => 1
  | .ptr d => uptoBulk d + 1
  | .slice elems spare => uptoBulkAll elems + uptoBulkAll spare + 1
  | .agg parts => uptoBulkAll parts + 1
  | .iface _ d => uptoBulk d + 1
  | .map entries => uptoBulkEntries entries + 1
  | .held _ => 1
def uptoBulkAll {H : Type} : List (DataW H) → Nat
  | [] => 0
  | d :: r => uptoBulk d + uptoBulkAll r
def uptoBulkEntries {H : Type} : List (Lit × DataW H) → Nat
  | [] => 0
  | x :: r => uptoBulkEntry x + uptoBulkEntries r
def uptoBulkEntry {H : Type} : Lit × DataW H → Nat
  | (.string bytes, d) => bytes.length + uptoBulk d + 1
  | (_, d) => uptoBulk d + 1
 end
def uptoSmall : (H : Type) → List (DataW H) → Bool := fun _ ds => decide (uptoBulkAll ds ≤ 1048576)
def OpenSpec.upto (s : _root_.Go.ChangeSpec) : _root_.Go.OpenSpec := { _root_.Go.OpenSpec.ofChange s with cond := some uptoSmall }

/-- 'recantlaw19.QuickChecks', WHERE WHAT IT READS IS OF BULK AT MOST 1048576: true; the input reads as it did. -/
def quickChecksUptoRow : OpenClaim := { program := "ytmnblljenobofaagreatdoor", sum := "b9b4553fd6f9772b6f137f70762e7e309a6997e6338c07231fb97a1d81e51122", func := "recant/recantlaw19.QuickChecks", spec := "quickChecks", unfollowed := true, recurses := true, named := ["recant/text.kinds"], plainKeys := false, apart := false, laid := [("recant/text.kinds", laid_recant_text_kinds)], narrowed := true }
def QuickChecksUptoSaid : Prop := quickChecksUptoRow.holds Tryz.pinned (OpenSpec.upto quickChecksSpec)

/-- 'recantlaw19.QuickWhy', WHERE WHAT IT READS IS OF BULK AT MOST 1048576: true; the input reads as it did. -/
def quickWhyUptoRow : OpenClaim := { program := "ytmnblljenobofaagreatdoor", sum := "b9b4553fd6f9772b6f137f70762e7e309a6997e6338c07231fb97a1d81e51122", func := "recant/recantlaw19.QuickWhy", spec := "quickWhy", unfollowed := true, recurses := true, named := ["recant/text.kinds"], plainKeys := false, apart := false, laid := [("recant/text.kinds", laid_recant_text_kinds)], narrowed := true }
def QuickWhyUptoSaid : Prop := quickWhyUptoRow.holds Tryz.pinned (OpenSpec.upto quickWhySpec)

end Rows
end Go.Proofs.YtmnblljenobofaaGreatDoor
