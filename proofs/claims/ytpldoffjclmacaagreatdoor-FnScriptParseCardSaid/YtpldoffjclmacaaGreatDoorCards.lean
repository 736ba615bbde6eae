/-
  DERIVED. GIVEN WITH THE SEED: THE CARDS: each row of YtpldoffjclmacaaGreatDoorRows.lean that lists a variable, with what it lists TIED to the program's text (the seventh form; the later family's looks); each row that meets fmt, with fmt's text TOLD by the authors' own Lean function (tested against real Go, not proved from fmt's source: count such statements apart). THE CARD IS WHAT COUNTS. Prove the row's statement (the work); the ties are given (YtpldoffjclmacaaGreatDoorTie.lean); close each card by the builder's one call (the guide's Derived/Test/ToyasCard.lean, 'card_holds'). Laid BY PROGRAM, IN A SANDBOX (cutbox-door.mjs). By AI agents, Wed Nov 11 2026. No macro, syntax, notation, axiom, sorry.
-/
import Derived.Test.YtpldoffjclmacaaGreatDoorRows
import GoSem.ClaimSeven
namespace Go.Proofs.YtpldoffjclmacaaGreatDoor
namespace Rows

/-- THE TIED CARD OF 'laws.FnScriptText'. -/
def fnScriptTextCard : Claim7 := { stood := { row := fnScriptTextRow, standIns := [], harness := (true, "cef5abec48b48d3866f68588d7ad242c83ac680f4f0fb79e411b0e9bd7440722"), looks := true }, kinds := [], alts := [], laidByText := true, laidKinds := [.data, .data, .data, .data, .handle, .sentinel, .sentinel, .data, .pinned], laidTests := true, laidLooks := .later }
def FnScriptTextCardSaid : Prop := Claim7.holds Tryz.pinned (.plain (OpenSpec.ofChange fnScriptTextSpec)) fnScriptTextCard

/-- THE TIED CARD OF 'laws.FnScriptParse'. -/
def fnScriptParseCard : Claim7 := { stood := { row := fnScriptParseRow, standIns := [], harness := (true, "cef5abec48b48d3866f68588d7ad242c83ac680f4f0fb79e411b0e9bd7440722"), looks := true }, kinds := [], alts := [], laidByText := true, laidKinds := [.data, .data, .data, .data, .handle, .sentinel, .sentinel, .data, .pinned], laidTests := true, laidLooks := .later }
def FnScriptParseCardSaid : Prop := Claim7.holds Tryz.pinned (.plain (OpenSpec.ofChange fnScriptParseSpec)) fnScriptParseCard

/-- THE TIED CARD OF 'laws.FnExactScriptParse'. -/
def fnExactScriptParseCard : Claim7 := { stood := { row := fnExactScriptParseRow, standIns := [], harness := (true, "cef5abec48b48d3866f68588d7ad242c83ac680f4f0fb79e411b0e9bd7440722"), looks := true }, kinds := [], alts := [], laidByText := true, laidKinds := [.data, .data, .data, .data, .handle, .sentinel, .sentinel, .data, .pinned], laidTests := true, laidLooks := .later }
def FnExactScriptParseCardSaid : Prop := Claim7.holds Tryz.pinned (.plain (OpenSpec.ofChange fnExactScriptParseSpec)) fnExactScriptParseCard

/-- THE SECOND FORM's CARD OF 'laws.FnScriptText'. -/
def fnScriptTextUptoCard : Claim7 := { stood := { row := fnScriptTextUptoRow, standIns := [], harness := (true, "cef5abec48b48d3866f68588d7ad242c83ac680f4f0fb79e411b0e9bd7440722"), looks := true }, kinds := [], alts := [], laidByText := true, laidKinds := [.data, .data, .data, .data, .handle, .sentinel, .sentinel, .data, .pinned], laidTests := true, laidLooks := .later }
def FnScriptTextUptoCardSaid : Prop := Claim7.holds Tryz.pinned (.plain (OpenSpec.upto fnScriptTextSpec)) fnScriptTextUptoCard

/-- THE SECOND FORM's CARD OF 'laws.FnScriptParse'. -/
def fnScriptParseUptoCard : Claim7 := { stood := { row := fnScriptParseUptoRow, standIns := [], harness := (true, "cef5abec48b48d3866f68588d7ad242c83ac680f4f0fb79e411b0e9bd7440722"), looks := true }, kinds := [], alts := [], laidByText := true, laidKinds := [.data, .data, .data, .data, .handle, .sentinel, .sentinel, .data, .pinned], laidTests := true, laidLooks := .later }
def FnScriptParseUptoCardSaid : Prop := Claim7.holds Tryz.pinned (.plain (OpenSpec.upto fnScriptParseSpec)) fnScriptParseUptoCard

/-- THE SECOND FORM's CARD OF 'laws.FnExactScriptParse'. -/
def fnExactScriptParseUptoCard : Claim7 := { stood := { row := fnExactScriptParseUptoRow, standIns := [], harness := (true, "cef5abec48b48d3866f68588d7ad242c83ac680f4f0fb79e411b0e9bd7440722"), looks := true }, kinds := [], alts := [], laidByText := true, laidKinds := [.data, .data, .data, .data, .handle, .sentinel, .sentinel, .data, .pinned], laidTests := true, laidLooks := .later }
def FnExactScriptParseUptoCardSaid : Prop := Claim7.holds Tryz.pinned (.plain (OpenSpec.upto fnExactScriptParseSpec)) fnExactScriptParseUptoCard
end Rows
end Go.Proofs.YtpldoffjclmacaaGreatDoor
