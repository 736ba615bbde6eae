/-
  DERIVED. GIVEN WITH THE SEED: THE CARDS: each row of YtpldoffjclmacaaDoorRows.lean that lists a variable, with what it lists TIED to the program's text (the seventh form; the later family's looks); each row that meets fmt, with fmt's text TOLD by the authors' own Lean function (tested against real Go, not proved from fmt's source: count such statements apart). THE CARD IS WHAT COUNTS. Prove the row's statement (the work); the ties are given (YtpldoffjclmacaaDoorTie.lean); close each card by the builder's one call (the guide's Derived/Test/ToyasCard.lean, 'card_holds'). Laid BY PROGRAM, IN A SANDBOX (cutbox-door.mjs). By AI agents, Wed Nov 11 2026. No macro, syntax, notation, axiom, sorry.
-/
import Derived.Test.YtpldoffjclmacaaDoorRows
import GoSem.ClaimSeven
namespace Go.Proofs.YtpldoffjclmacaaDoor
namespace Rows

/-- THE TIED CARD OF 'laws.FnScriptOk'. -/
def fnScriptOkCard : Claim7 := { stood := { row := fnScriptOkRow, standIns := [], harness := (true, "6e2f67af9938b37e119bf44c8f848d327ecf294c7a26371e097341461b8419ce"), looks := false }, kinds := [], alts := [], laidByText := true, laidKinds := [.data, .data, .data, .data], laidTests := true, laidLooks := .later }
def FnScriptOkCardSaid : Prop := Claim7.holds Tryd.pinned (.plain (OpenSpec.ofChange fnScriptOkSpec)) fnScriptOkCard

/-- THE TIED CARD OF 'laws.FnExactScriptText'. -/
def fnExactScriptTextCard : Claim7 := { stood := { row := fnExactScriptTextRow, standIns := [], harness := (true, "6e2f67af9938b37e119bf44c8f848d327ecf294c7a26371e097341461b8419ce"), looks := false }, kinds := [], alts := [], laidByText := true, laidKinds := [.data, .data, .data, .data], laidTests := true, laidLooks := .later }
def FnExactScriptTextCardSaid : Prop := Claim7.holds Tryd.pinned (.plain (OpenSpec.ofChange fnExactScriptTextSpec)) fnExactScriptTextCard

/-- THE SECOND FORM's CARD OF 'laws.FnScriptOk'. -/
def fnScriptOkUptoCard : Claim7 := { stood := { row := fnScriptOkUptoRow, standIns := [], harness := (true, "6e2f67af9938b37e119bf44c8f848d327ecf294c7a26371e097341461b8419ce"), looks := false }, kinds := [], alts := [], laidByText := true, laidKinds := [.data, .data, .data, .data], laidTests := true, laidLooks := .later }
def FnScriptOkUptoCardSaid : Prop := Claim7.holds Tryd.pinned (.plain (OpenSpec.upto fnScriptOkSpec)) fnScriptOkUptoCard

/-- THE SECOND FORM's CARD OF 'laws.FnExactScriptText'. -/
def fnExactScriptTextUptoCard : Claim7 := { stood := { row := fnExactScriptTextUptoRow, standIns := [], harness := (true, "6e2f67af9938b37e119bf44c8f848d327ecf294c7a26371e097341461b8419ce"), looks := false }, kinds := [], alts := [], laidByText := true, laidKinds := [.data, .data, .data, .data], laidTests := true, laidLooks := .later }
def FnExactScriptTextUptoCardSaid : Prop := Claim7.holds Tryd.pinned (.plain (OpenSpec.upto fnExactScriptTextSpec)) fnExactScriptTextUptoCard
end Rows
end Go.Proofs.YtpldoffjclmacaaDoor
