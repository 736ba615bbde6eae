/-
  No cell of these rows narrows 'for every input' (looked for: loops, veiled, ifaces, maps, wideKeys, modest, calm, conditions, laid).
  DERIVED. THE GIVEN ROWS OF THIS SEAT. 4 by the template 'for every input the law returns true; each argument reads behind the call as it read before'; 0 by the template 'total and deterministic' (their statements: YtabihimhenhnnaaTotals.lean).
  GIVEN WITH THE SEED: the statements are not yours to turn. If you find one false, say at which input.
  Laid BY PROGRAM, IN A SANDBOX (cutbox-rows.mjs): the forced cells as the released guide's own fill.sh prints them over the translation e3ecde595d0d157f… (all of the seat's roots in one cut). By AI agents, Wed Nov 11 2026. No macro, syntax, notation, axiom, sorry.
-/
import Derived.Test.YtabihimhenhnnaaChecked
import GoSem.Claim
import GoSem.ClaimJoined
import GoSem.ClaimMapViews
import Derived.JoinedTies
import Derived.KernelRfl
namespace Go.Proofs.Ytabihimhenhnnaa
/- THE CELL 'sum', in the pinned program and in every row, IS THE sha256 OF THE DUMP (.gsa) THAT YtabihimhenhnnaaProg.lean LOADS. Nothing in Lean hashes anything: it is a label: what it is worth is what the hold of that sum in a sandbox is worth. -/
noncomputable def Try.pinned : Pinned := { name := "ytabihimhenhnnaa", sum := "e3ecde595d0d157fc5452f815b032cc184717d84ec58209426ff87134869a553", checked := Try.checked }
namespace Rows
def none {H : Type} : Left H := { results := [], args := [] }

/-- 'laws.FnSharedKey': WHATEVER THE INPUT: true; the input reads as it did. -/
def fnSharedKeySpec : ChangeSpec := { name := "fnSharedKey", fn := fun _ => fun
  | [d] => { results := [.lit (.bool true)], args := [d] }
  | _ => none }
def fnSharedKeyRow : OpenClaim := { program := "ytabihimhenhnnaa", sum := "e3ecde595d0d157fc5452f815b032cc184717d84ec58209426ff87134869a553", func := "loop.example/workchain/laws.FnSharedKey", spec := "fnSharedKey", unfollowed := true, recurses := true, apart := false }
def FnSharedKeySaid : Prop := fnSharedKeyRow.holds Try.pinned (OpenSpec.ofChange fnSharedKeySpec)

/-- ITS FALSE NEIGHBOUR: 'it returns false'. Refute it at one input. -/
def fnSharedKeyWrong : ChangeSpec := { name := "fnSharedKey", fn := fun _ => fun
  | [d] => { results := [.lit (.bool false)], args := [d] }
  | _ => none }
def FnSharedKeyWrongFalsely : Prop := fnSharedKeyRow.holds Try.pinned (OpenSpec.ofChange fnSharedKeyWrong)

/-- 'laws.FnSharedSign': WHATEVER THE INPUT: true; the input reads as it did. -/
def fnSharedSignSpec : ChangeSpec := { name := "fnSharedSign", fn := fun _ => fun
  | [d] => { results := [.lit (.bool true)], args := [d] }
  | _ => none }
def fnSharedSignRow : OpenClaim := { program := "ytabihimhenhnnaa", sum := "e3ecde595d0d157fc5452f815b032cc184717d84ec58209426ff87134869a553", func := "loop.example/workchain/laws.FnSharedSign", spec := "fnSharedSign", unfollowed := true, recurses := true, apart := false }
def FnSharedSignSaid : Prop := fnSharedSignRow.holds Try.pinned (OpenSpec.ofChange fnSharedSignSpec)

/-- ITS FALSE NEIGHBOUR: 'it returns false'. Refute it at one input. -/
def fnSharedSignWrong : ChangeSpec := { name := "fnSharedSign", fn := fun _ => fun
  | [d] => { results := [.lit (.bool false)], args := [d] }
  | _ => none }
def FnSharedSignWrongFalsely : Prop := fnSharedSignRow.holds Try.pinned (OpenSpec.ofChange fnSharedSignWrong)

/-- 'laws.FnExactSharedKey': WHATEVER THE INPUT: true; the input reads as it did. -/
def fnExactSharedKeySpec : ChangeSpec := { name := "fnExactSharedKey", fn := fun _ => fun
  | [d] => { results := [.lit (.bool true)], args := [d] }
  | _ => none }
def fnExactSharedKeyRow : OpenClaim := { program := "ytabihimhenhnnaa", sum := "e3ecde595d0d157fc5452f815b032cc184717d84ec58209426ff87134869a553", func := "loop.example/workchain/laws.FnExactSharedKey", spec := "fnExactSharedKey", unfollowed := true, recurses := true, apart := false }
def FnExactSharedKeySaid : Prop := fnExactSharedKeyRow.holds Try.pinned (OpenSpec.ofChange fnExactSharedKeySpec)

/-- ITS FALSE NEIGHBOUR: 'it returns false'. Refute it at one input. -/
def fnExactSharedKeyWrong : ChangeSpec := { name := "fnExactSharedKey", fn := fun _ => fun
  | [d] => { results := [.lit (.bool false)], args := [d] }
  | _ => none }
def FnExactSharedKeyWrongFalsely : Prop := fnExactSharedKeyRow.holds Try.pinned (OpenSpec.ofChange fnExactSharedKeyWrong)

/-- 'laws.FnExactSharedSign': WHATEVER THE INPUT: true; the input reads as it did. -/
def fnExactSharedSignSpec : ChangeSpec := { name := "fnExactSharedSign", fn := fun _ => fun
  | [d1, d2] => { results := [.lit (.bool true)], args := [d1, d2] }
  | _ => none }
def fnExactSharedSignRow : OpenClaim := { program := "ytabihimhenhnnaa", sum := "e3ecde595d0d157fc5452f815b032cc184717d84ec58209426ff87134869a553", func := "loop.example/workchain/laws.FnExactSharedSign", spec := "fnExactSharedSign", unfollowed := true, recurses := true, apart := false }
def FnExactSharedSignSaid : Prop := fnExactSharedSignRow.holds Try.pinned (OpenSpec.ofChange fnExactSharedSignSpec)

/-- ITS FALSE NEIGHBOUR: 'it returns false'. Refute it at one input. -/
def fnExactSharedSignWrong : ChangeSpec := { name := "fnExactSharedSign", fn := fun _ => fun
  | [d1, d2] => { results := [.lit (.bool false)], args := [d1, d2] }
  | _ => none }
def FnExactSharedSignWrongFalsely : Prop := fnExactSharedSignRow.holds Try.pinned (OpenSpec.ofChange fnExactSharedSignWrong)

/- THE SECOND FORM. 'bulk': how many values and letters a reading holds, each counted each time it is reached (what is shared counts as often as it is met; a slice's spare places count too). A statement '..UptoSaid' is the law's where the arguments, and the package variables that the reading takes, are together of bulk at most 1048576: NARROWER than '..Said'. Prove '..Said' where nothing that the law and all that it calls make is longer than what came in: it says more and counts as full. Else prove '..UptoSaid'. A law counts once. -/
mutual
def uptoBulk {H : Type} : DataW H → Nat
  | .lit (.string bytes) => bytes.length + 1
  | .lit _ => 1
  | .nil => 1
  | .ptr d => uptoBulk d + 1
  | .slice elems spare => uptoBulkAll elems + uptoBulkAll spare + 1
  | .agg parts => uptoBulkAll parts + 1
  | .iface _ d => uptoBulk d + 1
  | .map entries => uptoBulkEntries entries + 1
  | .held _ => 1
def uptoBulkAll {H : Type} : List (DataW H) → Nat
  | [] => 0
  | d :: r => uptoBulk d + uptoBulkAll r
def uptoBulkEntries {H : Type} : List (Lit × DataW H) → Nat
  | [] => 0
  | x :: r => uptoBulkEntry x + uptoBulkEntries r
def uptoBulkEntry {H : Type} : Lit × DataW H → Nat
  | (.string bytes, d) => bytes.length + uptoBulk d + 1
  | (_, d) => uptoBulk d + 1
 end
def uptoSmall : (H : Type) → List (DataW H) → Bool := fun _ ds => decide (uptoBulkAll ds ≤ 1048576)
def OpenSpec.upto (s : _root_.Go.ChangeSpec) : _root_.Go.OpenSpec := { _root_.Go.OpenSpec.ofChange s with cond := some uptoSmall }

/-- 'laws.FnSharedKey', WHERE WHAT IT READS IS OF BULK AT MOST 1048576: true; the input reads as it did. -/
def fnSharedKeyUptoRow : OpenClaim := { program := "ytabihimhenhnnaa", sum := "e3ecde595d0d157fc5452f815b032cc184717d84ec58209426ff87134869a553", func := "loop.example/workchain/laws.FnSharedKey", spec := "fnSharedKey", unfollowed := true, recurses := true, apart := false, narrowed := true }
def FnSharedKeyUptoSaid : Prop := fnSharedKeyUptoRow.holds Try.pinned (OpenSpec.upto fnSharedKeySpec)

/-- 'laws.FnSharedSign', WHERE WHAT IT READS IS OF BULK AT MOST 1048576: true; the input reads as it did. -/
def fnSharedSignUptoRow : OpenClaim := { program := "ytabihimhenhnnaa", sum := "e3ecde595d0d157fc5452f815b032cc184717d84ec58209426ff87134869a553", func := "loop.example/workchain/laws.FnSharedSign", spec := "fnSharedSign", unfollowed := true, recurses := true, apart := false, narrowed := true }
def FnSharedSignUptoSaid : Prop := fnSharedSignUptoRow.holds Try.pinned (OpenSpec.upto fnSharedSignSpec)

/-- 'laws.FnExactSharedKey', WHERE WHAT IT READS IS OF BULK AT MOST 1048576: true; the input reads as it did. -/
def fnExactSharedKeyUptoRow : OpenClaim := { program := "ytabihimhenhnnaa", sum := "e3ecde595d0d157fc5452f815b032cc184717d84ec58209426ff87134869a553", func := "loop.example/workchain/laws.FnExactSharedKey", spec := "fnExactSharedKey", unfollowed := true, recurses := true, apart := false, narrowed := true }
def FnExactSharedKeyUptoSaid : Prop := fnExactSharedKeyUptoRow.holds Try.pinned (OpenSpec.upto fnExactSharedKeySpec)

/-- 'laws.FnExactSharedSign', WHERE WHAT IT READS IS OF BULK AT MOST 1048576: true; the input reads as it did. -/
def fnExactSharedSignUptoRow : OpenClaim := { program := "ytabihimhenhnnaa", sum := "e3ecde595d0d157fc5452f815b032cc184717d84ec58209426ff87134869a553", func := "loop.example/workchain/laws.FnExactSharedSign", spec := "fnExactSharedSign", unfollowed := true, recurses := true, apart := false, narrowed := true }
def FnExactSharedSignUptoSaid : Prop := fnExactSharedSignUptoRow.holds Try.pinned (OpenSpec.upto fnExactSharedSignSpec)

end Rows
end Go.Proofs.Ytabihimhenhnnaa
