/-
  No cell of these rows narrows 'for every input' (looked for: loops, veiled, ifaces, maps, wideKeys, modest, calm, conditions, laid).
  DERIVED. THE GIVEN ROWS OF THIS SEAT. 7 by the template 'for every input the law returns true; each argument reads behind the call as it read before'; 0 by the template 'total and deterministic' (their statements: YtedjbikphdflhabTotals.lean).
  GIVEN WITH THE SEED: the statements are not yours to turn. If you find one false, say at which input.
  Laid BY PROGRAM, IN A SANDBOX (cutbox-rows.mjs): the forced cells as the released guide's own fill.sh prints them over the translation cb14cdb9e2b981ca… (all of the seat's roots in one cut). By AI agents, Wed Nov 11 2026. No macro, syntax, notation, axiom, sorry.
-/
import Derived.Test.YtedjbikphdflhabChecked
import GoSem.Claim
import GoSem.ClaimJoined
import GoSem.ClaimMapViews
import Derived.JoinedTies
import Derived.KernelRfl
namespace Go.Proofs.Ytedjbikphdflhab
/- THE CELL 'sum', in the pinned program and in every row, IS THE sha256 OF THE DUMP (.gsa) THAT YtedjbikphdflhabProg.lean LOADS. Nothing in Lean hashes anything: it is a label: what it is worth is what the hold of that sum in a sandbox is worth. -/
noncomputable def Try.pinned : Pinned := { name := "ytedjbikphdflhab", sum := "cb14cdb9e2b981cab9238f96be7bcc9940f76bf59a58249e83498513f6685de7", checked := Try.checked }
namespace Rows
def none {H : Type} : Left H := { results := [], args := [] }

/-- 'laws.FnExactTxOk': WHATEVER THE INPUT: true; the input reads as it did. -/
def fnExactTxOkSpec : ChangeSpec := { name := "fnExactTxOk", fn := fun _ => fun
  | [d] => { results := [.lit (.bool true)], args := [d] }
  | _ => none }
def fnExactTxOkRow : OpenClaim := { program := "ytedjbikphdflhab", sum := "cb14cdb9e2b981cab9238f96be7bcc9940f76bf59a58249e83498513f6685de7", func := "loop.example/workchain/laws.FnExactTxOk", spec := "fnExactTxOk", inPlace := ["internal/abi.NoEscape"], unfollowed := true, recurses := true, apart := false }
def FnExactTxOkSaid : Prop := fnExactTxOkRow.holds Try.pinned (OpenSpec.ofChange fnExactTxOkSpec)

/-- ITS FALSE NEIGHBOUR: 'it returns false'. Refute it at one input. -/
def fnExactTxOkWrong : ChangeSpec := { name := "fnExactTxOk", fn := fun _ => fun
  | [d] => { results := [.lit (.bool false)], args := [d] }
  | _ => none }
def FnExactTxOkWrongFalsely : Prop := fnExactTxOkRow.holds Try.pinned (OpenSpec.ofChange fnExactTxOkWrong)

/-- 'laws.FnExactTxBytes': WHATEVER THE INPUT: true; the input reads as it did. -/
def fnExactTxBytesSpec : ChangeSpec := { name := "fnExactTxBytes", fn := fun _ => fun
  | [d] => { results := [.lit (.bool true)], args := [d] }
  | _ => none }
def fnExactTxBytesRow : OpenClaim := { program := "ytedjbikphdflhab", sum := "cb14cdb9e2b981cab9238f96be7bcc9940f76bf59a58249e83498513f6685de7", func := "loop.example/workchain/laws.FnExactTxBytes", spec := "fnExactTxBytes", inPlace := ["internal/abi.NoEscape"], unfollowed := true, recurses := true, apart := false }
def FnExactTxBytesSaid : Prop := fnExactTxBytesRow.holds Try.pinned (OpenSpec.ofChange fnExactTxBytesSpec)

/-- ITS FALSE NEIGHBOUR: 'it returns false'. Refute it at one input. -/
def fnExactTxBytesWrong : ChangeSpec := { name := "fnExactTxBytes", fn := fun _ => fun
  | [d] => { results := [.lit (.bool false)], args := [d] }
  | _ => none }
def FnExactTxBytesWrongFalsely : Prop := fnExactTxBytesRow.holds Try.pinned (OpenSpec.ofChange fnExactTxBytesWrong)

/-- 'laws.FnExactTxRead': WHATEVER THE INPUT: true; the input reads as it did. -/
def fnExactTxReadSpec : ChangeSpec := { name := "fnExactTxRead", fn := fun _ => fun
  | [d] => { results := [.lit (.bool true)], args := [d] }
  | _ => none }
def fnExactTxReadRow : OpenClaim := { program := "ytedjbikphdflhab", sum := "cb14cdb9e2b981cab9238f96be7bcc9940f76bf59a58249e83498513f6685de7", func := "loop.example/workchain/laws.FnExactTxRead", spec := "fnExactTxRead", inPlace := ["internal/abi.NoEscape"], unfollowed := true, recurses := true, apart := false }
def FnExactTxReadSaid : Prop := fnExactTxReadRow.holds Try.pinned (OpenSpec.ofChange fnExactTxReadSpec)

/-- ITS FALSE NEIGHBOUR: 'it returns false'. Refute it at one input. -/
def fnExactTxReadWrong : ChangeSpec := { name := "fnExactTxRead", fn := fun _ => fun
  | [d] => { results := [.lit (.bool false)], args := [d] }
  | _ => none }
def FnExactTxReadWrongFalsely : Prop := fnExactTxReadRow.holds Try.pinned (OpenSpec.ofChange fnExactTxReadWrong)

/-- 'laws.FnExactTxCore': WHATEVER THE INPUT: true; the input reads as it did. -/
def fnExactTxCoreSpec : ChangeSpec := { name := "fnExactTxCore", fn := fun _ => fun
  | [d] => { results := [.lit (.bool true)], args := [d] }
  | _ => none }
def fnExactTxCoreRow : OpenClaim := { program := "ytedjbikphdflhab", sum := "cb14cdb9e2b981cab9238f96be7bcc9940f76bf59a58249e83498513f6685de7", func := "loop.example/workchain/laws.FnExactTxCore", spec := "fnExactTxCore", inPlace := ["internal/abi.NoEscape"], unfollowed := true, recurses := true, apart := false }
def FnExactTxCoreSaid : Prop := fnExactTxCoreRow.holds Try.pinned (OpenSpec.ofChange fnExactTxCoreSpec)

/-- ITS FALSE NEIGHBOUR: 'it returns false'. Refute it at one input. -/
def fnExactTxCoreWrong : ChangeSpec := { name := "fnExactTxCore", fn := fun _ => fun
  | [d] => { results := [.lit (.bool false)], args := [d] }
  | _ => none }
def FnExactTxCoreWrongFalsely : Prop := fnExactTxCoreRow.holds Try.pinned (OpenSpec.ofChange fnExactTxCoreWrong)

/-- 'laws.FnExactTxId': WHATEVER THE INPUT: true; the input reads as it did. -/
def fnExactTxIdSpec : ChangeSpec := { name := "fnExactTxId", fn := fun _ => fun
  | [d] => { results := [.lit (.bool true)], args := [d] }
  | _ => none }
def fnExactTxIdRow : OpenClaim := { program := "ytedjbikphdflhab", sum := "cb14cdb9e2b981cab9238f96be7bcc9940f76bf59a58249e83498513f6685de7", func := "loop.example/workchain/laws.FnExactTxId", spec := "fnExactTxId", inPlace := ["internal/abi.NoEscape"], unfollowed := true, recurses := true, apart := false }
def FnExactTxIdSaid : Prop := fnExactTxIdRow.holds Try.pinned (OpenSpec.ofChange fnExactTxIdSpec)

/-- ITS FALSE NEIGHBOUR: 'it returns false'. Refute it at one input. -/
def fnExactTxIdWrong : ChangeSpec := { name := "fnExactTxId", fn := fun _ => fun
  | [d] => { results := [.lit (.bool false)], args := [d] }
  | _ => none }
def FnExactTxIdWrongFalsely : Prop := fnExactTxIdRow.holds Try.pinned (OpenSpec.ofChange fnExactTxIdWrong)

/-- 'laws.FnExactSignText': WHATEVER THE INPUT: true; the input reads as it did. -/
def fnExactSignTextSpec : ChangeSpec := { name := "fnExactSignText", fn := fun _ => fun
  | [d1, d2, d3, d4] => { results := [.lit (.bool true)], args := [d1, d2, d3, d4] }
  | _ => none }
def fnExactSignTextRow : OpenClaim := { program := "ytedjbikphdflhab", sum := "cb14cdb9e2b981cab9238f96be7bcc9940f76bf59a58249e83498513f6685de7", func := "loop.example/workchain/laws.FnExactSignText", spec := "fnExactSignText", inPlace := ["internal/abi.NoEscape"], unfollowed := true, recurses := true, apart := false }
def FnExactSignTextSaid : Prop := fnExactSignTextRow.holds Try.pinned (OpenSpec.ofChange fnExactSignTextSpec)

/-- ITS FALSE NEIGHBOUR: 'it returns false'. Refute it at one input. -/
def fnExactSignTextWrong : ChangeSpec := { name := "fnExactSignText", fn := fun _ => fun
  | [d1, d2, d3, d4] => { results := [.lit (.bool false)], args := [d1, d2, d3, d4] }
  | _ => none }
def FnExactSignTextWrongFalsely : Prop := fnExactSignTextRow.holds Try.pinned (OpenSpec.ofChange fnExactSignTextWrong)

/-- 'laws.FnExactWithWitness': WHATEVER THE INPUT: true; the input reads as it did. -/
def fnExactWithWitnessSpec : ChangeSpec := { name := "fnExactWithWitness", fn := fun _ => fun
  | [d1, d2, d3] => { results := [.lit (.bool true)], args := [d1, d2, d3] }
  | _ => none }
def fnExactWithWitnessRow : OpenClaim := { program := "ytedjbikphdflhab", sum := "cb14cdb9e2b981cab9238f96be7bcc9940f76bf59a58249e83498513f6685de7", func := "loop.example/workchain/laws.FnExactWithWitness", spec := "fnExactWithWitness", inPlace := ["internal/abi.NoEscape"], unfollowed := true, recurses := true, apart := false }
def FnExactWithWitnessSaid : Prop := fnExactWithWitnessRow.holds Try.pinned (OpenSpec.ofChange fnExactWithWitnessSpec)

/-- ITS FALSE NEIGHBOUR: 'it returns false'. Refute it at one input. -/
def fnExactWithWitnessWrong : ChangeSpec := { name := "fnExactWithWitness", fn := fun _ => fun
  | [d1, d2, d3] => { results := [.lit (.bool false)], args := [d1, d2, d3] }
  | _ => none }
def FnExactWithWitnessWrongFalsely : Prop := fnExactWithWitnessRow.holds Try.pinned (OpenSpec.ofChange fnExactWithWitnessWrong)

/- THE SECOND FORM. 'bulk': how many values and letters a reading holds, each counted each time it is reached (what is shared counts as often as it is met; a slice's spare places count too). A statement '..UptoSaid' is the law's where the arguments, and the package variables that the reading takes, are together of bulk at most 1048576: NARROWER than '..Said'. Prove '..Said' where nothing that the law and all that it calls make is longer than what came in: it says more and counts as full. Else prove '..UptoSaid'. A law counts once. -/
mutual
def uptoBulk {H : Type} : DataW H → Nat
  | .lit (.string bytes) => bytes.length + 1
  | .lit _ => 1
  | .nil => 1
  | .ptr d => uptoBulk d + 1
  | .slice elems spare => uptoBulkAll elems + uptoBulkAll spare + 1
  | .agg parts => uptoBulkAll parts + 1
  | .iface _ d => uptoBulk d + 1
  | .map entries => uptoBulkEntries entries + 1
  | .held _ => 1
def uptoBulkAll {H : Type} : List (DataW H) → Nat
  | [] => 0
  | d :: r => uptoBulk d + uptoBulkAll r
def uptoBulkEntries {H : Type} : List (Lit × DataW H) → Nat
  | [] => 0
  | x :: r => uptoBulkEntry x + uptoBulkEntries r
def uptoBulkEntry {H : Type} : Lit × DataW H → Nat
  | (.string bytes, d) => bytes.length + uptoBulk d + 1
  | (_, d) => uptoBulk d + 1
 end
def uptoSmall : (H : Type) → List (DataW H) → Bool := fun _ ds => decide (uptoBulkAll ds ≤ 1048576)
def OpenSpec.upto (s : _root_.Go.ChangeSpec) : _root_.Go.OpenSpec := { _root_.Go.OpenSpec.ofChange s with cond := some uptoSmall }

/-- 'laws.FnExactTxOk', WHERE WHAT IT READS IS OF BULK AT MOST 1048576: true; the input reads as it did. -/
def fnExactTxOkUptoRow : OpenClaim := { program := "ytedjbikphdflhab", sum := "cb14cdb9e2b981cab9238f96be7bcc9940f76bf59a58249e83498513f6685de7", func := "loop.example/workchain/laws.FnExactTxOk", spec := "fnExactTxOk", inPlace := ["internal/abi.NoEscape"], unfollowed := true, recurses := true, apart := false, narrowed := true }
def FnExactTxOkUptoSaid : Prop := fnExactTxOkUptoRow.holds Try.pinned (OpenSpec.upto fnExactTxOkSpec)

/-- 'laws.FnExactTxBytes', WHERE WHAT IT READS IS OF BULK AT MOST 1048576: true; the input reads as it did. -/
def fnExactTxBytesUptoRow : OpenClaim := { program := "ytedjbikphdflhab", sum := "cb14cdb9e2b981cab9238f96be7bcc9940f76bf59a58249e83498513f6685de7", func := "loop.example/workchain/laws.FnExactTxBytes", spec := "fnExactTxBytes", inPlace := ["internal/abi.NoEscape"], unfollowed := true, recurses := true, apart := false, narrowed := true }
def FnExactTxBytesUptoSaid : Prop := fnExactTxBytesUptoRow.holds Try.pinned (OpenSpec.upto fnExactTxBytesSpec)

/-- 'laws.FnExactTxRead', WHERE WHAT IT READS IS OF BULK AT MOST 1048576: true; the input reads as it did. -/
def fnExactTxReadUptoRow : OpenClaim := { program := "ytedjbikphdflhab", sum := "cb14cdb9e2b981cab9238f96be7bcc9940f76bf59a58249e83498513f6685de7", func := "loop.example/workchain/laws.FnExactTxRead", spec := "fnExactTxRead", inPlace := ["internal/abi.NoEscape"], unfollowed := true, recurses := true, apart := false, narrowed := true }
def FnExactTxReadUptoSaid : Prop := fnExactTxReadUptoRow.holds Try.pinned (OpenSpec.upto fnExactTxReadSpec)

/-- 'laws.FnExactTxCore', WHERE WHAT IT READS IS OF BULK AT MOST 1048576: true; the input reads as it did. -/
def fnExactTxCoreUptoRow : OpenClaim := { program := "ytedjbikphdflhab", sum := "cb14cdb9e2b981cab9238f96be7bcc9940f76bf59a58249e83498513f6685de7", func := "loop.example/workchain/laws.FnExactTxCore", spec := "fnExactTxCore", inPlace := ["internal/abi.NoEscape"], unfollowed := true, recurses := true, apart := false, narrowed := true }
def FnExactTxCoreUptoSaid : Prop := fnExactTxCoreUptoRow.holds Try.pinned (OpenSpec.upto fnExactTxCoreSpec)

/-- 'laws.FnExactTxId', WHERE WHAT IT READS IS OF BULK AT MOST 1048576: true; the input reads as it did. -/
def fnExactTxIdUptoRow : OpenClaim := { program := "ytedjbikphdflhab", sum := "cb14cdb9e2b981cab9238f96be7bcc9940f76bf59a58249e83498513f6685de7", func := "loop.example/workchain/laws.FnExactTxId", spec := "fnExactTxId", inPlace := ["internal/abi.NoEscape"], unfollowed := true, recurses := true, apart := false, narrowed := true }
def FnExactTxIdUptoSaid : Prop := fnExactTxIdUptoRow.holds Try.pinned (OpenSpec.upto fnExactTxIdSpec)

/-- 'laws.FnExactSignText', WHERE WHAT IT READS IS OF BULK AT MOST 1048576: true; the input reads as it did. -/
def fnExactSignTextUptoRow : OpenClaim := { program := "ytedjbikphdflhab", sum := "cb14cdb9e2b981cab9238f96be7bcc9940f76bf59a58249e83498513f6685de7", func := "loop.example/workchain/laws.FnExactSignText", spec := "fnExactSignText", inPlace := ["internal/abi.NoEscape"], unfollowed := true, recurses := true, apart := false, narrowed := true }
def FnExactSignTextUptoSaid : Prop := fnExactSignTextUptoRow.holds Try.pinned (OpenSpec.upto fnExactSignTextSpec)

/-- 'laws.FnExactWithWitness', WHERE WHAT IT READS IS OF BULK AT MOST 1048576: true; the input reads as it did. -/
def fnExactWithWitnessUptoRow : OpenClaim := { program := "ytedjbikphdflhab", sum := "cb14cdb9e2b981cab9238f96be7bcc9940f76bf59a58249e83498513f6685de7", func := "loop.example/workchain/laws.FnExactWithWitness", spec := "fnExactWithWitness", inPlace := ["internal/abi.NoEscape"], unfollowed := true, recurses := true, apart := false, narrowed := true }
def FnExactWithWitnessUptoSaid : Prop := fnExactWithWitnessUptoRow.holds Try.pinned (OpenSpec.upto fnExactWithWitnessSpec)

end Rows
end Go.Proofs.Ytedjbikphdflhab
