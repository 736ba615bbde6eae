/-
  No cell of these rows narrows 'for every input' (looked for: loops, veiled, ifaces, maps, wideKeys, modest, calm, conditions, laid).
  DERIVED. THE GIVEN ROWS OF THIS SEAT. 6 by the template 'for every input the law returns true; each argument reads behind the call as it read before'; 0 by the template 'total and deterministic' (their statements: YtcbpdibkindnfaaTotals.lean).
  GIVEN WITH THE SEED: the statements are not yours to turn. If you find one false, say at which input.
  Laid BY PROGRAM, IN A SANDBOX (cutbox-rows.mjs): the forced cells as the released guide's own fill.sh prints them over the translation 8722c587cdca4bfd… (all of the seat's roots in one cut). By AI agents, Wed Nov 11 2026. No macro, syntax, notation, axiom, sorry.
-/
import Derived.Test.YtcbpdibkindnfaaChecked
import GoSem.Claim
import GoSem.ClaimJoined
import GoSem.ClaimMapViews
import Derived.JoinedTies
import Derived.KernelRfl
namespace Go.Proofs.Ytcbpdibkindnfaa
/- THE CELL 'sum', in the pinned program and in every row, IS THE sha256 OF THE DUMP (.gsa) THAT YtcbpdibkindnfaaProg.lean LOADS. Nothing in Lean hashes anything: it is a label: what it is worth is what the hold of that sum in a sandbox is worth. -/
noncomputable def Try.pinned : Pinned := { name := "ytcbpdibkindnfaa", sum := "8722c587cdca4bfdcb3fadfa5a2379c18b5778a883e1c55b8abfa801414fb70c", checked := Try.checked }
namespace Rows
def none {H : Type} : Left H := { results := [], args := [] }

/-- 'laws.FnTxOk': WHATEVER THE INPUT: true; the input reads as it did. -/
def fnTxOkSpec : ChangeSpec := { name := "fnTxOk", fn := fun _ => fun
  | [d] => { results := [.lit (.bool true)], args := [d] }
  | _ => none }
def fnTxOkRow : OpenClaim := { program := "ytcbpdibkindnfaa", sum := "8722c587cdca4bfdcb3fadfa5a2379c18b5778a883e1c55b8abfa801414fb70c", func := "loop.example/workchain/laws.FnTxOk", spec := "fnTxOk", inPlace := ["internal/abi.NoEscape"], unfollowed := true, recurses := true, apart := false }
def FnTxOkSaid : Prop := fnTxOkRow.holds Try.pinned (OpenSpec.ofChange fnTxOkSpec)

/-- ITS FALSE NEIGHBOUR: 'it returns false'. Refute it at one input. -/
def fnTxOkWrong : ChangeSpec := { name := "fnTxOk", fn := fun _ => fun
  | [d] => { results := [.lit (.bool false)], args := [d] }
  | _ => none }
def FnTxOkWrongFalsely : Prop := fnTxOkRow.holds Try.pinned (OpenSpec.ofChange fnTxOkWrong)

/-- 'laws.FnTxCore': WHATEVER THE INPUT: true; the input reads as it did. -/
def fnTxCoreSpec : ChangeSpec := { name := "fnTxCore", fn := fun _ => fun
  | [d] => { results := [.lit (.bool true)], args := [d] }
  | _ => none }
def fnTxCoreRow : OpenClaim := { program := "ytcbpdibkindnfaa", sum := "8722c587cdca4bfdcb3fadfa5a2379c18b5778a883e1c55b8abfa801414fb70c", func := "loop.example/workchain/laws.FnTxCore", spec := "fnTxCore", inPlace := ["internal/abi.NoEscape"], unfollowed := true, recurses := true, apart := false }
def FnTxCoreSaid : Prop := fnTxCoreRow.holds Try.pinned (OpenSpec.ofChange fnTxCoreSpec)

/-- ITS FALSE NEIGHBOUR: 'it returns false'. Refute it at one input. -/
def fnTxCoreWrong : ChangeSpec := { name := "fnTxCore", fn := fun _ => fun
  | [d] => { results := [.lit (.bool false)], args := [d] }
  | _ => none }
def FnTxCoreWrongFalsely : Prop := fnTxCoreRow.holds Try.pinned (OpenSpec.ofChange fnTxCoreWrong)

/-- 'laws.FnTxId': WHATEVER THE INPUT: true; the input reads as it did. -/
def fnTxIdSpec : ChangeSpec := { name := "fnTxId", fn := fun _ => fun
  | [d] => { results := [.lit (.bool true)], args := [d] }
  | _ => none }
def fnTxIdRow : OpenClaim := { program := "ytcbpdibkindnfaa", sum := "8722c587cdca4bfdcb3fadfa5a2379c18b5778a883e1c55b8abfa801414fb70c", func := "loop.example/workchain/laws.FnTxId", spec := "fnTxId", inPlace := ["internal/abi.NoEscape"], unfollowed := true, recurses := true, apart := false }
def FnTxIdSaid : Prop := fnTxIdRow.holds Try.pinned (OpenSpec.ofChange fnTxIdSpec)

/-- ITS FALSE NEIGHBOUR: 'it returns false'. Refute it at one input. -/
def fnTxIdWrong : ChangeSpec := { name := "fnTxId", fn := fun _ => fun
  | [d] => { results := [.lit (.bool false)], args := [d] }
  | _ => none }
def FnTxIdWrongFalsely : Prop := fnTxIdRow.holds Try.pinned (OpenSpec.ofChange fnTxIdWrong)

/-- 'laws.FnSignText': WHATEVER THE INPUT: true; the input reads as it did. -/
def fnSignTextSpec : ChangeSpec := { name := "fnSignText", fn := fun _ => fun
  | [d] => { results := [.lit (.bool true)], args := [d] }
  | _ => none }
def fnSignTextRow : OpenClaim := { program := "ytcbpdibkindnfaa", sum := "8722c587cdca4bfdcb3fadfa5a2379c18b5778a883e1c55b8abfa801414fb70c", func := "loop.example/workchain/laws.FnSignText", spec := "fnSignText", inPlace := ["internal/abi.NoEscape"], unfollowed := true, recurses := true, apart := false }
def FnSignTextSaid : Prop := fnSignTextRow.holds Try.pinned (OpenSpec.ofChange fnSignTextSpec)

/-- ITS FALSE NEIGHBOUR: 'it returns false'. Refute it at one input. -/
def fnSignTextWrong : ChangeSpec := { name := "fnSignText", fn := fun _ => fun
  | [d] => { results := [.lit (.bool false)], args := [d] }
  | _ => none }
def FnSignTextWrongFalsely : Prop := fnSignTextRow.holds Try.pinned (OpenSpec.ofChange fnSignTextWrong)

/-- 'laws.FnWithWitness': WHATEVER THE INPUT: true; the input reads as it did. -/
def fnWithWitnessSpec : ChangeSpec := { name := "fnWithWitness", fn := fun _ => fun
  | [d] => { results := [.lit (.bool true)], args := [d] }
  | _ => none }
def fnWithWitnessRow : OpenClaim := { program := "ytcbpdibkindnfaa", sum := "8722c587cdca4bfdcb3fadfa5a2379c18b5778a883e1c55b8abfa801414fb70c", func := "loop.example/workchain/laws.FnWithWitness", spec := "fnWithWitness", inPlace := ["internal/abi.NoEscape"], unfollowed := true, recurses := true, apart := false }
def FnWithWitnessSaid : Prop := fnWithWitnessRow.holds Try.pinned (OpenSpec.ofChange fnWithWitnessSpec)

/-- ITS FALSE NEIGHBOUR: 'it returns false'. Refute it at one input. -/
def fnWithWitnessWrong : ChangeSpec := { name := "fnWithWitness", fn := fun _ => fun
  | [d] => { results := [.lit (.bool false)], args := [d] }
  | _ => none }
def FnWithWitnessWrongFalsely : Prop := fnWithWitnessRow.holds Try.pinned (OpenSpec.ofChange fnWithWitnessWrong)

/-- 'laws.FnCoreBinds': WHATEVER THE INPUT: true; the input reads as it did. -/
def fnCoreBindsSpec : ChangeSpec := { name := "fnCoreBinds", fn := fun _ => fun
  | [d1, d2] => { results := [.lit (.bool true)], args := [d1, d2] }
  | _ => none }
def fnCoreBindsRow : OpenClaim := { program := "ytcbpdibkindnfaa", sum := "8722c587cdca4bfdcb3fadfa5a2379c18b5778a883e1c55b8abfa801414fb70c", func := "loop.example/workchain/laws.FnCoreBinds", spec := "fnCoreBinds", inPlace := ["internal/abi.NoEscape"], unfollowed := true, recurses := true, apart := false }
def FnCoreBindsSaid : Prop := fnCoreBindsRow.holds Try.pinned (OpenSpec.ofChange fnCoreBindsSpec)

/-- ITS FALSE NEIGHBOUR: 'it returns false'. Refute it at one input. -/
def fnCoreBindsWrong : ChangeSpec := { name := "fnCoreBinds", fn := fun _ => fun
  | [d1, d2] => { results := [.lit (.bool false)], args := [d1, d2] }
  | _ => none }
def FnCoreBindsWrongFalsely : Prop := fnCoreBindsRow.holds Try.pinned (OpenSpec.ofChange fnCoreBindsWrong)

/- THE SECOND FORM. 'bulk': how many values and letters a reading holds, each counted each time it is reached (what is shared counts as often as it is met; a slice's spare places count too). A statement '..UptoSaid' is the law's where the arguments, and the package variables that the reading takes, are together of bulk at most 1048576: NARROWER than '..Said'. Prove '..Said' where nothing that the law and all that it calls make is longer than what came in: it says more and counts as full. Else prove '..UptoSaid'. A law counts once. -/
mutual
def uptoBulk {H : Type} : DataW H → Nat
  | .lit (.string bytes) => bytes.length + 1
  | .lit _ => 1
  | .nil => 1
  | .ptr d => uptoBulk d + 1
  | .slice elems spare => uptoBulkAll elems + uptoBulkAll spare + 1
  | .agg parts => uptoBulkAll parts + 1
  | .iface _ d => uptoBulk d + 1
  | .map entries => uptoBulkEntries entries + 1
  | .held _ => 1
def uptoBulkAll {H : Type} : List (DataW H) → Nat
  | [] => 0
  | d :: r => uptoBulk d + uptoBulkAll r
def uptoBulkEntries {H : Type} : List (Lit × DataW H) → Nat
  | [] => 0
  | x :: r => uptoBulkEntry x + uptoBulkEntries r
def uptoBulkEntry {H : Type} : Lit × DataW H → Nat
  | (.string bytes, d) => bytes.length + uptoBulk d + 1
  | (_, d) => uptoBulk d + 1
 end
def uptoSmall : (H : Type) → List (DataW H) → Bool := fun _ ds => decide (uptoBulkAll ds ≤ 1048576)
def OpenSpec.upto (s : _root_.Go.ChangeSpec) : _root_.Go.OpenSpec := { _root_.Go.OpenSpec.ofChange s with cond := some uptoSmall }

/-- 'laws.FnTxOk', WHERE WHAT IT READS IS OF BULK AT MOST 1048576: true; the input reads as it did. -/
def fnTxOkUptoRow : OpenClaim := { program := "ytcbpdibkindnfaa", sum := "8722c587cdca4bfdcb3fadfa5a2379c18b5778a883e1c55b8abfa801414fb70c", func := "loop.example/workchain/laws.FnTxOk", spec := "fnTxOk", inPlace := ["internal/abi.NoEscape"], unfollowed := true, recurses := true, apart := false, narrowed := true }
def FnTxOkUptoSaid : Prop := fnTxOkUptoRow.holds Try.pinned (OpenSpec.upto fnTxOkSpec)

/-- 'laws.FnTxCore', WHERE WHAT IT READS IS OF BULK AT MOST 1048576: true; the input reads as it did. -/
def fnTxCoreUptoRow : OpenClaim := { program := "ytcbpdibkindnfaa", sum := "8722c587cdca4bfdcb3fadfa5a2379c18b5778a883e1c55b8abfa801414fb70c", func := "loop.example/workchain/laws.FnTxCore", spec := "fnTxCore", inPlace := ["internal/abi.NoEscape"], unfollowed := true, recurses := true, apart := false, narrowed := true }
def FnTxCoreUptoSaid : Prop := fnTxCoreUptoRow.holds Try.pinned (OpenSpec.upto fnTxCoreSpec)

/-- 'laws.FnTxId', WHERE WHAT IT READS IS OF BULK AT MOST 1048576: true; the input reads as it did. -/
def fnTxIdUptoRow : OpenClaim := { program := "ytcbpdibkindnfaa", sum := "8722c587cdca4bfdcb3fadfa5a2379c18b5778a883e1c55b8abfa801414fb70c", func := "loop.example/workchain/laws.FnTxId", spec := "fnTxId", inPlace := ["internal/abi.NoEscape"], unfollowed := true, recurses := true, apart := false, narrowed := true }
def FnTxIdUptoSaid : Prop := fnTxIdUptoRow.holds Try.pinned (OpenSpec.upto fnTxIdSpec)

/-- 'laws.FnSignText', WHERE WHAT IT READS IS OF BULK AT MOST 1048576: true; the input reads as it did. -/
def fnSignTextUptoRow : OpenClaim := { program := "ytcbpdibkindnfaa", sum := "8722c587cdca4bfdcb3fadfa5a2379c18b5778a883e1c55b8abfa801414fb70c", func := "loop.example/workchain/laws.FnSignText", spec := "fnSignText", inPlace := ["internal/abi.NoEscape"], unfollowed := true, recurses := true, apart := false, narrowed := true }
def FnSignTextUptoSaid : Prop := fnSignTextUptoRow.holds Try.pinned (OpenSpec.upto fnSignTextSpec)

/-- 'laws.FnWithWitness', WHERE WHAT IT READS IS OF BULK AT MOST 1048576: true; the input reads as it did. -/
def fnWithWitnessUptoRow : OpenClaim := { program := "ytcbpdibkindnfaa", sum := "8722c587cdca4bfdcb3fadfa5a2379c18b5778a883e1c55b8abfa801414fb70c", func := "loop.example/workchain/laws.FnWithWitness", spec := "fnWithWitness", inPlace := ["internal/abi.NoEscape"], unfollowed := true, recurses := true, apart := false, narrowed := true }
def FnWithWitnessUptoSaid : Prop := fnWithWitnessUptoRow.holds Try.pinned (OpenSpec.upto fnWithWitnessSpec)

/-- 'laws.FnCoreBinds', WHERE WHAT IT READS IS OF BULK AT MOST 1048576: true; the input reads as it did. -/
def fnCoreBindsUptoRow : OpenClaim := { program := "ytcbpdibkindnfaa", sum := "8722c587cdca4bfdcb3fadfa5a2379c18b5778a883e1c55b8abfa801414fb70c", func := "loop.example/workchain/laws.FnCoreBinds", spec := "fnCoreBinds", inPlace := ["internal/abi.NoEscape"], unfollowed := true, recurses := true, apart := false, narrowed := true }
def FnCoreBindsUptoSaid : Prop := fnCoreBindsUptoRow.holds Try.pinned (OpenSpec.upto fnCoreBindsSpec)

end Rows
end Go.Proofs.Ytcbpdibkindnfaa
