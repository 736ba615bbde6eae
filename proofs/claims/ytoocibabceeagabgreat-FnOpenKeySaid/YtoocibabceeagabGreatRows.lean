/-
  No cell of these rows narrows 'for every input' (looked for: loops, veiled, ifaces, maps, wideKeys, modest, calm, conditions, laid).
  DERIVED. THE GIVEN ROWS OF THIS SEAT. 8 by the template 'for every input the law returns true; each argument reads behind the call as it read before'; 0 by the template 'total and deterministic' (their statements: YtoocibabceeagabGreatTotals.lean).
  GIVEN WITH THE SEED: the statements are not yours to turn. If you find one false, say at which input.
  Laid BY PROGRAM, IN A SANDBOX (cutbox-rows.mjs): the forced cells as the released guide's own fill.sh prints them over the translation 57c164b016ce1650… (all of the seat's roots in one cut). By AI agents, Wed Nov 11 2026. No macro, syntax, notation, axiom, sorry.
-/
import Derived.Test.YtoocibabceeagabGreatChecked
import GoSem.Claim
import GoSem.ClaimJoined
import GoSem.ClaimMapViews
import Derived.JoinedTies
import Derived.KernelRfl
namespace Go.Proofs.YtoocibabceeagabGreat
/- THE CELL 'sum', in the pinned program and in every row, IS THE sha256 OF THE DUMP (.gsa) THAT YtoocibabceeagabGreatProg.lean LOADS. Nothing in Lean hashes anything: it is a label: what it is worth is what the hold of that sum in a sandbox is worth. -/
noncomputable def Tryz.pinned : Pinned := { name := "ytoocibabceeagabgreat", sum := "57c164b016ce165006fccdcb7ff456c6a25591edc1bb5e3d0495bf673db607a7", checked := Tryz.checked }
namespace Rows
def none {H : Type} : Left H := { results := [], args := [] }

/-- 'laws.FnOpenKey': WHATEVER THE INPUT: true; the input reads as it did. -/
def fnOpenKeySpec : ChangeSpec := { name := "fnOpenKey", fn := fun _ => fun
  | [d] => { results := [.lit (.bool true)], args := [d] }
  | _ => none }
def fnOpenKeyRow : OpenClaim := { program := "ytoocibabceeagabgreat", sum := "57c164b016ce165006fccdcb7ff456c6a25591edc1bb5e3d0495bf673db607a7", func := "loop.example/workchain/laws.FnOpenKey", spec := "fnOpenKey", inPlace := ["internal/abi.NoEscape"], unfollowed := true, recurses := true, apart := false }
def FnOpenKeySaid : Prop := fnOpenKeyRow.holds Tryz.pinned (OpenSpec.ofChange fnOpenKeySpec)

/-- ITS FALSE NEIGHBOUR: 'it returns false'. Refute it at one input. -/
def fnOpenKeyWrong : ChangeSpec := { name := "fnOpenKey", fn := fun _ => fun
  | [d] => { results := [.lit (.bool false)], args := [d] }
  | _ => none }
def FnOpenKeyWrongFalsely : Prop := fnOpenKeyRow.holds Tryz.pinned (OpenSpec.ofChange fnOpenKeyWrong)

/-- 'laws.FnOpenMany': WHATEVER THE INPUT: true; the input reads as it did. -/
def fnOpenManySpec : ChangeSpec := { name := "fnOpenMany", fn := fun _ => fun
  | [d] => { results := [.lit (.bool true)], args := [d] }
  | _ => none }
def fnOpenManyRow : OpenClaim := { program := "ytoocibabceeagabgreat", sum := "57c164b016ce165006fccdcb7ff456c6a25591edc1bb5e3d0495bf673db607a7", func := "loop.example/workchain/laws.FnOpenMany", spec := "fnOpenMany", inPlace := ["internal/abi.NoEscape"], unfollowed := true, recurses := true, apart := false }
def FnOpenManySaid : Prop := fnOpenManyRow.holds Tryz.pinned (OpenSpec.ofChange fnOpenManySpec)

/-- ITS FALSE NEIGHBOUR: 'it returns false'. Refute it at one input. -/
def fnOpenManyWrong : ChangeSpec := { name := "fnOpenMany", fn := fun _ => fun
  | [d] => { results := [.lit (.bool false)], args := [d] }
  | _ => none }
def FnOpenManyWrongFalsely : Prop := fnOpenManyRow.holds Tryz.pinned (OpenSpec.ofChange fnOpenManyWrong)

/-- 'laws.FnOpenPayee': WHATEVER THE INPUT: true; the input reads as it did. -/
def fnOpenPayeeSpec : ChangeSpec := { name := "fnOpenPayee", fn := fun _ => fun
  | [d] => { results := [.lit (.bool true)], args := [d] }
  | _ => none }
def fnOpenPayeeRow : OpenClaim := { program := "ytoocibabceeagabgreat", sum := "57c164b016ce165006fccdcb7ff456c6a25591edc1bb5e3d0495bf673db607a7", func := "loop.example/workchain/laws.FnOpenPayee", spec := "fnOpenPayee", inPlace := ["internal/abi.NoEscape"], unfollowed := true, recurses := true, apart := false }
def FnOpenPayeeSaid : Prop := fnOpenPayeeRow.holds Tryz.pinned (OpenSpec.ofChange fnOpenPayeeSpec)

/-- ITS FALSE NEIGHBOUR: 'it returns false'. Refute it at one input. -/
def fnOpenPayeeWrong : ChangeSpec := { name := "fnOpenPayee", fn := fun _ => fun
  | [d] => { results := [.lit (.bool false)], args := [d] }
  | _ => none }
def FnOpenPayeeWrongFalsely : Prop := fnOpenPayeeRow.holds Tryz.pinned (OpenSpec.ofChange fnOpenPayeeWrong)

/-- 'laws.FnOpenLast': WHATEVER THE INPUT: true; the input reads as it did. -/
def fnOpenLastSpec : ChangeSpec := { name := "fnOpenLast", fn := fun _ => fun
  | [d] => { results := [.lit (.bool true)], args := [d] }
  | _ => none }
def fnOpenLastRow : OpenClaim := { program := "ytoocibabceeagabgreat", sum := "57c164b016ce165006fccdcb7ff456c6a25591edc1bb5e3d0495bf673db607a7", func := "loop.example/workchain/laws.FnOpenLast", spec := "fnOpenLast", inPlace := ["internal/abi.NoEscape"], unfollowed := true, recurses := true, apart := false }
def FnOpenLastSaid : Prop := fnOpenLastRow.holds Tryz.pinned (OpenSpec.ofChange fnOpenLastSpec)

/-- ITS FALSE NEIGHBOUR: 'it returns false'. Refute it at one input. -/
def fnOpenLastWrong : ChangeSpec := { name := "fnOpenLast", fn := fun _ => fun
  | [d] => { results := [.lit (.bool false)], args := [d] }
  | _ => none }
def FnOpenLastWrongFalsely : Prop := fnOpenLastRow.holds Tryz.pinned (OpenSpec.ofChange fnOpenLastWrong)

/-- 'laws.FnOpenRevoked': WHATEVER THE INPUT: true; the input reads as it did. -/
def fnOpenRevokedSpec : ChangeSpec := { name := "fnOpenRevoked", fn := fun _ => fun
  | [d] => { results := [.lit (.bool true)], args := [d] }
  | _ => none }
def fnOpenRevokedRow : OpenClaim := { program := "ytoocibabceeagabgreat", sum := "57c164b016ce165006fccdcb7ff456c6a25591edc1bb5e3d0495bf673db607a7", func := "loop.example/workchain/laws.FnOpenRevoked", spec := "fnOpenRevoked", inPlace := ["internal/abi.NoEscape"], unfollowed := true, recurses := true, apart := false }
def FnOpenRevokedSaid : Prop := fnOpenRevokedRow.holds Tryz.pinned (OpenSpec.ofChange fnOpenRevokedSpec)

/-- ITS FALSE NEIGHBOUR: 'it returns false'. Refute it at one input. -/
def fnOpenRevokedWrong : ChangeSpec := { name := "fnOpenRevoked", fn := fun _ => fun
  | [d] => { results := [.lit (.bool false)], args := [d] }
  | _ => none }
def FnOpenRevokedWrongFalsely : Prop := fnOpenRevokedRow.holds Tryz.pinned (OpenSpec.ofChange fnOpenRevokedWrong)

/-- 'laws.FnLockPreimage': WHATEVER THE INPUT: true; the input reads as it did. -/
def fnLockPreimageSpec : ChangeSpec := { name := "fnLockPreimage", fn := fun _ => fun
  | [d] => { results := [.lit (.bool true)], args := [d] }
  | _ => none }
def fnLockPreimageRow : OpenClaim := { program := "ytoocibabceeagabgreat", sum := "57c164b016ce165006fccdcb7ff456c6a25591edc1bb5e3d0495bf673db607a7", func := "loop.example/workchain/laws.FnLockPreimage", spec := "fnLockPreimage", inPlace := ["internal/abi.NoEscape"], unfollowed := true, recurses := true, apart := false }
def FnLockPreimageSaid : Prop := fnLockPreimageRow.holds Tryz.pinned (OpenSpec.ofChange fnLockPreimageSpec)

/-- ITS FALSE NEIGHBOUR: 'it returns false'. Refute it at one input. -/
def fnLockPreimageWrong : ChangeSpec := { name := "fnLockPreimage", fn := fun _ => fun
  | [d] => { results := [.lit (.bool false)], args := [d] }
  | _ => none }
def FnLockPreimageWrongFalsely : Prop := fnLockPreimageRow.holds Tryz.pinned (OpenSpec.ofChange fnLockPreimageWrong)

/-- 'laws.FnKeyAlone': WHATEVER THE INPUT: true; the input reads as it did. -/
def fnKeyAloneSpec : ChangeSpec := { name := "fnKeyAlone", fn := fun _ => fun
  | [d1, d2] => { results := [.lit (.bool true)], args := [d1, d2] }
  | _ => none }
def fnKeyAloneRow : OpenClaim := { program := "ytoocibabceeagabgreat", sum := "57c164b016ce165006fccdcb7ff456c6a25591edc1bb5e3d0495bf673db607a7", func := "loop.example/workchain/laws.FnKeyAlone", spec := "fnKeyAlone", inPlace := ["internal/abi.NoEscape"], unfollowed := true, recurses := true, apart := false }
def FnKeyAloneSaid : Prop := fnKeyAloneRow.holds Tryz.pinned (OpenSpec.ofChange fnKeyAloneSpec)

/-- ITS FALSE NEIGHBOUR: 'it returns false'. Refute it at one input. -/
def fnKeyAloneWrong : ChangeSpec := { name := "fnKeyAlone", fn := fun _ => fun
  | [d1, d2] => { results := [.lit (.bool false)], args := [d1, d2] }
  | _ => none }
def FnKeyAloneWrongFalsely : Prop := fnKeyAloneRow.holds Tryz.pinned (OpenSpec.ofChange fnKeyAloneWrong)

/-- 'laws.FnExactLockPreimage': WHATEVER THE INPUT: true; the input reads as it did. -/
def fnExactLockPreimageSpec : ChangeSpec := { name := "fnExactLockPreimage", fn := fun _ => fun
  | [d1, d2, d3] => { results := [.lit (.bool true)], args := [d1, d2, d3] }
  | _ => none }
def fnExactLockPreimageRow : OpenClaim := { program := "ytoocibabceeagabgreat", sum := "57c164b016ce165006fccdcb7ff456c6a25591edc1bb5e3d0495bf673db607a7", func := "loop.example/workchain/laws.FnExactLockPreimage", spec := "fnExactLockPreimage", inPlace := ["internal/abi.NoEscape"], unfollowed := true, recurses := true, apart := false }
def FnExactLockPreimageSaid : Prop := fnExactLockPreimageRow.holds Tryz.pinned (OpenSpec.ofChange fnExactLockPreimageSpec)

/-- ITS FALSE NEIGHBOUR: 'it returns false'. Refute it at one input. -/
def fnExactLockPreimageWrong : ChangeSpec := { name := "fnExactLockPreimage", fn := fun _ => fun
  | [d1, d2, d3] => { results := [.lit (.bool false)], args := [d1, d2, d3] }
  | _ => none }
def FnExactLockPreimageWrongFalsely : Prop := fnExactLockPreimageRow.holds Tryz.pinned (OpenSpec.ofChange fnExactLockPreimageWrong)

/- THE SECOND FORM. 'bulk': how many values and letters a reading holds, each counted each time it is reached (what is shared counts as often as it is met; a slice's spare places count too). A statement '..UptoSaid' is the law's where the arguments, and the package variables that the reading takes, are together of bulk at most 1048576: NARROWER than '..Said'. Prove '..Said' where nothing that the law and all that it calls make is longer than what came in: it says more and counts as full. Else prove '..UptoSaid'. A law counts once. -/
mutual
def uptoBulk {H : Type} : DataW H → Nat
  | .lit (.string bytes) => bytes.length + 1
  | .lit _ => 1
  | .nil => 1
  | .ptr d => uptoBulk d + 1
  | .slice elems spare => uptoBulkAll elems + uptoBulkAll spare + 1
  | .agg parts => uptoBulkAll parts + 1
  | .iface _ d => uptoBulk d + 1
  | .map entries => uptoBulkEntries entries + 1
  | .held _ => 1
def uptoBulkAll {H : Type} : List (DataW H) → Nat
  | [] => 0
  | d :: r => uptoBulk d + uptoBulkAll r
def uptoBulkEntries {H : Type} : List (Lit × DataW H) → Nat
  | [] => 0
  | x :: r => uptoBulkEntry x + uptoBulkEntries r
def uptoBulkEntry {H : Type} : Lit × DataW H → Nat
  | (.string bytes, d) => bytes.length + uptoBulk d + 1
  | (_, d) => uptoBulk d + 1
 end
def uptoSmall : (H : Type) → List (DataW H) → Bool := fun _ ds => decide (uptoBulkAll ds ≤ 1048576)
def OpenSpec.upto (s : _root_.Go.ChangeSpec) : _root_.Go.OpenSpec := { _root_.Go.OpenSpec.ofChange s with cond := some uptoSmall }

/-- 'laws.FnOpenKey', WHERE WHAT IT READS IS OF BULK AT MOST 1048576: true; the input reads as it did. -/
def fnOpenKeyUptoRow : OpenClaim := { program := "ytoocibabceeagabgreat", sum := "57c164b016ce165006fccdcb7ff456c6a25591edc1bb5e3d0495bf673db607a7", func := "loop.example/workchain/laws.FnOpenKey", spec := "fnOpenKey", inPlace := ["internal/abi.NoEscape"], unfollowed := true, recurses := true, apart := false, narrowed := true }
def FnOpenKeyUptoSaid : Prop := fnOpenKeyUptoRow.holds Tryz.pinned (OpenSpec.upto fnOpenKeySpec)

/-- 'laws.FnOpenMany', WHERE WHAT IT READS IS OF BULK AT MOST 1048576: true; the input reads as it did. -/
def fnOpenManyUptoRow : OpenClaim := { program := "ytoocibabceeagabgreat", sum := "57c164b016ce165006fccdcb7ff456c6a25591edc1bb5e3d0495bf673db607a7", func := "loop.example/workchain/laws.FnOpenMany", spec := "fnOpenMany", inPlace := ["internal/abi.NoEscape"], unfollowed := true, recurses := true, apart := false, narrowed := true }
def FnOpenManyUptoSaid : Prop := fnOpenManyUptoRow.holds Tryz.pinned (OpenSpec.upto fnOpenManySpec)

/-- 'laws.FnOpenPayee', WHERE WHAT IT READS IS OF BULK AT MOST 1048576: true; the input reads as it did. -/
def fnOpenPayeeUptoRow : OpenClaim := { program := "ytoocibabceeagabgreat", sum := "57c164b016ce165006fccdcb7ff456c6a25591edc1bb5e3d0495bf673db607a7", func := "loop.example/workchain/laws.FnOpenPayee", spec := "fnOpenPayee", inPlace := ["internal/abi.NoEscape"], unfollowed := true, recurses := true, apart := false, narrowed := true }
def FnOpenPayeeUptoSaid : Prop := fnOpenPayeeUptoRow.holds Tryz.pinned (OpenSpec.upto fnOpenPayeeSpec)

/-- 'laws.FnOpenLast', WHERE WHAT IT READS IS OF BULK AT MOST 1048576: true; the input reads as it did. -/
def fnOpenLastUptoRow : OpenClaim := { program := "ytoocibabceeagabgreat", sum := "57c164b016ce165006fccdcb7ff456c6a25591edc1bb5e3d0495bf673db607a7", func := "loop.example/workchain/laws.FnOpenLast", spec := "fnOpenLast", inPlace := ["internal/abi.NoEscape"], unfollowed := true, recurses := true, apart := false, narrowed := true }
def FnOpenLastUptoSaid : Prop := fnOpenLastUptoRow.holds Tryz.pinned (OpenSpec.upto fnOpenLastSpec)

/-- 'laws.FnOpenRevoked', WHERE WHAT IT READS IS OF BULK AT MOST 1048576: true; the input reads as it did. -/
def fnOpenRevokedUptoRow : OpenClaim := { program := "ytoocibabceeagabgreat", sum := "57c164b016ce165006fccdcb7ff456c6a25591edc1bb5e3d0495bf673db607a7", func := "loop.example/workchain/laws.FnOpenRevoked", spec := "fnOpenRevoked", inPlace := ["internal/abi.NoEscape"], unfollowed := true, recurses := true, apart := false, narrowed := true }
def FnOpenRevokedUptoSaid : Prop := fnOpenRevokedUptoRow.holds Tryz.pinned (OpenSpec.upto fnOpenRevokedSpec)

/-- 'laws.FnLockPreimage', WHERE WHAT IT READS IS OF BULK AT MOST 1048576: true; the input reads as it did. -/
def fnLockPreimageUptoRow : OpenClaim := { program := "ytoocibabceeagabgreat", sum := "57c164b016ce165006fccdcb7ff456c6a25591edc1bb5e3d0495bf673db607a7", func := "loop.example/workchain/laws.FnLockPreimage", spec := "fnLockPreimage", inPlace := ["internal/abi.NoEscape"], unfollowed := true, recurses := true, apart := false, narrowed := true }
def FnLockPreimageUptoSaid : Prop := fnLockPreimageUptoRow.holds Tryz.pinned (OpenSpec.upto fnLockPreimageSpec)

/-- 'laws.FnKeyAlone', WHERE WHAT IT READS IS OF BULK AT MOST 1048576: true; the input reads as it did. -/
def fnKeyAloneUptoRow : OpenClaim := { program := "ytoocibabceeagabgreat", sum := "57c164b016ce165006fccdcb7ff456c6a25591edc1bb5e3d0495bf673db607a7", func := "loop.example/workchain/laws.FnKeyAlone", spec := "fnKeyAlone", inPlace := ["internal/abi.NoEscape"], unfollowed := true, recurses := true, apart := false, narrowed := true }
def FnKeyAloneUptoSaid : Prop := fnKeyAloneUptoRow.holds Tryz.pinned (OpenSpec.upto fnKeyAloneSpec)

/-- 'laws.FnExactLockPreimage', WHERE WHAT IT READS IS OF BULK AT MOST 1048576: true; the input reads as it did. -/
def fnExactLockPreimageUptoRow : OpenClaim := { program := "ytoocibabceeagabgreat", sum := "57c164b016ce165006fccdcb7ff456c6a25591edc1bb5e3d0495bf673db607a7", func := "loop.example/workchain/laws.FnExactLockPreimage", spec := "fnExactLockPreimage", inPlace := ["internal/abi.NoEscape"], unfollowed := true, recurses := true, apart := false, narrowed := true }
def FnExactLockPreimageUptoSaid : Prop := fnExactLockPreimageUptoRow.holds Tryz.pinned (OpenSpec.upto fnExactLockPreimageSpec)

end Rows
end Go.Proofs.YtoocibabceeagabGreat
