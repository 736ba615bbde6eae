/-
  No cell of these rows narrows 'for every input' (looked for: loops, veiled, ifaces, maps, wideKeys, modest, calm, conditions, laid).
  DERIVED. THE GIVEN ROWS OF THIS SEAT. 4 by the template 'for every input the law returns true; each argument reads behind the call as it read before'; 0 by the template 'total and deterministic' (their statements: YtoocibabceeagabTotals.lean).
  GIVEN WITH THE SEED: the statements are not yours to turn. If you find one false, say at which input.
  Laid BY PROGRAM, IN A SANDBOX (cutbox-rows.mjs): the forced cells as the released guide's own fill.sh prints them over the translation 59a0d74d4b10e494… (all of the seat's roots in one cut). By AI agents, Wed Nov 11 2026. No macro, syntax, notation, axiom, sorry.
-/
import Derived.Test.YtoocibabceeagabChecked
import GoSem.Claim
import GoSem.ClaimJoined
import GoSem.ClaimMapViews
import Derived.JoinedTies
import Derived.KernelRfl
namespace Go.Proofs.Ytoocibabceeagab
/- THE CELL 'sum', in the pinned program and in every row, IS THE sha256 OF THE DUMP (.gsa) THAT YtoocibabceeagabProg.lean LOADS. Nothing in Lean hashes anything: it is a label: what it is worth is what the hold of that sum in a sandbox is worth. -/
noncomputable def Try.pinned : Pinned := { name := "ytoocibabceeagab", sum := "59a0d74d4b10e4942ef1738541d5c1e8fb2265f7df8e04dfb6cd7a3198213efb", checked := Try.checked }
namespace Rows
def none {H : Type} : Left H := { results := [], args := [] }

/-- 'laws.FnExactOpenKey': WHATEVER THE INPUT: true; the input reads as it did. -/
def fnExactOpenKeySpec : ChangeSpec := { name := "fnExactOpenKey", fn := fun _ => fun
  | [d1, d2] => { results := [.lit (.bool true)], args := [d1, d2] }
  | _ => none }
def fnExactOpenKeyRow : OpenClaim := { program := "ytoocibabceeagab", sum := "59a0d74d4b10e4942ef1738541d5c1e8fb2265f7df8e04dfb6cd7a3198213efb", func := "loop.example/workchain/laws.FnExactOpenKey", spec := "fnExactOpenKey", apart := false }
def FnExactOpenKeySaid : Prop := fnExactOpenKeyRow.holds Try.pinned (OpenSpec.ofChange fnExactOpenKeySpec)

/-- ITS FALSE NEIGHBOUR: 'it returns false'. Refute it at one input. -/
def fnExactOpenKeyWrong : ChangeSpec := { name := "fnExactOpenKey", fn := fun _ => fun
  | [d1, d2] => { results := [.lit (.bool false)], args := [d1, d2] }
  | _ => none }
def FnExactOpenKeyWrongFalsely : Prop := fnExactOpenKeyRow.holds Try.pinned (OpenSpec.ofChange fnExactOpenKeyWrong)

/-- 'laws.FnExactOpenMany': WHATEVER THE INPUT: true; the input reads as it did. -/
def fnExactOpenManySpec : ChangeSpec := { name := "fnExactOpenMany", fn := fun _ => fun
  | [d1, d2] => { results := [.lit (.bool true)], args := [d1, d2] }
  | _ => none }
def fnExactOpenManyRow : OpenClaim := { program := "ytoocibabceeagab", sum := "59a0d74d4b10e4942ef1738541d5c1e8fb2265f7df8e04dfb6cd7a3198213efb", func := "loop.example/workchain/laws.FnExactOpenMany", spec := "fnExactOpenMany", apart := false }
def FnExactOpenManySaid : Prop := fnExactOpenManyRow.holds Try.pinned (OpenSpec.ofChange fnExactOpenManySpec)

/-- ITS FALSE NEIGHBOUR: 'it returns false'. Refute it at one input. -/
def fnExactOpenManyWrong : ChangeSpec := { name := "fnExactOpenMany", fn := fun _ => fun
  | [d1, d2] => { results := [.lit (.bool false)], args := [d1, d2] }
  | _ => none }
def FnExactOpenManyWrongFalsely : Prop := fnExactOpenManyRow.holds Try.pinned (OpenSpec.ofChange fnExactOpenManyWrong)

/-- 'laws.FnExactOpenPayee': WHATEVER THE INPUT: true; the input reads as it did. -/
def fnExactOpenPayeeSpec : ChangeSpec := { name := "fnExactOpenPayee", fn := fun _ => fun
  | [d1, d2, d3] => { results := [.lit (.bool true)], args := [d1, d2, d3] }
  | _ => none }
def fnExactOpenPayeeRow : OpenClaim := { program := "ytoocibabceeagab", sum := "59a0d74d4b10e4942ef1738541d5c1e8fb2265f7df8e04dfb6cd7a3198213efb", func := "loop.example/workchain/laws.FnExactOpenPayee", spec := "fnExactOpenPayee", apart := false }
def FnExactOpenPayeeSaid : Prop := fnExactOpenPayeeRow.holds Try.pinned (OpenSpec.ofChange fnExactOpenPayeeSpec)

/-- ITS FALSE NEIGHBOUR: 'it returns false'. Refute it at one input. -/
def fnExactOpenPayeeWrong : ChangeSpec := { name := "fnExactOpenPayee", fn := fun _ => fun
  | [d1, d2, d3] => { results := [.lit (.bool false)], args := [d1, d2, d3] }
  | _ => none }
def FnExactOpenPayeeWrongFalsely : Prop := fnExactOpenPayeeRow.holds Try.pinned (OpenSpec.ofChange fnExactOpenPayeeWrong)

/-- 'laws.FnExactOpenLast': WHATEVER THE INPUT: true; the input reads as it did. -/
def fnExactOpenLastSpec : ChangeSpec := { name := "fnExactOpenLast", fn := fun _ => fun
  | [d1, d2] => { results := [.lit (.bool true)], args := [d1, d2] }
  | _ => none }
def fnExactOpenLastRow : OpenClaim := { program := "ytoocibabceeagab", sum := "59a0d74d4b10e4942ef1738541d5c1e8fb2265f7df8e04dfb6cd7a3198213efb", func := "loop.example/workchain/laws.FnExactOpenLast", spec := "fnExactOpenLast", apart := false }
def FnExactOpenLastSaid : Prop := fnExactOpenLastRow.holds Try.pinned (OpenSpec.ofChange fnExactOpenLastSpec)

/-- ITS FALSE NEIGHBOUR: 'it returns false'. Refute it at one input. -/
def fnExactOpenLastWrong : ChangeSpec := { name := "fnExactOpenLast", fn := fun _ => fun
  | [d1, d2] => { results := [.lit (.bool false)], args := [d1, d2] }
  | _ => none }
def FnExactOpenLastWrongFalsely : Prop := fnExactOpenLastRow.holds Try.pinned (OpenSpec.ofChange fnExactOpenLastWrong)

/- THE SECOND FORM. 'bulk': how many values and letters a reading holds, each counted each time it is reached (what is shared counts as often as it is met; a slice's spare places count too). A statement '..UptoSaid' is the law's where the arguments, and the package variables that the reading takes, are together of bulk at most 1048576: NARROWER than '..Said'. Prove '..Said' where nothing that the law and all that it calls make is longer than what came in: it says more and counts as full. Else prove '..UptoSaid'. A law counts once. -/
mutual
def uptoBulk {H : Type} : DataW H → Nat
  | .lit (.string bytes) => bytes.length + 1
  | .lit _ => 1
  | .nil => 1
  | .ptr d => uptoBulk d + 1
  | .slice elems spare => uptoBulkAll elems + uptoBulkAll spare + 1
  | .agg parts => uptoBulkAll parts + 1
  | .iface _ d => uptoBulk d + 1
  | .map entries => uptoBulkEntries entries + 1
  | .held _ => 1
def uptoBulkAll {H : Type} : List (DataW H) → Nat
  | [] => 0
  | d :: r => uptoBulk d + uptoBulkAll r
def uptoBulkEntries {H : Type} : List (Lit × DataW H) → Nat
  | [] => 0
  | x :: r => uptoBulkEntry x + uptoBulkEntries r
def uptoBulkEntry {H : Type} : Lit × DataW H → Nat
  | (.string bytes, d) => bytes.length + uptoBulk d + 1
  | (_, d) => uptoBulk d + 1
 end
def uptoSmall : (H : Type) → List (DataW H) → Bool := fun _ ds => decide (uptoBulkAll ds ≤ 1048576)
def OpenSpec.upto (s : _root_.Go.ChangeSpec) : _root_.Go.OpenSpec := { _root_.Go.OpenSpec.ofChange s with cond := some uptoSmall }

/-- 'laws.FnExactOpenKey', WHERE WHAT IT READS IS OF BULK AT MOST 1048576: true; the input reads as it did. -/
def fnExactOpenKeyUptoRow : OpenClaim := { program := "ytoocibabceeagab", sum := "59a0d74d4b10e4942ef1738541d5c1e8fb2265f7df8e04dfb6cd7a3198213efb", func := "loop.example/workchain/laws.FnExactOpenKey", spec := "fnExactOpenKey", apart := false, narrowed := true }
def FnExactOpenKeyUptoSaid : Prop := fnExactOpenKeyUptoRow.holds Try.pinned (OpenSpec.upto fnExactOpenKeySpec)

/-- 'laws.FnExactOpenMany', WHERE WHAT IT READS IS OF BULK AT MOST 1048576: true; the input reads as it did. -/
def fnExactOpenManyUptoRow : OpenClaim := { program := "ytoocibabceeagab", sum := "59a0d74d4b10e4942ef1738541d5c1e8fb2265f7df8e04dfb6cd7a3198213efb", func := "loop.example/workchain/laws.FnExactOpenMany", spec := "fnExactOpenMany", apart := false, narrowed := true }
def FnExactOpenManyUptoSaid : Prop := fnExactOpenManyUptoRow.holds Try.pinned (OpenSpec.upto fnExactOpenManySpec)

/-- 'laws.FnExactOpenPayee', WHERE WHAT IT READS IS OF BULK AT MOST 1048576: true; the input reads as it did. -/
def fnExactOpenPayeeUptoRow : OpenClaim := { program := "ytoocibabceeagab", sum := "59a0d74d4b10e4942ef1738541d5c1e8fb2265f7df8e04dfb6cd7a3198213efb", func := "loop.example/workchain/laws.FnExactOpenPayee", spec := "fnExactOpenPayee", apart := false, narrowed := true }
def FnExactOpenPayeeUptoSaid : Prop := fnExactOpenPayeeUptoRow.holds Try.pinned (OpenSpec.upto fnExactOpenPayeeSpec)

/-- 'laws.FnExactOpenLast', WHERE WHAT IT READS IS OF BULK AT MOST 1048576: true; the input reads as it did. -/
def fnExactOpenLastUptoRow : OpenClaim := { program := "ytoocibabceeagab", sum := "59a0d74d4b10e4942ef1738541d5c1e8fb2265f7df8e04dfb6cd7a3198213efb", func := "loop.example/workchain/laws.FnExactOpenLast", spec := "fnExactOpenLast", apart := false, narrowed := true }
def FnExactOpenLastUptoSaid : Prop := fnExactOpenLastUptoRow.holds Try.pinned (OpenSpec.upto fnExactOpenLastSpec)

end Rows
end Go.Proofs.Ytoocibabceeagab
