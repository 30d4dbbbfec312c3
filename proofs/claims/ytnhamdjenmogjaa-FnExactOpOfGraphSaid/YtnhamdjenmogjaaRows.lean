/-
  No cell of these rows narrows 'for every input' (looked for: loops, veiled, ifaces, maps, wideKeys, modest, calm, conditions, laid).
  DERIVED. THE GIVEN ROWS OF THIS SEAT. 6 by the template 'for every input the law returns true; each argument reads behind the call as it read before'; 0 by the template 'total and deterministic' (their statements: YtnhamdjenmogjaaTotals.lean).
  GIVEN WITH THE SEED: the statements are not yours to turn. If you find one false, say at which input.
  Laid BY PROGRAM, IN A SANDBOX (cutbox-rows.mjs): the forced cells as the released guide's own fill.sh prints them over the translation 734828f21858a9e3… (all of the seat's roots in one cut). By AI agents, Wed Nov 11 2026. No macro, syntax, notation, axiom, sorry.
-/
import Derived.Test.YtnhamdjenmogjaaChecked
import GoSem.Claim
import GoSem.ClaimJoined
import GoSem.ClaimMapViews
import Derived.JoinedTies
import Derived.KernelRfl
namespace Go.Proofs.Ytnhamdjenmogjaa
/- THE CELL 'sum', in the pinned program and in every row, IS THE sha256 OF THE DUMP (.gsa) THAT YtnhamdjenmogjaaProg.lean LOADS. Nothing in Lean hashes anything: it is a label: what it is worth is what the hold of that sum in a sandbox is worth. -/
noncomputable def Try.pinned : Pinned := { name := "ytnhamdjenmogjaa", sum := "734828f21858a9e3e5fe5e4062f52f15153e6862f6419f34e7d596a0ccadecae", checked := Try.checked }
namespace Rows
def none {H : Type} : Left H := { results := [], args := [] }

/-- 'laws.FnExactProjectionOp': WHATEVER THE INPUT: true; the input reads as it did. -/
def fnExactProjectionOpSpec : ChangeSpec := { name := "fnExactProjectionOp", fn := fun _ => fun
  | [d1, d2, d3] => { results := [.lit (.bool true)], args := [d1, d2, d3] }
  | _ => none }
def fnExactProjectionOpRow : OpenClaim := { program := "ytnhamdjenmogjaa", sum := "734828f21858a9e3e5fe5e4062f52f15153e6862f6419f34e7d596a0ccadecae", func := "loop.example/g01085/laws.FnExactProjectionOp", spec := "fnExactProjectionOp", unfollowed := true, recurses := true, apart := false }
def FnExactProjectionOpSaid : Prop := fnExactProjectionOpRow.holds Try.pinned (OpenSpec.ofChange fnExactProjectionOpSpec)

/-- ITS FALSE NEIGHBOUR: 'it returns false'. Refute it at one input. -/
def fnExactProjectionOpWrong : ChangeSpec := { name := "fnExactProjectionOp", fn := fun _ => fun
  | [d1, d2, d3] => { results := [.lit (.bool false)], args := [d1, d2, d3] }
  | _ => none }
def FnExactProjectionOpWrongFalsely : Prop := fnExactProjectionOpRow.holds Try.pinned (OpenSpec.ofChange fnExactProjectionOpWrong)

/-- 'laws.FnExactMinorOf': WHATEVER THE INPUT: true; the input reads as it did. -/
def fnExactMinorOfSpec : ChangeSpec := { name := "fnExactMinorOf", fn := fun _ => fun
  | [d1, d2, d3, d4] => { results := [.lit (.bool true)], args := [d1, d2, d3, d4] }
  | _ => none }
def fnExactMinorOfRow : OpenClaim := { program := "ytnhamdjenmogjaa", sum := "734828f21858a9e3e5fe5e4062f52f15153e6862f6419f34e7d596a0ccadecae", func := "loop.example/g01085/laws.FnExactMinorOf", spec := "fnExactMinorOf", unfollowed := true, recurses := true, apart := false }
def FnExactMinorOfSaid : Prop := fnExactMinorOfRow.holds Try.pinned (OpenSpec.ofChange fnExactMinorOfSpec)

/-- ITS FALSE NEIGHBOUR: 'it returns false'. Refute it at one input. -/
def fnExactMinorOfWrong : ChangeSpec := { name := "fnExactMinorOf", fn := fun _ => fun
  | [d1, d2, d3, d4] => { results := [.lit (.bool false)], args := [d1, d2, d3, d4] }
  | _ => none }
def FnExactMinorOfWrongFalsely : Prop := fnExactMinorOfRow.holds Try.pinned (OpenSpec.ofChange fnExactMinorOfWrong)

/-- 'laws.FnExactConstantOp': WHATEVER THE INPUT: true; the input reads as it did. -/
def fnExactConstantOpSpec : ChangeSpec := { name := "fnExactConstantOp", fn := fun _ => fun
  | [d1, d2, d3] => { results := [.lit (.bool true)], args := [d1, d2, d3] }
  | _ => none }
def fnExactConstantOpRow : OpenClaim := { program := "ytnhamdjenmogjaa", sum := "734828f21858a9e3e5fe5e4062f52f15153e6862f6419f34e7d596a0ccadecae", func := "loop.example/g01085/laws.FnExactConstantOp", spec := "fnExactConstantOp", apart := false }
def FnExactConstantOpSaid : Prop := fnExactConstantOpRow.holds Try.pinned (OpenSpec.ofChange fnExactConstantOpSpec)

/-- ITS FALSE NEIGHBOUR: 'it returns false'. Refute it at one input. -/
def fnExactConstantOpWrong : ChangeSpec := { name := "fnExactConstantOp", fn := fun _ => fun
  | [d1, d2, d3] => { results := [.lit (.bool false)], args := [d1, d2, d3] }
  | _ => none }
def FnExactConstantOpWrongFalsely : Prop := fnExactConstantOpRow.holds Try.pinned (OpenSpec.ofChange fnExactConstantOpWrong)

/-- 'laws.FnExactComposeOps': WHATEVER THE INPUT: true; the input reads as it did. -/
def fnExactComposeOpsSpec : ChangeSpec := { name := "fnExactComposeOps", fn := fun _ => fun
  | [d1, d2, d3] => { results := [.lit (.bool true)], args := [d1, d2, d3] }
  | _ => none }
def fnExactComposeOpsRow : OpenClaim := { program := "ytnhamdjenmogjaa", sum := "734828f21858a9e3e5fe5e4062f52f15153e6862f6419f34e7d596a0ccadecae", func := "loop.example/g01085/laws.FnExactComposeOps", spec := "fnExactComposeOps", apart := false }
def FnExactComposeOpsSaid : Prop := fnExactComposeOpsRow.holds Try.pinned (OpenSpec.ofChange fnExactComposeOpsSpec)

/-- ITS FALSE NEIGHBOUR: 'it returns false'. Refute it at one input. -/
def fnExactComposeOpsWrong : ChangeSpec := { name := "fnExactComposeOps", fn := fun _ => fun
  | [d1, d2, d3] => { results := [.lit (.bool false)], args := [d1, d2, d3] }
  | _ => none }
def FnExactComposeOpsWrongFalsely : Prop := fnExactComposeOpsRow.holds Try.pinned (OpenSpec.ofChange fnExactComposeOpsWrong)

/-- 'laws.FnExactOpOfGraph': WHATEVER THE INPUT: true; the input reads as it did. -/
def fnExactOpOfGraphSpec : ChangeSpec := { name := "fnExactOpOfGraph", fn := fun _ => fun
  | [d1, d2] => { results := [.lit (.bool true)], args := [d1, d2] }
  | _ => none }
def fnExactOpOfGraphRow : OpenClaim := { program := "ytnhamdjenmogjaa", sum := "734828f21858a9e3e5fe5e4062f52f15153e6862f6419f34e7d596a0ccadecae", func := "loop.example/g01085/laws.FnExactOpOfGraph", spec := "fnExactOpOfGraph", apart := false }
def FnExactOpOfGraphSaid : Prop := fnExactOpOfGraphRow.holds Try.pinned (OpenSpec.ofChange fnExactOpOfGraphSpec)

/-- ITS FALSE NEIGHBOUR: 'it returns false'. Refute it at one input. -/
def fnExactOpOfGraphWrong : ChangeSpec := { name := "fnExactOpOfGraph", fn := fun _ => fun
  | [d1, d2] => { results := [.lit (.bool false)], args := [d1, d2] }
  | _ => none }
def FnExactOpOfGraphWrongFalsely : Prop := fnExactOpOfGraphRow.holds Try.pinned (OpenSpec.ofChange fnExactOpOfGraphWrong)

/-- 'laws.FnExactHideVariable': WHATEVER THE INPUT: true; the input reads as it did. -/
def fnExactHideVariableSpec : ChangeSpec := { name := "fnExactHideVariable", fn := fun _ => fun
  | [d1, d2, d3] => { results := [.lit (.bool true)], args := [d1, d2, d3] }
  | _ => none }
def fnExactHideVariableRow : OpenClaim := { program := "ytnhamdjenmogjaa", sum := "734828f21858a9e3e5fe5e4062f52f15153e6862f6419f34e7d596a0ccadecae", func := "loop.example/g01085/laws.FnExactHideVariable", spec := "fnExactHideVariable", apart := false }
def FnExactHideVariableSaid : Prop := fnExactHideVariableRow.holds Try.pinned (OpenSpec.ofChange fnExactHideVariableSpec)

/-- ITS FALSE NEIGHBOUR: 'it returns false'. Refute it at one input. -/
def fnExactHideVariableWrong : ChangeSpec := { name := "fnExactHideVariable", fn := fun _ => fun
  | [d1, d2, d3] => { results := [.lit (.bool false)], args := [d1, d2, d3] }
  | _ => none }
def FnExactHideVariableWrongFalsely : Prop := fnExactHideVariableRow.holds Try.pinned (OpenSpec.ofChange fnExactHideVariableWrong)

/- THE SECOND FORM. 'bulk': how many values and letters a reading holds, each counted each time it is reached (what is shared counts as often as it is met; a slice's spare places count too). A statement '..UptoSaid' is the law's where the arguments, and the package variables that the reading takes, are together of bulk at most 1048576: NARROWER than '..Said'. Prove '..Said' where nothing that the law and all that it calls make is longer than what came in: it says more and counts as full. Else prove '..UptoSaid'. A law counts once. -/
mutual
def uptoBulk {H : Type} : DataW H → Nat
  | .lit (.string bytes) => bytes.length + 1
  | .lit _ => 1
  | .nil => 1
  | .ptr d => uptoBulk d + 1
  | .slice elems spare => uptoBulkAll elems + uptoBulkAll spare + 1
  | .agg parts => uptoBulkAll parts + 1
  | .iface _ d => uptoBulk d + 1
  | .map entries => uptoBulkEntries entries + 1
  | .held _ => 1
def uptoBulkAll {H : Type} : List (DataW H) → Nat
  | [] => 0
  | d :: r => uptoBulk d + uptoBulkAll r
def uptoBulkEntries {H : Type} : List (Lit × DataW H) → Nat
  | [] => 0
  | x :: r => uptoBulkEntry x + uptoBulkEntries r
def uptoBulkEntry {H : Type} : Lit × DataW H → Nat
  | (.string bytes, d) => bytes.length + uptoBulk d + 1
  | (_, d) => uptoBulk d + 1
 end
def uptoSmall : (H : Type) → List (DataW H) → Bool := fun _ ds => decide (uptoBulkAll ds ≤ 1048576)
def OpenSpec.upto (s : _root_.Go.ChangeSpec) : _root_.Go.OpenSpec := { _root_.Go.OpenSpec.ofChange s with cond := some uptoSmall }

/-- 'laws.FnExactProjectionOp', WHERE WHAT IT READS IS OF BULK AT MOST 1048576: true; the input reads as it did. -/
def fnExactProjectionOpUptoRow : OpenClaim := { program := "ytnhamdjenmogjaa", sum := "734828f21858a9e3e5fe5e4062f52f15153e6862f6419f34e7d596a0ccadecae", func := "loop.example/g01085/laws.FnExactProjectionOp", spec := "fnExactProjectionOp", unfollowed := true, recurses := true, apart := false, narrowed := true }
def FnExactProjectionOpUptoSaid : Prop := fnExactProjectionOpUptoRow.holds Try.pinned (OpenSpec.upto fnExactProjectionOpSpec)

/-- 'laws.FnExactMinorOf', WHERE WHAT IT READS IS OF BULK AT MOST 1048576: true; the input reads as it did. -/
def fnExactMinorOfUptoRow : OpenClaim := { program := "ytnhamdjenmogjaa", sum := "734828f21858a9e3e5fe5e4062f52f15153e6862f6419f34e7d596a0ccadecae", func := "loop.example/g01085/laws.FnExactMinorOf", spec := "fnExactMinorOf", unfollowed := true, recurses := true, apart := false, narrowed := true }
def FnExactMinorOfUptoSaid : Prop := fnExactMinorOfUptoRow.holds Try.pinned (OpenSpec.upto fnExactMinorOfSpec)

/-- 'laws.FnExactConstantOp', WHERE WHAT IT READS IS OF BULK AT MOST 1048576: true; the input reads as it did. -/
def fnExactConstantOpUptoRow : OpenClaim := { program := "ytnhamdjenmogjaa", sum := "734828f21858a9e3e5fe5e4062f52f15153e6862f6419f34e7d596a0ccadecae", func := "loop.example/g01085/laws.FnExactConstantOp", spec := "fnExactConstantOp", apart := false, narrowed := true }
def FnExactConstantOpUptoSaid : Prop := fnExactConstantOpUptoRow.holds Try.pinned (OpenSpec.upto fnExactConstantOpSpec)

/-- 'laws.FnExactComposeOps', WHERE WHAT IT READS IS OF BULK AT MOST 1048576: true; the input reads as it did. -/
def fnExactComposeOpsUptoRow : OpenClaim := { program := "ytnhamdjenmogjaa", sum := "734828f21858a9e3e5fe5e4062f52f15153e6862f6419f34e7d596a0ccadecae", func := "loop.example/g01085/laws.FnExactComposeOps", spec := "fnExactComposeOps", apart := false, narrowed := true }
def FnExactComposeOpsUptoSaid : Prop := fnExactComposeOpsUptoRow.holds Try.pinned (OpenSpec.upto fnExactComposeOpsSpec)

/-- 'laws.FnExactOpOfGraph', WHERE WHAT IT READS IS OF BULK AT MOST 1048576: true; the input reads as it did. -/
def fnExactOpOfGraphUptoRow : OpenClaim := { program := "ytnhamdjenmogjaa", sum := "734828f21858a9e3e5fe5e4062f52f15153e6862f6419f34e7d596a0ccadecae", func := "loop.example/g01085/laws.FnExactOpOfGraph", spec := "fnExactOpOfGraph", apart := false, narrowed := true }
def FnExactOpOfGraphUptoSaid : Prop := fnExactOpOfGraphUptoRow.holds Try.pinned (OpenSpec.upto fnExactOpOfGraphSpec)

/-- 'laws.FnExactHideVariable', WHERE WHAT IT READS IS OF BULK AT MOST 1048576: true; the input reads as it did. -/
def fnExactHideVariableUptoRow : OpenClaim := { program := "ytnhamdjenmogjaa", sum := "734828f21858a9e3e5fe5e4062f52f15153e6862f6419f34e7d596a0ccadecae", func := "loop.example/g01085/laws.FnExactHideVariable", spec := "fnExactHideVariable", apart := false, narrowed := true }
def FnExactHideVariableUptoSaid : Prop := fnExactHideVariableUptoRow.holds Try.pinned (OpenSpec.upto fnExactHideVariableSpec)

end Rows
end Go.Proofs.Ytnhamdjenmogjaa
