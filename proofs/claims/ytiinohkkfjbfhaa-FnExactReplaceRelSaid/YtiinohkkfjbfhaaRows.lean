/-
  No cell of these rows narrows 'for every input' (looked for: loops, veiled, ifaces, maps, wideKeys, modest, calm, conditions, laid).
  DERIVED. THE GIVEN ROWS OF THIS SEAT. 12 by the template 'for every input the law returns true; each argument reads behind the call as it read before'; 0 by the template 'total and deterministic' (their statements: YtiinohkkfjbfhaaTotals.lean).
  GIVEN WITH THE SEED: the statements are not yours to turn. If you find one false, say at which input.
  Laid BY PROGRAM, IN A SANDBOX (cutbox-rows.mjs): the forced cells as the released guide's own fill.sh prints them over the translation 163fb111f36c76f5… (all of the seat's roots in one cut). By AI agents, Wed Nov 11 2026. No macro, syntax, notation, axiom, sorry.
-/
import Derived.Test.YtiinohkkfjbfhaaChecked
import GoSem.Claim
import GoSem.ClaimJoined
import GoSem.ClaimMapViews
import Derived.JoinedTies
import Derived.KernelRfl
namespace Go.Proofs.Ytiinohkkfjbfhaa
/- THE CELL 'sum', in the pinned program and in every row, IS THE sha256 OF THE DUMP (.gsa) THAT YtiinohkkfjbfhaaProg.lean LOADS. Nothing in Lean hashes anything: it is a label: what it is worth is what the hold of that sum in a sandbox is worth. -/
noncomputable def Try.pinned : Pinned := { name := "ytiinohkkfjbfhaa", sum := "163fb111f36c76f5cf627d852b4ed5349658d2f8881f695441cfc9c1fe8dff18", checked := Try.checked }
namespace Rows
def none {H : Type} : Left H := { results := [], args := [] }

/-- 'laws.FnExactValidInstance': WHATEVER THE INPUT: true; the input reads as it did. -/
def fnExactValidInstanceSpec : ChangeSpec := { name := "fnExactValidInstance", fn := fun _ => fun
  | [d1, d2] => { results := [.lit (.bool true)], args := [d1, d2] }
  | _ => none }
def fnExactValidInstanceRow : OpenClaim := { program := "ytiinohkkfjbfhaa", sum := "163fb111f36c76f5cf627d852b4ed5349658d2f8881f695441cfc9c1fe8dff18", func := "loop.example/g01085/laws.FnExactValidInstance", spec := "fnExactValidInstance", apart := false }
def FnExactValidInstanceSaid : Prop := fnExactValidInstanceRow.holds Try.pinned (OpenSpec.ofChange fnExactValidInstanceSpec)

/-- ITS FALSE NEIGHBOUR: 'it returns false'. Refute it at one input. -/
def fnExactValidInstanceWrong : ChangeSpec := { name := "fnExactValidInstance", fn := fun _ => fun
  | [d1, d2] => { results := [.lit (.bool false)], args := [d1, d2] }
  | _ => none }
def FnExactValidInstanceWrongFalsely : Prop := fnExactValidInstanceRow.holds Try.pinned (OpenSpec.ofChange fnExactValidInstanceWrong)

/-- 'laws.FnExactSameInstance': WHATEVER THE INPUT: true; the input reads as it did. -/
def fnExactSameInstanceSpec : ChangeSpec := { name := "fnExactSameInstance", fn := fun _ => fun
  | [d1, d2] => { results := [.lit (.bool true)], args := [d1, d2] }
  | _ => none }
def fnExactSameInstanceRow : OpenClaim := { program := "ytiinohkkfjbfhaa", sum := "163fb111f36c76f5cf627d852b4ed5349658d2f8881f695441cfc9c1fe8dff18", func := "loop.example/g01085/laws.FnExactSameInstance", spec := "fnExactSameInstance", unfollowed := true, recurses := true, apart := false }
def FnExactSameInstanceSaid : Prop := fnExactSameInstanceRow.holds Try.pinned (OpenSpec.ofChange fnExactSameInstanceSpec)

/-- ITS FALSE NEIGHBOUR: 'it returns false'. Refute it at one input. -/
def fnExactSameInstanceWrong : ChangeSpec := { name := "fnExactSameInstance", fn := fun _ => fun
  | [d1, d2] => { results := [.lit (.bool false)], args := [d1, d2] }
  | _ => none }
def FnExactSameInstanceWrongFalsely : Prop := fnExactSameInstanceRow.holds Try.pinned (OpenSpec.ofChange fnExactSameInstanceWrong)

/-- 'laws.FnExactPairIndex': WHATEVER THE INPUT: true; the input reads as it did. -/
def fnExactPairIndexSpec : ChangeSpec := { name := "fnExactPairIndex", fn := fun _ => fun
  | [d1, d2, d3] => { results := [.lit (.bool true)], args := [d1, d2, d3] }
  | _ => none }
def fnExactPairIndexRow : OpenClaim := { program := "ytiinohkkfjbfhaa", sum := "163fb111f36c76f5cf627d852b4ed5349658d2f8881f695441cfc9c1fe8dff18", func := "loop.example/g01085/laws.FnExactPairIndex", spec := "fnExactPairIndex", apart := false }
def FnExactPairIndexSaid : Prop := fnExactPairIndexRow.holds Try.pinned (OpenSpec.ofChange fnExactPairIndexSpec)

/-- ITS FALSE NEIGHBOUR: 'it returns false'. Refute it at one input. -/
def fnExactPairIndexWrong : ChangeSpec := { name := "fnExactPairIndex", fn := fun _ => fun
  | [d1, d2, d3] => { results := [.lit (.bool false)], args := [d1, d2, d3] }
  | _ => none }
def FnExactPairIndexWrongFalsely : Prop := fnExactPairIndexRow.holds Try.pinned (OpenSpec.ofChange fnExactPairIndexWrong)

/-- 'laws.FnExactFullDomains': WHATEVER THE INPUT: true; the input reads as it did. -/
def fnExactFullDomainsSpec : ChangeSpec := { name := "fnExactFullDomains", fn := fun _ => fun
  | [d1, d2] => { results := [.lit (.bool true)], args := [d1, d2] }
  | _ => none }
def fnExactFullDomainsRow : OpenClaim := { program := "ytiinohkkfjbfhaa", sum := "163fb111f36c76f5cf627d852b4ed5349658d2f8881f695441cfc9c1fe8dff18", func := "loop.example/g01085/laws.FnExactFullDomains", spec := "fnExactFullDomains", apart := false }
def FnExactFullDomainsSaid : Prop := fnExactFullDomainsRow.holds Try.pinned (OpenSpec.ofChange fnExactFullDomainsSpec)

/-- ITS FALSE NEIGHBOUR: 'it returns false'. Refute it at one input. -/
def fnExactFullDomainsWrong : ChangeSpec := { name := "fnExactFullDomains", fn := fun _ => fun
  | [d1, d2] => { results := [.lit (.bool false)], args := [d1, d2] }
  | _ => none }
def FnExactFullDomainsWrongFalsely : Prop := fnExactFullDomainsRow.holds Try.pinned (OpenSpec.ofChange fnExactFullDomainsWrong)

/-- 'laws.FnExactValidDomains': WHATEVER THE INPUT: true; the input reads as it did. -/
def fnExactValidDomainsSpec : ChangeSpec := { name := "fnExactValidDomains", fn := fun _ => fun
  | [d1, d2, d3] => { results := [.lit (.bool true)], args := [d1, d2, d3] }
  | _ => none }
def fnExactValidDomainsRow : OpenClaim := { program := "ytiinohkkfjbfhaa", sum := "163fb111f36c76f5cf627d852b4ed5349658d2f8881f695441cfc9c1fe8dff18", func := "loop.example/g01085/laws.FnExactValidDomains", spec := "fnExactValidDomains", apart := false }
def FnExactValidDomainsSaid : Prop := fnExactValidDomainsRow.holds Try.pinned (OpenSpec.ofChange fnExactValidDomainsSpec)

/-- ITS FALSE NEIGHBOUR: 'it returns false'. Refute it at one input. -/
def fnExactValidDomainsWrong : ChangeSpec := { name := "fnExactValidDomains", fn := fun _ => fun
  | [d1, d2, d3] => { results := [.lit (.bool false)], args := [d1, d2, d3] }
  | _ => none }
def FnExactValidDomainsWrongFalsely : Prop := fnExactValidDomainsRow.holds Try.pinned (OpenSpec.ofChange fnExactValidDomainsWrong)

/-- 'laws.FnExactFirstFailing': WHATEVER THE INPUT: true; the input reads as it did. -/
def fnExactFirstFailingSpec : ChangeSpec := { name := "fnExactFirstFailing", fn := fun _ => fun
  | [d1, d2, d3] => { results := [.lit (.bool true)], args := [d1, d2, d3] }
  | _ => none }
def fnExactFirstFailingRow : OpenClaim := { program := "ytiinohkkfjbfhaa", sum := "163fb111f36c76f5cf627d852b4ed5349658d2f8881f695441cfc9c1fe8dff18", func := "loop.example/g01085/laws.FnExactFirstFailing", spec := "fnExactFirstFailing", apart := false }
def FnExactFirstFailingSaid : Prop := fnExactFirstFailingRow.holds Try.pinned (OpenSpec.ofChange fnExactFirstFailingSpec)

/-- ITS FALSE NEIGHBOUR: 'it returns false'. Refute it at one input. -/
def fnExactFirstFailingWrong : ChangeSpec := { name := "fnExactFirstFailing", fn := fun _ => fun
  | [d1, d2, d3] => { results := [.lit (.bool false)], args := [d1, d2, d3] }
  | _ => none }
def FnExactFirstFailingWrongFalsely : Prop := fnExactFirstFailingRow.holds Try.pinned (OpenSpec.ofChange fnExactFirstFailingWrong)

/-- 'laws.FnExactIsSolution': WHATEVER THE INPUT: true; the input reads as it did. -/
def fnExactIsSolutionSpec : ChangeSpec := { name := "fnExactIsSolution", fn := fun _ => fun
  | [d1, d2, d3] => { results := [.lit (.bool true)], args := [d1, d2, d3] }
  | _ => none }
def fnExactIsSolutionRow : OpenClaim := { program := "ytiinohkkfjbfhaa", sum := "163fb111f36c76f5cf627d852b4ed5349658d2f8881f695441cfc9c1fe8dff18", func := "loop.example/g01085/laws.FnExactIsSolution", spec := "fnExactIsSolution", apart := false }
def FnExactIsSolutionSaid : Prop := fnExactIsSolutionRow.holds Try.pinned (OpenSpec.ofChange fnExactIsSolutionSpec)

/-- ITS FALSE NEIGHBOUR: 'it returns false'. Refute it at one input. -/
def fnExactIsSolutionWrong : ChangeSpec := { name := "fnExactIsSolution", fn := fun _ => fun
  | [d1, d2, d3] => { results := [.lit (.bool false)], args := [d1, d2, d3] }
  | _ => none }
def FnExactIsSolutionWrongFalsely : Prop := fnExactIsSolutionRow.holds Try.pinned (OpenSpec.ofChange fnExactIsSolutionWrong)

/-- 'laws.FnExactRestrictInstance': WHATEVER THE INPUT: true; the input reads as it did. -/
def fnExactRestrictInstanceSpec : ChangeSpec := { name := "fnExactRestrictInstance", fn := fun _ => fun
  | [d1, d2, d3] => { results := [.lit (.bool true)], args := [d1, d2, d3] }
  | _ => none }
def fnExactRestrictInstanceRow : OpenClaim := { program := "ytiinohkkfjbfhaa", sum := "163fb111f36c76f5cf627d852b4ed5349658d2f8881f695441cfc9c1fe8dff18", func := "loop.example/g01085/laws.FnExactRestrictInstance", spec := "fnExactRestrictInstance", apart := false }
def FnExactRestrictInstanceSaid : Prop := fnExactRestrictInstanceRow.holds Try.pinned (OpenSpec.ofChange fnExactRestrictInstanceSpec)

/-- ITS FALSE NEIGHBOUR: 'it returns false'. Refute it at one input. -/
def fnExactRestrictInstanceWrong : ChangeSpec := { name := "fnExactRestrictInstance", fn := fun _ => fun
  | [d1, d2, d3] => { results := [.lit (.bool false)], args := [d1, d2, d3] }
  | _ => none }
def FnExactRestrictInstanceWrongFalsely : Prop := fnExactRestrictInstanceRow.holds Try.pinned (OpenSpec.ofChange fnExactRestrictInstanceWrong)

/-- 'laws.FnExactMergeVariables': WHATEVER THE INPUT: true; the input reads as it did. -/
def fnExactMergeVariablesSpec : ChangeSpec := { name := "fnExactMergeVariables", fn := fun _ => fun
  | [d1, d2, d3, d4] => { results := [.lit (.bool true)], args := [d1, d2, d3, d4] }
  | _ => none }
def fnExactMergeVariablesRow : OpenClaim := { program := "ytiinohkkfjbfhaa", sum := "163fb111f36c76f5cf627d852b4ed5349658d2f8881f695441cfc9c1fe8dff18", func := "loop.example/g01085/laws.FnExactMergeVariables", spec := "fnExactMergeVariables", apart := false }
def FnExactMergeVariablesSaid : Prop := fnExactMergeVariablesRow.holds Try.pinned (OpenSpec.ofChange fnExactMergeVariablesSpec)

/-- ITS FALSE NEIGHBOUR: 'it returns false'. Refute it at one input. -/
def fnExactMergeVariablesWrong : ChangeSpec := { name := "fnExactMergeVariables", fn := fun _ => fun
  | [d1, d2, d3, d4] => { results := [.lit (.bool false)], args := [d1, d2, d3, d4] }
  | _ => none }
def FnExactMergeVariablesWrongFalsely : Prop := fnExactMergeVariablesRow.holds Try.pinned (OpenSpec.ofChange fnExactMergeVariablesWrong)

/-- 'laws.FnExactInstanceFormula': WHATEVER THE INPUT: true; the input reads as it did. -/
def fnExactInstanceFormulaSpec : ChangeSpec := { name := "fnExactInstanceFormula", fn := fun _ => fun
  | [d1, d2, d3] => { results := [.lit (.bool true)], args := [d1, d2, d3] }
  | _ => none }
def fnExactInstanceFormulaRow : OpenClaim := { program := "ytiinohkkfjbfhaa", sum := "163fb111f36c76f5cf627d852b4ed5349658d2f8881f695441cfc9c1fe8dff18", func := "loop.example/g01085/laws.FnExactInstanceFormula", spec := "fnExactInstanceFormula", apart := false }
def FnExactInstanceFormulaSaid : Prop := fnExactInstanceFormulaRow.holds Try.pinned (OpenSpec.ofChange fnExactInstanceFormulaSpec)

/-- ITS FALSE NEIGHBOUR: 'it returns false'. Refute it at one input. -/
def fnExactInstanceFormulaWrong : ChangeSpec := { name := "fnExactInstanceFormula", fn := fun _ => fun
  | [d1, d2, d3] => { results := [.lit (.bool false)], args := [d1, d2, d3] }
  | _ => none }
def FnExactInstanceFormulaWrongFalsely : Prop := fnExactInstanceFormulaRow.holds Try.pinned (OpenSpec.ofChange fnExactInstanceFormulaWrong)

/-- 'laws.FnExactConjoinFormulas': WHATEVER THE INPUT: true; the input reads as it did. -/
def fnExactConjoinFormulasSpec : ChangeSpec := { name := "fnExactConjoinFormulas", fn := fun _ => fun
  | [d1, d2, d3] => { results := [.lit (.bool true)], args := [d1, d2, d3] }
  | _ => none }
def fnExactConjoinFormulasRow : OpenClaim := { program := "ytiinohkkfjbfhaa", sum := "163fb111f36c76f5cf627d852b4ed5349658d2f8881f695441cfc9c1fe8dff18", func := "loop.example/g01085/laws.FnExactConjoinFormulas", spec := "fnExactConjoinFormulas", unfollowed := true, recurses := true, apart := false }
def FnExactConjoinFormulasSaid : Prop := fnExactConjoinFormulasRow.holds Try.pinned (OpenSpec.ofChange fnExactConjoinFormulasSpec)

/-- ITS FALSE NEIGHBOUR: 'it returns false'. Refute it at one input. -/
def fnExactConjoinFormulasWrong : ChangeSpec := { name := "fnExactConjoinFormulas", fn := fun _ => fun
  | [d1, d2, d3] => { results := [.lit (.bool false)], args := [d1, d2, d3] }
  | _ => none }
def FnExactConjoinFormulasWrongFalsely : Prop := fnExactConjoinFormulasRow.holds Try.pinned (OpenSpec.ofChange fnExactConjoinFormulasWrong)

/-- 'laws.FnExactReplaceRel': WHATEVER THE INPUT: true; the input reads as it did. -/
def fnExactReplaceRelSpec : ChangeSpec := { name := "fnExactReplaceRel", fn := fun _ => fun
  | [d1, d2, d3, d4] => { results := [.lit (.bool true)], args := [d1, d2, d3, d4] }
  | _ => none }
def fnExactReplaceRelRow : OpenClaim := { program := "ytiinohkkfjbfhaa", sum := "163fb111f36c76f5cf627d852b4ed5349658d2f8881f695441cfc9c1fe8dff18", func := "loop.example/g01085/laws.FnExactReplaceRel", spec := "fnExactReplaceRel", unfollowed := true, recurses := true, apart := false }
def FnExactReplaceRelSaid : Prop := fnExactReplaceRelRow.holds Try.pinned (OpenSpec.ofChange fnExactReplaceRelSpec)

/-- ITS FALSE NEIGHBOUR: 'it returns false'. Refute it at one input. -/
def fnExactReplaceRelWrong : ChangeSpec := { name := "fnExactReplaceRel", fn := fun _ => fun
  | [d1, d2, d3, d4] => { results := [.lit (.bool false)], args := [d1, d2, d3, d4] }
  | _ => none }
def FnExactReplaceRelWrongFalsely : Prop := fnExactReplaceRelRow.holds Try.pinned (OpenSpec.ofChange fnExactReplaceRelWrong)

/- THE SECOND FORM. 'bulk': how many values and letters a reading holds, each counted each time it is reached (what is shared counts as often as it is met; a slice's spare places count too). A statement '..UptoSaid' is the law's where the arguments, and the package variables that the reading takes, are together of bulk at most 1048576: NARROWER than '..Said'. Prove '..Said' where nothing that the law and all that it calls make is longer than what came in: it says more and counts as full. Else prove '..UptoSaid'. A law counts once. -/
mutual
def uptoBulk {H : Type} : DataW H → Nat
  | .lit (.string bytes) => bytes.length + 1
  | .lit _ => 1
  | .nil => 1
  | .ptr d => uptoBulk d + 1
  | .slice elems spare => uptoBulkAll elems + uptoBulkAll spare + 1
  | .agg parts => uptoBulkAll parts + 1
  | .iface _ d => uptoBulk d + 1
  | .map entries => uptoBulkEntries entries + 1
  | .held _ => 1
def uptoBulkAll {H : Type} : List (DataW H) → Nat
  | [] => 0
  | d :: r => uptoBulk d + uptoBulkAll r
def uptoBulkEntries {H : Type} : List (Lit × DataW H) → Nat
  | [] => 0
  | x :: r => uptoBulkEntry x + uptoBulkEntries r
def uptoBulkEntry {H : Type} : Lit × DataW H → Nat
  | (.string bytes, d) => bytes.length + uptoBulk d + 1
  | (_, d) => uptoBulk d + 1
 end
def uptoSmall : (H : Type) → List (DataW H) → Bool := fun _ ds => decide (uptoBulkAll ds ≤ 1048576)
def OpenSpec.upto (s : _root_.Go.ChangeSpec) : _root_.Go.OpenSpec := { _root_.Go.OpenSpec.ofChange s with cond := some uptoSmall }

/-- 'laws.FnExactValidInstance', WHERE WHAT IT READS IS OF BULK AT MOST 1048576: true; the input reads as it did. -/
def fnExactValidInstanceUptoRow : OpenClaim := { program := "ytiinohkkfjbfhaa", sum := "163fb111f36c76f5cf627d852b4ed5349658d2f8881f695441cfc9c1fe8dff18", func := "loop.example/g01085/laws.FnExactValidInstance", spec := "fnExactValidInstance", apart := false, narrowed := true }
def FnExactValidInstanceUptoSaid : Prop := fnExactValidInstanceUptoRow.holds Try.pinned (OpenSpec.upto fnExactValidInstanceSpec)

/-- 'laws.FnExactSameInstance', WHERE WHAT IT READS IS OF BULK AT MOST 1048576: true; the input reads as it did. -/
def fnExactSameInstanceUptoRow : OpenClaim := { program := "ytiinohkkfjbfhaa", sum := "163fb111f36c76f5cf627d852b4ed5349658d2f8881f695441cfc9c1fe8dff18", func := "loop.example/g01085/laws.FnExactSameInstance", spec := "fnExactSameInstance", unfollowed := true, recurses := true, apart := false, narrowed := true }
def FnExactSameInstanceUptoSaid : Prop := fnExactSameInstanceUptoRow.holds Try.pinned (OpenSpec.upto fnExactSameInstanceSpec)

/-- 'laws.FnExactPairIndex', WHERE WHAT IT READS IS OF BULK AT MOST 1048576: true; the input reads as it did. -/
def fnExactPairIndexUptoRow : OpenClaim := { program := "ytiinohkkfjbfhaa", sum := "163fb111f36c76f5cf627d852b4ed5349658d2f8881f695441cfc9c1fe8dff18", func := "loop.example/g01085/laws.FnExactPairIndex", spec := "fnExactPairIndex", apart := false, narrowed := true }
def FnExactPairIndexUptoSaid : Prop := fnExactPairIndexUptoRow.holds Try.pinned (OpenSpec.upto fnExactPairIndexSpec)

/-- 'laws.FnExactFullDomains', WHERE WHAT IT READS IS OF BULK AT MOST 1048576: true; the input reads as it did. -/
def fnExactFullDomainsUptoRow : OpenClaim := { program := "ytiinohkkfjbfhaa", sum := "163fb111f36c76f5cf627d852b4ed5349658d2f8881f695441cfc9c1fe8dff18", func := "loop.example/g01085/laws.FnExactFullDomains", spec := "fnExactFullDomains", apart := false, narrowed := true }
def FnExactFullDomainsUptoSaid : Prop := fnExactFullDomainsUptoRow.holds Try.pinned (OpenSpec.upto fnExactFullDomainsSpec)

/-- 'laws.FnExactValidDomains', WHERE WHAT IT READS IS OF BULK AT MOST 1048576: true; the input reads as it did. -/
def fnExactValidDomainsUptoRow : OpenClaim := { program := "ytiinohkkfjbfhaa", sum := "163fb111f36c76f5cf627d852b4ed5349658d2f8881f695441cfc9c1fe8dff18", func := "loop.example/g01085/laws.FnExactValidDomains", spec := "fnExactValidDomains", apart := false, narrowed := true }
def FnExactValidDomainsUptoSaid : Prop := fnExactValidDomainsUptoRow.holds Try.pinned (OpenSpec.upto fnExactValidDomainsSpec)

/-- 'laws.FnExactFirstFailing', WHERE WHAT IT READS IS OF BULK AT MOST 1048576: true; the input reads as it did. -/
def fnExactFirstFailingUptoRow : OpenClaim := { program := "ytiinohkkfjbfhaa", sum := "163fb111f36c76f5cf627d852b4ed5349658d2f8881f695441cfc9c1fe8dff18", func := "loop.example/g01085/laws.FnExactFirstFailing", spec := "fnExactFirstFailing", apart := false, narrowed := true }
def FnExactFirstFailingUptoSaid : Prop := fnExactFirstFailingUptoRow.holds Try.pinned (OpenSpec.upto fnExactFirstFailingSpec)

/-- 'laws.FnExactIsSolution', WHERE WHAT IT READS IS OF BULK AT MOST 1048576: true; the input reads as it did. -/
def fnExactIsSolutionUptoRow : OpenClaim := { program := "ytiinohkkfjbfhaa", sum := "163fb111f36c76f5cf627d852b4ed5349658d2f8881f695441cfc9c1fe8dff18", func := "loop.example/g01085/laws.FnExactIsSolution", spec := "fnExactIsSolution", apart := false, narrowed := true }
def FnExactIsSolutionUptoSaid : Prop := fnExactIsSolutionUptoRow.holds Try.pinned (OpenSpec.upto fnExactIsSolutionSpec)

/-- 'laws.FnExactRestrictInstance', WHERE WHAT IT READS IS OF BULK AT MOST 1048576: true; the input reads as it did. -/
def fnExactRestrictInstanceUptoRow : OpenClaim := { program := "ytiinohkkfjbfhaa", sum := "163fb111f36c76f5cf627d852b4ed5349658d2f8881f695441cfc9c1fe8dff18", func := "loop.example/g01085/laws.FnExactRestrictInstance", spec := "fnExactRestrictInstance", apart := false, narrowed := true }
def FnExactRestrictInstanceUptoSaid : Prop := fnExactRestrictInstanceUptoRow.holds Try.pinned (OpenSpec.upto fnExactRestrictInstanceSpec)

/-- 'laws.FnExactMergeVariables', WHERE WHAT IT READS IS OF BULK AT MOST 1048576: true; the input reads as it did. -/
def fnExactMergeVariablesUptoRow : OpenClaim := { program := "ytiinohkkfjbfhaa", sum := "163fb111f36c76f5cf627d852b4ed5349658d2f8881f695441cfc9c1fe8dff18", func := "loop.example/g01085/laws.FnExactMergeVariables", spec := "fnExactMergeVariables", apart := false, narrowed := true }
def FnExactMergeVariablesUptoSaid : Prop := fnExactMergeVariablesUptoRow.holds Try.pinned (OpenSpec.upto fnExactMergeVariablesSpec)

/-- 'laws.FnExactInstanceFormula', WHERE WHAT IT READS IS OF BULK AT MOST 1048576: true; the input reads as it did. -/
def fnExactInstanceFormulaUptoRow : OpenClaim := { program := "ytiinohkkfjbfhaa", sum := "163fb111f36c76f5cf627d852b4ed5349658d2f8881f695441cfc9c1fe8dff18", func := "loop.example/g01085/laws.FnExactInstanceFormula", spec := "fnExactInstanceFormula", apart := false, narrowed := true }
def FnExactInstanceFormulaUptoSaid : Prop := fnExactInstanceFormulaUptoRow.holds Try.pinned (OpenSpec.upto fnExactInstanceFormulaSpec)

/-- 'laws.FnExactConjoinFormulas', WHERE WHAT IT READS IS OF BULK AT MOST 1048576: true; the input reads as it did. -/
def fnExactConjoinFormulasUptoRow : OpenClaim := { program := "ytiinohkkfjbfhaa", sum := "163fb111f36c76f5cf627d852b4ed5349658d2f8881f695441cfc9c1fe8dff18", func := "loop.example/g01085/laws.FnExactConjoinFormulas", spec := "fnExactConjoinFormulas", unfollowed := true, recurses := true, apart := false, narrowed := true }
def FnExactConjoinFormulasUptoSaid : Prop := fnExactConjoinFormulasUptoRow.holds Try.pinned (OpenSpec.upto fnExactConjoinFormulasSpec)

/-- 'laws.FnExactReplaceRel', WHERE WHAT IT READS IS OF BULK AT MOST 1048576: true; the input reads as it did. -/
def fnExactReplaceRelUptoRow : OpenClaim := { program := "ytiinohkkfjbfhaa", sum := "163fb111f36c76f5cf627d852b4ed5349658d2f8881f695441cfc9c1fe8dff18", func := "loop.example/g01085/laws.FnExactReplaceRel", spec := "fnExactReplaceRel", unfollowed := true, recurses := true, apart := false, narrowed := true }
def FnExactReplaceRelUptoSaid : Prop := fnExactReplaceRelUptoRow.holds Try.pinned (OpenSpec.upto fnExactReplaceRelSpec)

end Rows
end Go.Proofs.Ytiinohkkfjbfhaa
