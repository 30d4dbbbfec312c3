/-
  No cell of these rows narrows 'for every input' (looked for: loops, veiled, ifaces, maps, wideKeys, modest, calm, conditions, laid).
  DERIVED. THE GIVEN ROWS OF THIS SEAT. 7 by the template 'for every input the law returns true; each argument reads behind the call as it read before'; 0 by the template 'total and deterministic' (their statements: YtfjfkmoeaenlbaaTotals.lean).
  GIVEN WITH THE SEED: the statements are not yours to turn. If you find one false, say at which input.
  Laid BY PROGRAM, IN A SANDBOX (cutbox-rows.mjs): the forced cells as the released guide's own fill.sh prints them over the translation e46dd0762eaa63bb… (all of the seat's roots in one cut). By AI agents, Wed Nov 11 2026. No macro, syntax, notation, axiom, sorry.
-/
import Derived.Test.YtfjfkmoeaenlbaaChecked
import GoSem.Claim
import GoSem.ClaimJoined
import GoSem.ClaimMapViews
import Derived.JoinedTies
import Derived.KernelRfl
namespace Go.Proofs.Ytfjfkmoeaenlbaa
/- THE CELL 'sum', in the pinned program and in every row, IS THE sha256 OF THE DUMP (.gsa) THAT YtfjfkmoeaenlbaaProg.lean LOADS. Nothing in Lean hashes anything: it is a label: what it is worth is what the hold of that sum in a sandbox is worth. -/
noncomputable def Try.pinned : Pinned := { name := "ytfjfkmoeaenlbaa", sum := "e46dd0762eaa63bbd422311ec5c48558e6f26ed7f8a7a8ce54fce62ca2483514", checked := Try.checked }
namespace Rows
def none {H : Type} : Left H := { results := [], args := [] }

/-- 'laws.FnExactValidRel': WHATEVER THE INPUT: true; the input reads as it did. -/
def fnExactValidRelSpec : ChangeSpec := { name := "fnExactValidRel", fn := fun _ => fun
  | [d1, d2] => { results := [.lit (.bool true)], args := [d1, d2] }
  | _ => none }
def fnExactValidRelRow : OpenClaim := { program := "ytfjfkmoeaenlbaa", sum := "e46dd0762eaa63bbd422311ec5c48558e6f26ed7f8a7a8ce54fce62ca2483514", func := "loop.example/g01085/laws.FnExactValidRel", spec := "fnExactValidRel", apart := false }
def FnExactValidRelSaid : Prop := fnExactValidRelRow.holds Try.pinned (OpenSpec.ofChange fnExactValidRelSpec)

/-- ITS FALSE NEIGHBOUR: 'it returns false'. Refute it at one input. -/
def fnExactValidRelWrong : ChangeSpec := { name := "fnExactValidRel", fn := fun _ => fun
  | [d1, d2] => { results := [.lit (.bool false)], args := [d1, d2] }
  | _ => none }
def FnExactValidRelWrongFalsely : Prop := fnExactValidRelRow.holds Try.pinned (OpenSpec.ofChange fnExactValidRelWrong)

/-- 'laws.FnExactSameRel': WHATEVER THE INPUT: true; the input reads as it did. -/
def fnExactSameRelSpec : ChangeSpec := { name := "fnExactSameRel", fn := fun _ => fun
  | [d1, d2] => { results := [.lit (.bool true)], args := [d1, d2] }
  | _ => none }
def fnExactSameRelRow : OpenClaim := { program := "ytfjfkmoeaenlbaa", sum := "e46dd0762eaa63bbd422311ec5c48558e6f26ed7f8a7a8ce54fce62ca2483514", func := "loop.example/g01085/laws.FnExactSameRel", spec := "fnExactSameRel", unfollowed := true, recurses := true, apart := false }
def FnExactSameRelSaid : Prop := fnExactSameRelRow.holds Try.pinned (OpenSpec.ofChange fnExactSameRelSpec)

/-- ITS FALSE NEIGHBOUR: 'it returns false'. Refute it at one input. -/
def fnExactSameRelWrong : ChangeSpec := { name := "fnExactSameRel", fn := fun _ => fun
  | [d1, d2] => { results := [.lit (.bool false)], args := [d1, d2] }
  | _ => none }
def FnExactSameRelWrongFalsely : Prop := fnExactSameRelRow.holds Try.pinned (OpenSpec.ofChange fnExactSameRelWrong)

/-- 'laws.FnExactValidTemplate': WHATEVER THE INPUT: true; the input reads as it did. -/
def fnExactValidTemplateSpec : ChangeSpec := { name := "fnExactValidTemplate", fn := fun _ => fun
  | [d] => { results := [.lit (.bool true)], args := [d] }
  | _ => none }
def fnExactValidTemplateRow : OpenClaim := { program := "ytfjfkmoeaenlbaa", sum := "e46dd0762eaa63bbd422311ec5c48558e6f26ed7f8a7a8ce54fce62ca2483514", func := "loop.example/g01085/laws.FnExactValidTemplate", spec := "fnExactValidTemplate", apart := false }
def FnExactValidTemplateSaid : Prop := fnExactValidTemplateRow.holds Try.pinned (OpenSpec.ofChange fnExactValidTemplateSpec)

/-- ITS FALSE NEIGHBOUR: 'it returns false'. Refute it at one input. -/
def fnExactValidTemplateWrong : ChangeSpec := { name := "fnExactValidTemplate", fn := fun _ => fun
  | [d] => { results := [.lit (.bool false)], args := [d] }
  | _ => none }
def FnExactValidTemplateWrongFalsely : Prop := fnExactValidTemplateRow.holds Try.pinned (OpenSpec.ofChange fnExactValidTemplateWrong)

/-- 'laws.FnExactSameTemplate': WHATEVER THE INPUT: true; the input reads as it did. -/
def fnExactSameTemplateSpec : ChangeSpec := { name := "fnExactSameTemplate", fn := fun _ => fun
  | [d1, d2] => { results := [.lit (.bool true)], args := [d1, d2] }
  | _ => none }
def fnExactSameTemplateRow : OpenClaim := { program := "ytfjfkmoeaenlbaa", sum := "e46dd0762eaa63bbd422311ec5c48558e6f26ed7f8a7a8ce54fce62ca2483514", func := "loop.example/g01085/laws.FnExactSameTemplate", spec := "fnExactSameTemplate", unfollowed := true, recurses := true, apart := false }
def FnExactSameTemplateSaid : Prop := fnExactSameTemplateRow.holds Try.pinned (OpenSpec.ofChange fnExactSameTemplateSpec)

/-- ITS FALSE NEIGHBOUR: 'it returns false'. Refute it at one input. -/
def fnExactSameTemplateWrong : ChangeSpec := { name := "fnExactSameTemplate", fn := fun _ => fun
  | [d1, d2] => { results := [.lit (.bool false)], args := [d1, d2] }
  | _ => none }
def FnExactSameTemplateWrongFalsely : Prop := fnExactSameTemplateRow.holds Try.pinned (OpenSpec.ofChange fnExactSameTemplateWrong)

/-- 'laws.FnExactHasTuple': WHATEVER THE INPUT: true; the input reads as it did. -/
def fnExactHasTupleSpec : ChangeSpec := { name := "fnExactHasTuple", fn := fun _ => fun
  | [d1, d2, d3] => { results := [.lit (.bool true)], args := [d1, d2, d3] }
  | _ => none }
def fnExactHasTupleRow : OpenClaim := { program := "ytfjfkmoeaenlbaa", sum := "e46dd0762eaa63bbd422311ec5c48558e6f26ed7f8a7a8ce54fce62ca2483514", func := "loop.example/g01085/laws.FnExactHasTuple", spec := "fnExactHasTuple", apart := false }
def FnExactHasTupleSaid : Prop := fnExactHasTupleRow.holds Try.pinned (OpenSpec.ofChange fnExactHasTupleSpec)

/-- ITS FALSE NEIGHBOUR: 'it returns false'. Refute it at one input. -/
def fnExactHasTupleWrong : ChangeSpec := { name := "fnExactHasTuple", fn := fun _ => fun
  | [d1, d2, d3] => { results := [.lit (.bool false)], args := [d1, d2, d3] }
  | _ => none }
def FnExactHasTupleWrongFalsely : Prop := fnExactHasTupleRow.holds Try.pinned (OpenSpec.ofChange fnExactHasTupleWrong)

/-- 'laws.FnExactIsPartOf': WHATEVER THE INPUT: true; the input reads as it did. -/
def fnExactIsPartOfSpec : ChangeSpec := { name := "fnExactIsPartOf", fn := fun _ => fun
  | [d1, d2, d3] => { results := [.lit (.bool true)], args := [d1, d2, d3] }
  | _ => none }
def fnExactIsPartOfRow : OpenClaim := { program := "ytfjfkmoeaenlbaa", sum := "e46dd0762eaa63bbd422311ec5c48558e6f26ed7f8a7a8ce54fce62ca2483514", func := "loop.example/g01085/laws.FnExactIsPartOf", spec := "fnExactIsPartOf", apart := false }
def FnExactIsPartOfSaid : Prop := fnExactIsPartOfRow.holds Try.pinned (OpenSpec.ofChange fnExactIsPartOfSpec)

/-- ITS FALSE NEIGHBOUR: 'it returns false'. Refute it at one input. -/
def fnExactIsPartOfWrong : ChangeSpec := { name := "fnExactIsPartOf", fn := fun _ => fun
  | [d1, d2, d3] => { results := [.lit (.bool false)], args := [d1, d2, d3] }
  | _ => none }
def FnExactIsPartOfWrongFalsely : Prop := fnExactIsPartOfRow.holds Try.pinned (OpenSpec.ofChange fnExactIsPartOfWrong)

/-- 'laws.FnExactEqualRel': WHATEVER THE INPUT: true; the input reads as it did. -/
def fnExactEqualRelSpec : ChangeSpec := { name := "fnExactEqualRel", fn := fun _ => fun
  | [d] => { results := [.lit (.bool true)], args := [d] }
  | _ => none }
def fnExactEqualRelRow : OpenClaim := { program := "ytfjfkmoeaenlbaa", sum := "e46dd0762eaa63bbd422311ec5c48558e6f26ed7f8a7a8ce54fce62ca2483514", func := "loop.example/g01085/laws.FnExactEqualRel", spec := "fnExactEqualRel", apart := false }
def FnExactEqualRelSaid : Prop := fnExactEqualRelRow.holds Try.pinned (OpenSpec.ofChange fnExactEqualRelSpec)

/-- ITS FALSE NEIGHBOUR: 'it returns false'. Refute it at one input. -/
def fnExactEqualRelWrong : ChangeSpec := { name := "fnExactEqualRel", fn := fun _ => fun
  | [d] => { results := [.lit (.bool false)], args := [d] }
  | _ => none }
def FnExactEqualRelWrongFalsely : Prop := fnExactEqualRelRow.holds Try.pinned (OpenSpec.ofChange fnExactEqualRelWrong)

/- THE SECOND FORM. 'bulk': how many values and letters a reading holds, each counted each time it is reached (what is shared counts as often as it is met; a slice's spare places count too). A statement '..UptoSaid' is the law's where the arguments, and the package variables that the reading takes, are together of bulk at most 1048576: NARROWER than '..Said'. Prove '..Said' where nothing that the law and all that it calls make is longer than what came in: it says more and counts as full. Else prove '..UptoSaid'. A law counts once. -/
mutual
def uptoBulk {H : Type} : DataW H → Nat
  | .lit (.string bytes) => bytes.length + 1
  | .lit _ => 1
  | .nil => 1
  | .ptr d => uptoBulk d + 1
  | .slice elems spare => uptoBulkAll elems + uptoBulkAll spare + 1
  | .agg parts => uptoBulkAll parts + 1
  | .iface _ d => uptoBulk d + 1
  | .map entries => uptoBulkEntries entries + 1
  | .held _ => 1
def uptoBulkAll {H : Type} : List (DataW H) → Nat
  | [] => 0
  | d :: r => uptoBulk d + uptoBulkAll r
def uptoBulkEntries {H : Type} : List (Lit × DataW H) → Nat
  | [] => 0
  | x :: r => uptoBulkEntry x + uptoBulkEntries r
def uptoBulkEntry {H : Type} : Lit × DataW H → Nat
  | (.string bytes, d) => bytes.length + uptoBulk d + 1
  | (_, d) => uptoBulk d + 1
 end
def uptoSmall : (H : Type) → List (DataW H) → Bool := fun _ ds => decide (uptoBulkAll ds ≤ 1048576)
def OpenSpec.upto (s : _root_.Go.ChangeSpec) : _root_.Go.OpenSpec := { _root_.Go.OpenSpec.ofChange s with cond := some uptoSmall }

/-- 'laws.FnExactValidRel', WHERE WHAT IT READS IS OF BULK AT MOST 1048576: true; the input reads as it did. -/
def fnExactValidRelUptoRow : OpenClaim := { program := "ytfjfkmoeaenlbaa", sum := "e46dd0762eaa63bbd422311ec5c48558e6f26ed7f8a7a8ce54fce62ca2483514", func := "loop.example/g01085/laws.FnExactValidRel", spec := "fnExactValidRel", apart := false, narrowed := true }
def FnExactValidRelUptoSaid : Prop := fnExactValidRelUptoRow.holds Try.pinned (OpenSpec.upto fnExactValidRelSpec)

/-- 'laws.FnExactSameRel', WHERE WHAT IT READS IS OF BULK AT MOST 1048576: true; the input reads as it did. -/
def fnExactSameRelUptoRow : OpenClaim := { program := "ytfjfkmoeaenlbaa", sum := "e46dd0762eaa63bbd422311ec5c48558e6f26ed7f8a7a8ce54fce62ca2483514", func := "loop.example/g01085/laws.FnExactSameRel", spec := "fnExactSameRel", unfollowed := true, recurses := true, apart := false, narrowed := true }
def FnExactSameRelUptoSaid : Prop := fnExactSameRelUptoRow.holds Try.pinned (OpenSpec.upto fnExactSameRelSpec)

/-- 'laws.FnExactValidTemplate', WHERE WHAT IT READS IS OF BULK AT MOST 1048576: true; the input reads as it did. -/
def fnExactValidTemplateUptoRow : OpenClaim := { program := "ytfjfkmoeaenlbaa", sum := "e46dd0762eaa63bbd422311ec5c48558e6f26ed7f8a7a8ce54fce62ca2483514", func := "loop.example/g01085/laws.FnExactValidTemplate", spec := "fnExactValidTemplate", apart := false, narrowed := true }
def FnExactValidTemplateUptoSaid : Prop := fnExactValidTemplateUptoRow.holds Try.pinned (OpenSpec.upto fnExactValidTemplateSpec)

/-- 'laws.FnExactSameTemplate', WHERE WHAT IT READS IS OF BULK AT MOST 1048576: true; the input reads as it did. -/
def fnExactSameTemplateUptoRow : OpenClaim := { program := "ytfjfkmoeaenlbaa", sum := "e46dd0762eaa63bbd422311ec5c48558e6f26ed7f8a7a8ce54fce62ca2483514", func := "loop.example/g01085/laws.FnExactSameTemplate", spec := "fnExactSameTemplate", unfollowed := true, recurses := true, apart := false, narrowed := true }
def FnExactSameTemplateUptoSaid : Prop := fnExactSameTemplateUptoRow.holds Try.pinned (OpenSpec.upto fnExactSameTemplateSpec)

/-- 'laws.FnExactHasTuple', WHERE WHAT IT READS IS OF BULK AT MOST 1048576: true; the input reads as it did. -/
def fnExactHasTupleUptoRow : OpenClaim := { program := "ytfjfkmoeaenlbaa", sum := "e46dd0762eaa63bbd422311ec5c48558e6f26ed7f8a7a8ce54fce62ca2483514", func := "loop.example/g01085/laws.FnExactHasTuple", spec := "fnExactHasTuple", apart := false, narrowed := true }
def FnExactHasTupleUptoSaid : Prop := fnExactHasTupleUptoRow.holds Try.pinned (OpenSpec.upto fnExactHasTupleSpec)

/-- 'laws.FnExactIsPartOf', WHERE WHAT IT READS IS OF BULK AT MOST 1048576: true; the input reads as it did. -/
def fnExactIsPartOfUptoRow : OpenClaim := { program := "ytfjfkmoeaenlbaa", sum := "e46dd0762eaa63bbd422311ec5c48558e6f26ed7f8a7a8ce54fce62ca2483514", func := "loop.example/g01085/laws.FnExactIsPartOf", spec := "fnExactIsPartOf", apart := false, narrowed := true }
def FnExactIsPartOfUptoSaid : Prop := fnExactIsPartOfUptoRow.holds Try.pinned (OpenSpec.upto fnExactIsPartOfSpec)

/-- 'laws.FnExactEqualRel', WHERE WHAT IT READS IS OF BULK AT MOST 1048576: true; the input reads as it did. -/
def fnExactEqualRelUptoRow : OpenClaim := { program := "ytfjfkmoeaenlbaa", sum := "e46dd0762eaa63bbd422311ec5c48558e6f26ed7f8a7a8ce54fce62ca2483514", func := "loop.example/g01085/laws.FnExactEqualRel", spec := "fnExactEqualRel", apart := false, narrowed := true }
def FnExactEqualRelUptoSaid : Prop := fnExactEqualRelUptoRow.holds Try.pinned (OpenSpec.upto fnExactEqualRelSpec)

end Rows
end Go.Proofs.Ytfjfkmoeaenlbaa
