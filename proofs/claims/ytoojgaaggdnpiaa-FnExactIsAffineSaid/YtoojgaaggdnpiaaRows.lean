/-
  No cell of these rows narrows 'for every input' (looked for: loops, veiled, ifaces, maps, wideKeys, modest, calm, conditions, laid).
  DERIVED. THE GIVEN ROWS OF THIS SEAT. 12 by the template 'for every input the law returns true; each argument reads behind the call as it read before'; 0 by the template 'total and deterministic' (their statements: YtoojgaaggdnpiaaTotals.lean).
  GIVEN WITH THE SEED: the statements are not yours to turn. If you find one false, say at which input.
  Laid BY PROGRAM, IN A SANDBOX (cutbox-rows.mjs): the forced cells as the released guide's own fill.sh prints them over the translation 65f009434a8dfa87… (all of the seat's roots in one cut). By AI agents, Wed Nov 11 2026. No macro, syntax, notation, axiom, sorry.
-/
import Derived.Test.YtoojgaaggdnpiaaChecked
import GoSem.Claim
import GoSem.ClaimJoined
import GoSem.ClaimMapViews
import Derived.JoinedTies
import Derived.KernelRfl
namespace Go.Proofs.Ytoojgaaggdnpiaa
/- THE CELL 'sum', in the pinned program and in every row, IS THE sha256 OF THE DUMP (.gsa) THAT YtoojgaaggdnpiaaProg.lean LOADS. Nothing in Lean hashes anything: it is a label: what it is worth is what the hold of that sum in a sandbox is worth. -/
noncomputable def Try.pinned : Pinned := { name := "ytoojgaaggdnpiaa", sum := "65f009434a8dfa8746f1155d03aa7500d853f09a8f4ff0c8bd0898bc4a7bada3", checked := Try.checked }
namespace Rows
def none {H : Type} : Left H := { results := [], args := [] }

/-- 'laws.FnExactKeeps': WHATEVER THE INPUT: true; the input reads as it did. -/
def fnExactKeepsSpec : ChangeSpec := { name := "fnExactKeeps", fn := fun _ => fun
  | [d1, d2, d3] => { results := [.lit (.bool true)], args := [d1, d2, d3] }
  | _ => none }
def fnExactKeepsRow : OpenClaim := { program := "ytoojgaaggdnpiaa", sum := "65f009434a8dfa8746f1155d03aa7500d853f09a8f4ff0c8bd0898bc4a7bada3", func := "loop.example/g01085/laws.FnExactKeeps", spec := "fnExactKeeps", unfollowed := true, recurses := true, apart := false }
def FnExactKeepsSaid : Prop := fnExactKeepsRow.holds Try.pinned (OpenSpec.ofChange fnExactKeepsSpec)

/-- ITS FALSE NEIGHBOUR: 'it returns false'. Refute it at one input. -/
def fnExactKeepsWrong : ChangeSpec := { name := "fnExactKeeps", fn := fun _ => fun
  | [d1, d2, d3] => { results := [.lit (.bool false)], args := [d1, d2, d3] }
  | _ => none }
def FnExactKeepsWrongFalsely : Prop := fnExactKeepsRow.holds Try.pinned (OpenSpec.ofChange fnExactKeepsWrong)

/-- 'laws.FnExactKeepsAll': WHATEVER THE INPUT: true; the input reads as it did. -/
def fnExactKeepsAllSpec : ChangeSpec := { name := "fnExactKeepsAll", fn := fun _ => fun
  | [d1, d2] => { results := [.lit (.bool true)], args := [d1, d2] }
  | _ => none }
def fnExactKeepsAllRow : OpenClaim := { program := "ytoojgaaggdnpiaa", sum := "65f009434a8dfa8746f1155d03aa7500d853f09a8f4ff0c8bd0898bc4a7bada3", func := "loop.example/g01085/laws.FnExactKeepsAll", spec := "fnExactKeepsAll", unfollowed := true, recurses := true, apart := false }
def FnExactKeepsAllSaid : Prop := fnExactKeepsAllRow.holds Try.pinned (OpenSpec.ofChange fnExactKeepsAllSpec)

/-- ITS FALSE NEIGHBOUR: 'it returns false'. Refute it at one input. -/
def fnExactKeepsAllWrong : ChangeSpec := { name := "fnExactKeepsAll", fn := fun _ => fun
  | [d1, d2] => { results := [.lit (.bool false)], args := [d1, d2] }
  | _ => none }
def FnExactKeepsAllWrongFalsely : Prop := fnExactKeepsAllRow.holds Try.pinned (OpenSpec.ofChange fnExactKeepsAllWrong)

/-- 'laws.FnExactIsPolymorphism': WHATEVER THE INPUT: true; the input reads as it did. -/
def fnExactIsPolymorphismSpec : ChangeSpec := { name := "fnExactIsPolymorphism", fn := fun _ => fun
  | [d1, d2] => { results := [.lit (.bool true)], args := [d1, d2] }
  | _ => none }
def fnExactIsPolymorphismRow : OpenClaim := { program := "ytoojgaaggdnpiaa", sum := "65f009434a8dfa8746f1155d03aa7500d853f09a8f4ff0c8bd0898bc4a7bada3", func := "loop.example/g01085/laws.FnExactIsPolymorphism", spec := "fnExactIsPolymorphism", unfollowed := true, recurses := true, apart := false }
def FnExactIsPolymorphismSaid : Prop := fnExactIsPolymorphismRow.holds Try.pinned (OpenSpec.ofChange fnExactIsPolymorphismSpec)

/-- ITS FALSE NEIGHBOUR: 'it returns false'. Refute it at one input. -/
def fnExactIsPolymorphismWrong : ChangeSpec := { name := "fnExactIsPolymorphism", fn := fun _ => fun
  | [d1, d2] => { results := [.lit (.bool false)], args := [d1, d2] }
  | _ => none }
def FnExactIsPolymorphismWrongFalsely : Prop := fnExactIsPolymorphismRow.holds Try.pinned (OpenSpec.ofChange fnExactIsPolymorphismWrong)

/-- 'laws.FnExactIsAffine': WHATEVER THE INPUT: true; the input reads as it did. -/
def fnExactIsAffineSpec : ChangeSpec := { name := "fnExactIsAffine", fn := fun _ => fun
  | [d1, d2] => { results := [.lit (.bool true)], args := [d1, d2] }
  | _ => none }
def fnExactIsAffineRow : OpenClaim := { program := "ytoojgaaggdnpiaa", sum := "65f009434a8dfa8746f1155d03aa7500d853f09a8f4ff0c8bd0898bc4a7bada3", func := "loop.example/g01085/laws.FnExactIsAffine", spec := "fnExactIsAffine", unfollowed := true, recurses := true, apart := false }
def FnExactIsAffineSaid : Prop := fnExactIsAffineRow.holds Try.pinned (OpenSpec.ofChange fnExactIsAffineSpec)

/-- ITS FALSE NEIGHBOUR: 'it returns false'. Refute it at one input. -/
def fnExactIsAffineWrong : ChangeSpec := { name := "fnExactIsAffine", fn := fun _ => fun
  | [d1, d2] => { results := [.lit (.bool false)], args := [d1, d2] }
  | _ => none }
def FnExactIsAffineWrongFalsely : Prop := fnExactIsAffineRow.holds Try.pinned (OpenSpec.ofChange fnExactIsAffineWrong)

/-- 'laws.FnExactBreakingTuples': WHATEVER THE INPUT: true; the input reads as it did. -/
def fnExactBreakingTuplesSpec : ChangeSpec := { name := "fnExactBreakingTuples", fn := fun _ => fun
  | [d1, d2, d3] => { results := [.lit (.bool true)], args := [d1, d2, d3] }
  | _ => none }
def fnExactBreakingTuplesRow : OpenClaim := { program := "ytoojgaaggdnpiaa", sum := "65f009434a8dfa8746f1155d03aa7500d853f09a8f4ff0c8bd0898bc4a7bada3", func := "loop.example/g01085/laws.FnExactBreakingTuples", spec := "fnExactBreakingTuples", unfollowed := true, recurses := true, apart := false }
def FnExactBreakingTuplesSaid : Prop := fnExactBreakingTuplesRow.holds Try.pinned (OpenSpec.ofChange fnExactBreakingTuplesSpec)

/-- ITS FALSE NEIGHBOUR: 'it returns false'. Refute it at one input. -/
def fnExactBreakingTuplesWrong : ChangeSpec := { name := "fnExactBreakingTuples", fn := fun _ => fun
  | [d1, d2, d3] => { results := [.lit (.bool false)], args := [d1, d2, d3] }
  | _ => none }
def FnExactBreakingTuplesWrongFalsely : Prop := fnExactBreakingTuplesRow.holds Try.pinned (OpenSpec.ofChange fnExactBreakingTuplesWrong)

/-- 'laws.FnExactReduceSystem': WHATEVER THE INPUT: true; the input reads as it did. -/
def fnExactReduceSystemSpec : ChangeSpec := { name := "fnExactReduceSystem", fn := fun _ => fun
  | [d] => { results := [.lit (.bool true)], args := [d] }
  | _ => none }
def fnExactReduceSystemRow : OpenClaim := { program := "ytoojgaaggdnpiaa", sum := "65f009434a8dfa8746f1155d03aa7500d853f09a8f4ff0c8bd0898bc4a7bada3", func := "loop.example/g01085/laws.FnExactReduceSystem", spec := "fnExactReduceSystem", unfollowed := true, recurses := true, apart := false }
def FnExactReduceSystemSaid : Prop := fnExactReduceSystemRow.holds Try.pinned (OpenSpec.ofChange fnExactReduceSystemSpec)

/-- ITS FALSE NEIGHBOUR: 'it returns false'. Refute it at one input. -/
def fnExactReduceSystemWrong : ChangeSpec := { name := "fnExactReduceSystem", fn := fun _ => fun
  | [d] => { results := [.lit (.bool false)], args := [d] }
  | _ => none }
def FnExactReduceSystemWrongFalsely : Prop := fnExactReduceSystemRow.holds Try.pinned (OpenSpec.ofChange fnExactReduceSystemWrong)

/-- 'laws.FnExactRankOfSystem': WHATEVER THE INPUT: true; the input reads as it did. -/
def fnExactRankOfSystemSpec : ChangeSpec := { name := "fnExactRankOfSystem", fn := fun _ => fun
  | [d] => { results := [.lit (.bool true)], args := [d] }
  | _ => none }
def fnExactRankOfSystemRow : OpenClaim := { program := "ytoojgaaggdnpiaa", sum := "65f009434a8dfa8746f1155d03aa7500d853f09a8f4ff0c8bd0898bc4a7bada3", func := "loop.example/g01085/laws.FnExactRankOfSystem", spec := "fnExactRankOfSystem", unfollowed := true, recurses := true, apart := false }
def FnExactRankOfSystemSaid : Prop := fnExactRankOfSystemRow.holds Try.pinned (OpenSpec.ofChange fnExactRankOfSystemSpec)

/-- ITS FALSE NEIGHBOUR: 'it returns false'. Refute it at one input. -/
def fnExactRankOfSystemWrong : ChangeSpec := { name := "fnExactRankOfSystem", fn := fun _ => fun
  | [d] => { results := [.lit (.bool false)], args := [d] }
  | _ => none }
def FnExactRankOfSystemWrongFalsely : Prop := fnExactRankOfSystemRow.holds Try.pinned (OpenSpec.ofChange fnExactRankOfSystemWrong)

/-- 'laws.FnExactSolveSystem': WHATEVER THE INPUT: true; the input reads as it did. -/
def fnExactSolveSystemSpec : ChangeSpec := { name := "fnExactSolveSystem", fn := fun _ => fun
  | [d] => { results := [.lit (.bool true)], args := [d] }
  | _ => none }
def fnExactSolveSystemRow : OpenClaim := { program := "ytoojgaaggdnpiaa", sum := "65f009434a8dfa8746f1155d03aa7500d853f09a8f4ff0c8bd0898bc4a7bada3", func := "loop.example/g01085/laws.FnExactSolveSystem", spec := "fnExactSolveSystem", unfollowed := true, recurses := true, apart := false }
def FnExactSolveSystemSaid : Prop := fnExactSolveSystemRow.holds Try.pinned (OpenSpec.ofChange fnExactSolveSystemSpec)

/-- ITS FALSE NEIGHBOUR: 'it returns false'. Refute it at one input. -/
def fnExactSolveSystemWrong : ChangeSpec := { name := "fnExactSolveSystem", fn := fun _ => fun
  | [d] => { results := [.lit (.bool false)], args := [d] }
  | _ => none }
def FnExactSolveSystemWrongFalsely : Prop := fnExactSolveSystemRow.holds Try.pinned (OpenSpec.ofChange fnExactSolveSystemWrong)

/-- 'laws.FnExactCountAnswers': WHATEVER THE INPUT: true; the input reads as it did. -/
def fnExactCountAnswersSpec : ChangeSpec := { name := "fnExactCountAnswers", fn := fun _ => fun
  | [d] => { results := [.lit (.bool true)], args := [d] }
  | _ => none }
def fnExactCountAnswersRow : OpenClaim := { program := "ytoojgaaggdnpiaa", sum := "65f009434a8dfa8746f1155d03aa7500d853f09a8f4ff0c8bd0898bc4a7bada3", func := "loop.example/g01085/laws.FnExactCountAnswers", spec := "fnExactCountAnswers", unfollowed := true, recurses := true, apart := false }
def FnExactCountAnswersSaid : Prop := fnExactCountAnswersRow.holds Try.pinned (OpenSpec.ofChange fnExactCountAnswersSpec)

/-- ITS FALSE NEIGHBOUR: 'it returns false'. Refute it at one input. -/
def fnExactCountAnswersWrong : ChangeSpec := { name := "fnExactCountAnswers", fn := fun _ => fun
  | [d] => { results := [.lit (.bool false)], args := [d] }
  | _ => none }
def FnExactCountAnswersWrongFalsely : Prop := fnExactCountAnswersRow.holds Try.pinned (OpenSpec.ofChange fnExactCountAnswersWrong)

/-- 'laws.FnExactRefuteSystem': WHATEVER THE INPUT: true; the input reads as it did. -/
def fnExactRefuteSystemSpec : ChangeSpec := { name := "fnExactRefuteSystem", fn := fun _ => fun
  | [d] => { results := [.lit (.bool true)], args := [d] }
  | _ => none }
def fnExactRefuteSystemRow : OpenClaim := { program := "ytoojgaaggdnpiaa", sum := "65f009434a8dfa8746f1155d03aa7500d853f09a8f4ff0c8bd0898bc4a7bada3", func := "loop.example/g01085/laws.FnExactRefuteSystem", spec := "fnExactRefuteSystem", unfollowed := true, recurses := true, apart := false }
def FnExactRefuteSystemSaid : Prop := fnExactRefuteSystemRow.holds Try.pinned (OpenSpec.ofChange fnExactRefuteSystemSpec)

/-- ITS FALSE NEIGHBOUR: 'it returns false'. Refute it at one input. -/
def fnExactRefuteSystemWrong : ChangeSpec := { name := "fnExactRefuteSystem", fn := fun _ => fun
  | [d] => { results := [.lit (.bool false)], args := [d] }
  | _ => none }
def FnExactRefuteSystemWrongFalsely : Prop := fnExactRefuteSystemRow.holds Try.pinned (OpenSpec.ofChange fnExactRefuteSystemWrong)

/-- 'laws.FnExactDerivationOf': WHATEVER THE INPUT: true; the input reads as it did. -/
def fnExactDerivationOfSpec : ChangeSpec := { name := "fnExactDerivationOf", fn := fun _ => fun
  | [d1, d2] => { results := [.lit (.bool true)], args := [d1, d2] }
  | _ => none }
def fnExactDerivationOfRow : OpenClaim := { program := "ytoojgaaggdnpiaa", sum := "65f009434a8dfa8746f1155d03aa7500d853f09a8f4ff0c8bd0898bc4a7bada3", func := "loop.example/g01085/laws.FnExactDerivationOf", spec := "fnExactDerivationOf", unfollowed := true, recurses := true, apart := false }
def FnExactDerivationOfSaid : Prop := fnExactDerivationOfRow.holds Try.pinned (OpenSpec.ofChange fnExactDerivationOfSpec)

/-- ITS FALSE NEIGHBOUR: 'it returns false'. Refute it at one input. -/
def fnExactDerivationOfWrong : ChangeSpec := { name := "fnExactDerivationOf", fn := fun _ => fun
  | [d1, d2] => { results := [.lit (.bool false)], args := [d1, d2] }
  | _ => none }
def FnExactDerivationOfWrongFalsely : Prop := fnExactDerivationOfRow.holds Try.pinned (OpenSpec.ofChange fnExactDerivationOfWrong)

/-- 'laws.FnExactFollows': WHATEVER THE INPUT: true; the input reads as it did. -/
def fnExactFollowsSpec : ChangeSpec := { name := "fnExactFollows", fn := fun _ => fun
  | [d1, d2] => { results := [.lit (.bool true)], args := [d1, d2] }
  | _ => none }
def fnExactFollowsRow : OpenClaim := { program := "ytoojgaaggdnpiaa", sum := "65f009434a8dfa8746f1155d03aa7500d853f09a8f4ff0c8bd0898bc4a7bada3", func := "loop.example/g01085/laws.FnExactFollows", spec := "fnExactFollows", unfollowed := true, recurses := true, apart := false }
def FnExactFollowsSaid : Prop := fnExactFollowsRow.holds Try.pinned (OpenSpec.ofChange fnExactFollowsSpec)

/-- ITS FALSE NEIGHBOUR: 'it returns false'. Refute it at one input. -/
def fnExactFollowsWrong : ChangeSpec := { name := "fnExactFollows", fn := fun _ => fun
  | [d1, d2] => { results := [.lit (.bool false)], args := [d1, d2] }
  | _ => none }
def FnExactFollowsWrongFalsely : Prop := fnExactFollowsRow.holds Try.pinned (OpenSpec.ofChange fnExactFollowsWrong)

/- THE SECOND FORM. 'bulk': how many values and letters a reading holds, each counted each time it is reached (what is shared counts as often as it is met; a slice's spare places count too). A statement '..UptoSaid' is the law's where the arguments, and the package variables that the reading takes, are together of bulk at most 1048576: NARROWER than '..Said'. Prove '..Said' where nothing that the law and all that it calls make is longer than what came in: it says more and counts as full. Else prove '..UptoSaid'. A law counts once. -/
mutual
def uptoBulk {H : Type} : DataW H → Nat
  | .lit (.string bytes) => bytes.length + 1
  | .lit _ => 1
  | .nil => 1
  | .ptr d => uptoBulk d + 1
  | .slice elems spare => uptoBulkAll elems + uptoBulkAll spare + 1
  | .agg parts => uptoBulkAll parts + 1
  | .iface _ d => uptoBulk d + 1
  | .map entries => uptoBulkEntries entries + 1
  | .held _ => 1
def uptoBulkAll {H : Type} : List (DataW H) → Nat
  | [] => 0
  | d :: r => uptoBulk d + uptoBulkAll r
def uptoBulkEntries {H : Type} : List (Lit × DataW H) → Nat
  | [] => 0
  | x :: r => uptoBulkEntry x + uptoBulkEntries r
def uptoBulkEntry {H : Type} : Lit × DataW H → Nat
  | (.string bytes, d) => bytes.length + uptoBulk d + 1
  | (_, d) => uptoBulk d + 1
 end
def uptoSmall : (H : Type) → List (DataW H) → Bool := fun _ ds => decide (uptoBulkAll ds ≤ 1048576)
def OpenSpec.upto (s : _root_.Go.ChangeSpec) : _root_.Go.OpenSpec := { _root_.Go.OpenSpec.ofChange s with cond := some uptoSmall }

/-- 'laws.FnExactKeeps', WHERE WHAT IT READS IS OF BULK AT MOST 1048576: true; the input reads as it did. -/
def fnExactKeepsUptoRow : OpenClaim := { program := "ytoojgaaggdnpiaa", sum := "65f009434a8dfa8746f1155d03aa7500d853f09a8f4ff0c8bd0898bc4a7bada3", func := "loop.example/g01085/laws.FnExactKeeps", spec := "fnExactKeeps", unfollowed := true, recurses := true, apart := false, narrowed := true }
def FnExactKeepsUptoSaid : Prop := fnExactKeepsUptoRow.holds Try.pinned (OpenSpec.upto fnExactKeepsSpec)

/-- 'laws.FnExactKeepsAll', WHERE WHAT IT READS IS OF BULK AT MOST 1048576: true; the input reads as it did. -/
def fnExactKeepsAllUptoRow : OpenClaim := { program := "ytoojgaaggdnpiaa", sum := "65f009434a8dfa8746f1155d03aa7500d853f09a8f4ff0c8bd0898bc4a7bada3", func := "loop.example/g01085/laws.FnExactKeepsAll", spec := "fnExactKeepsAll", unfollowed := true, recurses := true, apart := false, narrowed := true }
def FnExactKeepsAllUptoSaid : Prop := fnExactKeepsAllUptoRow.holds Try.pinned (OpenSpec.upto fnExactKeepsAllSpec)

/-- 'laws.FnExactIsPolymorphism', WHERE WHAT IT READS IS OF BULK AT MOST 1048576: true; the input reads as it did. -/
def fnExactIsPolymorphismUptoRow : OpenClaim := { program := "ytoojgaaggdnpiaa", sum := "65f009434a8dfa8746f1155d03aa7500d853f09a8f4ff0c8bd0898bc4a7bada3", func := "loop.example/g01085/laws.FnExactIsPolymorphism", spec := "fnExactIsPolymorphism", unfollowed := true, recurses := true, apart := false, narrowed := true }
def FnExactIsPolymorphismUptoSaid : Prop := fnExactIsPolymorphismUptoRow.holds Try.pinned (OpenSpec.upto fnExactIsPolymorphismSpec)

/-- 'laws.FnExactIsAffine', WHERE WHAT IT READS IS OF BULK AT MOST 1048576: true; the input reads as it did. -/
def fnExactIsAffineUptoRow : OpenClaim := { program := "ytoojgaaggdnpiaa", sum := "65f009434a8dfa8746f1155d03aa7500d853f09a8f4ff0c8bd0898bc4a7bada3", func := "loop.example/g01085/laws.FnExactIsAffine", spec := "fnExactIsAffine", unfollowed := true, recurses := true, apart := false, narrowed := true }
def FnExactIsAffineUptoSaid : Prop := fnExactIsAffineUptoRow.holds Try.pinned (OpenSpec.upto fnExactIsAffineSpec)

/-- 'laws.FnExactBreakingTuples', WHERE WHAT IT READS IS OF BULK AT MOST 1048576: true; the input reads as it did. -/
def fnExactBreakingTuplesUptoRow : OpenClaim := { program := "ytoojgaaggdnpiaa", sum := "65f009434a8dfa8746f1155d03aa7500d853f09a8f4ff0c8bd0898bc4a7bada3", func := "loop.example/g01085/laws.FnExactBreakingTuples", spec := "fnExactBreakingTuples", unfollowed := true, recurses := true, apart := false, narrowed := true }
def FnExactBreakingTuplesUptoSaid : Prop := fnExactBreakingTuplesUptoRow.holds Try.pinned (OpenSpec.upto fnExactBreakingTuplesSpec)

/-- 'laws.FnExactReduceSystem', WHERE WHAT IT READS IS OF BULK AT MOST 1048576: true; the input reads as it did. -/
def fnExactReduceSystemUptoRow : OpenClaim := { program := "ytoojgaaggdnpiaa", sum := "65f009434a8dfa8746f1155d03aa7500d853f09a8f4ff0c8bd0898bc4a7bada3", func := "loop.example/g01085/laws.FnExactReduceSystem", spec := "fnExactReduceSystem", unfollowed := true, recurses := true, apart := false, narrowed := true }
def FnExactReduceSystemUptoSaid : Prop := fnExactReduceSystemUptoRow.holds Try.pinned (OpenSpec.upto fnExactReduceSystemSpec)

/-- 'laws.FnExactRankOfSystem', WHERE WHAT IT READS IS OF BULK AT MOST 1048576: true; the input reads as it did. -/
def fnExactRankOfSystemUptoRow : OpenClaim := { program := "ytoojgaaggdnpiaa", sum := "65f009434a8dfa8746f1155d03aa7500d853f09a8f4ff0c8bd0898bc4a7bada3", func := "loop.example/g01085/laws.FnExactRankOfSystem", spec := "fnExactRankOfSystem", unfollowed := true, recurses := true, apart := false, narrowed := true }
def FnExactRankOfSystemUptoSaid : Prop := fnExactRankOfSystemUptoRow.holds Try.pinned (OpenSpec.upto fnExactRankOfSystemSpec)

/-- 'laws.FnExactSolveSystem', WHERE WHAT IT READS IS OF BULK AT MOST 1048576: true; the input reads as it did. -/
def fnExactSolveSystemUptoRow : OpenClaim := { program := "ytoojgaaggdnpiaa", sum := "65f009434a8dfa8746f1155d03aa7500d853f09a8f4ff0c8bd0898bc4a7bada3", func := "loop.example/g01085/laws.FnExactSolveSystem", spec := "fnExactSolveSystem", unfollowed := true, recurses := true, apart := false, narrowed := true }
def FnExactSolveSystemUptoSaid : Prop := fnExactSolveSystemUptoRow.holds Try.pinned (OpenSpec.upto fnExactSolveSystemSpec)

/-- 'laws.FnExactCountAnswers', WHERE WHAT IT READS IS OF BULK AT MOST 1048576: true; the input reads as it did. -/
def fnExactCountAnswersUptoRow : OpenClaim := { program := "ytoojgaaggdnpiaa", sum := "65f009434a8dfa8746f1155d03aa7500d853f09a8f4ff0c8bd0898bc4a7bada3", func := "loop.example/g01085/laws.FnExactCountAnswers", spec := "fnExactCountAnswers", unfollowed := true, recurses := true, apart := false, narrowed := true }
def FnExactCountAnswersUptoSaid : Prop := fnExactCountAnswersUptoRow.holds Try.pinned (OpenSpec.upto fnExactCountAnswersSpec)

/-- 'laws.FnExactRefuteSystem', WHERE WHAT IT READS IS OF BULK AT MOST 1048576: true; the input reads as it did. -/
def fnExactRefuteSystemUptoRow : OpenClaim := { program := "ytoojgaaggdnpiaa", sum := "65f009434a8dfa8746f1155d03aa7500d853f09a8f4ff0c8bd0898bc4a7bada3", func := "loop.example/g01085/laws.FnExactRefuteSystem", spec := "fnExactRefuteSystem", unfollowed := true, recurses := true, apart := false, narrowed := true }
def FnExactRefuteSystemUptoSaid : Prop := fnExactRefuteSystemUptoRow.holds Try.pinned (OpenSpec.upto fnExactRefuteSystemSpec)

/-- 'laws.FnExactDerivationOf', WHERE WHAT IT READS IS OF BULK AT MOST 1048576: true; the input reads as it did. -/
def fnExactDerivationOfUptoRow : OpenClaim := { program := "ytoojgaaggdnpiaa", sum := "65f009434a8dfa8746f1155d03aa7500d853f09a8f4ff0c8bd0898bc4a7bada3", func := "loop.example/g01085/laws.FnExactDerivationOf", spec := "fnExactDerivationOf", unfollowed := true, recurses := true, apart := false, narrowed := true }
def FnExactDerivationOfUptoSaid : Prop := fnExactDerivationOfUptoRow.holds Try.pinned (OpenSpec.upto fnExactDerivationOfSpec)

/-- 'laws.FnExactFollows', WHERE WHAT IT READS IS OF BULK AT MOST 1048576: true; the input reads as it did. -/
def fnExactFollowsUptoRow : OpenClaim := { program := "ytoojgaaggdnpiaa", sum := "65f009434a8dfa8746f1155d03aa7500d853f09a8f4ff0c8bd0898bc4a7bada3", func := "loop.example/g01085/laws.FnExactFollows", spec := "fnExactFollows", unfollowed := true, recurses := true, apart := false, narrowed := true }
def FnExactFollowsUptoSaid : Prop := fnExactFollowsUptoRow.holds Try.pinned (OpenSpec.upto fnExactFollowsSpec)

end Rows
end Go.Proofs.Ytoojgaaggdnpiaa
