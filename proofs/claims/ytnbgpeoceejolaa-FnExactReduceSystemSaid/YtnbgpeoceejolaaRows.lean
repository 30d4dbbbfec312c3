/-
  No cell of these rows narrows 'for every input' (looked for: loops, veiled, ifaces, maps, wideKeys, modest, calm, conditions, laid).
  DERIVED. THE GIVEN ROWS OF THIS SEAT. 12 by the template 'for every input the law returns true; each argument reads behind the call as it read before'; 0 by the template 'total and deterministic' (their statements: YtnbgpeoceejolaaTotals.lean).
  GIVEN WITH THE SEED: the statements are not yours to turn. If you find one false, say at which input.
  Laid BY PROGRAM, IN A SANDBOX (cutbox-rows.mjs): the forced cells as the released guide's own fill.sh prints them over the translation 9eed949c9ca8b3be… (all of the seat's roots in one cut). By AI agents, Wed Nov 11 2026. No macro, syntax, notation, axiom, sorry.
-/
import Derived.Test.YtnbgpeoceejolaaChecked
import GoSem.Claim
import GoSem.ClaimJoined
import GoSem.ClaimMapViews
import Derived.JoinedTies
import Derived.KernelRfl
namespace Go.Proofs.Ytnbgpeoceejolaa
/- THE CELL 'sum', in the pinned program and in every row, IS THE sha256 OF THE DUMP (.gsa) THAT YtnbgpeoceejolaaProg.lean LOADS. Nothing in Lean hashes anything: it is a label: what it is worth is what the hold of that sum in a sandbox is worth. -/
noncomputable def Try.pinned : Pinned := { name := "ytnbgpeoceejolaa", sum := "9eed949c9ca8b3befa5d6656a9d15702d7cd54a8e38d1572c2069f3036d9bbcf", checked := Try.checked }
namespace Rows
def none {H : Type} : Left H := { results := [], args := [] }

/-- 'laws.FnExactRankOfSystem': WHATEVER THE INPUT: true; the input reads as it did. -/
def fnExactRankOfSystemSpec : ChangeSpec := { name := "fnExactRankOfSystem", fn := fun _ => fun
  | [d] => { results := [.lit (.bool true)], args := [d] }
  | _ => none }
def fnExactRankOfSystemRow : OpenClaim := { program := "ytnbgpeoceejolaa", sum := "9eed949c9ca8b3befa5d6656a9d15702d7cd54a8e38d1572c2069f3036d9bbcf", func := "loop.example/g01085/laws.FnExactRankOfSystem", spec := "fnExactRankOfSystem", unfollowed := true, recurses := true, apart := false }
def FnExactRankOfSystemSaid : Prop := fnExactRankOfSystemRow.holds Try.pinned (OpenSpec.ofChange fnExactRankOfSystemSpec)

/-- ITS FALSE NEIGHBOUR: 'it returns false'. Refute it at one input. -/
def fnExactRankOfSystemWrong : ChangeSpec := { name := "fnExactRankOfSystem", fn := fun _ => fun
  | [d] => { results := [.lit (.bool false)], args := [d] }
  | _ => none }
def FnExactRankOfSystemWrongFalsely : Prop := fnExactRankOfSystemRow.holds Try.pinned (OpenSpec.ofChange fnExactRankOfSystemWrong)

/-- 'laws.FnExactCountAnswers': WHATEVER THE INPUT: true; the input reads as it did. -/
def fnExactCountAnswersSpec : ChangeSpec := { name := "fnExactCountAnswers", fn := fun _ => fun
  | [d] => { results := [.lit (.bool true)], args := [d] }
  | _ => none }
def fnExactCountAnswersRow : OpenClaim := { program := "ytnbgpeoceejolaa", sum := "9eed949c9ca8b3befa5d6656a9d15702d7cd54a8e38d1572c2069f3036d9bbcf", func := "loop.example/g01085/laws.FnExactCountAnswers", spec := "fnExactCountAnswers", unfollowed := true, recurses := true, apart := false }
def FnExactCountAnswersSaid : Prop := fnExactCountAnswersRow.holds Try.pinned (OpenSpec.ofChange fnExactCountAnswersSpec)

/-- ITS FALSE NEIGHBOUR: 'it returns false'. Refute it at one input. -/
def fnExactCountAnswersWrong : ChangeSpec := { name := "fnExactCountAnswers", fn := fun _ => fun
  | [d] => { results := [.lit (.bool false)], args := [d] }
  | _ => none }
def FnExactCountAnswersWrongFalsely : Prop := fnExactCountAnswersRow.holds Try.pinned (OpenSpec.ofChange fnExactCountAnswersWrong)

/-- 'laws.FnExactRefuteSystem': WHATEVER THE INPUT: true; the input reads as it did. -/
def fnExactRefuteSystemSpec : ChangeSpec := { name := "fnExactRefuteSystem", fn := fun _ => fun
  | [d] => { results := [.lit (.bool true)], args := [d] }
  | _ => none }
def fnExactRefuteSystemRow : OpenClaim := { program := "ytnbgpeoceejolaa", sum := "9eed949c9ca8b3befa5d6656a9d15702d7cd54a8e38d1572c2069f3036d9bbcf", func := "loop.example/g01085/laws.FnExactRefuteSystem", spec := "fnExactRefuteSystem", unfollowed := true, recurses := true, apart := false }
def FnExactRefuteSystemSaid : Prop := fnExactRefuteSystemRow.holds Try.pinned (OpenSpec.ofChange fnExactRefuteSystemSpec)

/-- ITS FALSE NEIGHBOUR: 'it returns false'. Refute it at one input. -/
def fnExactRefuteSystemWrong : ChangeSpec := { name := "fnExactRefuteSystem", fn := fun _ => fun
  | [d] => { results := [.lit (.bool false)], args := [d] }
  | _ => none }
def FnExactRefuteSystemWrongFalsely : Prop := fnExactRefuteSystemRow.holds Try.pinned (OpenSpec.ofChange fnExactRefuteSystemWrong)

/-- 'laws.FnExactReduceSystem': WHATEVER THE INPUT: true; the input reads as it did. -/
def fnExactReduceSystemSpec : ChangeSpec := { name := "fnExactReduceSystem", fn := fun _ => fun
  | [d] => { results := [.lit (.bool true)], args := [d] }
  | _ => none }
def fnExactReduceSystemRow : OpenClaim := { program := "ytnbgpeoceejolaa", sum := "9eed949c9ca8b3befa5d6656a9d15702d7cd54a8e38d1572c2069f3036d9bbcf", func := "loop.example/g01085/laws.FnExactReduceSystem", spec := "fnExactReduceSystem", unfollowed := true, recurses := true, apart := false }
def FnExactReduceSystemSaid : Prop := fnExactReduceSystemRow.holds Try.pinned (OpenSpec.ofChange fnExactReduceSystemSpec)

/-- ITS FALSE NEIGHBOUR: 'it returns false'. Refute it at one input. -/
def fnExactReduceSystemWrong : ChangeSpec := { name := "fnExactReduceSystem", fn := fun _ => fun
  | [d] => { results := [.lit (.bool false)], args := [d] }
  | _ => none }
def FnExactReduceSystemWrongFalsely : Prop := fnExactReduceSystemRow.holds Try.pinned (OpenSpec.ofChange fnExactReduceSystemWrong)

/-- 'laws.FnExactSolveSystem': WHATEVER THE INPUT: true; the input reads as it did. -/
def fnExactSolveSystemSpec : ChangeSpec := { name := "fnExactSolveSystem", fn := fun _ => fun
  | [d] => { results := [.lit (.bool true)], args := [d] }
  | _ => none }
def fnExactSolveSystemRow : OpenClaim := { program := "ytnbgpeoceejolaa", sum := "9eed949c9ca8b3befa5d6656a9d15702d7cd54a8e38d1572c2069f3036d9bbcf", func := "loop.example/g01085/laws.FnExactSolveSystem", spec := "fnExactSolveSystem", unfollowed := true, recurses := true, apart := false }
def FnExactSolveSystemSaid : Prop := fnExactSolveSystemRow.holds Try.pinned (OpenSpec.ofChange fnExactSolveSystemSpec)

/-- ITS FALSE NEIGHBOUR: 'it returns false'. Refute it at one input. -/
def fnExactSolveSystemWrong : ChangeSpec := { name := "fnExactSolveSystem", fn := fun _ => fun
  | [d] => { results := [.lit (.bool false)], args := [d] }
  | _ => none }
def FnExactSolveSystemWrongFalsely : Prop := fnExactSolveSystemRow.holds Try.pinned (OpenSpec.ofChange fnExactSolveSystemWrong)

/-- 'laws.FnExactDerivationOf': WHATEVER THE INPUT: true; the input reads as it did. -/
def fnExactDerivationOfSpec : ChangeSpec := { name := "fnExactDerivationOf", fn := fun _ => fun
  | [d1, d2] => { results := [.lit (.bool true)], args := [d1, d2] }
  | _ => none }
def fnExactDerivationOfRow : OpenClaim := { program := "ytnbgpeoceejolaa", sum := "9eed949c9ca8b3befa5d6656a9d15702d7cd54a8e38d1572c2069f3036d9bbcf", func := "loop.example/g01085/laws.FnExactDerivationOf", spec := "fnExactDerivationOf", unfollowed := true, recurses := true, apart := false }
def FnExactDerivationOfSaid : Prop := fnExactDerivationOfRow.holds Try.pinned (OpenSpec.ofChange fnExactDerivationOfSpec)

/-- ITS FALSE NEIGHBOUR: 'it returns false'. Refute it at one input. -/
def fnExactDerivationOfWrong : ChangeSpec := { name := "fnExactDerivationOf", fn := fun _ => fun
  | [d1, d2] => { results := [.lit (.bool false)], args := [d1, d2] }
  | _ => none }
def FnExactDerivationOfWrongFalsely : Prop := fnExactDerivationOfRow.holds Try.pinned (OpenSpec.ofChange fnExactDerivationOfWrong)

/-- 'laws.FnExactFollows': WHATEVER THE INPUT: true; the input reads as it did. -/
def fnExactFollowsSpec : ChangeSpec := { name := "fnExactFollows", fn := fun _ => fun
  | [d1, d2] => { results := [.lit (.bool true)], args := [d1, d2] }
  | _ => none }
def fnExactFollowsRow : OpenClaim := { program := "ytnbgpeoceejolaa", sum := "9eed949c9ca8b3befa5d6656a9d15702d7cd54a8e38d1572c2069f3036d9bbcf", func := "loop.example/g01085/laws.FnExactFollows", spec := "fnExactFollows", unfollowed := true, recurses := true, apart := false }
def FnExactFollowsSaid : Prop := fnExactFollowsRow.holds Try.pinned (OpenSpec.ofChange fnExactFollowsSpec)

/-- ITS FALSE NEIGHBOUR: 'it returns false'. Refute it at one input. -/
def fnExactFollowsWrong : ChangeSpec := { name := "fnExactFollows", fn := fun _ => fun
  | [d1, d2] => { results := [.lit (.bool false)], args := [d1, d2] }
  | _ => none }
def FnExactFollowsWrongFalsely : Prop := fnExactFollowsRow.holds Try.pinned (OpenSpec.ofChange fnExactFollowsWrong)

/-- 'laws.FnExactAnswersOf': WHATEVER THE INPUT: true; the input reads as it did. -/
def fnExactAnswersOfSpec : ChangeSpec := { name := "fnExactAnswersOf", fn := fun _ => fun
  | [d] => { results := [.lit (.bool true)], args := [d] }
  | _ => none }
def fnExactAnswersOfRow : OpenClaim := { program := "ytnbgpeoceejolaa", sum := "9eed949c9ca8b3befa5d6656a9d15702d7cd54a8e38d1572c2069f3036d9bbcf", func := "loop.example/g01085/laws.FnExactAnswersOf", spec := "fnExactAnswersOf", unfollowed := true, recurses := true, apart := false }
def FnExactAnswersOfSaid : Prop := fnExactAnswersOfRow.holds Try.pinned (OpenSpec.ofChange fnExactAnswersOfSpec)

/-- ITS FALSE NEIGHBOUR: 'it returns false'. Refute it at one input. -/
def fnExactAnswersOfWrong : ChangeSpec := { name := "fnExactAnswersOf", fn := fun _ => fun
  | [d] => { results := [.lit (.bool false)], args := [d] }
  | _ => none }
def FnExactAnswersOfWrongFalsely : Prop := fnExactAnswersOfRow.holds Try.pinned (OpenSpec.ofChange fnExactAnswersOfWrong)

/-- 'laws.FnExactEquationsOver': WHATEVER THE INPUT: true; the input reads as it did. -/
def fnExactEquationsOverSpec : ChangeSpec := { name := "fnExactEquationsOver", fn := fun _ => fun
  | [d] => { results := [.lit (.bool true)], args := [d] }
  | _ => none }
def fnExactEquationsOverRow : OpenClaim := { program := "ytnbgpeoceejolaa", sum := "9eed949c9ca8b3befa5d6656a9d15702d7cd54a8e38d1572c2069f3036d9bbcf", func := "loop.example/g01085/laws.FnExactEquationsOver", spec := "fnExactEquationsOver", unfollowed := true, recurses := true, apart := false }
def FnExactEquationsOverSaid : Prop := fnExactEquationsOverRow.holds Try.pinned (OpenSpec.ofChange fnExactEquationsOverSpec)

/-- ITS FALSE NEIGHBOUR: 'it returns false'. Refute it at one input. -/
def fnExactEquationsOverWrong : ChangeSpec := { name := "fnExactEquationsOver", fn := fun _ => fun
  | [d] => { results := [.lit (.bool false)], args := [d] }
  | _ => none }
def FnExactEquationsOverWrongFalsely : Prop := fnExactEquationsOverRow.holds Try.pinned (OpenSpec.ofChange fnExactEquationsOverWrong)

/-- 'laws.FnExactOwnGadgets': WHATEVER THE INPUT: true; the input reads as it did. -/
def fnExactOwnGadgetsSpec : ChangeSpec := { name := "fnExactOwnGadgets", fn := fun _ => fun
  | [d] => { results := [.lit (.bool true)], args := [d] }
  | _ => none }
def fnExactOwnGadgetsRow : OpenClaim := { program := "ytnbgpeoceejolaa", sum := "9eed949c9ca8b3befa5d6656a9d15702d7cd54a8e38d1572c2069f3036d9bbcf", func := "loop.example/g01085/laws.FnExactOwnGadgets", spec := "fnExactOwnGadgets", apart := false }
def FnExactOwnGadgetsSaid : Prop := fnExactOwnGadgetsRow.holds Try.pinned (OpenSpec.ofChange fnExactOwnGadgetsSpec)

/-- ITS FALSE NEIGHBOUR: 'it returns false'. Refute it at one input. -/
def fnExactOwnGadgetsWrong : ChangeSpec := { name := "fnExactOwnGadgets", fn := fun _ => fun
  | [d] => { results := [.lit (.bool false)], args := [d] }
  | _ => none }
def FnExactOwnGadgetsWrongFalsely : Prop := fnExactOwnGadgetsRow.holds Try.pinned (OpenSpec.ofChange fnExactOwnGadgetsWrong)

/-- 'laws.FnExactSameGadgets': WHATEVER THE INPUT: true; the input reads as it did. -/
def fnExactSameGadgetsSpec : ChangeSpec := { name := "fnExactSameGadgets", fn := fun _ => fun
  | [d1, d2] => { results := [.lit (.bool true)], args := [d1, d2] }
  | _ => none }
def fnExactSameGadgetsRow : OpenClaim := { program := "ytnbgpeoceejolaa", sum := "9eed949c9ca8b3befa5d6656a9d15702d7cd54a8e38d1572c2069f3036d9bbcf", func := "loop.example/g01085/laws.FnExactSameGadgets", spec := "fnExactSameGadgets", unfollowed := true, recurses := true, apart := false }
def FnExactSameGadgetsSaid : Prop := fnExactSameGadgetsRow.holds Try.pinned (OpenSpec.ofChange fnExactSameGadgetsSpec)

/-- ITS FALSE NEIGHBOUR: 'it returns false'. Refute it at one input. -/
def fnExactSameGadgetsWrong : ChangeSpec := { name := "fnExactSameGadgets", fn := fun _ => fun
  | [d1, d2] => { results := [.lit (.bool false)], args := [d1, d2] }
  | _ => none }
def FnExactSameGadgetsWrongFalsely : Prop := fnExactSameGadgetsRow.holds Try.pinned (OpenSpec.ofChange fnExactSameGadgetsWrong)

/-- 'laws.FnExactBreakingTuples': WHATEVER THE INPUT: true; the input reads as it did. -/
def fnExactBreakingTuplesSpec : ChangeSpec := { name := "fnExactBreakingTuples", fn := fun _ => fun
  | [d1, d2, d3] => { results := [.lit (.bool true)], args := [d1, d2, d3] }
  | _ => none }
def fnExactBreakingTuplesRow : OpenClaim := { program := "ytnbgpeoceejolaa", sum := "9eed949c9ca8b3befa5d6656a9d15702d7cd54a8e38d1572c2069f3036d9bbcf", func := "loop.example/g01085/laws.FnExactBreakingTuples", spec := "fnExactBreakingTuples", unfollowed := true, recurses := true, apart := false }
def FnExactBreakingTuplesSaid : Prop := fnExactBreakingTuplesRow.holds Try.pinned (OpenSpec.ofChange fnExactBreakingTuplesSpec)

/-- ITS FALSE NEIGHBOUR: 'it returns false'. Refute it at one input. -/
def fnExactBreakingTuplesWrong : ChangeSpec := { name := "fnExactBreakingTuples", fn := fun _ => fun
  | [d1, d2, d3] => { results := [.lit (.bool false)], args := [d1, d2, d3] }
  | _ => none }
def FnExactBreakingTuplesWrongFalsely : Prop := fnExactBreakingTuplesRow.holds Try.pinned (OpenSpec.ofChange fnExactBreakingTuplesWrong)

/- THE SECOND FORM. 'bulk': how many values and letters a reading holds, each counted each time it is reached (what is shared counts as often as it is met; a slice's spare places count too). A statement '..UptoSaid' is the law's where the arguments, and the package variables that the reading takes, are together of bulk at most 1048576: NARROWER than '..Said'. Prove '..Said' where nothing that the law and all that it calls make is longer than what came in: it says more and counts as full. Else prove '..UptoSaid'. A law counts once. -/
mutual
def uptoBulk {H : Type} : DataW H → Nat
  | .lit (.string bytes) => bytes.length + 1
  | .lit _ => 1
  | .nil => 1
  | .ptr d => uptoBulk d + 1
  | .slice elems spare => uptoBulkAll elems + uptoBulkAll spare + 1
  | .agg parts => uptoBulkAll parts + 1
  | .iface _ d => uptoBulk d + 1
  | .map entries => uptoBulkEntries entries + 1
  | .held _ => 1
def uptoBulkAll {H : Type} : List (DataW H) → Nat
  | [] => 0
  | d :: r => uptoBulk d + uptoBulkAll r
def uptoBulkEntries {H : Type} : List (Lit × DataW H) → Nat
  | [] => 0
  | x :: r => uptoBulkEntry x + uptoBulkEntries r
def uptoBulkEntry {H : Type} : Lit × DataW H → Nat
  | (.string bytes, d) => bytes.length + uptoBulk d + 1
  | (_, d) => uptoBulk d + 1
 end
def uptoSmall : (H : Type) → List (DataW H) → Bool := fun _ ds => decide (uptoBulkAll ds ≤ 1048576)
def OpenSpec.upto (s : _root_.Go.ChangeSpec) : _root_.Go.OpenSpec := { _root_.Go.OpenSpec.ofChange s with cond := some uptoSmall }

/-- 'laws.FnExactRankOfSystem', WHERE WHAT IT READS IS OF BULK AT MOST 1048576: true; the input reads as it did. -/
def fnExactRankOfSystemUptoRow : OpenClaim := { program := "ytnbgpeoceejolaa", sum := "9eed949c9ca8b3befa5d6656a9d15702d7cd54a8e38d1572c2069f3036d9bbcf", func := "loop.example/g01085/laws.FnExactRankOfSystem", spec := "fnExactRankOfSystem", unfollowed := true, recurses := true, apart := false, narrowed := true }
def FnExactRankOfSystemUptoSaid : Prop := fnExactRankOfSystemUptoRow.holds Try.pinned (OpenSpec.upto fnExactRankOfSystemSpec)

/-- 'laws.FnExactCountAnswers', WHERE WHAT IT READS IS OF BULK AT MOST 1048576: true; the input reads as it did. -/
def fnExactCountAnswersUptoRow : OpenClaim := { program := "ytnbgpeoceejolaa", sum := "9eed949c9ca8b3befa5d6656a9d15702d7cd54a8e38d1572c2069f3036d9bbcf", func := "loop.example/g01085/laws.FnExactCountAnswers", spec := "fnExactCountAnswers", unfollowed := true, recurses := true, apart := false, narrowed := true }
def FnExactCountAnswersUptoSaid : Prop := fnExactCountAnswersUptoRow.holds Try.pinned (OpenSpec.upto fnExactCountAnswersSpec)

/-- 'laws.FnExactRefuteSystem', WHERE WHAT IT READS IS OF BULK AT MOST 1048576: true; the input reads as it did. -/
def fnExactRefuteSystemUptoRow : OpenClaim := { program := "ytnbgpeoceejolaa", sum := "9eed949c9ca8b3befa5d6656a9d15702d7cd54a8e38d1572c2069f3036d9bbcf", func := "loop.example/g01085/laws.FnExactRefuteSystem", spec := "fnExactRefuteSystem", unfollowed := true, recurses := true, apart := false, narrowed := true }
def FnExactRefuteSystemUptoSaid : Prop := fnExactRefuteSystemUptoRow.holds Try.pinned (OpenSpec.upto fnExactRefuteSystemSpec)

/-- 'laws.FnExactReduceSystem', WHERE WHAT IT READS IS OF BULK AT MOST 1048576: true; the input reads as it did. -/
def fnExactReduceSystemUptoRow : OpenClaim := { program := "ytnbgpeoceejolaa", sum := "9eed949c9ca8b3befa5d6656a9d15702d7cd54a8e38d1572c2069f3036d9bbcf", func := "loop.example/g01085/laws.FnExactReduceSystem", spec := "fnExactReduceSystem", unfollowed := true, recurses := true, apart := false, narrowed := true }
def FnExactReduceSystemUptoSaid : Prop := fnExactReduceSystemUptoRow.holds Try.pinned (OpenSpec.upto fnExactReduceSystemSpec)

/-- 'laws.FnExactSolveSystem', WHERE WHAT IT READS IS OF BULK AT MOST 1048576: true; the input reads as it did. -/
def fnExactSolveSystemUptoRow : OpenClaim := { program := "ytnbgpeoceejolaa", sum := "9eed949c9ca8b3befa5d6656a9d15702d7cd54a8e38d1572c2069f3036d9bbcf", func := "loop.example/g01085/laws.FnExactSolveSystem", spec := "fnExactSolveSystem", unfollowed := true, recurses := true, apart := false, narrowed := true }
def FnExactSolveSystemUptoSaid : Prop := fnExactSolveSystemUptoRow.holds Try.pinned (OpenSpec.upto fnExactSolveSystemSpec)

/-- 'laws.FnExactDerivationOf', WHERE WHAT IT READS IS OF BULK AT MOST 1048576: true; the input reads as it did. -/
def fnExactDerivationOfUptoRow : OpenClaim := { program := "ytnbgpeoceejolaa", sum := "9eed949c9ca8b3befa5d6656a9d15702d7cd54a8e38d1572c2069f3036d9bbcf", func := "loop.example/g01085/laws.FnExactDerivationOf", spec := "fnExactDerivationOf", unfollowed := true, recurses := true, apart := false, narrowed := true }
def FnExactDerivationOfUptoSaid : Prop := fnExactDerivationOfUptoRow.holds Try.pinned (OpenSpec.upto fnExactDerivationOfSpec)

/-- 'laws.FnExactFollows', WHERE WHAT IT READS IS OF BULK AT MOST 1048576: true; the input reads as it did. -/
def fnExactFollowsUptoRow : OpenClaim := { program := "ytnbgpeoceejolaa", sum := "9eed949c9ca8b3befa5d6656a9d15702d7cd54a8e38d1572c2069f3036d9bbcf", func := "loop.example/g01085/laws.FnExactFollows", spec := "fnExactFollows", unfollowed := true, recurses := true, apart := false, narrowed := true }
def FnExactFollowsUptoSaid : Prop := fnExactFollowsUptoRow.holds Try.pinned (OpenSpec.upto fnExactFollowsSpec)

/-- 'laws.FnExactAnswersOf', WHERE WHAT IT READS IS OF BULK AT MOST 1048576: true; the input reads as it did. -/
def fnExactAnswersOfUptoRow : OpenClaim := { program := "ytnbgpeoceejolaa", sum := "9eed949c9ca8b3befa5d6656a9d15702d7cd54a8e38d1572c2069f3036d9bbcf", func := "loop.example/g01085/laws.FnExactAnswersOf", spec := "fnExactAnswersOf", unfollowed := true, recurses := true, apart := false, narrowed := true }
def FnExactAnswersOfUptoSaid : Prop := fnExactAnswersOfUptoRow.holds Try.pinned (OpenSpec.upto fnExactAnswersOfSpec)

/-- 'laws.FnExactEquationsOver', WHERE WHAT IT READS IS OF BULK AT MOST 1048576: true; the input reads as it did. -/
def fnExactEquationsOverUptoRow : OpenClaim := { program := "ytnbgpeoceejolaa", sum := "9eed949c9ca8b3befa5d6656a9d15702d7cd54a8e38d1572c2069f3036d9bbcf", func := "loop.example/g01085/laws.FnExactEquationsOver", spec := "fnExactEquationsOver", unfollowed := true, recurses := true, apart := false, narrowed := true }
def FnExactEquationsOverUptoSaid : Prop := fnExactEquationsOverUptoRow.holds Try.pinned (OpenSpec.upto fnExactEquationsOverSpec)

/-- 'laws.FnExactOwnGadgets', WHERE WHAT IT READS IS OF BULK AT MOST 1048576: true; the input reads as it did. -/
def fnExactOwnGadgetsUptoRow : OpenClaim := { program := "ytnbgpeoceejolaa", sum := "9eed949c9ca8b3befa5d6656a9d15702d7cd54a8e38d1572c2069f3036d9bbcf", func := "loop.example/g01085/laws.FnExactOwnGadgets", spec := "fnExactOwnGadgets", apart := false, narrowed := true }
def FnExactOwnGadgetsUptoSaid : Prop := fnExactOwnGadgetsUptoRow.holds Try.pinned (OpenSpec.upto fnExactOwnGadgetsSpec)

/-- 'laws.FnExactSameGadgets', WHERE WHAT IT READS IS OF BULK AT MOST 1048576: true; the input reads as it did. -/
def fnExactSameGadgetsUptoRow : OpenClaim := { program := "ytnbgpeoceejolaa", sum := "9eed949c9ca8b3befa5d6656a9d15702d7cd54a8e38d1572c2069f3036d9bbcf", func := "loop.example/g01085/laws.FnExactSameGadgets", spec := "fnExactSameGadgets", unfollowed := true, recurses := true, apart := false, narrowed := true }
def FnExactSameGadgetsUptoSaid : Prop := fnExactSameGadgetsUptoRow.holds Try.pinned (OpenSpec.upto fnExactSameGadgetsSpec)

/-- 'laws.FnExactBreakingTuples', WHERE WHAT IT READS IS OF BULK AT MOST 1048576: true; the input reads as it did. -/
def fnExactBreakingTuplesUptoRow : OpenClaim := { program := "ytnbgpeoceejolaa", sum := "9eed949c9ca8b3befa5d6656a9d15702d7cd54a8e38d1572c2069f3036d9bbcf", func := "loop.example/g01085/laws.FnExactBreakingTuples", spec := "fnExactBreakingTuples", unfollowed := true, recurses := true, apart := false, narrowed := true }
def FnExactBreakingTuplesUptoSaid : Prop := fnExactBreakingTuplesUptoRow.holds Try.pinned (OpenSpec.upto fnExactBreakingTuplesSpec)

end Rows
end Go.Proofs.Ytnbgpeoceejolaa
