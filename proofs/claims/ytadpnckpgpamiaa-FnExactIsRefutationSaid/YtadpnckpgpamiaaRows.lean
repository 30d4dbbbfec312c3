/-
  No cell of these rows narrows 'for every input' (looked for: loops, veiled, ifaces, maps, wideKeys, modest, calm, conditions, laid).
  DERIVED. THE GIVEN ROWS OF THIS SEAT. 11 by the template 'for every input the law returns true; each argument reads behind the call as it read before'; 0 by the template 'total and deterministic' (their statements: YtadpnckpgpamiaaTotals.lean).
  GIVEN WITH THE SEED: the statements are not yours to turn. If you find one false, say at which input.
  Laid BY PROGRAM, IN A SANDBOX (cutbox-rows.mjs): the forced cells as the released guide's own fill.sh prints them over the translation b348d1265615952b… (all of the seat's roots in one cut). By AI agents, Wed Nov 11 2026. No macro, syntax, notation, axiom, sorry.
-/
import Derived.Test.YtadpnckpgpamiaaChecked
import GoSem.Claim
import GoSem.ClaimJoined
import GoSem.ClaimMapViews
import Derived.JoinedTies
import Derived.KernelRfl
namespace Go.Proofs.Ytadpnckpgpamiaa
/- THE CELL 'sum', in the pinned program and in every row, IS THE sha256 OF THE DUMP (.gsa) THAT YtadpnckpgpamiaaProg.lean LOADS. Nothing in Lean hashes anything: it is a label: what it is worth is what the hold of that sum in a sandbox is worth. -/
noncomputable def Try.pinned : Pinned := { name := "ytadpnckpgpamiaa", sum := "b348d1265615952bf953c6be60447049e101ac4998332e922a54718feaa44836", checked := Try.checked }
namespace Rows
def none {H : Type} : Left H := { results := [], args := [] }

/-- 'laws.FnExactValidSystem': WHATEVER THE INPUT: true; the input reads as it did. -/
def fnExactValidSystemSpec : ChangeSpec := { name := "fnExactValidSystem", fn := fun _ => fun
  | [d] => { results := [.lit (.bool true)], args := [d] }
  | _ => none }
def fnExactValidSystemRow : OpenClaim := { program := "ytadpnckpgpamiaa", sum := "b348d1265615952bf953c6be60447049e101ac4998332e922a54718feaa44836", func := "loop.example/g01085/laws.FnExactValidSystem", spec := "fnExactValidSystem", apart := false }
def FnExactValidSystemSaid : Prop := fnExactValidSystemRow.holds Try.pinned (OpenSpec.ofChange fnExactValidSystemSpec)

/-- ITS FALSE NEIGHBOUR: 'it returns false'. Refute it at one input. -/
def fnExactValidSystemWrong : ChangeSpec := { name := "fnExactValidSystem", fn := fun _ => fun
  | [d] => { results := [.lit (.bool false)], args := [d] }
  | _ => none }
def FnExactValidSystemWrongFalsely : Prop := fnExactValidSystemRow.holds Try.pinned (OpenSpec.ofChange fnExactValidSystemWrong)

/-- 'laws.FnExactSameSystem': WHATEVER THE INPUT: true; the input reads as it did. -/
def fnExactSameSystemSpec : ChangeSpec := { name := "fnExactSameSystem", fn := fun _ => fun
  | [d1, d2] => { results := [.lit (.bool true)], args := [d1, d2] }
  | _ => none }
def fnExactSameSystemRow : OpenClaim := { program := "ytadpnckpgpamiaa", sum := "b348d1265615952bf953c6be60447049e101ac4998332e922a54718feaa44836", func := "loop.example/g01085/laws.FnExactSameSystem", spec := "fnExactSameSystem", unfollowed := true, recurses := true, leaving := true, apart := false }
def FnExactSameSystemSaid : Prop := fnExactSameSystemRow.holds Try.pinned (OpenSpec.ofChange fnExactSameSystemSpec)

/-- ITS FALSE NEIGHBOUR: 'it returns false'. Refute it at one input. -/
def fnExactSameSystemWrong : ChangeSpec := { name := "fnExactSameSystem", fn := fun _ => fun
  | [d1, d2] => { results := [.lit (.bool false)], args := [d1, d2] }
  | _ => none }
def FnExactSameSystemWrongFalsely : Prop := fnExactSameSystemRow.holds Try.pinned (OpenSpec.ofChange fnExactSameSystemWrong)

/-- 'laws.FnExactHoldsIn': WHATEVER THE INPUT: true; the input reads as it did. -/
def fnExactHoldsInSpec : ChangeSpec := { name := "fnExactHoldsIn", fn := fun _ => fun
  | [d1, d2] => { results := [.lit (.bool true)], args := [d1, d2] }
  | _ => none }
def fnExactHoldsInRow : OpenClaim := { program := "ytadpnckpgpamiaa", sum := "b348d1265615952bf953c6be60447049e101ac4998332e922a54718feaa44836", func := "loop.example/g01085/laws.FnExactHoldsIn", spec := "fnExactHoldsIn", unfollowed := true, recurses := true, leaving := true, apart := false }
def FnExactHoldsInSaid : Prop := fnExactHoldsInRow.holds Try.pinned (OpenSpec.ofChange fnExactHoldsInSpec)

/-- ITS FALSE NEIGHBOUR: 'it returns false'. Refute it at one input. -/
def fnExactHoldsInWrong : ChangeSpec := { name := "fnExactHoldsIn", fn := fun _ => fun
  | [d1, d2] => { results := [.lit (.bool false)], args := [d1, d2] }
  | _ => none }
def FnExactHoldsInWrongFalsely : Prop := fnExactHoldsInRow.holds Try.pinned (OpenSpec.ofChange fnExactHoldsInWrong)

/-- 'laws.FnExactIsRefutation': WHATEVER THE INPUT: true; the input reads as it did. -/
def fnExactIsRefutationSpec : ChangeSpec := { name := "fnExactIsRefutation", fn := fun _ => fun
  | [d1, d2] => { results := [.lit (.bool true)], args := [d1, d2] }
  | _ => none }
def fnExactIsRefutationRow : OpenClaim := { program := "ytadpnckpgpamiaa", sum := "b348d1265615952bf953c6be60447049e101ac4998332e922a54718feaa44836", func := "loop.example/g01085/laws.FnExactIsRefutation", spec := "fnExactIsRefutation", unfollowed := true, recurses := true, leaving := true, apart := false }
def FnExactIsRefutationSaid : Prop := fnExactIsRefutationRow.holds Try.pinned (OpenSpec.ofChange fnExactIsRefutationSpec)

/-- ITS FALSE NEIGHBOUR: 'it returns false'. Refute it at one input. -/
def fnExactIsRefutationWrong : ChangeSpec := { name := "fnExactIsRefutation", fn := fun _ => fun
  | [d1, d2] => { results := [.lit (.bool false)], args := [d1, d2] }
  | _ => none }
def FnExactIsRefutationWrongFalsely : Prop := fnExactIsRefutationRow.holds Try.pinned (OpenSpec.ofChange fnExactIsRefutationWrong)

/-- 'laws.FnExactKeeps': WHATEVER THE INPUT: true; the input reads as it did. -/
def fnExactKeepsSpec : ChangeSpec := { name := "fnExactKeeps", fn := fun _ => fun
  | [d1, d2, d3] => { results := [.lit (.bool true)], args := [d1, d2, d3] }
  | _ => none }
def fnExactKeepsRow : OpenClaim := { program := "ytadpnckpgpamiaa", sum := "b348d1265615952bf953c6be60447049e101ac4998332e922a54718feaa44836", func := "loop.example/g01085/laws.FnExactKeeps", spec := "fnExactKeeps", unfollowed := true, recurses := true, leaving := true, apart := false }
def FnExactKeepsSaid : Prop := fnExactKeepsRow.holds Try.pinned (OpenSpec.ofChange fnExactKeepsSpec)

/-- ITS FALSE NEIGHBOUR: 'it returns false'. Refute it at one input. -/
def fnExactKeepsWrong : ChangeSpec := { name := "fnExactKeeps", fn := fun _ => fun
  | [d1, d2, d3] => { results := [.lit (.bool false)], args := [d1, d2, d3] }
  | _ => none }
def FnExactKeepsWrongFalsely : Prop := fnExactKeepsRow.holds Try.pinned (OpenSpec.ofChange fnExactKeepsWrong)

/-- 'laws.FnExactKeepsAll': WHATEVER THE INPUT: true; the input reads as it did. -/
def fnExactKeepsAllSpec : ChangeSpec := { name := "fnExactKeepsAll", fn := fun _ => fun
  | [d1, d2] => { results := [.lit (.bool true)], args := [d1, d2] }
  | _ => none }
def fnExactKeepsAllRow : OpenClaim := { program := "ytadpnckpgpamiaa", sum := "b348d1265615952bf953c6be60447049e101ac4998332e922a54718feaa44836", func := "loop.example/g01085/laws.FnExactKeepsAll", spec := "fnExactKeepsAll", unfollowed := true, recurses := true, leaving := true, apart := false }
def FnExactKeepsAllSaid : Prop := fnExactKeepsAllRow.holds Try.pinned (OpenSpec.ofChange fnExactKeepsAllSpec)

/-- ITS FALSE NEIGHBOUR: 'it returns false'. Refute it at one input. -/
def fnExactKeepsAllWrong : ChangeSpec := { name := "fnExactKeepsAll", fn := fun _ => fun
  | [d1, d2] => { results := [.lit (.bool false)], args := [d1, d2] }
  | _ => none }
def FnExactKeepsAllWrongFalsely : Prop := fnExactKeepsAllRow.holds Try.pinned (OpenSpec.ofChange fnExactKeepsAllWrong)

/-- 'laws.FnExactIsPolymorphism': WHATEVER THE INPUT: true; the input reads as it did. -/
def fnExactIsPolymorphismSpec : ChangeSpec := { name := "fnExactIsPolymorphism", fn := fun _ => fun
  | [d1, d2] => { results := [.lit (.bool true)], args := [d1, d2] }
  | _ => none }
def fnExactIsPolymorphismRow : OpenClaim := { program := "ytadpnckpgpamiaa", sum := "b348d1265615952bf953c6be60447049e101ac4998332e922a54718feaa44836", func := "loop.example/g01085/laws.FnExactIsPolymorphism", spec := "fnExactIsPolymorphism", unfollowed := true, recurses := true, leaving := true, apart := false }
def FnExactIsPolymorphismSaid : Prop := fnExactIsPolymorphismRow.holds Try.pinned (OpenSpec.ofChange fnExactIsPolymorphismSpec)

/-- ITS FALSE NEIGHBOUR: 'it returns false'. Refute it at one input. -/
def fnExactIsPolymorphismWrong : ChangeSpec := { name := "fnExactIsPolymorphism", fn := fun _ => fun
  | [d1, d2] => { results := [.lit (.bool false)], args := [d1, d2] }
  | _ => none }
def FnExactIsPolymorphismWrongFalsely : Prop := fnExactIsPolymorphismRow.holds Try.pinned (OpenSpec.ofChange fnExactIsPolymorphismWrong)

/-- 'laws.FnExactIsAffine': WHATEVER THE INPUT: true; the input reads as it did. -/
def fnExactIsAffineSpec : ChangeSpec := { name := "fnExactIsAffine", fn := fun _ => fun
  | [d1, d2] => { results := [.lit (.bool true)], args := [d1, d2] }
  | _ => none }
def fnExactIsAffineRow : OpenClaim := { program := "ytadpnckpgpamiaa", sum := "b348d1265615952bf953c6be60447049e101ac4998332e922a54718feaa44836", func := "loop.example/g01085/laws.FnExactIsAffine", spec := "fnExactIsAffine", unfollowed := true, recurses := true, leaving := true, apart := false }
def FnExactIsAffineSaid : Prop := fnExactIsAffineRow.holds Try.pinned (OpenSpec.ofChange fnExactIsAffineSpec)

/-- ITS FALSE NEIGHBOUR: 'it returns false'. Refute it at one input. -/
def fnExactIsAffineWrong : ChangeSpec := { name := "fnExactIsAffine", fn := fun _ => fun
  | [d1, d2] => { results := [.lit (.bool false)], args := [d1, d2] }
  | _ => none }
def FnExactIsAffineWrongFalsely : Prop := fnExactIsAffineRow.holds Try.pinned (OpenSpec.ofChange fnExactIsAffineWrong)

/-- 'laws.FnExactGreedyValues': WHATEVER THE INPUT: true; the input reads as it did. -/
def fnExactGreedyValuesSpec : ChangeSpec := { name := "fnExactGreedyValues", fn := fun _ => fun
  | [d1, d2, d3] => { results := [.lit (.bool true)], args := [d1, d2, d3] }
  | _ => none }
def fnExactGreedyValuesRow : OpenClaim := { program := "ytadpnckpgpamiaa", sum := "b348d1265615952bf953c6be60447049e101ac4998332e922a54718feaa44836", func := "loop.example/g01085/laws.FnExactGreedyValues", spec := "fnExactGreedyValues", unfollowed := true, recurses := true, leaving := true, apart := false }
def FnExactGreedyValuesSaid : Prop := fnExactGreedyValuesRow.holds Try.pinned (OpenSpec.ofChange fnExactGreedyValuesSpec)

/-- ITS FALSE NEIGHBOUR: 'it returns false'. Refute it at one input. -/
def fnExactGreedyValuesWrong : ChangeSpec := { name := "fnExactGreedyValues", fn := fun _ => fun
  | [d1, d2, d3] => { results := [.lit (.bool false)], args := [d1, d2, d3] }
  | _ => none }
def FnExactGreedyValuesWrongFalsely : Prop := fnExactGreedyValuesRow.holds Try.pinned (OpenSpec.ofChange fnExactGreedyValuesWrong)

/-- 'laws.FnExactBreakingTuples': WHATEVER THE INPUT: true; the input reads as it did. -/
def fnExactBreakingTuplesSpec : ChangeSpec := { name := "fnExactBreakingTuples", fn := fun _ => fun
  | [d1, d2, d3] => { results := [.lit (.bool true)], args := [d1, d2, d3] }
  | _ => none }
def fnExactBreakingTuplesRow : OpenClaim := { program := "ytadpnckpgpamiaa", sum := "b348d1265615952bf953c6be60447049e101ac4998332e922a54718feaa44836", func := "loop.example/g01085/laws.FnExactBreakingTuples", spec := "fnExactBreakingTuples", unfollowed := true, recurses := true, leaving := true, apart := false }
def FnExactBreakingTuplesSaid : Prop := fnExactBreakingTuplesRow.holds Try.pinned (OpenSpec.ofChange fnExactBreakingTuplesSpec)

/-- ITS FALSE NEIGHBOUR: 'it returns false'. Refute it at one input. -/
def fnExactBreakingTuplesWrong : ChangeSpec := { name := "fnExactBreakingTuples", fn := fun _ => fun
  | [d1, d2, d3] => { results := [.lit (.bool false)], args := [d1, d2, d3] }
  | _ => none }
def FnExactBreakingTuplesWrongFalsely : Prop := fnExactBreakingTuplesRow.holds Try.pinned (OpenSpec.ofChange fnExactBreakingTuplesWrong)

/-- 'laws.FnExactIsArcConsistent': WHATEVER THE INPUT: true; the input reads as it did. -/
def fnExactIsArcConsistentSpec : ChangeSpec := { name := "fnExactIsArcConsistent", fn := fun _ => fun
  | [d1, d2, d3] => { results := [.lit (.bool true)], args := [d1, d2, d3] }
  | _ => none }
def fnExactIsArcConsistentRow : OpenClaim := { program := "ytadpnckpgpamiaa", sum := "b348d1265615952bf953c6be60447049e101ac4998332e922a54718feaa44836", func := "loop.example/g01085/laws.FnExactIsArcConsistent", spec := "fnExactIsArcConsistent", unfollowed := true, recurses := true, leaving := true, apart := false }
def FnExactIsArcConsistentSaid : Prop := fnExactIsArcConsistentRow.holds Try.pinned (OpenSpec.ofChange fnExactIsArcConsistentSpec)

/-- ITS FALSE NEIGHBOUR: 'it returns false'. Refute it at one input. -/
def fnExactIsArcConsistentWrong : ChangeSpec := { name := "fnExactIsArcConsistent", fn := fun _ => fun
  | [d1, d2, d3] => { results := [.lit (.bool false)], args := [d1, d2, d3] }
  | _ => none }
def FnExactIsArcConsistentWrongFalsely : Prop := fnExactIsArcConsistentRow.holds Try.pinned (OpenSpec.ofChange fnExactIsArcConsistentWrong)

/- THE SECOND FORM. 'bulk': how many values and letters a reading holds, each counted each time it is reached (what is shared counts as often as it is met; a slice's spare places count too). A statement '..UptoSaid' is the law's where the arguments, and the package variables that the reading takes, are together of bulk at most 1048576: NARROWER than '..Said'. Prove '..Said' where nothing that the law and all that it calls make is longer than what came in: it says more and counts as full. Else prove '..UptoSaid'. A law counts once. -/
mutual
def uptoBulk {H : Type} : DataW H → Nat
  | .lit (.string bytes) => bytes.length + 1
  | .lit _ => 1
  | .nil => 1
  | .ptr d => uptoBulk d + 1
  | .slice elems spare => uptoBulkAll elems + uptoBulkAll spare + 1
  | .agg parts => uptoBulkAll parts + 1
  | .iface _ d => uptoBulk d + 1
  | .map entries => uptoBulkEntries entries + 1
  | .held _ => 1
def uptoBulkAll {H : Type} : List (DataW H) → Nat
  | [] => 0
  | d :: r => uptoBulk d + uptoBulkAll r
def uptoBulkEntries {H : Type} : List (Lit × DataW H) → Nat
  | [] => 0
  | x :: r => uptoBulkEntry x + uptoBulkEntries r
def uptoBulkEntry {H : Type} : Lit × DataW H → Nat
  | (.string bytes, d) => bytes.length + uptoBulk d + 1
  | (_, d) => uptoBulk d + 1
 end
def uptoSmall : (H : Type) → List (DataW H) → Bool := fun _ ds => decide (uptoBulkAll ds ≤ 1048576)
def OpenSpec.upto (s : _root_.Go.ChangeSpec) : _root_.Go.OpenSpec := { _root_.Go.OpenSpec.ofChange s with cond := some uptoSmall }

/-- 'laws.FnExactValidSystem', WHERE WHAT IT READS IS OF BULK AT MOST 1048576: true; the input reads as it did. -/
def fnExactValidSystemUptoRow : OpenClaim := { program := "ytadpnckpgpamiaa", sum := "b348d1265615952bf953c6be60447049e101ac4998332e922a54718feaa44836", func := "loop.example/g01085/laws.FnExactValidSystem", spec := "fnExactValidSystem", apart := false, narrowed := true }
def FnExactValidSystemUptoSaid : Prop := fnExactValidSystemUptoRow.holds Try.pinned (OpenSpec.upto fnExactValidSystemSpec)

/-- 'laws.FnExactSameSystem', WHERE WHAT IT READS IS OF BULK AT MOST 1048576: true; the input reads as it did. -/
def fnExactSameSystemUptoRow : OpenClaim := { program := "ytadpnckpgpamiaa", sum := "b348d1265615952bf953c6be60447049e101ac4998332e922a54718feaa44836", func := "loop.example/g01085/laws.FnExactSameSystem", spec := "fnExactSameSystem", unfollowed := true, recurses := true, leaving := true, apart := false, narrowed := true }
def FnExactSameSystemUptoSaid : Prop := fnExactSameSystemUptoRow.holds Try.pinned (OpenSpec.upto fnExactSameSystemSpec)

/-- 'laws.FnExactHoldsIn', WHERE WHAT IT READS IS OF BULK AT MOST 1048576: true; the input reads as it did. -/
def fnExactHoldsInUptoRow : OpenClaim := { program := "ytadpnckpgpamiaa", sum := "b348d1265615952bf953c6be60447049e101ac4998332e922a54718feaa44836", func := "loop.example/g01085/laws.FnExactHoldsIn", spec := "fnExactHoldsIn", unfollowed := true, recurses := true, leaving := true, apart := false, narrowed := true }
def FnExactHoldsInUptoSaid : Prop := fnExactHoldsInUptoRow.holds Try.pinned (OpenSpec.upto fnExactHoldsInSpec)

/-- 'laws.FnExactIsRefutation', WHERE WHAT IT READS IS OF BULK AT MOST 1048576: true; the input reads as it did. -/
def fnExactIsRefutationUptoRow : OpenClaim := { program := "ytadpnckpgpamiaa", sum := "b348d1265615952bf953c6be60447049e101ac4998332e922a54718feaa44836", func := "loop.example/g01085/laws.FnExactIsRefutation", spec := "fnExactIsRefutation", unfollowed := true, recurses := true, leaving := true, apart := false, narrowed := true }
def FnExactIsRefutationUptoSaid : Prop := fnExactIsRefutationUptoRow.holds Try.pinned (OpenSpec.upto fnExactIsRefutationSpec)

/-- 'laws.FnExactKeeps', WHERE WHAT IT READS IS OF BULK AT MOST 1048576: true; the input reads as it did. -/
def fnExactKeepsUptoRow : OpenClaim := { program := "ytadpnckpgpamiaa", sum := "b348d1265615952bf953c6be60447049e101ac4998332e922a54718feaa44836", func := "loop.example/g01085/laws.FnExactKeeps", spec := "fnExactKeeps", unfollowed := true, recurses := true, leaving := true, apart := false, narrowed := true }
def FnExactKeepsUptoSaid : Prop := fnExactKeepsUptoRow.holds Try.pinned (OpenSpec.upto fnExactKeepsSpec)

/-- 'laws.FnExactKeepsAll', WHERE WHAT IT READS IS OF BULK AT MOST 1048576: true; the input reads as it did. -/
def fnExactKeepsAllUptoRow : OpenClaim := { program := "ytadpnckpgpamiaa", sum := "b348d1265615952bf953c6be60447049e101ac4998332e922a54718feaa44836", func := "loop.example/g01085/laws.FnExactKeepsAll", spec := "fnExactKeepsAll", unfollowed := true, recurses := true, leaving := true, apart := false, narrowed := true }
def FnExactKeepsAllUptoSaid : Prop := fnExactKeepsAllUptoRow.holds Try.pinned (OpenSpec.upto fnExactKeepsAllSpec)

/-- 'laws.FnExactIsPolymorphism', WHERE WHAT IT READS IS OF BULK AT MOST 1048576: true; the input reads as it did. -/
def fnExactIsPolymorphismUptoRow : OpenClaim := { program := "ytadpnckpgpamiaa", sum := "b348d1265615952bf953c6be60447049e101ac4998332e922a54718feaa44836", func := "loop.example/g01085/laws.FnExactIsPolymorphism", spec := "fnExactIsPolymorphism", unfollowed := true, recurses := true, leaving := true, apart := false, narrowed := true }
def FnExactIsPolymorphismUptoSaid : Prop := fnExactIsPolymorphismUptoRow.holds Try.pinned (OpenSpec.upto fnExactIsPolymorphismSpec)

/-- 'laws.FnExactIsAffine', WHERE WHAT IT READS IS OF BULK AT MOST 1048576: true; the input reads as it did. -/
def fnExactIsAffineUptoRow : OpenClaim := { program := "ytadpnckpgpamiaa", sum := "b348d1265615952bf953c6be60447049e101ac4998332e922a54718feaa44836", func := "loop.example/g01085/laws.FnExactIsAffine", spec := "fnExactIsAffine", unfollowed := true, recurses := true, leaving := true, apart := false, narrowed := true }
def FnExactIsAffineUptoSaid : Prop := fnExactIsAffineUptoRow.holds Try.pinned (OpenSpec.upto fnExactIsAffineSpec)

/-- 'laws.FnExactGreedyValues', WHERE WHAT IT READS IS OF BULK AT MOST 1048576: true; the input reads as it did. -/
def fnExactGreedyValuesUptoRow : OpenClaim := { program := "ytadpnckpgpamiaa", sum := "b348d1265615952bf953c6be60447049e101ac4998332e922a54718feaa44836", func := "loop.example/g01085/laws.FnExactGreedyValues", spec := "fnExactGreedyValues", unfollowed := true, recurses := true, leaving := true, apart := false, narrowed := true }
def FnExactGreedyValuesUptoSaid : Prop := fnExactGreedyValuesUptoRow.holds Try.pinned (OpenSpec.upto fnExactGreedyValuesSpec)

/-- 'laws.FnExactBreakingTuples', WHERE WHAT IT READS IS OF BULK AT MOST 1048576: true; the input reads as it did. -/
def fnExactBreakingTuplesUptoRow : OpenClaim := { program := "ytadpnckpgpamiaa", sum := "b348d1265615952bf953c6be60447049e101ac4998332e922a54718feaa44836", func := "loop.example/g01085/laws.FnExactBreakingTuples", spec := "fnExactBreakingTuples", unfollowed := true, recurses := true, leaving := true, apart := false, narrowed := true }
def FnExactBreakingTuplesUptoSaid : Prop := fnExactBreakingTuplesUptoRow.holds Try.pinned (OpenSpec.upto fnExactBreakingTuplesSpec)

/-- 'laws.FnExactIsArcConsistent', WHERE WHAT IT READS IS OF BULK AT MOST 1048576: true; the input reads as it did. -/
def fnExactIsArcConsistentUptoRow : OpenClaim := { program := "ytadpnckpgpamiaa", sum := "b348d1265615952bf953c6be60447049e101ac4998332e922a54718feaa44836", func := "loop.example/g01085/laws.FnExactIsArcConsistent", spec := "fnExactIsArcConsistent", unfollowed := true, recurses := true, leaving := true, apart := false, narrowed := true }
def FnExactIsArcConsistentUptoSaid : Prop := fnExactIsArcConsistentUptoRow.holds Try.pinned (OpenSpec.upto fnExactIsArcConsistentSpec)

end Rows
end Go.Proofs.Ytadpnckpgpamiaa
