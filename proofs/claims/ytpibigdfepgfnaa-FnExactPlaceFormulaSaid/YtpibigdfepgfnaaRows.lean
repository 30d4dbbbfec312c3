/-
  No cell of these rows narrows 'for every input' (looked for: loops, veiled, ifaces, maps, wideKeys, modest, calm, conditions, laid).
  DERIVED. THE GIVEN ROWS OF THIS SEAT. 4 by the template 'for every input the law returns true; each argument reads behind the call as it read before'; 0 by the template 'total and deterministic' (their statements: YtpibigdfepgfnaaTotals.lean).
  GIVEN WITH THE SEED: the statements are not yours to turn. If you find one false, say at which input.
  Laid BY PROGRAM, IN A SANDBOX (cutbox-rows.mjs): the forced cells as the released guide's own fill.sh prints them over the translation e3206bc8e1160e06… (all of the seat's roots in one cut). By AI agents, Wed Nov 11 2026. No macro, syntax, notation, axiom, sorry.
-/
import Derived.Test.YtpibigdfepgfnaaChecked
import GoSem.Claim
import GoSem.ClaimJoined
import GoSem.ClaimMapViews
import Derived.JoinedTies
import Derived.KernelRfl
namespace Go.Proofs.Ytpibigdfepgfnaa
/- THE CELL 'sum', in the pinned program and in every row, IS THE sha256 OF THE DUMP (.gsa) THAT YtpibigdfepgfnaaProg.lean LOADS. Nothing in Lean hashes anything: it is a label: what it is worth is what the hold of that sum in a sandbox is worth. -/
noncomputable def Try.pinned : Pinned := { name := "ytpibigdfepgfnaa", sum := "e3206bc8e1160e0615572ed10324cbc06fc4a5aa50ee38a107fd3780710146be", checked := Try.checked }
namespace Rows
def none {H : Type} : Left H := { results := [], args := [] }

/-- 'laws.FnExactIsOfKind': WHATEVER THE INPUT: true; the input reads as it did. -/
def fnExactIsOfKindSpec : ChangeSpec := { name := "fnExactIsOfKind", fn := fun _ => fun
  | [d1, d2, d3] => { results := [.lit (.bool true)], args := [d1, d2, d3] }
  | _ => none }
def fnExactIsOfKindRow : OpenClaim := { program := "ytpibigdfepgfnaa", sum := "e3206bc8e1160e0615572ed10324cbc06fc4a5aa50ee38a107fd3780710146be", func := "loop.example/g01085/laws.FnExactIsOfKind", spec := "fnExactIsOfKind", inPlace := ["internal/bytealg.Count", "internal/bytealg.IndexByte", "internal/bytealg.Index"], unfollowed := true, recurses := true, named := ["internal/bytealg.MaxLen"], apart := false }
def FnExactIsOfKindSaid : Prop := fnExactIsOfKindRow.holds Try.pinned (OpenSpec.ofChange fnExactIsOfKindSpec)

/-- ITS FALSE NEIGHBOUR: 'it returns false'. Refute it at one input. -/
def fnExactIsOfKindWrong : ChangeSpec := { name := "fnExactIsOfKind", fn := fun _ => fun
  | [d1, d2, d3] => { results := [.lit (.bool false)], args := [d1, d2, d3] }
  | _ => none }
def FnExactIsOfKindWrongFalsely : Prop := fnExactIsOfKindRow.holds Try.pinned (OpenSpec.ofChange fnExactIsOfKindWrong)

/-- 'laws.FnExactKindsOf': WHATEVER THE INPUT: true; the input reads as it did. -/
def fnExactKindsOfSpec : ChangeSpec := { name := "fnExactKindsOf", fn := fun _ => fun
  | [d1, d2] => { results := [.lit (.bool true)], args := [d1, d2] }
  | _ => none }
def fnExactKindsOfRow : OpenClaim := { program := "ytpibigdfepgfnaa", sum := "e3206bc8e1160e0615572ed10324cbc06fc4a5aa50ee38a107fd3780710146be", func := "loop.example/g01085/laws.FnExactKindsOf", spec := "fnExactKindsOf", inPlace := ["internal/bytealg.Count", "internal/bytealg.IndexByte", "internal/bytealg.Index"], unfollowed := true, recurses := true, named := ["internal/bytealg.MaxLen"], apart := false }
def FnExactKindsOfSaid : Prop := fnExactKindsOfRow.holds Try.pinned (OpenSpec.ofChange fnExactKindsOfSpec)

/-- ITS FALSE NEIGHBOUR: 'it returns false'. Refute it at one input. -/
def fnExactKindsOfWrong : ChangeSpec := { name := "fnExactKindsOf", fn := fun _ => fun
  | [d1, d2] => { results := [.lit (.bool false)], args := [d1, d2] }
  | _ => none }
def FnExactKindsOfWrongFalsely : Prop := fnExactKindsOfRow.holds Try.pinned (OpenSpec.ofChange fnExactKindsOfWrong)

/-- 'laws.FnExactPlaceFormula': WHATEVER THE INPUT: true; the input reads as it did. -/
def fnExactPlaceFormulaSpec : ChangeSpec := { name := "fnExactPlaceFormula", fn := fun _ => fun
  | [d1, d2, d3, d4] => { results := [.lit (.bool true)], args := [d1, d2, d3, d4] }
  | _ => none }
def fnExactPlaceFormulaRow : OpenClaim := { program := "ytpibigdfepgfnaa", sum := "e3206bc8e1160e0615572ed10324cbc06fc4a5aa50ee38a107fd3780710146be", func := "loop.example/g01085/laws.FnExactPlaceFormula", spec := "fnExactPlaceFormula", unfollowed := true, recurses := true, apart := false }
def FnExactPlaceFormulaSaid : Prop := fnExactPlaceFormulaRow.holds Try.pinned (OpenSpec.ofChange fnExactPlaceFormulaSpec)

/-- ITS FALSE NEIGHBOUR: 'it returns false'. Refute it at one input. -/
def fnExactPlaceFormulaWrong : ChangeSpec := { name := "fnExactPlaceFormula", fn := fun _ => fun
  | [d1, d2, d3, d4] => { results := [.lit (.bool false)], args := [d1, d2, d3, d4] }
  | _ => none }
def FnExactPlaceFormulaWrongFalsely : Prop := fnExactPlaceFormulaRow.holds Try.pinned (OpenSpec.ofChange fnExactPlaceFormulaWrong)

/-- 'laws.FnExactHideVariable': WHATEVER THE INPUT: true; the input reads as it did. -/
def fnExactHideVariableSpec : ChangeSpec := { name := "fnExactHideVariable", fn := fun _ => fun
  | [d1, d2, d3] => { results := [.lit (.bool true)], args := [d1, d2, d3] }
  | _ => none }
def fnExactHideVariableRow : OpenClaim := { program := "ytpibigdfepgfnaa", sum := "e3206bc8e1160e0615572ed10324cbc06fc4a5aa50ee38a107fd3780710146be", func := "loop.example/g01085/laws.FnExactHideVariable", spec := "fnExactHideVariable", apart := false }
def FnExactHideVariableSaid : Prop := fnExactHideVariableRow.holds Try.pinned (OpenSpec.ofChange fnExactHideVariableSpec)

/-- ITS FALSE NEIGHBOUR: 'it returns false'. Refute it at one input. -/
def fnExactHideVariableWrong : ChangeSpec := { name := "fnExactHideVariable", fn := fun _ => fun
  | [d1, d2, d3] => { results := [.lit (.bool false)], args := [d1, d2, d3] }
  | _ => none }
def FnExactHideVariableWrongFalsely : Prop := fnExactHideVariableRow.holds Try.pinned (OpenSpec.ofChange fnExactHideVariableWrong)

/- THE SECOND FORM. 'bulk': how many values and letters a reading holds, each counted each time it is reached (what is shared counts as often as it is met; a slice's spare places count too). A statement '..UptoSaid' is the law's where the arguments, and the package variables that the reading takes, are together of bulk at most 1048576: NARROWER than '..Said'. Prove '..Said' where nothing that the law and all that it calls make is longer than what came in: it says more and counts as full. Else prove '..UptoSaid'. A law counts once. -/
mutual
def uptoBulk {H : Type} : DataW H → Nat
  | .lit (.string bytes) => bytes.length + 1
  | .lit _ => 1
  | .nil => 1
  | .ptr d => uptoBulk d + 1
  | .slice elems spare => uptoBulkAll elems + uptoBulkAll spare + 1
  | .agg parts => uptoBulkAll parts + 1
  | .iface _ d => uptoBulk d + 1
  | .map entries => uptoBulkEntries entries + 1
  | .held _ => 1
def uptoBulkAll {H : Type} : List (DataW H) → Nat
  | [] => 0
  | d :: r => uptoBulk d + uptoBulkAll r
def uptoBulkEntries {H : Type} : List (Lit × DataW H) → Nat
  | [] => 0
  | x :: r => uptoBulkEntry x + uptoBulkEntries r
def uptoBulkEntry {H : Type} : Lit × DataW H → Nat
  | (.string bytes, d) => bytes.length + uptoBulk d + 1
  | (_, d) => uptoBulk d + 1
 end
def uptoSmall : (H : Type) → List (DataW H) → Bool := fun _ ds => decide (uptoBulkAll ds ≤ 1048576)
def OpenSpec.upto (s : _root_.Go.ChangeSpec) : _root_.Go.OpenSpec := { _root_.Go.OpenSpec.ofChange s with cond := some uptoSmall }

/-- 'laws.FnExactIsOfKind', WHERE WHAT IT READS IS OF BULK AT MOST 1048576: true; the input reads as it did. -/
def fnExactIsOfKindUptoRow : OpenClaim := { program := "ytpibigdfepgfnaa", sum := "e3206bc8e1160e0615572ed10324cbc06fc4a5aa50ee38a107fd3780710146be", func := "loop.example/g01085/laws.FnExactIsOfKind", spec := "fnExactIsOfKind", inPlace := ["internal/bytealg.Count", "internal/bytealg.IndexByte", "internal/bytealg.Index"], unfollowed := true, recurses := true, named := ["internal/bytealg.MaxLen"], apart := false, narrowed := true }
def FnExactIsOfKindUptoSaid : Prop := fnExactIsOfKindUptoRow.holds Try.pinned (OpenSpec.upto fnExactIsOfKindSpec)

/-- 'laws.FnExactKindsOf', WHERE WHAT IT READS IS OF BULK AT MOST 1048576: true; the input reads as it did. -/
def fnExactKindsOfUptoRow : OpenClaim := { program := "ytpibigdfepgfnaa", sum := "e3206bc8e1160e0615572ed10324cbc06fc4a5aa50ee38a107fd3780710146be", func := "loop.example/g01085/laws.FnExactKindsOf", spec := "fnExactKindsOf", inPlace := ["internal/bytealg.Count", "internal/bytealg.IndexByte", "internal/bytealg.Index"], unfollowed := true, recurses := true, named := ["internal/bytealg.MaxLen"], apart := false, narrowed := true }
def FnExactKindsOfUptoSaid : Prop := fnExactKindsOfUptoRow.holds Try.pinned (OpenSpec.upto fnExactKindsOfSpec)

/-- 'laws.FnExactPlaceFormula', WHERE WHAT IT READS IS OF BULK AT MOST 1048576: true; the input reads as it did. -/
def fnExactPlaceFormulaUptoRow : OpenClaim := { program := "ytpibigdfepgfnaa", sum := "e3206bc8e1160e0615572ed10324cbc06fc4a5aa50ee38a107fd3780710146be", func := "loop.example/g01085/laws.FnExactPlaceFormula", spec := "fnExactPlaceFormula", unfollowed := true, recurses := true, apart := false, narrowed := true }
def FnExactPlaceFormulaUptoSaid : Prop := fnExactPlaceFormulaUptoRow.holds Try.pinned (OpenSpec.upto fnExactPlaceFormulaSpec)

/-- 'laws.FnExactHideVariable', WHERE WHAT IT READS IS OF BULK AT MOST 1048576: true; the input reads as it did. -/
def fnExactHideVariableUptoRow : OpenClaim := { program := "ytpibigdfepgfnaa", sum := "e3206bc8e1160e0615572ed10324cbc06fc4a5aa50ee38a107fd3780710146be", func := "loop.example/g01085/laws.FnExactHideVariable", spec := "fnExactHideVariable", apart := false, narrowed := true }
def FnExactHideVariableUptoSaid : Prop := fnExactHideVariableUptoRow.holds Try.pinned (OpenSpec.upto fnExactHideVariableSpec)

end Rows
end Go.Proofs.Ytpibigdfepgfnaa
