/-
  No cell of these rows narrows 'for every input' (looked for: loops, veiled, ifaces, maps, wideKeys, modest, calm, conditions, laid).
  DERIVED. THE GIVEN ROWS OF THIS SEAT. 5 by the template 'for every input the law returns true; each argument reads behind the call as it read before'; 0 by the template 'total and deterministic' (their statements: YtlhkflhaaokgiacTotals.lean).
  GIVEN WITH THE SEED: the statements are not yours to turn. If you find one false, say at which input.
  Laid BY PROGRAM, IN A SANDBOX (cutbox-rows.mjs): the forced cells as the released guide's own fill.sh prints them over the translation 4c765e747369a19e… (all of the seat's roots in one cut). By AI agents, Wed Nov 11 2026. No macro, syntax, notation, axiom, sorry.
-/
import Derived.Test.YtlhkflhaaokgiacChecked
import GoSem.Claim
import GoSem.ClaimJoined
import GoSem.ClaimMapViews
import Derived.JoinedTies
import Derived.KernelRfl
namespace Go.Proofs.Ytlhkflhaaokgiac
/- THE CELL 'sum', in the pinned program and in every row, IS THE sha256 OF THE DUMP (.gsa) THAT YtlhkflhaaokgiacProg.lean LOADS. Nothing in Lean hashes anything: it is a label: what it is worth is what the hold of that sum in a sandbox is worth. -/
noncomputable def Try.pinned : Pinned := { name := "ytlhkflhaaokgiac", sum := "4c765e747369a19ee38b268e95821c90364b939dc758cfef7e4673ecc1032d50", checked := Try.checked }
namespace Rows
def none {H : Type} : Left H := { results := [], args := [] }

/-- 'laws.FnExactValidFormula': WHATEVER THE INPUT: true; the input reads as it did. -/
def fnExactValidFormulaSpec : ChangeSpec := { name := "fnExactValidFormula", fn := fun _ => fun
  | [d1, d2] => { results := [.lit (.bool true)], args := [d1, d2] }
  | _ => none }
def fnExactValidFormulaRow : OpenClaim := { program := "ytlhkflhaaokgiac", sum := "4c765e747369a19ee38b268e95821c90364b939dc758cfef7e4673ecc1032d50", func := "loop.example/g01085/laws.FnExactValidFormula", spec := "fnExactValidFormula", apart := false }
def FnExactValidFormulaSaid : Prop := fnExactValidFormulaRow.holds Try.pinned (OpenSpec.ofChange fnExactValidFormulaSpec)

/-- ITS FALSE NEIGHBOUR: 'it returns false'. Refute it at one input. -/
def fnExactValidFormulaWrong : ChangeSpec := { name := "fnExactValidFormula", fn := fun _ => fun
  | [d1, d2] => { results := [.lit (.bool false)], args := [d1, d2] }
  | _ => none }
def FnExactValidFormulaWrongFalsely : Prop := fnExactValidFormulaRow.holds Try.pinned (OpenSpec.ofChange fnExactValidFormulaWrong)

/-- 'laws.FnExactSameFormula': WHATEVER THE INPUT: true; the input reads as it did. -/
def fnExactSameFormulaSpec : ChangeSpec := { name := "fnExactSameFormula", fn := fun _ => fun
  | [d1, d2] => { results := [.lit (.bool true)], args := [d1, d2] }
  | _ => none }
def fnExactSameFormulaRow : OpenClaim := { program := "ytlhkflhaaokgiac", sum := "4c765e747369a19ee38b268e95821c90364b939dc758cfef7e4673ecc1032d50", func := "loop.example/g01085/laws.FnExactSameFormula", spec := "fnExactSameFormula", unfollowed := true, recurses := true, apart := false }
def FnExactSameFormulaSaid : Prop := fnExactSameFormulaRow.holds Try.pinned (OpenSpec.ofChange fnExactSameFormulaSpec)

/-- ITS FALSE NEIGHBOUR: 'it returns false'. Refute it at one input. -/
def fnExactSameFormulaWrong : ChangeSpec := { name := "fnExactSameFormula", fn := fun _ => fun
  | [d1, d2] => { results := [.lit (.bool false)], args := [d1, d2] }
  | _ => none }
def FnExactSameFormulaWrongFalsely : Prop := fnExactSameFormulaRow.holds Try.pinned (OpenSpec.ofChange fnExactSameFormulaWrong)

/-- 'laws.FnExactAtomFormula': WHATEVER THE INPUT: true; the input reads as it did. -/
def fnExactAtomFormulaSpec : ChangeSpec := { name := "fnExactAtomFormula", fn := fun _ => fun
  | [d1, d2] => { results := [.lit (.bool true)], args := [d1, d2] }
  | _ => none }
def fnExactAtomFormulaRow : OpenClaim := { program := "ytlhkflhaaokgiac", sum := "4c765e747369a19ee38b268e95821c90364b939dc758cfef7e4673ecc1032d50", func := "loop.example/g01085/laws.FnExactAtomFormula", spec := "fnExactAtomFormula", apart := false }
def FnExactAtomFormulaSaid : Prop := fnExactAtomFormulaRow.holds Try.pinned (OpenSpec.ofChange fnExactAtomFormulaSpec)

/-- ITS FALSE NEIGHBOUR: 'it returns false'. Refute it at one input. -/
def fnExactAtomFormulaWrong : ChangeSpec := { name := "fnExactAtomFormula", fn := fun _ => fun
  | [d1, d2] => { results := [.lit (.bool false)], args := [d1, d2] }
  | _ => none }
def FnExactAtomFormulaWrongFalsely : Prop := fnExactAtomFormulaRow.holds Try.pinned (OpenSpec.ofChange fnExactAtomFormulaWrong)

/-- 'laws.FnExactConjoinFormulas': WHATEVER THE INPUT: true; the input reads as it did. -/
def fnExactConjoinFormulasSpec : ChangeSpec := { name := "fnExactConjoinFormulas", fn := fun _ => fun
  | [d1, d2, d3] => { results := [.lit (.bool true)], args := [d1, d2, d3] }
  | _ => none }
def fnExactConjoinFormulasRow : OpenClaim := { program := "ytlhkflhaaokgiac", sum := "4c765e747369a19ee38b268e95821c90364b939dc758cfef7e4673ecc1032d50", func := "loop.example/g01085/laws.FnExactConjoinFormulas", spec := "fnExactConjoinFormulas", unfollowed := true, recurses := true, apart := false }
def FnExactConjoinFormulasSaid : Prop := fnExactConjoinFormulasRow.holds Try.pinned (OpenSpec.ofChange fnExactConjoinFormulasSpec)

/-- ITS FALSE NEIGHBOUR: 'it returns false'. Refute it at one input. -/
def fnExactConjoinFormulasWrong : ChangeSpec := { name := "fnExactConjoinFormulas", fn := fun _ => fun
  | [d1, d2, d3] => { results := [.lit (.bool false)], args := [d1, d2, d3] }
  | _ => none }
def FnExactConjoinFormulasWrongFalsely : Prop := fnExactConjoinFormulasRow.holds Try.pinned (OpenSpec.ofChange fnExactConjoinFormulasWrong)

/-- 'laws.FnExactPlaceFormula': WHATEVER THE INPUT: true; the input reads as it did. -/
def fnExactPlaceFormulaSpec : ChangeSpec := { name := "fnExactPlaceFormula", fn := fun _ => fun
  | [d1, d2, d3, d4] => { results := [.lit (.bool true)], args := [d1, d2, d3, d4] }
  | _ => none }
def fnExactPlaceFormulaRow : OpenClaim := { program := "ytlhkflhaaokgiac", sum := "4c765e747369a19ee38b268e95821c90364b939dc758cfef7e4673ecc1032d50", func := "loop.example/g01085/laws.FnExactPlaceFormula", spec := "fnExactPlaceFormula", unfollowed := true, recurses := true, apart := false }
def FnExactPlaceFormulaSaid : Prop := fnExactPlaceFormulaRow.holds Try.pinned (OpenSpec.ofChange fnExactPlaceFormulaSpec)

/-- ITS FALSE NEIGHBOUR: 'it returns false'. Refute it at one input. -/
def fnExactPlaceFormulaWrong : ChangeSpec := { name := "fnExactPlaceFormula", fn := fun _ => fun
  | [d1, d2, d3, d4] => { results := [.lit (.bool false)], args := [d1, d2, d3, d4] }
  | _ => none }
def FnExactPlaceFormulaWrongFalsely : Prop := fnExactPlaceFormulaRow.holds Try.pinned (OpenSpec.ofChange fnExactPlaceFormulaWrong)

/- THE SECOND FORM. 'bulk': how many values and letters a reading holds, each counted each time it is reached (what is shared counts as often as it is met; a slice's spare places count too). A statement '..UptoSaid' is the law's where the arguments, and the package variables that the reading takes, are together of bulk at most 1048576: NARROWER than '..Said'. Prove '..Said' where nothing that the law and all that it calls make is longer than what came in: it says more and counts as full. Else prove '..UptoSaid'. A law counts once. -/
mutual
def uptoBulk {H : Type} : DataW H → Nat
  | .lit (.string bytes) => bytes.length + 1
  | .lit _ => 1
  | .nil => 1
  | .ptr d => uptoBulk d + 1
  | .slice elems spare => uptoBulkAll elems + uptoBulkAll spare + 1
  | .agg parts => uptoBulkAll parts + 1
  | .iface _ d => uptoBulk d + 1
  | .map entries => uptoBulkEntries entries + 1
  | .held _ => 1
def uptoBulkAll {H : Type} : List (DataW H) → Nat
  | [] => 0
  | d :: r => uptoBulk d + uptoBulkAll r
def uptoBulkEntries {H : Type} : List (Lit × DataW H) → Nat
  | [] => 0
  | x :: r => uptoBulkEntry x + uptoBulkEntries r
def uptoBulkEntry {H : Type} : Lit × DataW H → Nat
  | (.string bytes, d) => bytes.length + uptoBulk d + 1
  | (_, d) => uptoBulk d + 1
 end
def uptoSmall : (H : Type) → List (DataW H) → Bool := fun _ ds => decide (uptoBulkAll ds ≤ 1048576)
def OpenSpec.upto (s : _root_.Go.ChangeSpec) : _root_.Go.OpenSpec := { _root_.Go.OpenSpec.ofChange s with cond := some uptoSmall }

/-- 'laws.FnExactValidFormula', WHERE WHAT IT READS IS OF BULK AT MOST 1048576: true; the input reads as it did. -/
def fnExactValidFormulaUptoRow : OpenClaim := { program := "ytlhkflhaaokgiac", sum := "4c765e747369a19ee38b268e95821c90364b939dc758cfef7e4673ecc1032d50", func := "loop.example/g01085/laws.FnExactValidFormula", spec := "fnExactValidFormula", apart := false, narrowed := true }
def FnExactValidFormulaUptoSaid : Prop := fnExactValidFormulaUptoRow.holds Try.pinned (OpenSpec.upto fnExactValidFormulaSpec)

/-- 'laws.FnExactSameFormula', WHERE WHAT IT READS IS OF BULK AT MOST 1048576: true; the input reads as it did. -/
def fnExactSameFormulaUptoRow : OpenClaim := { program := "ytlhkflhaaokgiac", sum := "4c765e747369a19ee38b268e95821c90364b939dc758cfef7e4673ecc1032d50", func := "loop.example/g01085/laws.FnExactSameFormula", spec := "fnExactSameFormula", unfollowed := true, recurses := true, apart := false, narrowed := true }
def FnExactSameFormulaUptoSaid : Prop := fnExactSameFormulaUptoRow.holds Try.pinned (OpenSpec.upto fnExactSameFormulaSpec)

/-- 'laws.FnExactAtomFormula', WHERE WHAT IT READS IS OF BULK AT MOST 1048576: true; the input reads as it did. -/
def fnExactAtomFormulaUptoRow : OpenClaim := { program := "ytlhkflhaaokgiac", sum := "4c765e747369a19ee38b268e95821c90364b939dc758cfef7e4673ecc1032d50", func := "loop.example/g01085/laws.FnExactAtomFormula", spec := "fnExactAtomFormula", apart := false, narrowed := true }
def FnExactAtomFormulaUptoSaid : Prop := fnExactAtomFormulaUptoRow.holds Try.pinned (OpenSpec.upto fnExactAtomFormulaSpec)

/-- 'laws.FnExactConjoinFormulas', WHERE WHAT IT READS IS OF BULK AT MOST 1048576: true; the input reads as it did. -/
def fnExactConjoinFormulasUptoRow : OpenClaim := { program := "ytlhkflhaaokgiac", sum := "4c765e747369a19ee38b268e95821c90364b939dc758cfef7e4673ecc1032d50", func := "loop.example/g01085/laws.FnExactConjoinFormulas", spec := "fnExactConjoinFormulas", unfollowed := true, recurses := true, apart := false, narrowed := true }
def FnExactConjoinFormulasUptoSaid : Prop := fnExactConjoinFormulasUptoRow.holds Try.pinned (OpenSpec.upto fnExactConjoinFormulasSpec)

/-- 'laws.FnExactPlaceFormula', WHERE WHAT IT READS IS OF BULK AT MOST 1048576: true; the input reads as it did. -/
def fnExactPlaceFormulaUptoRow : OpenClaim := { program := "ytlhkflhaaokgiac", sum := "4c765e747369a19ee38b268e95821c90364b939dc758cfef7e4673ecc1032d50", func := "loop.example/g01085/laws.FnExactPlaceFormula", spec := "fnExactPlaceFormula", unfollowed := true, recurses := true, apart := false, narrowed := true }
def FnExactPlaceFormulaUptoSaid : Prop := fnExactPlaceFormulaUptoRow.holds Try.pinned (OpenSpec.upto fnExactPlaceFormulaSpec)

end Rows
end Go.Proofs.Ytlhkflhaaokgiac
