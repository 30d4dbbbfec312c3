/-
  NARROWER THAN 'FOR EVERY INPUT', by the rows' own cells (each row's printed sentence says how): FnExactMakeRel: laid · FnExactFullRel: laid · FnExactOppositeRel: laid · FnExactMeetRels: laid · FnExactJoinRels: laid · FnExactPairRels: laid.
  DERIVED. THE GIVEN ROWS OF THIS SEAT. 6 by the template 'for every input the law returns true; each argument reads behind the call as it read before'; 0 by the template 'total and deterministic' (their statements: YtbnmgonfmihicaaDoorTotals.lean).
  GIVEN WITH THE SEED: the statements are not yours to turn. If you find one false, say at which input.
  Laid BY PROGRAM, IN A SANDBOX (cutbox-rows.mjs): the forced cells as the released guide's own fill.sh prints them over the translation 24d53a618151fdc3… (all of the seat's roots in one cut). By AI agents, Wed Nov 11 2026. No macro, syntax, notation, axiom, sorry.
-/
import Derived.Test.YtbnmgonfmihicaaDoorChecked
import GoSem.Claim
import GoSem.ClaimJoined
import GoSem.ClaimMapViews
import Derived.JoinedTies
import Derived.KernelRfl
namespace Go.Proofs.YtbnmgonfmihicaaDoor
/- THE CELL 'sum', in the pinned program and in every row, IS THE sha256 OF THE DUMP (.gsa) THAT YtbnmgonfmihicaaDoorProg.lean LOADS. Nothing in Lean hashes anything: it is a label: what it is worth is what the hold of that sum in a sandbox is worth. -/
noncomputable def Tryd.pinned : Pinned := { name := "ytbnmgonfmihicaadoor", sum := "24d53a618151fdc3e41d9665216d1a2566614cf8a2ecd3e923bcc91b49bcb7d4", checked := Tryd.checked }
namespace Rows
def none {H : Type} : Left H := { results := [], args := [] }

/- WHAT THE LISTED PACKAGE-LEVEL VARIABLES READ AS WHEN THE CALL BEGINS. Each datum BY PROGRAM (the guide's laid-datum.mjs) off the statement by which the dump's own 'gosem.cut.vars' lays the variable. In a bare row this is a premise. The card (YtbnmgonfmihicaaDoorCards.lean) ties it to the program's text. -/
def laid_math_bits_deBruijn64tab {H : Type} : DataW H := .agg [.lit (.int .u8 0), .lit (.int .u8 1), .lit (.int .u8 56), .lit (.int .u8 2), .lit (.int .u8 57), .lit (.int .u8 49), .lit (.int .u8 28), .lit (.int .u8 3), .lit (.int .u8 61), .lit (.int .u8 58), .lit (.int .u8 42), .lit (.int .u8 50), .lit (.int .u8 38), .lit (.int .u8 29), .lit (.int .u8 17), .lit (.int .u8 4), .lit (.int .u8 62), .lit (.int .u8 47), .lit (.int .u8 59), .lit (.int .u8 36), .lit (.int .u8 45), .lit (.int .u8 43), .lit (.int .u8 51), .lit (.int .u8 22), .lit (.int .u8 53), .lit (.int .u8 39), .lit (.int .u8 33), .lit (.int .u8 30), .lit (.int .u8 24), .lit (.int .u8 18), .lit (.int .u8 12), .lit (.int .u8 5), .lit (.int .u8 63), .lit (.int .u8 55), .lit (.int .u8 48), .lit (.int .u8 27), .lit (.int .u8 60), .lit (.int .u8 41), .lit (.int .u8 37), .lit (.int .u8 16), .lit (.int .u8 46), .lit (.int .u8 35), .lit (.int .u8 44), .lit (.int .u8 21), .lit (.int .u8 52), .lit (.int .u8 32), .lit (.int .u8 23), .lit (.int .u8 11), .lit (.int .u8 54), .lit (.int .u8 26), .lit (.int .u8 40), .lit (.int .u8 15), .lit (.int .u8 34), .lit (.int .u8 20), .lit (.int .u8 31), .lit (.int .u8 10), .lit (.int .u8 25), .lit (.int .u8 14), .lit (.int .u8 19), .lit (.int .u8 9), .lit (.int .u8 13), .lit (.int .u8 8), .lit (.int .u8 7), .lit (.int .u8 6)]

/-- 'laws.FnExactMakeRel': WHATEVER THE INPUT: true; the input reads as it did. -/
def fnExactMakeRelSpec : ChangeSpec := { name := "fnExactMakeRel", fn := fun _ => fun
  | [d1, d2, d3] => { results := [.lit (.bool true)], args := [d1, d2, d3] }
  | _ => none }
def fnExactMakeRelRow : OpenClaim := { program := "ytbnmgonfmihicaadoor", sum := "24d53a618151fdc3e41d9665216d1a2566614cf8a2ecd3e923bcc91b49bcb7d4", func := "loop.example/g01085/laws.FnExactMakeRel", spec := "fnExactMakeRel", unfollowed := true, recurses := true, named := ["math/bits.deBruijn64tab"], apart := false, laid := [("math/bits.deBruijn64tab", laid_math_bits_deBruijn64tab)] }
def FnExactMakeRelSaid : Prop := fnExactMakeRelRow.holds Tryd.pinned (OpenSpec.ofChange fnExactMakeRelSpec)

/-- ITS FALSE NEIGHBOUR: 'it returns false'. Refute it at one input. -/
def fnExactMakeRelWrong : ChangeSpec := { name := "fnExactMakeRel", fn := fun _ => fun
  | [d1, d2, d3] => { results := [.lit (.bool false)], args := [d1, d2, d3] }
  | _ => none }
def FnExactMakeRelWrongFalsely : Prop := fnExactMakeRelRow.holds Tryd.pinned (OpenSpec.ofChange fnExactMakeRelWrong)

/-- 'laws.FnExactFullRel': WHATEVER THE INPUT: true; the input reads as it did. -/
def fnExactFullRelSpec : ChangeSpec := { name := "fnExactFullRel", fn := fun _ => fun
  | [d1, d2] => { results := [.lit (.bool true)], args := [d1, d2] }
  | _ => none }
def fnExactFullRelRow : OpenClaim := { program := "ytbnmgonfmihicaadoor", sum := "24d53a618151fdc3e41d9665216d1a2566614cf8a2ecd3e923bcc91b49bcb7d4", func := "loop.example/g01085/laws.FnExactFullRel", spec := "fnExactFullRel", unfollowed := true, recurses := true, named := ["math/bits.deBruijn64tab"], apart := false, laid := [("math/bits.deBruijn64tab", laid_math_bits_deBruijn64tab)] }
def FnExactFullRelSaid : Prop := fnExactFullRelRow.holds Tryd.pinned (OpenSpec.ofChange fnExactFullRelSpec)

/-- ITS FALSE NEIGHBOUR: 'it returns false'. Refute it at one input. -/
def fnExactFullRelWrong : ChangeSpec := { name := "fnExactFullRel", fn := fun _ => fun
  | [d1, d2] => { results := [.lit (.bool false)], args := [d1, d2] }
  | _ => none }
def FnExactFullRelWrongFalsely : Prop := fnExactFullRelRow.holds Tryd.pinned (OpenSpec.ofChange fnExactFullRelWrong)

/-- 'laws.FnExactOppositeRel': WHATEVER THE INPUT: true; the input reads as it did. -/
def fnExactOppositeRelSpec : ChangeSpec := { name := "fnExactOppositeRel", fn := fun _ => fun
  | [d1, d2] => { results := [.lit (.bool true)], args := [d1, d2] }
  | _ => none }
def fnExactOppositeRelRow : OpenClaim := { program := "ytbnmgonfmihicaadoor", sum := "24d53a618151fdc3e41d9665216d1a2566614cf8a2ecd3e923bcc91b49bcb7d4", func := "loop.example/g01085/laws.FnExactOppositeRel", spec := "fnExactOppositeRel", unfollowed := true, recurses := true, named := ["math/bits.deBruijn64tab"], apart := false, laid := [("math/bits.deBruijn64tab", laid_math_bits_deBruijn64tab)] }
def FnExactOppositeRelSaid : Prop := fnExactOppositeRelRow.holds Tryd.pinned (OpenSpec.ofChange fnExactOppositeRelSpec)

/-- ITS FALSE NEIGHBOUR: 'it returns false'. Refute it at one input. -/
def fnExactOppositeRelWrong : ChangeSpec := { name := "fnExactOppositeRel", fn := fun _ => fun
  | [d1, d2] => { results := [.lit (.bool false)], args := [d1, d2] }
  | _ => none }
def FnExactOppositeRelWrongFalsely : Prop := fnExactOppositeRelRow.holds Tryd.pinned (OpenSpec.ofChange fnExactOppositeRelWrong)

/-- 'laws.FnExactMeetRels': WHATEVER THE INPUT: true; the input reads as it did. -/
def fnExactMeetRelsSpec : ChangeSpec := { name := "fnExactMeetRels", fn := fun _ => fun
  | [d1, d2, d3] => { results := [.lit (.bool true)], args := [d1, d2, d3] }
  | _ => none }
def fnExactMeetRelsRow : OpenClaim := { program := "ytbnmgonfmihicaadoor", sum := "24d53a618151fdc3e41d9665216d1a2566614cf8a2ecd3e923bcc91b49bcb7d4", func := "loop.example/g01085/laws.FnExactMeetRels", spec := "fnExactMeetRels", unfollowed := true, recurses := true, named := ["math/bits.deBruijn64tab"], apart := false, laid := [("math/bits.deBruijn64tab", laid_math_bits_deBruijn64tab)] }
def FnExactMeetRelsSaid : Prop := fnExactMeetRelsRow.holds Tryd.pinned (OpenSpec.ofChange fnExactMeetRelsSpec)

/-- ITS FALSE NEIGHBOUR: 'it returns false'. Refute it at one input. -/
def fnExactMeetRelsWrong : ChangeSpec := { name := "fnExactMeetRels", fn := fun _ => fun
  | [d1, d2, d3] => { results := [.lit (.bool false)], args := [d1, d2, d3] }
  | _ => none }
def FnExactMeetRelsWrongFalsely : Prop := fnExactMeetRelsRow.holds Tryd.pinned (OpenSpec.ofChange fnExactMeetRelsWrong)

/-- 'laws.FnExactJoinRels': WHATEVER THE INPUT: true; the input reads as it did. -/
def fnExactJoinRelsSpec : ChangeSpec := { name := "fnExactJoinRels", fn := fun _ => fun
  | [d1, d2, d3] => { results := [.lit (.bool true)], args := [d1, d2, d3] }
  | _ => none }
def fnExactJoinRelsRow : OpenClaim := { program := "ytbnmgonfmihicaadoor", sum := "24d53a618151fdc3e41d9665216d1a2566614cf8a2ecd3e923bcc91b49bcb7d4", func := "loop.example/g01085/laws.FnExactJoinRels", spec := "fnExactJoinRels", unfollowed := true, recurses := true, named := ["math/bits.deBruijn64tab"], apart := false, laid := [("math/bits.deBruijn64tab", laid_math_bits_deBruijn64tab)] }
def FnExactJoinRelsSaid : Prop := fnExactJoinRelsRow.holds Tryd.pinned (OpenSpec.ofChange fnExactJoinRelsSpec)

/-- ITS FALSE NEIGHBOUR: 'it returns false'. Refute it at one input. -/
def fnExactJoinRelsWrong : ChangeSpec := { name := "fnExactJoinRels", fn := fun _ => fun
  | [d1, d2, d3] => { results := [.lit (.bool false)], args := [d1, d2, d3] }
  | _ => none }
def FnExactJoinRelsWrongFalsely : Prop := fnExactJoinRelsRow.holds Tryd.pinned (OpenSpec.ofChange fnExactJoinRelsWrong)

/-- 'laws.FnExactPairRels': WHATEVER THE INPUT: true; the input reads as it did. -/
def fnExactPairRelsSpec : ChangeSpec := { name := "fnExactPairRels", fn := fun _ => fun
  | [d1, d2, d3] => { results := [.lit (.bool true)], args := [d1, d2, d3] }
  | _ => none }
def fnExactPairRelsRow : OpenClaim := { program := "ytbnmgonfmihicaadoor", sum := "24d53a618151fdc3e41d9665216d1a2566614cf8a2ecd3e923bcc91b49bcb7d4", func := "loop.example/g01085/laws.FnExactPairRels", spec := "fnExactPairRels", unfollowed := true, recurses := true, named := ["math/bits.deBruijn64tab"], apart := false, laid := [("math/bits.deBruijn64tab", laid_math_bits_deBruijn64tab)] }
def FnExactPairRelsSaid : Prop := fnExactPairRelsRow.holds Tryd.pinned (OpenSpec.ofChange fnExactPairRelsSpec)

/-- ITS FALSE NEIGHBOUR: 'it returns false'. Refute it at one input. -/
def fnExactPairRelsWrong : ChangeSpec := { name := "fnExactPairRels", fn := fun _ => fun
  | [d1, d2, d3] => { results := [.lit (.bool false)], args := [d1, d2, d3] }
  | _ => none }
def FnExactPairRelsWrongFalsely : Prop := fnExactPairRelsRow.holds Tryd.pinned (OpenSpec.ofChange fnExactPairRelsWrong)

/- THE SECOND FORM. 'bulk': how many values and letters a reading holds, each counted each time it is reached (what is shared counts as often as it is met; a slice's spare places count too). A statement '..UptoSaid' is the law's where the arguments, and the package variables that the reading takes, are together of bulk at most 1048576: NARROWER than '..Said'. Prove '..Said' where nothing that the law and all that it calls make is longer than what came in: it says more and counts as full. Else prove '..UptoSaid'. A law counts once. -/
mutual
def uptoBulk {H : Type} : DataW H → Nat
  | .lit (.string bytes) => bytes.length + 1
  | .lit _ => 1
  | .nil => 1
  | .ptr d => uptoBulk d + 1
  | .slice elems spare => uptoBulkAll elems + uptoBulkAll spare + 1
  | .agg parts => uptoBulkAll parts + 1
  | .iface _ d => uptoBulk d + 1
  | .map entries => uptoBulkEntries entries + 1
  | .held _ => 1
def uptoBulkAll {H : Type} : List (DataW H) → Nat
  | [] => 0
  | d :: r => uptoBulk d + uptoBulkAll r
def uptoBulkEntries {H : Type} : List (Lit × DataW H) → Nat
  | [] => 0
  | x :: r => uptoBulkEntry x + uptoBulkEntries r
def uptoBulkEntry {H : Type} : Lit × DataW H → Nat
  | (.string bytes, d) => bytes.length + uptoBulk d + 1
  | (_, d) => uptoBulk d + 1
 end
def uptoSmall : (H : Type) → List (DataW H) → Bool := fun _ ds => decide (uptoBulkAll ds ≤ 1048576)
def OpenSpec.upto (s : _root_.Go.ChangeSpec) : _root_.Go.OpenSpec := { _root_.Go.OpenSpec.ofChange s with cond := some uptoSmall }

/-- 'laws.FnExactMakeRel', WHERE WHAT IT READS IS OF BULK AT MOST 1048576: true; the input reads as it did. -/
def fnExactMakeRelUptoRow : OpenClaim := { program := "ytbnmgonfmihicaadoor", sum := "24d53a618151fdc3e41d9665216d1a2566614cf8a2ecd3e923bcc91b49bcb7d4", func := "loop.example/g01085/laws.FnExactMakeRel", spec := "fnExactMakeRel", unfollowed := true, recurses := true, named := ["math/bits.deBruijn64tab"], apart := false, laid := [("math/bits.deBruijn64tab", laid_math_bits_deBruijn64tab)], narrowed := true }
def FnExactMakeRelUptoSaid : Prop := fnExactMakeRelUptoRow.holds Tryd.pinned (OpenSpec.upto fnExactMakeRelSpec)

/-- 'laws.FnExactFullRel', WHERE WHAT IT READS IS OF BULK AT MOST 1048576: true; the input reads as it did. -/
def fnExactFullRelUptoRow : OpenClaim := { program := "ytbnmgonfmihicaadoor", sum := "24d53a618151fdc3e41d9665216d1a2566614cf8a2ecd3e923bcc91b49bcb7d4", func := "loop.example/g01085/laws.FnExactFullRel", spec := "fnExactFullRel", unfollowed := true, recurses := true, named := ["math/bits.deBruijn64tab"], apart := false, laid := [("math/bits.deBruijn64tab", laid_math_bits_deBruijn64tab)], narrowed := true }
def FnExactFullRelUptoSaid : Prop := fnExactFullRelUptoRow.holds Tryd.pinned (OpenSpec.upto fnExactFullRelSpec)

/-- 'laws.FnExactOppositeRel', WHERE WHAT IT READS IS OF BULK AT MOST 1048576: true; the input reads as it did. -/
def fnExactOppositeRelUptoRow : OpenClaim := { program := "ytbnmgonfmihicaadoor", sum := "24d53a618151fdc3e41d9665216d1a2566614cf8a2ecd3e923bcc91b49bcb7d4", func := "loop.example/g01085/laws.FnExactOppositeRel", spec := "fnExactOppositeRel", unfollowed := true, recurses := true, named := ["math/bits.deBruijn64tab"], apart := false, laid := [("math/bits.deBruijn64tab", laid_math_bits_deBruijn64tab)], narrowed := true }
def FnExactOppositeRelUptoSaid : Prop := fnExactOppositeRelUptoRow.holds Tryd.pinned (OpenSpec.upto fnExactOppositeRelSpec)

/-- 'laws.FnExactMeetRels', WHERE WHAT IT READS IS OF BULK AT MOST 1048576: true; the input reads as it did. -/
def fnExactMeetRelsUptoRow : OpenClaim := { program := "ytbnmgonfmihicaadoor", sum := "24d53a618151fdc3e41d9665216d1a2566614cf8a2ecd3e923bcc91b49bcb7d4", func := "loop.example/g01085/laws.FnExactMeetRels", spec := "fnExactMeetRels", unfollowed := true, recurses := true, named := ["math/bits.deBruijn64tab"], apart := false, laid := [("math/bits.deBruijn64tab", laid_math_bits_deBruijn64tab)], narrowed := true }
def FnExactMeetRelsUptoSaid : Prop := fnExactMeetRelsUptoRow.holds Tryd.pinned (OpenSpec.upto fnExactMeetRelsSpec)

/-- 'laws.FnExactJoinRels', WHERE WHAT IT READS IS OF BULK AT MOST 1048576: true; the input reads as it did. -/
def fnExactJoinRelsUptoRow : OpenClaim := { program := "ytbnmgonfmihicaadoor", sum := "24d53a618151fdc3e41d9665216d1a2566614cf8a2ecd3e923bcc91b49bcb7d4", func := "loop.example/g01085/laws.FnExactJoinRels", spec := "fnExactJoinRels", unfollowed := true, recurses := true, named := ["math/bits.deBruijn64tab"], apart := false, laid := [("math/bits.deBruijn64tab", laid_math_bits_deBruijn64tab)], narrowed := true }
def FnExactJoinRelsUptoSaid : Prop := fnExactJoinRelsUptoRow.holds Tryd.pinned (OpenSpec.upto fnExactJoinRelsSpec)

/-- 'laws.FnExactPairRels', WHERE WHAT IT READS IS OF BULK AT MOST 1048576: true; the input reads as it did. -/
def fnExactPairRelsUptoRow : OpenClaim := { program := "ytbnmgonfmihicaadoor", sum := "24d53a618151fdc3e41d9665216d1a2566614cf8a2ecd3e923bcc91b49bcb7d4", func := "loop.example/g01085/laws.FnExactPairRels", spec := "fnExactPairRels", unfollowed := true, recurses := true, named := ["math/bits.deBruijn64tab"], apart := false, laid := [("math/bits.deBruijn64tab", laid_math_bits_deBruijn64tab)], narrowed := true }
def FnExactPairRelsUptoSaid : Prop := fnExactPairRelsUptoRow.holds Tryd.pinned (OpenSpec.upto fnExactPairRelsSpec)

end Rows
end Go.Proofs.YtbnmgonfmihicaaDoor
