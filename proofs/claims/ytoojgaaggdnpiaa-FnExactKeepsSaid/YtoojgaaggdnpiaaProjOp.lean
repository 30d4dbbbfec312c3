/-
  ProjectionOp of the model and of the program.
-/
import Derived.Test.YtoojgaaggdnpiaaTab
import Derived.Test.YtoojgaaggdnpiaaTupleOf
import Derived.Test.YtoojgaaggdnpiaaGSet
import Derived.Test.YtoojgaaggdnpiaaApplyOp
import Derived.Test.YtoojgaaggdnpiaaReg
import Derived.Deep.AppendLies
namespace Go.Proofs.Ytoojgaaggdnpiaa
open Go.RowKit

theorem wrap8_in {n : Int} (h0 : 0 ≤ n) (h1 : n < 256) : IntKind.u8.wrap n = n := by
  rw [IntKind.wrap_u8]; omega
theorem fieldTab (x y z : Value) (w : World) : (Instr.field 173 (.agg #[x, y, z]) 2).run Try.prog w = .ok z w := by kernel_rfl
theorem TabAt.stored {w : World} {b : Nat} {F : Nat → Int} (h : TabAt w b F) {a : Addr} (ha : b ≠ a.block) (u : Value) : TabAt (w.setCell a u) b F := Box.other h ha u

theorem own_away {w : World} {B e sz n : Nat} {v : Value} {xs : List Value} (h : w.ownsRow B e sz v n xs) (p : Nat) (hp : p < B) : v.ownBlock ≠ some p := fun e' => by have := (h.lt p e').1; omega

/-- What ProjectionOp answers. -/
def ProjectionOpIs (size ar place : Int) (x : Int) (t : List Int) (cd : Int) : Prop := OpAns (In14 size) (In13 ar ∧ InP place 0 (ar - 1)) ar (rowF (fun i => intN (digs size.toNat ar.toNat i) place.toNat) (size.toNat ^ ar.toNat)) x t cd
theorem ProjectionOpIs.exists (size ar place : Int) : ∃ x t cd, ProjectionOpIs size ar place x t cd := OpAns.exists _ _ _ _
theorem ProjectionOpIs.small {size ar place : Int} {x : Int} {t : List Int} {cd : Int} (h : ProjectionOpIs size ar place x t cd) : t.length ≤ 1048576 :=
  OpAns.small h fun h1 h2 => by
    have a := h1.1; have b := h1.2; have c := h2.1.2
    have := (pow_le3 (s := size.toNat) (r := ar.toNat) (by omega) (by omega) (by omega)).1
    rw [rowF_len]; omega


end Go.Proofs.Ytoojgaaggdnpiaa
