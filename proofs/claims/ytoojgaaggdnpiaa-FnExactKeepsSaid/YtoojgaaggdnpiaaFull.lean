/-
  The relation of all tuples: FullRel of the model and of the program.
-/
import Derived.Test.YtoojgaaggdnpiaaLSet
import Derived.Test.YtoojgaaggdnpiaaRelOf
import Derived.Test.YtoojgaaggdnpiaaMake
namespace Go.Proofs.Ytoojgaaggdnpiaa
open Go.RowKit

def ltS (k : Nat) : Nat → Bool := fun n => decide (n < k)
theorem ltS_zero : ltS 0 = fun _ => false := by funext n; simp [ltS]
theorem ltS_put (k : Nat) : putS (ltS k) k = ltS (k + 1) := by
  funext n
  unfold putS ltS
  rw [Bool.eq_iff_iff]
  simp
  omega
/-- What FullRel answers. -/
def FullRelIs (size ar : Int) (x : Int) (zs : List (List Int)) (cd : Int) : Prop := RelAns (In14 size) (In14 ar) ar (rowsS size.toNat ar.toNat (ltS (size.toNat ^ ar.toNat)) 256) x zs cd
theorem FullRelIs.exists (size ar : Int) : ∃ x zs cd, FullRelIs size ar x zs cd := RelAns.exists _ _ _ _
theorem FullRelIs.small {size ar : Int} {x : Int} {zs : List (List Int)} {cd : Int} (h : FullRelIs size ar x zs cd) : (zs.map List.length).sum ≤ 1048576 := RelAns.small h fun _ h2 => rowsS_small _ _ _ (by have := h2.2; omega)
theorem full_rows {s r : Nat} (h1 : 1 ≤ s) (h2 : s ≤ 4) (h3 : 1 ≤ r) (h4 : r ≤ 4) : rowsS s r (ltS (s ^ r)) 256 = rowsS s r (ltS (s ^ r)) (s ^ r) := by
  unfold rowsS
  rw [memb_cut (pow_lim h1 h2 h3 h4).1 fun j hj _ => ?_]
  simp [ltS]
  exact hj

end Go.Proofs.Ytoojgaaggdnpiaa
