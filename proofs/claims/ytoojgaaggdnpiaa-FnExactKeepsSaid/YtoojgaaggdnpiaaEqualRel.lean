/-
  The relation of equal values: EqualRel of the model and of the program.
-/
import Derived.Test.YtoojgaaggdnpiaaGBase
import Derived.Test.YtoojgaaggdnpiaaGRel
namespace Go.Proofs.Ytoojgaaggdnpiaa
open Go.RowKit

def eqRows (n : Nat) : List (List Int) := (List.range n).map fun (i : Nat) => [(i : Int), (i : Int)]
theorem eqRows_length (n : Nat) : (eqRows n).length = n := by simp [eqRows]
theorem eqRows_at (n i : Nat) (h : i < n) : rowN (eqRows n) i = [(i : Int), (i : Int)] := by
  rw [rowN_at _ _ (by rw [eqRows_length]; exact h)]
  simp [eqRows]

end Go.Proofs.Ytoojgaaggdnpiaa
