/-
  What the model draws for a law: P6Pick, P6Tuple, P6Places, P6Rel; ValuesAt.
-/
import Derived.Test.YtoojgaaggdnpiaaSrc
import Derived.Test.YtoojgaaggdnpiaaSets
import Derived.Test.YtoojgaaggdnpiaaLSet
import Derived.Test.YtoojgaaggdnpiaaGrowAt
import Derived.Test.YtoojgaaggdnpiaaReg
namespace Go.Proofs.Ytoojgaaggdnpiaa
open Go.RowKit

theorem info_intD : (Try.prog.info? 2).map (fun i => (i.zero, i.size, i.bytes)) = some (some (.int .i64 0), 1, 8) := by kernel_rfl
theorem info_rowD : (Try.prog.info? 22).map (fun i => (i.zero, i.size, i.bytes)) = some (some (.slice none 0 0), 1, 24) := by kernel_rfl

theorem ownRow_snoc (xs : List Int) (v : Nat) : (xs ++ [(v : Int)]).map (Value.int .i64) = xs.map (Value.int .i64) ++ [.int .i64 v] := by simp
theorem tup_snoc {m k : Nat} {xs : List Int} {v : Nat} (h : TupP m k xs) (hv : v < m) : TupP m (k + 1 : Nat) (xs ++ [(v : Int)]) := by
  refine ⟨by have := h.1; simp; omega, fun j hj => ?_⟩
  by_cases hj2 : j < xs.length
  · rw [show intN (xs ++ [(v : Int)]) j = intN xs j from intN_left xs _ j hj2]
    exact h.2 j hj2
  · obtain rfl : j = xs.length := by simp at hj; omega
    simp only [intN]
    rw [List.getD_eq_getElem?_getD, List.getElem?_append_right (Nat.le_refl _)]
    simp
    omega

end Go.Proofs.Ytoojgaaggdnpiaa
