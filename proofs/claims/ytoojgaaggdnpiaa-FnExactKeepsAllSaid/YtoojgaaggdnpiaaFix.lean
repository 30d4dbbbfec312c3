/-
  The tuples with a value at a place: FixPlace of the model and of the program.
-/
import Derived.Test.YtoojgaaggdnpiaaGrowAt
import Derived.Test.YtoojgaaggdnpiaaMeet
import Derived.Test.YtoojgaaggdnpiaaGRel
namespace Go.Proofs.Ytoojgaaggdnpiaa
open Go.RowKit

def fixL (p : Nat) (v : Int) (xs : List (List Int)) : List (List Int) := xs.filter fun t => intN t p == v
theorem fixL_snoc_in {p : Nat} {v : Int} {xs : List (List Int)} {t : List Int} (h : (intN t p == v) = true) : fixL p v (xs ++ [t]) = fixL p v xs ++ [t] := by simp [fixL, List.filter_append, h]
theorem fixL_snoc_out {p : Nat} {v : Int} {xs : List (List Int)} {t : List Int} (h : (intN t p == v) = false) : fixL p v (xs ++ [t]) = fixL p v xs := by simp [fixL, List.filter_append, h]
theorem fixL_len (p : Nat) (v : Int) (xs : List (List Int)) : (fixL p v xs).length ≤ xs.length := List.length_filter_le _ _
/-- What FixPlace answers. -/
def FixPlaceIs (size x : Int) (xs : List (List Int)) (pl va : Int) (ar : Int) (zs : List (List Int)) (cd : Int) : Prop :=
  RelAns (RelOk size x xs) (InP pl 0 (x - 1) ∧ InP va 0 (size - 1)) x (fixL pl.toNat va xs) ar zs cd
theorem FixPlaceIs.exists (size x : Int) (xs : List (List Int)) (pl va : Int) : ∃ ar zs cd, FixPlaceIs size x xs pl va ar zs cd := RelAns.exists _ _ _ _
theorem FixPlaceIs.small {size x : Int} {xs : List (List Int)} {pl va : Int} {ar : Int} {zs : List (List Int)} {cd : Int} (h : FixPlaceIs size x xs pl va ar zs cd) : (zs.map List.length).sum ≤ 1048576 :=
  RelAns.small h fun h1 _ => few_small h1 (fun _ hz => (List.mem_filter.1 hz).1) (fixL_len _ _ _)

end Go.Proofs.Ytoojgaaggdnpiaa
