/-
  The values of tuples at places: ProjectRel of the model and of the program.
-/
import Derived.Test.YtoojgaaggdnpiaaAtP
import Derived.Test.YtoojgaaggdnpiaaMeet
import Derived.Test.YtoojgaaggdnpiaaOpp
import Derived.Test.YtoojgaaggdnpiaaGRel
namespace Go.Proofs.Ytoojgaaggdnpiaa
open Go.RowKit

def atL (ps : List Int) (xs : List (List Int)) : List (List Int) := xs.map fun t => mapped t ps
theorem atL_snoc (ps : List Int) (xs : List (List Int)) (t : List Int) : atL ps (xs ++ [t]) = atL ps xs ++ [mapped t ps] := by simp [atL]
theorem atL_tups {size ar : Int} {ps : List Int} {xs : List (List Int)} (h : ∀ x, x ∈ xs → TupP size ar x) (hp : PlP ps ar) : ∀ x, x ∈ atL ps xs → TupP size ps.length x := fun x hx => by
  obtain ⟨t, ht, rfl⟩ := List.mem_map.1 hx
  exact mapped_place (h t ht) hp
/-- What ProjectRel answers. -/
def ProjectRelIs (size x : Int) (xs : List (List Int)) (ps : List Int) (ar : Int) (zs : List (List Int)) (cd : Int) : Prop :=
  RelAns (RelOk size x xs) (In14 ps.length ∧ PlP ps x) ps.length (rowsS size.toNat ps.length (setOf size (atL ps xs)) 256) ar zs cd
theorem ProjectRelIs.exists (size x : Int) (xs : List (List Int)) (ps : List Int) : ∃ ar zs cd, ProjectRelIs size x xs ps ar zs cd := RelAns.exists _ _ _ _
theorem ProjectRelIs.small {size x : Int} {xs : List (List Int)} {ps : List Int} {ar : Int} {zs : List (List Int)} {cd : Int} (h : ProjectRelIs size x xs ps ar zs cd) : (zs.map List.length).sum ≤ 1048576 :=
  RelAns.small h fun _ h2 => rowsS_small _ _ _ (by have := h2.1.2; omega)

end Go.Proofs.Ytoojgaaggdnpiaa
