/-
  A relation with other values: MapRel of the model and of the program.
-/
import Derived.Test.YtoojgaaggdnpiaaGMaps
import Derived.Test.YtoojgaaggdnpiaaMeet
import Derived.Test.YtoojgaaggdnpiaaOpp
import Derived.Test.YtoojgaaggdnpiaaGRel
namespace Go.Proofs.Ytoojgaaggdnpiaa
open Go.RowKit

theorem mapG_snoc (to : List Int) (xs : List (List Int)) (t : List Int) : mapG to (xs ++ [t]) = mapG to xs ++ [mapped to t] := by simp [mapG]
theorem mapG_tups {x y ar : Int} {to : List Int} {xs : List (List Int)} (ht : TupP y x to) (h : ∀ t, t ∈ xs → TupP x ar t) : ∀ t, t ∈ mapG to xs → TupP y ar t := fun t hm => by
  obtain ⟨u, hu, rfl⟩ := List.mem_map.1 hm
  exact mapped_tup ht (h u hu)
/-- What MapRel answers. -/
def MapRelIs (size x : Int) (xs : List (List Int)) (to : List Int) (next : Int) (ar : Int) (zs : List (List Int)) (cd : Int) : Prop :=
  RelAns (RelOk size x xs) (In14 next ∧ TupP next size to) x (rowsS next.toNat x.toNat (setOf next (mapG to xs)) 256) ar zs cd
theorem MapRelIs.exists (size x : Int) (xs : List (List Int)) (to : List Int) (next : Int) : ∃ ar zs cd, MapRelIs size x xs to next ar zs cd := RelAns.exists _ _ _ _
theorem MapRelIs.small {size x : Int} {xs : List (List Int)} {to : List Int} {next : Int} {ar : Int} {zs : List (List Int)} {cd : Int} (h : MapRelIs size x xs to next ar zs cd) : (zs.map List.length).sum ≤ 1048576 :=
  RelAns.small h fun h1 _ => rowsS_small _ _ _ (by have := h1.2.1.2; omega)

end Go.Proofs.Ytoojgaaggdnpiaa
