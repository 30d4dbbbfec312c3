/-
  The values of a tuple at some places: l01At and l01Places of the model, numberAt of the program.
-/
import Derived.Test.YtnbgpeoceejolaaGMaps
import Derived.Test.YtnbgpeoceejolaaGSet
namespace Go.Proofs.Ytnbgpeoceejolaa
open Go.RowKit

def PlP (ps : List Int) (x : Int) : Prop := ∀ k, k < ps.length → 0 ≤ intN ps k ∧ intN ps k < x
theorem PlP.tup {ps : List Int} {x : Int} : PlP ps x ↔ TupP x ps.length ps := ⟨fun h => ⟨rfl, h⟩, fun h => h.2⟩
theorem mapped_place {size ar : Int} {t ps : List Int} (ht : TupP size ar t) (hp : PlP ps ar) : TupP size ps.length (mapped t ps) := by
  refine ⟨by rw [mapped_len], fun k hk => ?_⟩
  rw [mapped_len] at hk
  rw [mapped_at _ _ _ hk]
  have h1 := hp k hk
  have h2 := ht.1
  exact ht.2 _ (by omega)

end Go.Proofs.Ytnbgpeoceejolaa
