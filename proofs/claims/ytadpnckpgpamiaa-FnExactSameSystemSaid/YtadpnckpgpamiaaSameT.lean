/-
  Equal templates: SameTemplate of the model, slices.EqualFunc at relations, SameTemplate of the program.
-/
import Derived.Test.YtadpnckpgpamiaaSameB
import Derived.Test.YtadpnckpgpamiaaGMaps
namespace Go.Proofs.Ytadpnckpgpamiaa
open Go.RowKit

theorem eqT_no_size {x y : Int} {rs qs : List (Int × List (List Int))} (h : x ≠ y) : eqT x rs y qs = false := by simp [eqT, eqB, h]
theorem eqT_no_rels {x y : Int} {rs qs : List (Int × List (List Int))} (h : rs ≠ qs) : eqT x rs y qs = false := by simp [eqT, eqB, h]
theorem eqT_rels {x : Int} {rs qs : List (Int × List (List Int))} : eqT x rs x qs = eqB rs qs := by simp [eqT, eqB]
theorem eqR_split {x y : Int} {xs ys : List (List Int)} (h : eqR x xs y ys = true) : x = y ∧ xs = ys := by
  simp only [eqR, Bool.and_eq_true] at h
  exact ⟨eqB_true h.1, eqB_true h.2⟩

end Go.Proofs.Ytadpnckpgpamiaa
