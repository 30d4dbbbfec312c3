/-
  Equal relations: l01Same and SameRel of the model, slices.EqualFunc at rows, SameRel of the program.
-/
import Derived.Test.YtadpnckpgpamiaaGRel
namespace Go.Proofs.Ytadpnckpgpamiaa
open Go.RowKit

theorem eqR_no_arity {x y : Int} {xs ys : List (List Int)} (h : x ≠ y) : eqR x xs y ys = false := by simp [eqR, eqB, h]
theorem eqR_no_rows {x y : Int} {xs ys : List (List Int)} (h : xs ≠ ys) : eqR x xs y ys = false := by simp [eqR, eqB, h]
theorem eqR_yes {x y : Int} {xs ys : List (List Int)} (h : x = y) (k : xs = ys) : eqR x xs y ys = true := by simp [eqR, eqB, h, k]
theorem eqR_rows {x : Int} {xs ys : List (List Int)} : eqR x xs x ys = eqB xs ys := by simp [eqR, eqB]

end Go.Proofs.Ytadpnckpgpamiaa
