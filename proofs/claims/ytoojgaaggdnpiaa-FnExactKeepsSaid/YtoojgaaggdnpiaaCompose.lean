/-
  The composition of two relations: ComposeRels of the model and of the program.
-/
import Derived.Test.YtoojgaaggdnpiaaMeet
import Derived.IntWalk
import Derived.Test.YtoojgaaggdnpiaaOpp
import Derived.Test.YtoojgaaggdnpiaaGRel
namespace Go.Proofs.Ytoojgaaggdnpiaa
open Go.RowKit

def compRow (a : List Int) (ys : List (List Int)) : List (List Int) := (ys.filter fun b => intN a 1 == intN b 0).map fun b => [intN a 0, intN b 1]
def compL (xs ys : List (List Int)) : List (List Int) := xs.flatMap fun a => compRow a ys
theorem compL_snoc (xs ys : List (List Int)) (a : List Int) : compL (xs ++ [a]) ys = compL xs ys ++ compRow a ys := by simp [compL]
theorem compRow_nil (a : List Int) : compRow a [] = [] := rfl
theorem compRow_in {a b : List Int} {ys : List (List Int)} (h : (intN a 1 == intN b 0) = true) : compRow a (ys ++ [b]) = compRow a ys ++ [[intN a 0, intN b 1]] := by simp [compRow, List.filter_append, h]
theorem compRow_out {a b : List Int} {ys : List (List Int)} (h : (intN a 1 == intN b 0) = false) : compRow a (ys ++ [b]) = compRow a ys := by simp [compRow, List.filter_append, h]
theorem pair_tup {s : Nat} {u t : Int} (hu : 0 ≤ u ∧ u < s) (ht : 0 ≤ t ∧ t < s) : TupP s 2 [u, t] := ⟨rfl, fun k hk => by
  have : k = 0 ∨ k = 1 := by simp at hk; omega
  rcases this with rfl | rfl
  · exact hu
  · exact ht⟩
theorem compL_tups {s : Nat} {xs ys : List (List Int)} (h1 : ∀ x, x ∈ xs → TupP s 2 x) (h2 : ∀ x, x ∈ ys → TupP s 2 x) : ∀ x, x ∈ compL xs ys → TupP s 2 x := fun x hx => by
  obtain ⟨a, ha, hx⟩ := List.mem_flatMap.1 hx
  obtain ⟨b, hb, rfl⟩ := List.mem_map.1 hx
  have hb := (List.mem_filter.1 hb).1
  have e1 := (h1 a ha).1
  have e2 := (h2 b hb).1
  exact pair_tup ((h1 a ha).2 0 (by omega)) ((h2 b hb).2 1 (by omega))
theorem pair_code (s u t : Nat) : codeN s [(u : Int), (t : Int)] = u * s + t := by
  show (codeK s [(u : Int), (t : Int)] 2).toNat = _
  show (((0 * (s : Int) + (u : Int)) * (s : Int) + (t : Int)) : Int).toNat = _
  rw [Int.zero_mul, Int.zero_add, ← Int.natCast_mul, ← Int.natCast_add, Int.toNat_natCast]
/-- What ComposeRels answers. -/
def ComposeRelsIs (size x : Int) (xs : List (List Int)) (y : Int) (ys : List (List Int)) (ar : Int) (zs : List (List Int)) (cd : Int) : Prop :=
  RelAns (RelOk size x xs ∧ RelOk size y ys) (x = 2 ∧ y = 2) 2 (rowsS size.toNat 2 (setOf size (compL xs ys)) 256) ar zs cd
theorem ComposeRelsIs.exists (size x : Int) (xs : List (List Int)) (y : Int) (ys : List (List Int)) : ∃ ar zs cd, ComposeRelsIs size x xs y ys ar zs cd := RelAns.exists _ _ _ _
theorem ComposeRelsIs.small {size x : Int} {xs : List (List Int)} {y : Int} {ys : List (List Int)} {ar : Int} {zs : List (List Int)} {cd : Int} (h : ComposeRelsIs size x xs y ys ar zs cd) : (zs.map List.length).sum ≤ 1048576 :=
  RelAns.small h fun _ _ => rowsS_small _ _ _ (by omega)

end Go.Proofs.Ytoojgaaggdnpiaa
