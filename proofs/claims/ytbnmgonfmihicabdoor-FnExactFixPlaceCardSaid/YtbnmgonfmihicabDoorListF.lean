/-
  Lists of rows that grow round by round: what a loop has put into a set or appended; sets of numbers of lists of rows.
-/
import Derived.Test.YtbnmgonfmihicabDoorDigs
namespace Go.Proofs.YtbnmgonfmihicabDoor
open Go.RowKit

theorem take_row (xss : List (List Int)) (k : Nat) (h : k < xss.length) : xss.take (k + 1) = xss.take k ++ [rowN xss k] := by
  rw [List.take_succ_eq_append_getElem h, rowN_at _ _ h]
theorem take_all (xss : List (List Int)) : xss.take xss.length = xss := List.take_length
theorem rowN_left (xss yss : List (List Int)) (k : Nat) (h : k < xss.length) : rowN (xss ++ yss) k = rowN xss k := by
  rw [rowN_at _ _ (by simp; omega), rowN_at _ _ h, List.getElem_append_left h]
theorem rowN_last (xss : List (List Int)) (y : List Int) : rowN (xss ++ [y]) xss.length = y := by
  rw [rowN_at _ _ (by simp)]; simp
theorem rowN_snoc (xss : List (List Int)) (y : List Int) (i : Nat) (h : i < xss.length + 1) : rowN (xss ++ [y]) i = if i = xss.length then y else rowN xss i := by
  by_cases e : i = xss.length
  · subst e; rw [rowN_last, if_pos rfl]
  · rw [if_neg e, rowN_left _ _ _ (by omega)]
theorem rowN_mem {xss : List (List Int)} {k : Nat} (h : k < xss.length) : rowN xss k ∈ xss := by
  rw [rowN_at _ _ h]; exact List.getElem_mem h

theorem setOf_nil (size : Int) : setOf size [] = fun _ => false := rfl
theorem setK_front (size : Int) (xs ys : List (List Int)) : ∀ k, k ≤ xs.length → setK size (xs ++ ys) k = setK size xs k := by
  intro k
  induction k with
  | zero => intro _; rfl
  | succ k ih =>
    intro hk
    show putS _ _ = putS _ _
    rw [ih (by omega), rowN_left _ _ _ (by omega)]
theorem setOf_snoc (size : Int) (xs : List (List Int)) (y : List Int) : setOf size (xs ++ [y]) = putS (setOf size xs) (codeN size y) := by
  have e : (xs ++ [y]).length = xs.length + 1 := by simp
  unfold setOf
  rw [e]
  show putS (setK size (xs ++ [y]) xs.length) (codeN size (rowN (xs ++ [y]) xs.length)) = _
  rw [setK_front _ _ _ _ (Nat.le_refl _), rowN_last]

theorem AscC.filter {size : Nat} {xss : List (List Int)} (h : AscC size xss) (p : List Int → Bool) : AscC size (xss.filter p) := List.Pairwise.filter _ h
/-- The rows of the set of tuples in order are these. -/
theorem rowsS_asc {s r : Nat} (h1 : 1 ≤ s) (h2 : s ≤ 4) (h3 : 1 ≤ r) (h4 : r ≤ 4) {xss : List (List Int)} (ht : ∀ x, x ∈ xss → TupP s r x) (ha : AscC s xss) : rowsS s r (setOf s xss) 256 = xss :=
  rowsS_of h1 h2 h3 h4 ht ha fun n _ => setOf_iff n
theorem rowsS_cut {s r : Nat} (h1 : 1 ≤ s) (h2 : s ≤ 4) (h3 : 1 ≤ r) (h4 : r ≤ 4) {xss : List (List Int)} (ht : ∀ x, x ∈ xss → TupP s r x) : rowsS s r (setOf s xss) 256 = rowsS s r (setOf s xss) (s ^ r) := by
  unfold rowsS
  rw [memb_cut (pow_lim h1 h2 h3 h4).1 fun j hj _ => ?_]
  cases hb : setOf s xss j with
  | false => rfl
  | true =>
    obtain ⟨x, hx, rfl⟩ := (setOf_iff j).1 hb
    have := codeN_pow h1 (ht x hx)
    omega
theorem rowsS_set {s r : Nat} {S T : Nat → Bool} (h : ∀ n, n < 256 → S n = T n) : rowsS s r S 256 = rowsS s r T 256 := by
  unfold rowsS
  rw [memb_congr h]

end Go.Proofs.YtbnmgonfmihicabDoor
