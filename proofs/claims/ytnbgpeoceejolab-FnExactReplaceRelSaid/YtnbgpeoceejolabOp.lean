/-
  Operations: the laws' copies, measures, comparisons and marks of them; valid operations; ValidOp and SameOp of the model and of the program.
-/
import Derived.Test.YtnbgpeoceejolabGBase
import Derived.Test.YtnbgpeoceejolabGSet
import Derived.Test.YtnbgpeoceejolabGRel
namespace Go.Proofs.Ytnbgpeoceejolab
open Go.RowKit

theorem OwnRow.stored {w : World} {B : Nat} {v : Value} {xs : List Int} (h : OwnRow w B v xs) {p : Addr} (hp : p.block < B) (u : Value) : OwnRow (w.setCell p u) B v xs :=
  ownsRow_same h fun g hg => Below.heap_setCell _ _ _ _ (by have := (h.lt g hg).1; omega)

/-- An operation (or what else has a number and a row) of its own. -/
def MadeOp (w : World) (ar : Int) (xs : List Int) (e : Ending) (w' : World) : Prop :=
  ∃ a n c, e = .returned (.agg #[.int .i64 ar, .slice a n c]) ∧ OwnRowE w' w.heap.size w'.heap.size (.slice a n c) xs ∧ Below w.heap.size w w'

/-- what an operation is compared by -/
def eqO (a : Int) (xs : List Int) (b : Int) (ys : List Int) : Bool := eqB a b && eqB xs ys
theorem eqO_same (x : Int) (xs : List Int) : eqO x xs x xs = true := by simp [eqO, eqB]
theorem eqO_no_arity {x y : Int} {xs ys : List Int} (h : x ≠ y) : eqO x xs y ys = false := by simp [eqO, eqB, h]
theorem eqO_rows {x : Int} {xs ys : List Int} : eqO x xs x ys = eqB xs ys := by simp [eqO, eqB]

end Go.Proofs.Ytnbgpeoceejolab
