/-
  Valid operations: ValidOp and SameOp of the model and of the program.
-/
import Derived.Test.YtnbgpeoceejolabOp
namespace Go.Proofs.Ytnbgpeoceejolab
open Go.RowKit

def In13 (n : Int) : Prop := 1 ≤ n ∧ n ≤ 3
/-- An operation of a size. -/
def OpOk (size ar : Int) (xs : List Int) : Prop := In14 size ∧ In13 ar ∧ TupP size ((size.toNat ^ ar.toNat : Nat) : Int) xs

/-- An operation lies behind a pointer. -/
structure OpAt (w : World) (b o : Nat) (ar : Int) (xs : List Int) : Prop where
  arity : w.cell? ⟨b, o, none⟩ = some (.int .i64 ar)
  row : ∃ a n c, w.cell? ⟨b, o + 1, none⟩ = some (.slice a n c) ∧ RowAt w (.slice a n c) xs

theorem OpAt.below {w w' : World} {b o : Nat} {ar : Int} {xs : List Int} (h : OpAt w b o ar xs) (hb : Below w.heap.size w w') : OpAt w' b o ar xs := by
  obtain ⟨h1, a, n, c, h2, h3⟩ := h
  exact ⟨below_cell hb h1, a, n, c, below_cell hb h2, h3.below hb⟩

theorem OpAt.new (w : World) (ar : Int) (a : Option Addr) (n c : Nat) (xs : List Int) (t : TypeId) (h : RowAt w (.slice a n c) xs) : OpAt (w.alloc (.cells #[.int .i64 ar, .slice a n c] t)) w.heap.size 0 ar xs :=
  ⟨by simp [World.cell?_alloc_new], a, n, c, by simp [World.cell?_alloc_new], h.below ((Below.refl _ _).alloc (Nat.le_refl _) _)⟩

/-- What ValidOp answers. -/
def ValidOpIs (size ar : Int) (xs : List Int) (b : Bool) : Prop := Tells b (OpOk size ar xs)
theorem Tells.exists (p : Prop) : ∃ b, Tells b p := by
  by_cases h : p
  · exact ⟨true, Tells.yes h⟩
  · exact ⟨false, Tells.no h⟩
theorem ValidOpIs.exists (size ar : Int) (xs : List Int) : ∃ b, ValidOpIs size ar xs b := Tells.exists _

/-- What SameOp answers. -/
def SameOpIs (x : Int) (xs : List Int) (y : Int) (ys : List Int) (b : Bool) : Prop := eqO x xs y ys = b
theorem SameOpIs.exists (x : Int) (xs : List Int) (y : Int) (ys : List Int) : ∃ b, SameOpIs x xs y ys b := ⟨_, rfl⟩

end Go.Proofs.Ytnbgpeoceejolab
