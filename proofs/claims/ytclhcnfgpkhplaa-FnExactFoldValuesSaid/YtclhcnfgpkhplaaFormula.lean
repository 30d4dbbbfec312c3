/-
  Formulas: the laws' measures, copies and comparisons of them.
-/
import Derived.Test.YtclhcnfgpkhplaaPairsAtom
import Derived.Test.YtclhcnfgpkhplaaKept3
namespace Go.Proofs.Ytclhcnfgpkhplaa
open Go.RowKit

/-- what a formula is compared by -/
def eqF (x y : Int) (rs : List (Int × List Int)) (x' y' : Int) (qs : List (Int × List Int)) : Bool := eqB x x' && (eqB y y' && eqB rs qs)
theorem eqF_same (x y : Int) (rs : List (Int × List Int)) : eqF x y rs x y rs = true := by simp [eqF, eqB]
theorem eqF_no1 {x y x' y' : Int} {rs qs : List (Int × List Int)} (h : x ≠ x') : eqF x y rs x' y' qs = false := by simp [eqF, eqB, h]
theorem eqF_no2 {x y x' y' : Int} {rs qs : List (Int × List Int)} (h : y ≠ y') : eqF x y rs x' y' qs = false := by simp [eqF, eqB, h]
theorem eqF_no3 {x y x' y' : Int} {rs qs : List (Int × List Int)} (h : rs ≠ qs) : eqF x y rs x' y' qs = false := by simp [eqF, eqB, h]
theorem eqF_rows {x y : Int} {rs qs : List (Int × List Int)} : eqF x y rs x y qs = eqB rs qs := by simp [eqF, eqB]

/-- A formula lies behind a pointer. -/
structure FormAt (w : World) (b o : Nat) (x y : Int) (rs : List (Int × List Int)) : Prop where
  free : w.cell? ⟨b, o, none⟩ = some (.int .i64 x)
  vars : w.cell? ⟨b, o + 1, none⟩ = some (.int .i64 y)
  atoms : ∃ a n c, w.cell? ⟨b, o + 2, none⟩ = some (.slice a n c) ∧ OpsAt w (.slice a n c) rs
theorem FormAt.below {w w' : World} {b o : Nat} {x y : Int} {rs : List (Int × List Int)} (h : FormAt w b o x y rs) (hb : Below w.heap.size w w') : FormAt w' b o x y rs := by
  obtain ⟨h1, h2, a, n, c, h3, h4⟩ := h
  exact ⟨below_cell hb h1, below_cell hb h2, a, n, c, below_cell hb h3, h4.below hb⟩
theorem FormAt.new (w : World) (x y : Int) (a : Option Addr) (n c : Nat) (rs : List (Int × List Int)) (t : TypeId) (h : OpsAt w (.slice a n c) rs) : FormAt (w.alloc (.cells #[.int .i64 x, .int .i64 y, .slice a n c] t)) w.heap.size 0 x y rs :=
  ⟨by simp [World.cell?_alloc_new], by simp [World.cell?_alloc_new], a, n, c, by simp [World.cell?_alloc_new], h.below ((Below.refl _ _).alloc (Nat.le_refl _) _)⟩

end Go.Proofs.Ytclhcnfgpkhplaa
