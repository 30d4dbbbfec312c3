/-
  Valid relations: l01Ok and ValidRel of the model, ValidRel of the program.
-/
import Derived.Test.YtpkmdieaifggoabDoorOrd
namespace Go.Proofs.YtpkmdieaifggoabDoor
open Go.RowKit

def RowOk (size ar : Int) (xss : List (List Int)) (k : Nat) : Prop := TupP size ar (rowN xss k) ∧ (0 < k → LtP (rowN xss (k - 1)) (rowN xss k))
def RelOk (size ar : Int) (xss : List (List Int)) : Prop := In14 size ∧ In14 ar ∧ ∀ k, k < xss.length → RowOk size ar xss k

theorem nat_pos_int {k : Nat} (h : 0 < k) : (0 : Int) < (k : Int) := by omega
theorem nat_pred_int {k : Nat} (h : 0 < k) : (k : Int) - 1 = ((k - 1 : Nat) : Int) := by omega

/-- A relation lies behind a pointer. -/
structure RelAt (w : World) (b o : Nat) (ar : Int) (xss : List (List Int)) : Prop where
  arity : w.cell? ⟨b, o, none⟩ = some (.int .i64 ar)
  rows : ∃ a n c, w.cell? ⟨b, o + 1, none⟩ = some (.slice a n c) ∧ GridAt w (.slice a n c) xss

theorem RelAt.below {w w' : World} {b o : Nat} {ar : Int} {xss : List (List Int)} (h : RelAt w b o ar xss) (hb : Below w.heap.size w w') : RelAt w' b o ar xss := by
  obtain ⟨h1, a, n, c, h2, h3⟩ := h
  exact ⟨below_cell hb h1, a, n, c, below_cell hb h2, h3.below hb⟩

end Go.Proofs.YtpkmdieaifggoabDoor
