/-
  The laws' arguments, opened: an equation by value reads as a row and a number.
-/
import Derived.Test.YtnbgpeoceejolaaOpenSys
namespace Go.Proofs.Ytnbgpeoceejolaa
open Go.ChangeShapes Go.WideShapes Go.ChangeAt Go.RowKit Go.Joins

section
variable {H : Type} {enc : TypeId × Value → H} {w : World} {base : Nat} {held : Bool}

set_option maxRecDepth 100000 in
/-- An equation that came in, by value. -/
theorem open_equationV {r : Reach} {b0 : Nat} {v : Value} {d : DataW H} {p : List MemPlace} (hv : Value.okWide Try.prog w r b0 43 v)
    (h : DataW.Trod enc Try.prog w base (fun _ => true) held 43 v d p) : ∃ ar a n c xs, v = .agg #[.slice a n c, .int .i64 ar] ∧ RowAt w (.slice a n c) xs := by
  obtain ⟨v0, v1, y0, y1, m, rfl, rfl, rfl, h0, h1⟩ := open_agg2 Try.underlying43 (by kernel_rfl) cells_equation hv h
  obtain ⟨ar, e0, _, _⟩ := DataW.trod_int Try.underlying2 h1
  obtain ⟨a, n, c, xs, rfl, hg⟩ := open_rowT h0
  simp at e0
  subst e0
  exact ⟨ar, a, n, c, xs, rfl, hg⟩

end
end Go.Proofs.Ytnbgpeoceejolaa
