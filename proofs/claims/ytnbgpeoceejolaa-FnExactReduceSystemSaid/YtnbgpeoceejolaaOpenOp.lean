/-
  The laws' arguments, opened: an operation by value reads as a row.
-/
import Derived.Test.YtnbgpeoceejolaaRows
import Derived.Test.YtnbgpeoceejolaaOp
import Derived.Test.YtnbgpeoceejolaaOpen
namespace Go.Proofs.Ytnbgpeoceejolaa
open Go.ChangeShapes Go.WideShapes Go.ChangeAt Go.RowKit Go.Joins

theorem cells_op : Try.prog.cellsOf 92 = 2 := by kernel_rfl

section
variable {H : Type} {enc : TypeId × Value → H} {w : World} {base : Nat} {held : Bool}

/-- A slice of integers that came in, by its cell. -/
theorem open_rowT {fuel : Nat} {v : Value} {x : DataW H × List MemPlace} (h : DataW.trod enc Try.prog w base (fun _ => true) held fuel 34 [v] = some x) :
    ∃ a n c xs, v = .slice a n c ∧ RowAt w (.slice a n c) xs := by
  rcases open_ints Try.underlying34 Try.underlying2 cells_int h with ⟨hcs, _⟩ | ⟨a, len, cap, zs, hcs, _, hl, hm, hz, _, hcell, _⟩
  · obtain rfl : v = .slice none 0 0 := by simpa using hcs
    exact ⟨none, 0, 0, [], rfl, RowAt.nil w⟩
  · obtain rfl : v = .slice (some a) len cap := by simpa using hcs
    simp only [if_true] at hz
    have hlen : (zs.take len).length = len := by simp; omega
    refine ⟨some a, len, cap, zs.take len, rfl, some a, cap, by rw [hlen], by rw [hlen]; unfold maxLen at hm; omega, fun h0 => ?_⟩
    rw [hlen] at h0 ⊢
    obtain ⟨b, off, rfl⟩ := add_none (hcell 0 (by omega))
    refine ⟨b, off, rfl, fun j hj => ?_⟩
    have := hcell j (by omega)
    rw [add_plain] at this
    rw [this]
    show _ = some (Value.int .i64 (intN _ j))
    rw [intN_at _ _ (by rw [hlen]; exact hj)]
    simp [List.getD, show j < zs.length by omega]

set_option maxRecDepth 100000 in
/-- An operation that came in, by value. -/
theorem open_op {r : Reach} {b0 : Nat} {v : Value} {d : DataW H} {p : List MemPlace} (hv : Value.okWide Try.prog w r b0 92 v)
    (h : DataW.Trod enc Try.prog w base (fun _ => true) held 92 v d p) : ∃ ar a n c xs, v = .agg #[.int .i64 ar, .slice a n c] ∧ RowAt w (.slice a n c) xs := by
  obtain ⟨v0, v1, y0, y1, m, rfl, rfl, rfl, h0, h1⟩ := open_agg2 Try.underlying92 (by kernel_rfl) cells_op hv h
  obtain ⟨ar, e0, _, _⟩ := DataW.trod_int Try.underlying2 h0
  obtain ⟨a, n, c, xs, rfl, hg⟩ := open_rowT h1
  simp at e0
  subst e0
  exact ⟨ar, a, n, c, xs, rfl, hg⟩

end
end Go.Proofs.Ytnbgpeoceejolaa
