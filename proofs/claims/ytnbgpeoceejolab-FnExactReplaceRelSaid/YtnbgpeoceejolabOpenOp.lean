/-
  The laws' arguments, opened: an operation by value reads as a row.
-/
import Derived.Test.YtnbgpeoceejolabRows
import Derived.Test.YtnbgpeoceejolabOp
import Derived.Test.YtnbgpeoceejolabOpen
namespace Go.Proofs.Ytnbgpeoceejolab
open Go.ChangeShapes Go.WideShapes Go.ChangeAt Go.RowKit Go.Joins

section
variable {H : Type} {enc : TypeId × Value → H} {w : World} {base : Nat} {held : Bool}

/-- A slice of integers that came in, by its cell. -/
theorem open_rowT {fuel : Nat} {v : Value} {x : DataW H × List MemPlace} (h : DataW.trod enc Try.prog w base (fun _ => true) held fuel 45 [v] = some x) :
    ∃ a n c xs, v = .slice a n c ∧ RowAt w (.slice a n c) xs := by
  rcases open_ints Try.underlying45 Try.underlying2 cells_int h with ⟨hcs, _⟩ | ⟨a, len, cap, zs, hcs, _, hl, hm, hz, _, hcell, _⟩
  · obtain rfl : v = .slice none 0 0 := by simpa using hcs
    exact ⟨none, 0, 0, [], rfl, RowAt.nil w⟩
  · obtain rfl : v = .slice (some a) len cap := by simpa using hcs
    simp only [if_true] at hz
    have hlen : (zs.take len).length = len := by simp; omega
    refine ⟨some a, len, cap, zs.take len, rfl, some a, cap, by rw [hlen], by rw [hlen]; unfold maxLen at hm; omega, fun h0 => ?_⟩
    rw [hlen] at h0 ⊢
    obtain ⟨b, off, rfl⟩ := add_none (hcell 0 (by omega))
    refine ⟨b, off, rfl, fun j hj => ?_⟩
    have := hcell j (by omega)
    rw [add_plain] at this
    rw [this]
    show _ = some (Value.int .i64 (intN _ j))
    rw [intN_at _ _ (by rw [hlen]; exact hj)]
    simp [List.getD, show j < zs.length by omega]

end
end Go.Proofs.Ytnbgpeoceejolab
