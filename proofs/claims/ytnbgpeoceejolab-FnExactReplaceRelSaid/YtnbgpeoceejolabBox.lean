/-
  A block known whole.
-/
import Derived.Test.YtnbgpeoceejolabGBase
namespace Go.Proofs.Ytnbgpeoceejolab
open Go.RowKit

/-- A block of cells. -/
def Box (T : TypeId) (w : World) (p : Nat) (xs : Array Value) : Prop := w.heap[p]? = some (.cells xs T (0, 0))
theorem Box.c {T : TypeId} {w : World} {p : Nat} {xs : Array Value} (h : Box T w p xs) (i : Nat) {v : Value} (hi : xs[i]? = some v) : w.cell? ⟨p, i, none⟩ = some v := by rw [cell_of_row w p i _ _ (0, 0) h]; exact hi
theorem Box.free {T : TypeId} {w : World} {p : Nat} {xs : Array Value} (h : Box T w p xs) (q : Nat) : w.frozen? ⟨p, q, none⟩ = false := frozen_of_row w p q _ _ h
theorem Box.lt {T : TypeId} {w : World} {p : Nat} {xs : Array Value} (h : Box T w p xs) : p < w.heap.size := (Array.getElem?_eq_some_iff.1 h).1
theorem Box.new (T : TypeId) (w : World) (xs : Array Value) : Box T (w.alloc (.cells xs T)) w.heap.size xs := heap_alloc_new w _
theorem Box.same {T : TypeId} {w w' : World} {p : Nat} {xs : Array Value} (h : Box T w p xs) (hs : w'.heap[p]? = w.heap[p]?) : Box T w' p xs := by unfold Box; rw [hs]; exact h
theorem Box.below {T : TypeId} {w w' : World} {p : Nat} {xs : Array Value} (h : Box T w p xs) (hb : Below w.heap.size w w') : Box T w' p xs := h.same (hb.block p h.lt)

end Go.Proofs.Ytnbgpeoceejolab
