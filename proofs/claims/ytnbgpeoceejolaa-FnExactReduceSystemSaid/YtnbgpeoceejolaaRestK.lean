/-
  The blocks that writing to a row leaves as they are.
-/
import Derived.Test.YtnbgpeoceejolaaGBase
namespace Go.Proofs.Ytnbgpeoceejolaa
open Go.RowKit

/-- The blocks that writing to a row leaves as they are. -/
def RestK (rb : Nat) (a b : Option Nat) (w w' : World) : Prop := w.heap.size ≤ w'.heap.size ∧ ∀ k, k < w.heap.size → k ≠ rb → some k ≠ a → some k ≠ b → w'.heap[k]? = w.heap[k]?
theorem RestK.refl (rb : Nat) (a b : Option Nat) (w : World) : RestK rb a b w w := ⟨Nat.le_refl _, fun _ _ _ _ _ => rfl⟩
theorem RestK.trans {rb : Nat} {a b : Option Nat} {w w1 w2 : World} (h : RestK rb a b w w1) (k : RestK rb a b w1 w2) : RestK rb a b w w2 :=
  ⟨Nat.le_trans h.1 k.1, fun i h1 h2 h3 h4 => (k.2 i (Nat.lt_of_lt_of_le h1 h.1) h2 h3 h4).trans (h.2 i h1 h2 h3 h4)⟩
theorem RestK.drewN {rb : Nat} {a b : Option Nat} {w w1 : World} (h : RestK rb a b w w1) (n : Nat) : RestK rb a b w (w1.drewN n) := h
theorem RestK.set {rb : Nat} {a b : Option Nat} {w w1 : World} (h : RestK rb a b w w1) (p : Addr) (v : Value) (hp : p.block = rb ∨ some p.block = a ∨ some p.block = b) : RestK rb a b w (w1.setCell p v) := by
  refine ⟨by have := h.1; simpa [World.setCell] using this, fun k h1 h2 h3 h4 => ?_⟩
  rw [Below.heap_setCell _ _ _ _ (fun e => by subst e; rcases hp with h | h | h; exact h2 h; exact h3 h; exact h4 h)]
  exact h.2 k h1 h2 h3 h4

end Go.Proofs.Ytnbgpeoceejolaa
