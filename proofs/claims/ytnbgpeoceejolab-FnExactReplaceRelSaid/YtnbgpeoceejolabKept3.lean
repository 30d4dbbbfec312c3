/-
  Boxes of three cells beside what is kept.
-/
import Derived.Test.YtnbgpeoceejolabGBase
namespace Go.Proofs.Ytnbgpeoceejolab
open Go.RowKit

theorem Kept.box3 {w w1 : World} {C : List (Addr × Value)} {R : List (World → Prop)} (h : Kept w C R w1) (B : Nat) (hB : B = w1.heap.size) (x y z : Value) (t : TypeId) :
    Kept w ((⟨B, 0, none⟩, x) :: (⟨B, 1, none⟩, y) :: (⟨B, 2, none⟩, z) :: C) R (w1.alloc (.cells #[x, y, z] t)) := by
  subst hB
  have hb : Below w1.heap.size w1 (w1.alloc (.cells #[x, y, z] t)) := (Below.refl _ _).alloc (Nat.le_refl _) _
  have h' := h.below hb
  refine ⟨h'.bel, fun i u hu => ?_, h'.lives, h'.reads⟩
  match i with
  | 0 => obtain rfl := Option.some.inj hu; simp
  | 1 => obtain rfl := Option.some.inj hu; simp
  | 2 => obtain rfl := Option.some.inj hu; simp
  | i + 3 => exact h'.cells i u (by simpa using hu)

end Go.Proofs.Ytnbgpeoceejolab
