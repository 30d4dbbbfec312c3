/-
  What stands while a law goes on: nothing that was there before the call has turned; some cells hold what they held; some readings hold.
-/
import Derived.Test.YtbnmgonfmihicabDoorEq
namespace Go.Proofs.YtbnmgonfmihicabDoor
open Go.RowKit

/-- A reading that lives on where nothing that is there turns. -/
def Lives (p : World → Prop) : Prop := ∀ w w' : World, Below w.heap.size w w' → p w → p w'

theorem lives_grid (v : Value) (xss : List (List Int)) : Lives (fun w => GridAt w v xss) := fun _ _ hb h => h.below hb
theorem lives_row (v : Value) (xs : List Int) : Lives (fun w => RowAt w v xs) := fun _ _ hb h => h.below hb
theorem lives_own (B E : Nat) (v : Value) (xss : List (List Int)) : Lives (fun w => OwnGrid w B E v xss) := fun _ _ hb h => h.below hb

structure Kept (w : World) (C : List (Addr × Value)) (R : List (World → Prop)) (w' : World) : Prop where
  bel : Below w.heap.size w w'
  cells : ∀ (i : Nat) (x : Addr × Value), C[i]? = some x → w'.cell? x.1 = some x.2
  lives : ∀ (i : Nat) (p : World → Prop), R[i]? = some p → Lives p
  reads : ∀ (i : Nat) (p : World → Prop), R[i]? = some p → p w'

theorem Kept.start (w : World) : Kept w [] [] w := ⟨Below.refl _ _, fun i x h => by simp at h, fun i p h => by simp at h, fun i p h => by simp at h⟩

theorem Kept.below {w w1 w2 : World} {C : List (Addr × Value)} {R : List (World → Prop)} (h : Kept w C R w1) (hb : Below w1.heap.size w1 w2) : Kept w C R w2 :=
  ⟨h.bel.trans (hb.mono h.bel.size), fun i x hx => below_cell hb (h.cells i x hx), h.lives, fun i p hp => h.lives i p hp _ _ hb (h.reads i p hp)⟩

theorem Kept.drew {w w1 : World} {C : List (Addr × Value)} {R : List (World → Prop)} (h : Kept w C R w1) : Kept w C R w1.drew := h.below ((QW.refl _).drew.below _)
theorem Kept.drewN {w w1 : World} {C : List (Addr × Value)} {R : List (World → Prop)} (h : Kept w C R w1) (n : Nat) : Kept w C R (w1.drewN n) := h.below ((QW.refl _).drewN n |>.below _)

theorem QW.bel {a b : World} (h : QW a b) : Below a.heap.size a b := h.below _

/-- A struct of two cells is boxed. -/
theorem Kept.box {w w1 : World} {C : List (Addr × Value)} {R : List (World → Prop)} (h : Kept w C R w1) (B : Nat) (hB : B = w1.heap.size) (x y : Value) (t : TypeId) :
    Kept w ((⟨B, 0, none⟩, x) :: (⟨B, 1, none⟩, y) :: C) R (w1.alloc (.cells #[x, y] t)) := by
  subst hB
  have hb : Below w1.heap.size w1 (w1.alloc (.cells #[x, y] t)) := (Below.refl _ _).alloc (Nat.le_refl _) _
  have h' := h.below hb
  refine ⟨h'.bel, fun i u hu => ?_, h'.lives, h'.reads⟩
  match i with
  | 0 => obtain rfl := Option.some.inj hu; simp
  | 1 => obtain rfl := Option.some.inj hu; simp
  | i + 2 => exact h'.cells i u (by simpa using hu)

theorem Kept.read {w w1 : World} {C : List (Addr × Value)} {R : List (World → Prop)} (h : Kept w C R w1) {p : World → Prop} (hl : Lives p) (hp : p w1) : Kept w C (p :: R) w1 := by
  refine ⟨h.bel, h.cells, fun i q hq => ?_, fun i q hq => ?_⟩
  · match i with
    | 0 => obtain rfl := Option.some.inj hq; exact hl
    | i + 1 => exact h.lives i q (by simpa using hq)
  · match i with
    | 0 => obtain rfl := Option.some.inj hq; exact hp
    | i + 1 => exact h.reads i q (by simpa using hq)

theorem Kept.cell {w w1 : World} {C : List (Addr × Value)} {R : List (World → Prop)} (h : Kept w C R w1) {a : Addr} {v : Value} (hc : w1.cell? a = some v) : Kept w ((a, v) :: C) R w1 := by
  refine ⟨h.bel, fun i u hu => ?_, h.lives, h.reads⟩
  match i with
  | 0 => obtain rfl := Option.some.inj hu; exact hc
  | i + 1 => exact h.cells i u (by simpa using hu)
theorem Kept.own {w w1 : World} {C : List (Addr × Value)} {R : List (World → Prop)} (h : Kept w C R w1) (i : Nat) {B E : Nat} {v : Value} {xss : List (List Int)} (hi : R[i]? = some (fun w => OwnGrid w B E v xss)) : OwnGrid w1 B E v xss := h.reads i _ hi
theorem Kept.c {w w1 : World} {C : List (Addr × Value)} {R : List (World → Prop)} (h : Kept w C R w1) (i : Nat) {a : Addr} {v : Value} (hi : C[i]? = some (a, v)) : w1.cell? a = some v := h.cells i _ hi
theorem Kept.grid {w w1 : World} {C : List (Addr × Value)} {R : List (World → Prop)} (h : Kept w C R w1) (i : Nat) {v : Value} {xss : List (List Int)} (hi : R[i]? = some (fun w => GridAt w v xss)) : GridAt w1 v xss := h.reads i _ hi
theorem Kept.row {w w1 : World} {C : List (Addr × Value)} {R : List (World → Prop)} (h : Kept w C R w1) (i : Nat) {v : Value} {xs : List Int} (hi : R[i]? = some (fun w => RowAt w v xs)) : RowAt w1 v xs := h.reads i _ hi

/-- Two boxes held beside all that is kept: what a region that draws its order is told. -/
theorem Kept.two {w w1 : World} {C : List (Addr × Value)} {R : List (World → Prop)} (h : Kept w C R w1) (i j : Nat) {a b a' b' : Addr} {x y x' y' : Value}
    (h1 : C[i]? = some (a, x)) (h2 : C[i + 1]? = some (a', x')) (h3 : C[j]? = some (b, y)) (h4 : C[j + 1]? = some (b', y')) :
    w1.cell? a = some x ∧ w1.cell? a' = some x' ∧ w1.cell? b = some y ∧ w1.cell? b' = some y' ∧ Kept w C R w1 := ⟨h.c i h1, h.c (i + 1) h2, h.c j h3, h.c (j + 1) h4, h⟩
theorem two_kept {w w1 : World} {C : List (Addr × Value)} {R : List (World → Prop)} {a b a' b' : Addr} {x y x' y' : Value}
    (h : w1.cell? a = some x ∧ w1.cell? a' = some x' ∧ w1.cell? b = some y ∧ w1.cell? b' = some y' ∧ Kept w C R w1) : Kept w C R w1 := h.2.2.2.2
theorem two_grid {w w1 : World} {C : List (Addr × Value)} {R : List (World → Prop)} {a b a' b' : Addr} {x y x' y' : Value}
    (h : w1.cell? a = some x ∧ w1.cell? a' = some x' ∧ w1.cell? b = some y ∧ w1.cell? b' = some y' ∧ Kept w C R w1) (i : Nat) {v : Value} {xss : List (List Int)} (hi : R[i]? = some (fun w => GridAt w v xss)) : GridAt w1 v xss := h.2.2.2.2.grid i hi
theorem two_below {w w1 w2 : World} {C : List (Addr × Value)} {R : List (World → Prop)} {a b a' b' : Addr} {x y x' y' : Value}
    (h : w1.cell? a = some x ∧ w1.cell? a' = some x' ∧ w1.cell? b = some y ∧ w1.cell? b' = some y' ∧ Kept w C R w1) (hb : Below w1.heap.size w1 w2) :
    w2.cell? a = some x ∧ w2.cell? a' = some x' ∧ w2.cell? b = some y ∧ w2.cell? b' = some y' ∧ Kept w C R w2 :=
  ⟨below_cell hb h.1, below_cell hb h.2.1, below_cell hb h.2.2.1, below_cell hb h.2.2.2.1, h.2.2.2.2.below hb⟩

end Go.Proofs.YtbnmgonfmihicabDoor
