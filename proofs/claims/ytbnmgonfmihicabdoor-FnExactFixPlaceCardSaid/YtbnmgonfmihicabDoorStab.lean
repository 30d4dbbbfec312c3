/-
  What stands while marks are written: readings that look at blocks of an interval alone, and cells outside of what is written.
-/
import Derived.Test.YtbnmgonfmihicabDoorKept
namespace Go.Proofs.YtbnmgonfmihicabDoor
open Go.RowKit

/-- A reading that stands in each later world with the same blocks in [lo, hi). -/
def Stab (lo hi : Nat) (p : World → Prop) (w : World) : Prop := ∀ w' : World, w.heap.size ≤ w'.heap.size → (∀ g, lo ≤ g → g < hi → w'.heap[g]? = w.heap[g]?) → p w'
theorem Stab.now {lo hi : Nat} {p : World → Prop} {w : World} (h : Stab lo hi p w) : p w := h w (Nat.le_refl _) fun _ _ _ => rfl
theorem Stab.go {lo hi : Nat} {p : World → Prop} {w w2 : World} (h : Stab lo hi p w) (hs : w.heap.size ≤ w2.heap.size) (hg : ∀ g, lo ≤ g → g < hi → w2.heap[g]? = w.heap[g]?) : Stab lo hi p w2 :=
  fun w' h1 h2 => h w' (Nat.le_trans hs h1) fun g a b => (h2 g a b).trans (hg g a b)
theorem stab_own {w : World} {B E : Nat} {v : Value} {xss : List (List Int)} (h : OwnGrid w B E v xss) : Stab B E (fun w => OwnGrid w B E v xss) w := fun w' h1 h2 => by
  obtain ⟨V, h⟩ := h
  exact ⟨V, ownsRow_same h.outer fun g hv => h2 g (h.outer.lt g hv).1 (h.top g hv), Nat.le_trans h.le h1, h.top, fun i hi => ownsRow_same (h.rows i hi) fun g hv => h2 g ((h.rows i hi).lt g hv).1 (h.hi i hi g hv), h.hi, h.apart⟩
theorem stab_lives {w : World} {p : World → Prop} (hl : ∀ w', w.heap.size ≤ w'.heap.size → (∀ g, g < w.heap.size → w'.heap[g]? = w.heap[g]?) → p w') : Stab 0 w.heap.size p w := fun w' h1 h2 => hl w' h1 fun g hg => h2 g (Nat.zero_le _) hg

theorem two_own {w w1 : World} {C : List (Addr × Value)} {R : List (World → Prop)} {a b a' b' : Addr} {x y x' y' : Value}
    (h : w1.cell? a = some x ∧ w1.cell? a' = some x' ∧ w1.cell? b = some y ∧ w1.cell? b' = some y' ∧ Kept w C R w1) (i : Nat) {B E : Nat} {v : Value} {xss : List (List Int)} (hi : R[i]? = some (fun w => OwnGrid w B E v xss)) : OwnGrid w1 B E v xss := h.2.2.2.2.own i hi
theorem lives_ownRow (B : Nat) (v : Value) (xs : List Int) : Lives (fun w => OwnRow w B v xs) := fun _ _ hb h => h.below hb
theorem ownGrid_le {w : World} {B E : Nat} {v : Value} {xss : List (List Int)} (h : OwnGrid w B E v xss) : E ≤ w.heap.size := by obtain ⟨V, h⟩ := h; exact h.le

/-- What a value reads as turns on the cells of blocks that are there. -/
theorem SlAt.same {w w' : World} {v : Value} {n : Nat} {V : Nat → Value} (h : SlAt w v n V) (hg : ∀ g, g < w.heap.size → w'.heap[g]? = w.heap[g]?) : SlAt w' v n V :=
  h.mono fun a _ hc => (World.cell?_of_block (w := w) (hg a.block (cell_block_lt hc))).trans hc
theorem stab_grid {w : World} {v : Value} {xss : List (List Int)} (h : GridAt w v xss) : Stab 0 w.heap.size (fun w => GridAt w v xss) w := stab_lives fun _ _ h2 => by
  obtain ⟨V, h1, h3⟩ := h
  exact ⟨V, h1.same h2, fun i hi => (h3 i hi).same h2⟩
theorem stab_row {w : World} {v : Value} {xs : List Int} (h : RowAt w v xs) : Stab 0 w.heap.size (fun w => RowAt w v xs) w := stab_lives fun _ _ h2 => SlAt.same h h2
theorem stab_ownRow {w : World} {B E : Nat} {v : Value} {xs : List Int} (h : OwnRow w B v xs) (hE : ∀ g, v.ownBlock = some g → g < E) : Stab B E (fun w => OwnRow w B v xs) w := fun _ _ h2 =>
  ownsRow_same h fun g hg => h2 g (h.lt g hg).1 (hE g hg)

/-- The readings, each with its interval; the cells. -/
structure KeptS (w : World) (C : List (Addr × Value)) (R : List (Nat × Nat × (World → Prop))) (w' : World) : Prop where
  bel : Below w.heap.size w w'
  cells : ∀ (i : Nat) (x : Addr × Value), C[i]? = some x → w'.cell? x.1 = some x.2
  hi : ∀ (i : Nat) (x : Nat × Nat × (World → Prop)), R[i]? = some x → x.2.1 ≤ w'.heap.size
  reads : ∀ (i : Nat) (x : Nat × Nat × (World → Prop)), R[i]? = some x → Stab x.1 x.2.1 x.2.2 w'

theorem KeptS.start {w w' : World} {C : List (Addr × Value)} {R : List (World → Prop)} (h : Kept w C R w') : KeptS w C [] w' := ⟨h.bel, h.cells, fun i x hx => by simp at hx, fun i x hx => by simp at hx⟩
theorem KeptS.cons {w w' : World} {C : List (Addr × Value)} {R : List (Nat × Nat × (World → Prop))} (h : KeptS w C R w') {lo hi : Nat} {p : World → Prop} (hs : Stab lo hi p w') (hh : hi ≤ w'.heap.size) : KeptS w C ((lo, hi, p) :: R) w' := by
  refine ⟨h.bel, h.cells, fun i x hx => ?_, fun i x hx => ?_⟩
  · match i with
    | 0 => obtain rfl := Option.some.inj hx; exact hh
    | i + 1 => exact h.hi i x (by simpa using hx)
  · match i with
    | 0 => obtain rfl := Option.some.inj hx; exact hs
    | i + 1 => exact h.reads i x (by simpa using hx)
theorem KeptS.below {w w1 w2 : World} {C : List (Addr × Value)} {R : List (Nat × Nat × (World → Prop))} (h : KeptS w C R w1) (hb : Below w1.heap.size w1 w2) : KeptS w C R w2 :=
  ⟨h.bel.trans (hb.mono h.bel.size), fun i x hx => below_cell hb (h.cells i x hx), fun i x hx => Nat.le_trans (h.hi i x hx) hb.size,
    fun i x hx => (h.reads i x hx).go hb.size fun g _ hg => hb.block g (Nat.lt_of_lt_of_le hg (h.hi i x hx))⟩
theorem KeptS.only {w w1 w2 : World} {C : List (Addr × Value)} {R : List (Nat × Nat × (World → Prop))} (h : KeptS w C R w1) {B E : Nat} (hn : Only (fun g => B ≤ g ∧ g < E) w1 w2) (hw : w.heap.size ≤ B)
    (hc : ∀ x, x ∈ C → x.1.block < B ∨ E ≤ x.1.block) (hr : ∀ x, x ∈ R → x.2.1 ≤ B ∨ E ≤ x.1) : KeptS w C R w2 := by
  refine ⟨h.bel.trans (hn.below h.bel.size fun k hk => by omega), fun i x hx => ?_, fun i x hx => Nat.le_trans (h.hi i x hx) hn.size, fun i x hx => (h.reads i x hx).go hn.size fun g h1 h2 => ?_⟩
  · have h0 := h.cells i x hx
    refine (World.cell?_of_block (w := w1) (hn.block x.1.block (cell_block_lt h0) ?_)).trans h0
    have := hc x (List.mem_of_getElem? hx)
    omega
  · refine hn.block g (Nat.lt_of_lt_of_le h2 (h.hi i x hx)) ?_
    have := hr x (List.mem_of_getElem? hx)
    omega
theorem KeptS.c {w w1 : World} {C : List (Addr × Value)} {R : List (Nat × Nat × (World → Prop))} (h : KeptS w C R w1) (i : Nat) {a : Addr} {v : Value} (hi : C[i]? = some (a, v)) : w1.cell? a = some v := h.cells i _ hi
theorem KeptS.r {w w1 : World} {C : List (Addr × Value)} {R : List (Nat × Nat × (World → Prop))} (h : KeptS w C R w1) (i : Nat) {lo hi : Nat} {p : World → Prop} (hi : R[i]? = some (lo, hi, p)) : p w1 := (h.reads i _ hi).now
theorem KeptS.end {w w1 : World} {C : List (Addr × Value)} {R : List (Nat × Nat × (World → Prop))} (h : KeptS w C R w1) : Kept w C [] w1 := ⟨h.bel, h.cells, fun i x hx => by simp at hx, fun i x hx => by simp at hx⟩
/-- Marks were written into an interval: the reading of it is another one. -/
theorem KeptS.drop {w w1 : World} {C : List (Addr × Value)} {R : List (Nat × Nat × (World → Prop))} {x : Nat × Nat × (World → Prop)} (h : KeptS w C (x :: R) w1) : KeptS w C R w1 :=
  ⟨h.bel, h.cells, fun i y hy => h.hi (i + 1) y (by simpa using hy), fun i y hy => h.reads (i + 1) y (by simpa using hy)⟩

/-- A row of its own, in a block of [B, E). -/
structure OwnRowE (w : World) (B E : Nat) (v : Value) (xs : List Int) : Prop where
  row : OwnRow w B v xs
  le : E ≤ w.heap.size
  hi : ∀ g, v.ownBlock = some g → g < E
theorem OwnRow.full {w : World} {B : Nat} {v : Value} {xs : List Int} (h : OwnRow w B v xs) : OwnRowE w B w.heap.size v xs := ⟨h, Nat.le_refl _, fun g hg => (h.lt g hg).2⟩
theorem OwnRowE.at {w : World} {B E : Nat} {v : Value} {xs : List Int} (h : OwnRowE w B E v xs) : RowAt w v xs := h.row.rowAt
theorem OwnRowE.mono {w : World} {B B' E : Nat} {v : Value} {xs : List Int} (h : OwnRowE w B E v xs) (hB : B' ≤ B) : OwnRowE w B' E v xs := ⟨h.row.mono hB, h.le, h.hi⟩
theorem OwnRowE.below {w w' : World} {B E : Nat} {v : Value} {xs : List Int} (h : OwnRowE w B E v xs) (hb : Below w.heap.size w w') : OwnRowE w' B E v xs := ⟨h.row.below hb, Nat.le_trans h.le hb.size, h.hi⟩
theorem OwnRowE.nil (w : World) (B E : Nat) (hE : E ≤ w.heap.size) : OwnRowE w B E (.slice none 0 0) [] := ⟨World.ownsRow_nil w B _ 1, hE, fun g hg => by simp [Value.ownBlock] at hg⟩
theorem lives_rowE (B E : Nat) (v : Value) (xs : List Int) : Lives (fun w => OwnRowE w B E v xs) := fun _ _ hb h => h.below hb
theorem stab_rowE {w : World} {B E : Nat} {v : Value} {xs : List Int} (h : OwnRowE w B E v xs) : Stab B E (fun w => OwnRowE w B E v xs) w := fun _ h1 h2 =>
  ⟨ownsRow_same h.row fun g hg => h2 g (h.row.lt g hg).1 (h.hi g hg), Nat.le_trans h.le h1, h.hi⟩
theorem ownRowE_le {w : World} {B E : Nat} {v : Value} {xs : List Int} (h : OwnRowE w B E v xs) : E ≤ w.heap.size := h.le
theorem Only.rowE {w w' : World} {B E : Nat} {v : Value} {xs ys : List Int} (h : OwnRowE w B E v xs) (hn : Only (fun g => v.ownBlock = some g) w w') (ho : OwnRow w' B v ys) : OwnRowE w' B E v ys ∧ Only (fun g => B ≤ g ∧ g < E) w w' :=
  ⟨⟨ho, Nat.le_trans h.le hn.size, h.hi⟩, hn.mono fun g hg => ⟨(h.row.lt g hg).1, h.hi g hg⟩⟩

/-- The reading of a kept list, by its index. -/
theorem Kept.r {w w1 : World} {C : List (Addr × Value)} {R : List (World → Prop)} (h : Kept w C R w1) (i : Nat) {p : World → Prop} (hi : R[i]? = some p) : p w1 := h.reads i _ hi
theorem two_row {w w1 : World} {C : List (Addr × Value)} {R : List (World → Prop)} {a b a' b' : Addr} {x y x' y' : Value}
    (h : w1.cell? a = some x ∧ w1.cell? a' = some x' ∧ w1.cell? b = some y ∧ w1.cell? b' = some y' ∧ Kept w C R w1) (i : Nat)  {v : Value} {xs : List Int} (hi : R[i]? = some (fun w => RowAt w v xs)) : RowAt w1 v xs := h.2.2.2.2.reads i _ hi
theorem two_rowE {w w1 : World} {C : List (Addr × Value)} {R : List (World → Prop)} {a b a' b' : Addr} {x y x' y' : Value}
    (h : w1.cell? a = some x ∧ w1.cell? a' = some x' ∧ w1.cell? b = some y ∧ w1.cell? b' = some y' ∧ Kept w C R w1) (i : Nat) {B E : Nat} {v : Value} {xs : List Int} (hi : R[i]? = some (fun w => OwnRowE w B E v xs)) : OwnRowE w1 B E v xs := h.2.2.2.2.reads i _ hi

end Go.Proofs.YtbnmgonfmihicabDoor
