/-
  A relation that grows by appended rows, in a box; what calls answer that make a relation.
-/
import Derived.Test.YtbnmgonfmihicabDoorMark
import Derived.RangeFuncBox
namespace Go.Proofs.YtbnmgonfmihicabDoor
open Go.RowKit

/-- A relation's box: its arity and its slice. -/
def RelBox (w : World) (p : Nat) (x v : Value) : Prop := w.heap[p]? = some (.cells #[x, v] 27 (0, 0))
theorem RelBox.c0 {w : World} {p : Nat} {x v : Value} (h : RelBox w p x v) : w.cell? ⟨p, 0, none⟩ = some x := by rw [cell_of_row w p 0 _ _ (0, 0) h]; rfl
theorem RelBox.c1 {w : World} {p : Nat} {x v : Value} (h : RelBox w p x v) : w.cell? ⟨p, 1, none⟩ = some v := by rw [cell_of_row w p 1 _ _ (0, 0) h]; rfl
theorem RelBox.free {w : World} {p : Nat} {x v : Value} (h : RelBox w p x v) (q : Nat) : w.frozen? ⟨p, q, none⟩ = false := frozen_of_row w p q _ _ h
theorem RelBox.lt {w : World} {p : Nat} {x v : Value} (h : RelBox w p x v) : p < w.heap.size := (Array.getElem?_eq_some_iff.1 h).1
theorem RelBox.new (w : World) (x v : Value) : RelBox (w.alloc (.cells #[x, v] 27)) w.heap.size x v := heap_alloc_new w _
theorem RelBox.same {w w' : World} {p : Nat} {x v : Value} (h : RelBox w p x v) (hs : w'.heap[p]? = w.heap[p]?) : RelBox w' p x v := by unfold RelBox; rw [hs]; exact h
theorem RelBox.below {w w' : World} {p : Nat} {x v : Value} (h : RelBox w p x v) (hb : Below w.heap.size w w') : RelBox w' p x v := h.same (hb.block p h.lt)
theorem RelBox.alloc {w : World} {p : Nat} {x v : Value} (h : RelBox w p x v) (o : Obj) : RelBox (w.alloc o) p x v := h.below ((Below.refl _ _).alloc (Nat.le_refl _) _)
theorem RelBox.other {w : World} {p : Nat} {x v : Value} (h : RelBox w p x v) {a : Addr} (ha : p ≠ a.block) (u : Value) : RelBox (w.setCell a u) p x v := h.same (heap_setCell_other w a p u ha)
theorem RelBox.set1 {w : World} {p : Nat} {x v : Value} (h : RelBox w p x v) (u : Value) : RelBox (w.setCell ⟨p, 1, none⟩ u) p x u := by unfold RelBox; rw [heap_setCell_same w p 1 _ _ _ h]; rfl
theorem RelBox.set0 {w : World} {p : Nat} {x v : Value} (h : RelBox w p x v) (u : Value) : RelBox (w.setCell ⟨p, 0, none⟩ u) p u v := by unfold RelBox; rw [heap_setCell_same w p 0 _ _ _ h]; rfl

theorem RelBox.grown {w w' : World} {p : Nat} {x v : Value} {row : Option Nat} (h : RelBox w p x v) (hg : w.grownBy w' row) (hne : row ≠ some p) : RelBox w' p x v := h.same (hg.block p h.lt fun e => hne e.symm)

theorem OwnGridV.far {w : World} {B E n : Nat} {v : Value} {V : Nat → Value} {f : Nat → List Int} (h : OwnGridV w B E v n V f) (p : Nat) (hp : p < B) : v.ownBlock ≠ some p := fun e => by have := (h.outer.lt p e).1; omega

theorem OwnGridV.same {w w' : World} {B E n : Nat} {v : Value} {V : Nat → Value} {f : Nat → List Int} (h : OwnGridV w B E v n V f) (hs : w.heap.size ≤ w'.heap.size) (hg : ∀ g, B ≤ g → g < w.heap.size → w'.heap[g]? = w.heap[g]?) : OwnGridV w' B E v n V f :=
  ⟨ownsRow_same h.outer fun g hv => hg g (h.outer.lt g hv).1 (h.outer.lt g hv).2, Nat.le_trans h.le hs, h.top, fun i hi => ownsRow_same (h.rows i hi) fun g hv => hg g ((h.rows i hi).lt g hv).1 ((h.rows i hi).lt g hv).2, h.hi, h.apart⟩

theorem OwnGridV.full {w : World} {B E n : Nat} {v : Value} {V : Nat → Value} {f : Nat → List Int} (h : OwnGridV w B E v n V f) : OwnGridV w B w.heap.size v n V f :=
  ⟨h.outer, Nat.le_refl _, fun g hg => (h.outer.lt g hg).2, h.rows, fun i hi g hg => ((h.rows i hi).lt g hg).2, h.apart⟩

/-- Nothing is there yet. -/
theorem OwnGridV.none (w : World) (B : Nat) (V : Nat → Value) (f : Nat → List Int) : OwnGridV w B w.heap.size (.slice .none 0 0) 0 V f :=
  ⟨World.ownsRow_nil w B _ 1, Nat.le_refl _, fun g hg => by simp [Value.ownBlock] at hg, fun i hi => absurd hi (by omega), fun i hi => absurd hi (by omega), fun i j _ hj => absurd hj (by omega)⟩

/-- A row is appended. -/
theorem OwnGridV.grow {w w2 w3 : World} {B n : Nat} {v v' r : Value} {V : Nat → Value} {f : Nat → List Int} {ys : List Int} (h : OwnGridV w B w.heap.size v n V f) (hb : Below w.heap.size w w2) (hr : OwnRow w2 w.heap.size r ys) (hB : B ≤ w.heap.size)
    (ho : w3.ownsRow B 25 1 v' (n + 1) ((List.range n).map V ++ [r])) (hg : w2.grownBy w3 v.ownBlock) :
    OwnGridV w3 B w3.heap.size v' (n + 1) (fun i => if i = n then r else V i) (fun i => if i = n then ys else f i) := by
  have hlist : (List.range n).map V ++ [r] = (List.range (n + 1)).map (fun i => if i = n then r else V i) := by
    rw [List.range_succ, List.map_append, List.map_singleton, if_pos rfl]
    congr 1
    exact List.map_congr_left fun i hi => by rw [if_neg (by have := List.mem_range.1 hi; omega)]
  have hold : ∀ i, i < n → OwnRow w3 B (V i) (f i) := fun i hi => by
    refine World.ownsRow.kept ((h.rows i hi).below hb) hg ?_
    cases hv : v.ownBlock with
    | none =>
      cases hv2 : (V i).ownBlock with
      | none => exact .inl rfl
      | some g => exact .inr (by simp)
    | some g => exact .inr fun e => h.top_ne i hi g hv e
  have hnew : OwnRow w3 B r ys := by
    refine OwnRow.mono (World.ownsRow.kept hr hg ?_) hB
    cases hv2 : r.ownBlock with
    | none => exact .inl rfl
    | some g =>
      refine .inr fun e => ?_
      have h1 := (h.outer.lt g e.symm).2
      have h2 := (hr.lt g hv2).1
      omega
  refine ⟨hlist ▸ ho, Nat.le_refl _, fun g hg => (ho.lt g hg).2, fun i hi => ?_, fun i hi g hg => ?_, fun i j hij hj g hg => ?_⟩
  · by_cases hin : i = n
    · simp only [hin, if_true]; exact hnew
    · simp only [hin, if_false]; exact hold i (by omega)
  · by_cases hin : i = n
    · simp only [hin, if_true] at hg; exact (hnew.lt g hg).2
    · simp only [hin, if_false] at hg; exact ((hold i (by omega)).lt g hg).2
  · simp only [show ¬ i = n by omega, if_false] at hg
    by_cases hjn : j = n
    · simp only [hjn, if_true]
      intro e
      have h1 := ((h.rows i (by omega)).lt g hg).2
      have h2 := (hr.lt g e).1
      omega
    · simp only [hjn, if_false]
      exact h.apart i j hij (by omega) g hg

/-- What is kept where marks are written into what a call has made: what was kept before the call, and the box of what it made. -/
theorem Kept.marked {w wA w2 w3 w4 : World} {C : List (Addr × Value)} {R : List (World → Prop)} {x y : Value} {p : World → Prop} (h : Kept w C R wA) (hA : Below wA.heap.size wA w2) (h2 : Below w2.heap.size w2 w3)
    (hn : Only (fun g => wA.heap.size ≤ g ∧ g < w2.heap.size) w3 w4) (c0 : w3.cell? ⟨w2.heap.size, 0, none⟩ = some x) (c1 : w3.cell? ⟨w2.heap.size, 1, none⟩ = some y) (hl : Lives p) (hp : p w4) :
    Kept w ((⟨w2.heap.size, 0, none⟩, x) :: (⟨w2.heap.size, 1, none⟩, y) :: C) (p :: R) w4 := by
  have hb : Below wA.heap.size wA w4 := (hA.trans (h2.mono hA.size)).trans (hn.below (Nat.le_trans hA.size h2.size) fun k hk => hk.1)
  have g : ∀ q, w4.cell? ⟨w2.heap.size, q, none⟩ = w3.cell? ⟨w2.heap.size, q, none⟩ := fun q => World.cell?_of_block (w := w3) (hn.block w2.heap.size (cell_block_lt c0) (by omega))
  exact (((h.below hb).read hl hp).cell ((g 1).trans c1)).cell ((g 0).trans c0)

/-- A relation of its own, and a code. -/
def MadeRel2 (w : World) (ar : Int) (xss : List (List Int)) (cd : Int) (e : Ending) (w' : World) : Prop :=
  ∃ a n c, e = .returned (.tuple #[.agg #[.int .i64 ar, .slice a n c], .int .i64 cd]) ∧ OwnGrid w' w.heap.size w'.heap.size (.slice a n c) xss ∧ Below w.heap.size w w'

theorem ownRow_lit (w : World) (B : Nat) (xs : List Int) (hB : B ≤ w.heap.size) (hl : xs.length ≤ 1000000) :
    OwnRow (w.alloc (.cells (xs.map (Value.int .i64)).toArray 2)) B (.slice (some ⟨w.heap.size, 0, none⟩) xs.length xs.length) xs := by
  have := World.ownsRow_lit (e := 2) (size := 1) w (xs.map (Value.int .i64)).toArray xs.length hB (by unfold maxLen; omega) (by simp)
  exact this

end Go.Proofs.YtbnmgonfmihicabDoor
