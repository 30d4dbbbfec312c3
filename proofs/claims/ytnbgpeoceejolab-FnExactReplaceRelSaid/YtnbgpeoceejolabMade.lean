/-
  A law's statement that hands copies of several arguments to a function and keeps the struct that it answers in a new box: what holds behind it, whichever order was drawn.
-/
import Derived.Test.YtnbgpeoceejolabBox
import Derived.Test.YtnbgpeoceejolabGBase
import Derived.Test.YtnbgpeoceejolabStab2
namespace Go.Proofs.Ytnbgpeoceejolab
open Go.RowKit

theorem sure_rowE (v : Value) (xs : List Int) : Sure fun w lo hi => OwnRowE w lo hi v xs := fun _ _ _ _ h hs hg => ⟨ownsRow_same h.row fun g hv => hg g (h.row.lt g hv).1 (h.hi g hv), hs, h.hi⟩
theorem sure_ops (T : TypeId) (v : Value) (rs : List (Int × List Int)) : Sure fun w lo hi => OwnOps T w lo hi v rs := fun _ _ _ _ h hs hg => h.same hs hg
theorem sure_rels (v : Value) (rs : List (Int × List (List Int))) : Sure fun w lo hi => OwnRels w lo hi v rs := fun _ _ _ _ h hs hg => h.same hs hg

theorem Box.s20 {T : TypeId} {w : World} {p : Nat} {x y : Value} (h : Box T w p #[x, y]) (u : Value) : Box T (w.setCell ⟨p, 0, none⟩ u) p #[u, y] := by unfold Box; rw [heap_setCell_same w p 0 _ _ _ h]; rfl
theorem Box.s21 {T : TypeId} {w : World} {p : Nat} {x y : Value} (h : Box T w p #[x, y]) (u : Value) : Box T (w.setCell ⟨p, 1, none⟩ u) p #[x, u] := by unfold Box; rw [heap_setCell_same w p 1 _ _ _ h]; rfl
theorem Box.s30 {T : TypeId} {w : World} {p : Nat} {x y z : Value} (h : Box T w p #[x, y, z]) (u : Value) : Box T (w.setCell ⟨p, 0, none⟩ u) p #[u, y, z] := by unfold Box; rw [heap_setCell_same w p 0 _ _ _ h]; rfl
theorem Box.s31 {T : TypeId} {w : World} {p : Nat} {x y z : Value} (h : Box T w p #[x, y, z]) (u : Value) : Box T (w.setCell ⟨p, 1, none⟩ u) p #[x, u, z] := by unfold Box; rw [heap_setCell_same w p 1 _ _ _ h]; rfl
theorem Box.s32 {T : TypeId} {w : World} {p : Nat} {x y z : Value} (h : Box T w p #[x, y, z]) (u : Value) : Box T (w.setCell ⟨p, 2, none⟩ u) p #[x, y, u] := by unfold Box; rw [heap_setCell_same w p 2 _ _ _ h]; rfl

def Made (T : TypeId) (w : World) (C : List (Addr × Value)) (R : List (World → Prop)) (lo : Nat) (own : Value → World → Nat → Nat → Prop) (cells : Value → Array Value) (v8 : Value) (wc : World) : Prop :=
  ∃ (bk b0 e0 : Nat) (a : Option Addr) (n c : Nat), v8 = .pointer (some ⟨bk, 0, none⟩) ∧ Kept w C R wc ∧ Box T wc bk (cells (.slice a n c)) ∧ own (.slice a n c) wc b0 e0 ∧ lo ≤ bk ∧ lo ≤ b0 ∧ (bk < b0 ∨ e0 ≤ bk) ∧ e0 ≤ wc.heap.size

section
variable {T : TypeId} {w X wm : World} {C : List (Addr × Value)} {R : List (World → Prop)} {lo b0 n c : Nat} {a : Option Addr} {own : Value → World → Nat → Nat → Prop} {x y z0 z1 z2 : Value}
theorem sure_set {p : World → Nat → Nat → Prop} (hs : Sure p) {w : World} {B E : Nat} (h : p w B E) (hE : E ≤ w.heap.size) {q : Addr} (hq : q.block < B ∨ E ≤ q.block) (u : Value) : p (w.setCell q u) B E :=
  hs w _ B E h (by simpa [World.setCell] using hE) fun g h1 h2 => Below.heap_setCell _ _ _ _ (by omega)
theorem size_set (w : World) (q : Addr) (u : Value) : (w.setCell q u).heap.size = w.heap.size := by simp [World.setCell]

/-- The box was made before the call. -/
theorem Made.early2 (hK : Kept w C R X) (hx : Below X.heap.size X wm) (hbox : Box T wm X.heap.size #[z0, z1]) (ho : own (.slice a n c) wm b0 wm.heap.size) (hs : Sure (own (.slice a n c))) (hlo : lo ≤ X.heap.size) (hb : X.heap.size < b0) :
    Made T w C R lo own (fun v => #[x, v]) (.pointer (some ⟨X.heap.size, 0, none⟩)) ((wm.setCell ⟨X.heap.size, 0, none⟩ x).setCell ⟨X.heap.size, 1, none⟩ (.slice a n c)) :=
  ⟨_, b0, wm.heap.size, a, n, c, rfl, hK.below ((hx.setCell (by show X.heap.size ≤ X.heap.size; omega) _).setCell (by show X.heap.size ≤ X.heap.size; omega) _), (hbox.s20 _).s21 _,
    sure_set hs (sure_set hs ho (Nat.le_refl _) (.inl hb) _) (by rw [size_set]; exact Nat.le_refl _) (.inl hb) _, hlo, by omega, .inl hb, by rw [size_set, size_set]; exact Nat.le_refl _⟩
theorem Made.early3 (hK : Kept w C R X) (hx : Below X.heap.size X wm) (hbox : Box T wm X.heap.size #[z0, z1, z2]) (ho : own (.slice a n c) wm b0 wm.heap.size) (hs : Sure (own (.slice a n c))) (hlo : lo ≤ X.heap.size) (hb : X.heap.size < b0) :
    Made T w C R lo own (fun v => #[x, y, v]) (.pointer (some ⟨X.heap.size, 0, none⟩)) (((wm.setCell ⟨X.heap.size, 0, none⟩ x).setCell ⟨X.heap.size, 1, none⟩ y).setCell ⟨X.heap.size, 2, none⟩ (.slice a n c)) :=
  ⟨_, b0, wm.heap.size, a, n, c, rfl, hK.below (((hx.setCell (by show X.heap.size ≤ X.heap.size; omega) _).setCell (by show X.heap.size ≤ X.heap.size; omega) _).setCell (by show X.heap.size ≤ X.heap.size; omega) _), ((hbox.s30 _).s31 _).s32 _,
    sure_set hs (sure_set hs (sure_set hs ho (Nat.le_refl _) (.inl hb) _) (by rw [size_set]; exact Nat.le_refl _) (.inl hb) _) (by rw [size_set, size_set]; exact Nat.le_refl _) (.inl hb) _, hlo, by omega, .inl hb, by rw [size_set, size_set, size_set]; exact Nat.le_refl _⟩
/-- It was made behind it. -/
theorem Made.late {cells : Value → Array Value} (hK : Kept w C R wm) (ho : own (.slice a n c) wm b0 wm.heap.size) (hs : Sure (own (.slice a n c))) (hlo : lo ≤ b0) (hb : b0 ≤ wm.heap.size) :
    Made T w C R lo own cells (.pointer (some ⟨wm.heap.size, 0, none⟩)) (wm.alloc (.cells (cells (.slice a n c)) T)) :=
  ⟨_, b0, wm.heap.size, a, n, c, rfl, hK.below ((Below.refl _ _).alloc (Nat.le_refl _) _), Box.new _ _ _, hs _ _ _ _ ho (by simp) (fun g _ h2 => Below.heap_alloc _ _ _ h2), by omega, hlo, .inr (Nat.le_refl _), by simp⟩
end

end Go.Proofs.Ytnbgpeoceejolab
