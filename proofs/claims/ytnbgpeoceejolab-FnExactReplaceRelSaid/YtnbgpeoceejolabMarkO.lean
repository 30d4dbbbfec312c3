/-
  Marks of lists of what has a number and a row: one store into such a list of its own.
-/
import Derived.Test.YtnbgpeoceejolabPairs
import Derived.Test.YtnbgpeoceejolabGBase
namespace Go.Proofs.Ytnbgpeoceejolab
open Go.RowKit

/-- Where the marks of the i-th begin. -/
def offO (rs : List (Int × List Int)) (i : Nat) : Nat := partO rs i + i
theorem offO_zero (rs : List (Int × List Int)) : offO rs 0 = 0 := rfl
theorem offO_succ (rs : List (Int × List Int)) (i : Nat) : offO rs (i + 1) = offO rs i + 1 + (rowO rs i).length := by unfold offO; rw [partO_succ]; omega
theorem offO_all (rs : List (Int × List Int)) : offO rs rs.length = opsSize rs := by unfold offO opsSize; omega
theorem offO_le (rs : List (Int × List Int)) {i : Nat} (h : i ≤ rs.length) : offO rs i ≤ opsSize rs := by
  have := partO_le rs h
  unfold offO opsSize
  omega
def marksO (k0 : Int) (rs : List (Int × List Int)) : List (Int × List Int) := (List.range rs.length).map fun (i : Nat) => (k0 + (offO rs i : Int), marks (k0 + (offO rs i : Int) + 1) (rowO rs i).length)
theorem marksO_length (k0 : Int) (rs : List (Int × List Int)) : (marksO k0 rs).length = rs.length := by simp [marksO]
theorem marksO_ar (k0 : Int) (rs : List (Int × List Int)) (i : Nat) (h : i < rs.length) : arO (marksO k0 rs) i = k0 + (offO rs i : Int) := by simp [marksO, arO, List.getD, h]
theorem marksO_row (k0 : Int) (rs : List (Int × List Int)) (i : Nat) (h : i < rs.length) : rowO (marksO k0 rs) i = marks (k0 + (offO rs i : Int) + 1) (rowO rs i).length := by simp [marksO, rowO, List.getD, h]

/-- The numbers ar and the rows row of n elements. -/
structure OwnPairs (T : TypeId) (w : World) (B E : Nat) (v : Value) (n : Nat) (V : Nat → Value) (ar : Nat → Int) (row : Nat → List Int) : Prop where
  outer : ∃ xs, w.ownsRow B T 2 v n xs ∧ ∀ i, i < n → xs[i * 2]? = some (.int .i64 (ar i)) ∧ xs[i * 2 + 1]? = some (V i)
  le : E ≤ w.heap.size
  top : ∀ g, v.ownBlock = some g → g < E
  rows : ∀ i, i < n → OwnRow w B (V i) (row i)
  hi : ∀ i, i < n → ∀ g, (V i).ownBlock = some g → g < E
  apart : ∀ i j, i < j → j < n → ∀ g, (V i).ownBlock = some g → (V j).ownBlock ≠ some g
  top_ne : ∀ i, i < n → ∀ g, v.ownBlock = some g → (V i).ownBlock ≠ some g
theorem OwnOpsV.pairs {T : TypeId} {w : World} {B E n : Nat} {v : Value} {V : Nat → Value} {rs : List (Int × List Int)} (h : OwnOpsV T w B E v n V rs) : OwnPairs T w B E v n V (arO rs) (rowO rs) := ⟨h.outer, h.le, h.top, h.rows, h.hi, h.apart, h.top_ne⟩
theorem OwnPairs.ops {T : TypeId} {w : World} {B E n : Nat} {v : Value} {V : Nat → Value} {ar : Nat → Int} {row : Nat → List Int} {rs : List (Int × List Int)} (h : OwnPairs T w B E v n V ar row) (ha : ∀ i, i < n → ar i = arO rs i) (hr : ∀ i, i < n → row i = rowO rs i) : OwnOpsV T w B E v n V rs := by
  obtain ⟨xs, ho, hx⟩ := h.outer
  exact ⟨⟨xs, ho, fun i hi => ha i hi ▸ hx i hi⟩, h.le, h.top, fun i hi => hr i hi ▸ h.rows i hi, h.hi, h.apart, h.top_ne⟩
theorem OwnPairs.congr {T : TypeId} {w : World} {B E n : Nat} {v : Value} {V : Nat → Value} {ar ar' : Nat → Int} {row row' : Nat → List Int} (h : OwnPairs T w B E v n V ar row) (ha : ∀ i, i < n → ar i = ar' i) (hr : ∀ i, i < n → row i = row' i) : OwnPairs T w B E v n V ar' row' := by
  obtain ⟨xs, ho, hx⟩ := h.outer
  exact ⟨⟨xs, ho, fun i hi => ha i hi ▸ hx i hi⟩, h.le, h.top, fun i hi => hr i hi ▸ h.rows i hi, h.hi, h.apart, h.top_ne⟩
theorem OwnPairs.cell0 {T : TypeId} {w : World} {B E n g c : Nat} {V : Nat → Value} {ar : Nat → Int} {row : Nat → List Int} (h : OwnPairs T w B E (.slice (some ⟨g, 0, none⟩) n c) n V ar row) (i : Nat) (hi : i < n) : w.cell? ⟨g, i * 2, none⟩ = some (.int .i64 (ar i)) := by
  obtain ⟨xs, ho, hx⟩ := h.outer
  rw [ho.cellAt (i * 2) (by omega)]; exact (hx i hi).1
theorem OwnPairs.cell1 {T : TypeId} {w : World} {B E n g c : Nat} {V : Nat → Value} {ar : Nat → Int} {row : Nat → List Int} (h : OwnPairs T w B E (.slice (some ⟨g, 0, none⟩) n c) n V ar row) (i : Nat) (hi : i < n) : w.cell? ⟨g, i * 2 + 1, none⟩ = some (V i) := by
  obtain ⟨xs, ho, hx⟩ := h.outer
  rw [ho.cellAt (i * 2 + 1) (by omega)]; exact (hx i hi).2
theorem OwnPairs.free {T : TypeId} {w : World} {B E n g c : Nat} {V : Nat → Value} {ar : Nat → Int} {row : Nat → List Int} (h : OwnPairs T w B E (.slice (some ⟨g, 0, none⟩) n c) n V ar row) (i : Nat) : w.frozen? ⟨g, i, none⟩ = false := by
  obtain ⟨xs, ho, hx⟩ := h.outer
  exact ho.frozenAt i
theorem OwnPairs.setAr {T : TypeId} {w : World} {B E n g c : Nat} {V : Nat → Value} {ar : Nat → Int} {row : Nat → List Int} (h : OwnPairs T w B E (.slice (some ⟨g, 0, none⟩) n c) n V ar row) (k : Nat) (hk : k < n) (z : Int) :
    OwnPairs T (w.setCell ⟨g, k * 2, none⟩ (.int .i64 z)) B E (.slice (some ⟨g, 0, none⟩) n c) n V (fun i => if i = k then z else ar i) row := by
  obtain ⟨xs, ho, hx⟩ := h.outer
  have hl := ownsRow_len ho
  refine ⟨⟨_, (ho.stored (k * 2) (.int .i64 z)).1, fun i hi => ?_⟩, by have := h.le; simpa [World.setCell] using this, h.top, fun i hi => ?_, h.hi, h.apart, h.top_ne⟩
  · by_cases hik : i = k
    · subst hik
      refine ⟨by simp [List.getElem?_set, hl]; omega, ?_⟩
      rw [List.getElem?_set_ne (by omega)]
      exact (hx i hi).2
    · simp only [hik, if_false]
      rw [List.getElem?_set_ne (by omega), List.getElem?_set_ne (by omega)]
      exact hx i hi
  · exact ownsRow_same (h.rows i hi) fun g' hg' => Below.heap_setCell _ _ _ _ (fun e => h.top_ne i hi g rfl (by rw [hg', e]))
theorem OwnPairs.setRow {T : TypeId} {w w2 : World} {B E n k : Nat} {v : Value} {V : Nat → Value} {ar : Nat → Int} {row : Nat → List Int} {ys : List Int} (h : OwnPairs T w B E v n V ar row) (hk : k < n) (ho : OwnRow w2 B (V k) ys) (hn : Only (fun g => (V k).ownBlock = some g) w w2) :
    OwnPairs T w2 B E v n V ar (fun i => if i = k then ys else row i) := by
  obtain ⟨xs, hx0, hx⟩ := h.outer
  refine ⟨⟨xs, ownsRow_same hx0 fun g hg => hn.block g (hx0.lt g hg).2 fun e => h.top_ne k hk g hg e, hx⟩, Nat.le_trans h.le hn.size, h.top, fun i hi => ?_, h.hi, h.apart, h.top_ne⟩
  by_cases hik : i = k
  · subst hik
    simpa using ho
  · simp only [hik, if_false]
    refine (h.rows i hi).only hn fun g hg e => ?_
    rcases Nat.lt_or_gt_of_ne hik with h1 | h1
    · exact h.apart i k h1 hk g hg e
    · exact h.apart k i h1 hi g e hg

end Go.Proofs.Ytnbgpeoceejolab
