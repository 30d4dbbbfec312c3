/-
  Lists of their own whose elements own memory: a block of cells, and for each element an interval of blocks, apart from each other and from that block.
-/
import Derived.Test.YtnbgpeoceejolabGBase
namespace Go.Proofs.Ytnbgpeoceejolab
open Go.RowKit

/-- What is said of memory in an interval stays where this interval stays. -/
def Sure (p : World → Nat → Nat → Prop) : Prop := ∀ (w w' : World) (lo hi : Nat), p w lo hi → hi ≤ w'.heap.size → (∀ g, lo ≤ g → g < hi → w'.heap[g]? = w.heap[g]?) → p w' lo hi

structure Segs (T : TypeId) (s : Nat) (w : World) (B E : Nat) (v : Value) (n : Nat) (cell : Nat → Value) (lo hi : Nat → Nat) (P : Nat → World → Nat → Nat → Prop) : Prop where
  outer : w.ownsRow B T s v n ((List.range (n * s)).map cell)
  le : E ≤ w.heap.size
  top : ∀ g, v.ownBlock = some g → g < E
  seg : ∀ i, i < n → P i w (lo i) (hi i)
  sure : ∀ i, i < n → Sure (P i)
  lower : ∀ i, i < n → B ≤ lo i
  upper : ∀ i, i < n → hi i ≤ E
  disj : ∀ i j, i < j → j < n → hi i ≤ lo j
  out : ∀ i, i < n → ∀ g, v.ownBlock = some g → g < lo i ∨ hi i ≤ g

section
variable {T : TypeId} {s : Nat} {w w' : World} {B E : Nat} {v : Value} {n : Nat} {cell : Nat → Value} {lo hi : Nat → Nat} {P : Nat → World → Nat → Nat → Prop}

theorem Segs.cellAt {g c : Nat} (h : Segs T s w B E (.slice (some ⟨g, 0, none⟩) n c) n cell lo hi P) (j : Nat) (hj : j < n * s) : w.cell? ⟨g, j, none⟩ = some (cell j) := by
  rw [h.outer.cellAt j hj]; simp [hj]
theorem Segs.free {g c : Nat} (h : Segs T s w B E (.slice (some ⟨g, 0, none⟩) n c) n cell lo hi P) (j : Nat) : w.frozen? ⟨g, j, none⟩ = false := h.outer.frozenAt j
theorem Segs.same (h : Segs T s w B E v n cell lo hi P) (hs : E ≤ w'.heap.size) (hg : ∀ g, B ≤ g → g < E → w'.heap[g]? = w.heap[g]?) : Segs T s w' B E v n cell lo hi P :=
  ⟨ownsRow_same h.outer fun g hv => hg g (h.outer.lt g hv).1 (h.top g hv), hs, h.top, fun i hi' => h.sure i hi' w w' _ _ (h.seg i hi') (Nat.le_trans (h.upper i hi') hs) fun g h1 h2 => hg g (Nat.le_trans (h.lower i hi') h1) (Nat.lt_of_lt_of_le h2 (h.upper i hi')), h.sure, h.lower, h.upper, h.disj, h.out⟩
theorem Segs.below (h : Segs T s w B E v n cell lo hi P) (hb : Below w.heap.size w w') : Segs T s w' B E v n cell lo hi P :=
  h.same (Nat.le_trans h.le hb.size) fun g _ h2 => hb.block g (Nat.lt_of_lt_of_le h2 h.le)
theorem Segs.mono {B' E' : Nat} (h : Segs T s w B E v n cell lo hi P) (hB : B' ≤ B) (hE : E ≤ E') (hs : E' ≤ w.heap.size) : Segs T s w B' E' v n cell lo hi P :=
  ⟨ownsRow_mono h.outer hB, hs, fun g hg => Nat.lt_of_lt_of_le (h.top g hg) hE, h.seg, h.sure, fun i hi' => Nat.le_trans hB (h.lower i hi'), fun i hi' => Nat.le_trans (h.upper i hi') hE, h.disj, h.out⟩
theorem Segs.stored (h : Segs T s w B E v n cell lo hi P) {p : Addr} (hp : p.block < B ∨ E ≤ p.block) (u : Value) : Segs T s (w.setCell p u) B E v n cell lo hi P :=
  h.same (by simpa [World.setCell] using h.le) fun g h1 h2 => Below.heap_setCell _ _ _ _ (by omega)
theorem Segs.congr {cell' : Nat → Value} {P' : Nat → World → Nat → Nat → Prop} (h : Segs T s w B E v n cell lo hi P) (hc : ∀ j, j < n * s → cell j = cell' j) (hp : ∀ i, i < n → P i = P' i) : Segs T s w B E v n cell' lo hi P' := by
  have hm : (List.range (n * s)).map cell = (List.range (n * s)).map cell' := List.map_congr_left fun j hj => hc j (List.mem_range.1 hj)
  exact ⟨hm ▸ h.outer, h.le, h.top, fun i hi' => hp i hi' ▸ h.seg i hi', fun i hi' => hp i hi' ▸ h.sure i hi', h.lower, h.upper, h.disj, h.out⟩
/-- A cell of the list's own block is written. -/
theorem Segs.setTop {g c : Nat} (h : Segs T s w B E (.slice (some ⟨g, 0, none⟩) n c) n cell lo hi P) (j : Nat) (u : Value) :
    Segs T s (w.setCell ⟨g, j, none⟩ u) B E (.slice (some ⟨g, 0, none⟩) n c) n (fun i => if i = j then u else cell i) lo hi P := by
  have hm : ((List.range (n * s)).map cell).set j u = (List.range (n * s)).map fun i => if i = j then u else cell i := by
    apply List.ext_getElem?
    intro i
    rw [List.getElem?_set]
    by_cases hij : j = i
    · subst hij
      by_cases hj : j < n * s <;> simp [hj]
    · rw [if_neg hij]
      by_cases hi' : i < n * s
      · simp [hi', show ¬ i = j from fun e => hij e.symm]
      · simp [hi']
  have ho := (h.outer.stored j u).1
  rw [hm] at ho
  refine ⟨ho, by simpa [World.setCell] using h.le, h.top, fun i hi' => ?_, h.sure, h.lower, h.upper, h.disj, h.out⟩
  have hg := h.out i hi' g rfl
  refine h.sure i hi' w _ _ _ (h.seg i hi') (by have := h.le; have := h.upper i hi'; simp [World.setCell]; omega) fun g' h1 h2 => Below.heap_setCell _ _ _ _ ?_
  show g' ≠ g
  omega
/-- One element's memory is written. -/
theorem Segs.setSeg {k : Nat} {p : World → Nat → Nat → Prop} (h : Segs T s w B E v n cell lo hi P) (hk : k < n) (hp : p w' (lo k) (hi k)) (hsu : Sure p) (hn : Only (fun g => lo k ≤ g ∧ g < hi k) w w') :
    Segs T s w' B E v n cell lo hi (fun i => if i = k then p else P i) := by
  refine ⟨ownsRow_same h.outer fun g hg => hn.block g (h.outer.lt g hg).2 fun e => ?_, Nat.le_trans h.le hn.size, h.top, fun i hi' => ?_, fun i hi' => ?_, h.lower, h.upper, h.disj, h.out⟩
  · rcases h.out k hk g hg with h1 | h1 <;> omega
  · by_cases hik : i = k
    · subst hik; simpa using hp
    · simp only [hik, if_false]
      refine h.sure i hi' w w' _ _ (h.seg i hi') (Nat.le_trans (h.upper i hi') (Nat.le_trans h.le hn.size)) fun g h1 h2 => hn.block g (by have := h.upper i hi'; have := h.le; omega) fun e => ?_
      rcases Nat.lt_or_gt_of_ne hik with h3 | h3
      · have := h.disj i k h3 hk; omega
      · have := h.disj k i h3 hi'; omega
  · by_cases hik : i = k
    · subst hik; simpa using hsu
    · simpa [hik] using h.sure i hi'
theorem Segs.nil (T : TypeId) (s : Nat) (w : World) (B E : Nat) (cell : Nat → Value) (lo hi : Nat → Nat) (P : Nat → World → Nat → Nat → Prop) (hE : E ≤ w.heap.size) : Segs T s w B E (.slice none 0 0) 0 cell lo hi P :=
  ⟨by simpa using World.ownsRow_nil w B T s, hE, fun g hg => by simp [Value.ownBlock] at hg, fun i hi' => absurd hi' (by simp), fun i hi' => absurd hi' (by simp), fun i hi' => absurd hi' (by simp), fun i hi' => absurd hi' (by simp), fun i j _ hj => absurd hj (by simp), fun i hi' => absurd hi' (by simp)⟩
theorem Segs.parts (h : Segs T s w B E v n cell lo hi P) :
    (v = .slice none 0 0 ∧ n = 0) ∨ ∃ g c, v = .slice (some ⟨g, 0, none⟩) n c ∧ B ≤ g ∧ g < E ∧ n ≤ c ∧ c ≤ maxLen := by
  rcases h.outer.2 with ⟨rfl, hn⟩ | ⟨g, c, cur, rfl, hb, hgg, h1, h2, h3, h4⟩
  · exact .inl ⟨rfl, hn⟩
  · exact .inr ⟨g, c, rfl, hb, h.top g rfl, h1, h2⟩
end

theorem sure_grid (V : Value) (xss : List (List Int)) : Sure fun w lo hi => OwnGrid w lo hi V xss := fun _ _ _ _ ⟨U, h⟩ hs hg =>
  ⟨U, ownsRow_same h.outer fun g hv => hg g (h.outer.lt g hv).1 (h.top g hv), hs, h.top, fun i hi' => ownsRow_same (h.rows i hi') fun g hv => hg g ((h.rows i hi').lt g hv).1 (h.hi i hi' g hv), h.hi, h.apart⟩
theorem OwnGrid.same {w w' : World} {B E : Nat} {v : Value} {xss : List (List Int)} (h : OwnGrid w B E v xss) (hs : E ≤ w'.heap.size) (hg : ∀ g, B ≤ g → g < E → w'.heap[g]? = w.heap[g]?) : OwnGrid w' B E v xss := sure_grid v xss w w' B E h hs hg

end Go.Proofs.Ytnbgpeoceejolab
