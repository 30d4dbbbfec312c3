/-
  The rows of an elimination of the model in memory: three cells for each in one block, their lists each in blocks of their own.
-/
import Derived.Test.YtnbgpeoceejolaaScale
namespace Go.Proofs.Ytnbgpeoceejolaa
open Go.RowKit

theorem intN_take {x : List Int} {u i : Nat} (h : i < u) : intN (x.take u) i = intN x i := by
  simp [intN, List.getD, h]
theorem intN_drop {x : List Int} {u i : Nat} : intN (x.drop u) i = intN x (u + i) := by
  simp [intN, List.getD, List.getElem?_drop]
theorem rowScale_take (p t : Int) (x : List Int) (u : Nat) : (rowScale p t x).take u = rowScale p t (x.take u) := by simp [rowScale, List.map_take]
theorem rowScale_drop (p t : Int) (x : List Int) (u : Nat) : (rowScale p t x).drop u = rowScale p t (x.drop u) := by simp [rowScale, List.map_drop]
theorem rowSub_take (p t : Int) (x y : List Int) (u : Nat) : (rowSub p t x y).take u = rowSub p t (x.take u) (y.take u) := by
  apply list_ext_intN
  · simp [rowSub_len]
  · intro i hi
    rw [List.length_take, rowSub_len] at hi
    rw [intN_take (by omega), rowSub_at (by omega), rowSub_at (by rw [List.length_take]; omega), intN_take (by omega), intN_take (by omega)]
theorem rowSub_drop (p t : Int) (x y : List Int) (u : Nat) : (rowSub p t x y).drop u = rowSub p t (x.drop u) (y.drop u) := by
  apply list_ext_intN
  · simp [rowSub_len]
  · intro i hi
    rw [List.length_drop, rowSub_len] at hi
    rw [intN_drop, rowSub_at (by omega), rowSub_at (by rw [List.length_drop]; omega), intN_drop, intN_drop]
theorem LowP.low3 {p : Int} {x : List Int} (h : LowP p x) (hp : p ≤ 3) : Low3 x := fun j => by
  by_cases hj : j < x.length
  · have := h j hj; omega
  · rw [intN_out (by omega)]; omega
theorem LowP.take {p : Int} {x : List Int} (h : LowP p x) (u : Nat) : LowP p (x.take u) := fun i hi => by
  rw [List.length_take] at hi
  rw [intN_take (by omega)]
  exact h i (by omega)
theorem LowP.drop {p : Int} {x : List Int} (h : LowP p x) (u : Nat) : LowP p (x.drop u) := fun i hi => by
  rw [List.length_drop] at hi
  rw [intN_drop]
  exact h _ (by omega)

theorem RowSt.keep {w w' : World} {rb ro B : Nat} {vl vb : Value} {xs bs : List Int} {r : Int} (h : RowSt w rb ro B vl xs r vb bs) (hc : ∀ o, ro ≤ o → o ≤ ro + 2 → w'.cell? ⟨rb, o, none⟩ = w.cell? ⟨rb, o, none⟩) (hf : w'.frozen? ⟨rb, ro + 1, none⟩ = false)
    (hL : ∀ g, vl.ownBlock = some g → w'.heap[g]? = w.heap[g]?) (hB : ∀ g, vb.ownBlock = some g → w'.heap[g]? = w.heap[g]?) : RowSt w' rb ro B vl xs r vb bs :=
  ⟨(hc _ (Nat.le_refl _) (by omega)).trans h.left, (hc _ (by omega) (by omega)).trans h.right, (hc _ (by omega) (Nat.le_refl _)).trans h.by_, hf, ownsRow_same h.ownL hL, ownsRow_same h.ownB hB, h.neL, h.neB, h.apart⟩

/-- n rows in the block rb. -/
structure MRows (w : World) (rb B n u : Nat) (VL VB : Nat → Value) (R : Nat → List Int) : Prop where
  row : ∀ i, i < n → RowSt w rb (i * 3) B (VL i) ((R i).take u) (intN (R i) u) (VB i) ((R i).drop (u + 1))
  ap : ∀ i j, i < n → j < n → i ≠ j → ∀ g, ((VL i).ownBlock = some g ∨ (VB i).ownBlock = some g) → (VL j).ownBlock ≠ some g ∧ (VB j).ownBlock ≠ some g
  frz : ∀ o, w.frozen? ⟨rb, o, none⟩ = false
theorem MRows.keep {w w' : World} {rb B n u : Nat} {VL VB : Nat → Value} {R : Nat → List Int} (h : MRows w rb B n u VL VB R) (hk : ∀ k, k < w.heap.size → w'.heap[k]? = w.heap[k]?) (hf : ∀ o, w'.frozen? ⟨rb, o, none⟩ = false) : MRows w' rb B n u VL VB R := by
  refine ⟨fun i hi => ?_, h.ap, hf⟩
  have hr := h.row i hi
  have hrb : rb < w.heap.size := cell_block_lt hr.left
  exact hr.keep (fun o _ _ => World.cell?_of_block (hk rb hrb)) (hf _) (fun g hg => hk g (hr.ownL.lt g hg).2) (fun g hg => hk g (hr.ownB.lt g hg).2)
theorem MRows.below {w w' : World} {rb B n u : Nat} {VL VB : Nat → Value} {R : Nat → List Int} (h : MRows w rb B n u VL VB R) (hb : Below w.heap.size w w') (hl : rb < w.heap.size) : MRows w' rb B n u VL VB R :=
  h.keep (fun k hk => hb.block k hk) (fun o => (World.frozen?_of_block (hb.block rb hl)).trans (h.frz o))
theorem MRows.drewN {w : World} {rb B n u : Nat} {VL VB : Nat → Value} {R : Nat → List Int} (h : MRows w rb B n u VL VB R) (m : Nat) : MRows (w.drewN m) rb B n u VL VB R := ⟨fun i hi => (h.row i hi).drewN m, h.ap, h.frz⟩
/-- A row has turned. -/
theorem MRows.upd {w w' : World} {rb B n u : Nat} {VL VB : Nat → Value} {R : Nat → List Int} (h : MRows w rb B n u VL VB R) {i : Nat} (hi : i < n) (hK : RowK rb (i * 3) (VL i).ownBlock (VB i).ownBlock w w') {x : List Int}
    (hrow : RowSt w' rb (i * 3) B (VL i) (x.take u) (intN x u) (VB i) (x.drop (u + 1))) : MRows w' rb B n u VL VB (fun k => if k = i then x else R k) := by
  refine ⟨fun j hj => ?_, h.ap, fun o => (hK.frz o).trans (h.frz o)⟩
  by_cases hij : j = i
  · subst hij
    simp only [if_true]
    exact hrow
  · rw [if_neg hij]
    have hr := h.row j hj
    have hab := h.ap j i hj hi hij
    refine hr.keep (fun o h1 h2 => hK.cells o (by omega)) ((hK.frz _).trans (h.frz _)) (fun g hg => ?_) (fun g hg => ?_)
    · obtain ⟨k1, k2⟩ := hab g (.inl hg)
      exact hK.rest.2 g (hr.ownL.lt g hg).2 (fun e => hr.neL (e ▸ hg)) (fun e => k1 e.symm) (fun e => k2 e.symm)
    · obtain ⟨k1, k2⟩ := hab g (.inr hg)
      exact hK.rest.2 g (hr.ownB.lt g hg).2 (fun e => hr.neB (e ▸ hg)) (fun e => k1 e.symm) (fun e => k2 e.symm)
/-- Another row is read as it was while a row turns. -/
theorem MRows.other {w w' : World} {rb B n u : Nat} {VL VB : Nat → Value} {R : Nat → List Int} (h : MRows w rb B n u VL VB R) {i d : Nat} (hi : i < n) (hd : d < n) (hne : d ≠ i) (hK : RowK rb (i * 3) (VL i).ownBlock (VB i).ownBlock w w') :
    RowRd w' rb (d * 3) ((R d).take u) (intN (R d) u) ((R d).drop (u + 1)) := by
  have hr := h.row d hd
  have hab := h.ap d i hd hi hne
  have k : RowSt w' rb (d * 3) B (VL d) ((R d).take u) (intN (R d) u) (VB d) ((R d).drop (u + 1)) := by
    refine hr.keep (fun o h1 h2 => hK.cells o (by omega)) ((hK.frz _).trans (h.frz _)) (fun g hg => ?_) (fun g hg => ?_)
    · obtain ⟨k1, k2⟩ := hab g (.inl hg)
      exact hK.rest.2 g (hr.ownL.lt g hg).2 (fun e => hr.neL (e ▸ hg)) (fun e => k1 e.symm) (fun e => k2 e.symm)
    · obtain ⟨k1, k2⟩ := hab g (.inr hg)
      exact hK.rest.2 g (hr.ownB.lt g hg).2 (fun e => hr.neB (e ▸ hg)) (fun e => k1 e.symm) (fun e => k2 e.symm)
  refine ⟨?_, k.right, ?_⟩
  · obtain ⟨a, c, he, ha⟩ := k.ownL.rowAt
    have hra := k.ownL.rowAt
    rw [he] at hra
    exact ⟨a, c, by rw [← he]; exact k.left, hra⟩
  · obtain ⟨a, c, he, ha⟩ := k.ownB.rowAt
    have hra := k.ownB.rowAt
    rw [he] at hra
    exact ⟨a, c, by rw [← he]; exact k.by_, hra⟩
/-- The rows in another order. -/
theorem MRows.perm {w w' : World} {rb B n u : Nat} {VL VB : Nat → Value} {R : Nat → List Int} (h : MRows w rb B n u VL VB R) (s : Nat → Nat) (hs : ∀ i, i < n → s i < n) (hinj : ∀ i j, i < n → j < n → i ≠ j → s i ≠ s j) (hh : ∀ k, k < w.heap.size → k ≠ rb → w'.heap[k]? = w.heap[k]?) (hf : ∀ o, w'.frozen? ⟨rb, o, none⟩ = false)
    (hc : ∀ i, i < n → ∀ j, j < 3 → w'.cell? ⟨rb, i * 3 + j, none⟩ = w.cell? ⟨rb, s i * 3 + j, none⟩) : MRows w' rb B n u (fun i => VL (s i)) (fun i => VB (s i)) (fun i => R (s i)) := by
  refine ⟨fun i hi => ?_, fun i j hi hj hij g hg => h.ap (s i) (s j) (hs i hi) (hs j hj) (hinj i j hi hj hij) g hg, hf⟩
  have hr := h.row (s i) (hs i hi)
  refine ⟨?_, ?_, ?_, hf _, ownsRow_same hr.ownL fun g hg => hh g (hr.ownL.lt g hg).2 (fun e => hr.neL (e ▸ hg)), ownsRow_same hr.ownB fun g hg => hh g (hr.ownB.lt g hg).2 (fun e => hr.neB (e ▸ hg)), hr.neL, hr.neB, hr.apart⟩
  · exact (hc i hi 0 (by omega)).trans hr.left
  · exact (hc i hi 1 (by omega)).trans hr.right
  · exact (hc i hi 2 (by omega)).trans hr.by_

/-- Three cells of a block are stored into. -/
def set3 (w : World) (rb o : Nat) (x0 x1 x2 : Value) : World := ((w.setCell ⟨rb, o, none⟩ x0).setCell ⟨rb, o + 1, none⟩ x1).setCell ⟨rb, o + 2, none⟩ x2
def pick3 (x0 x1 x2 : Value) (j : Nat) : Value := if j = 0 then x0 else if j = 1 then x1 else x2
theorem set3_other (w : World) (rb o : Nat) (x0 x1 x2 : Value) (q : Nat) (h : q < o ∨ o + 2 < q) : (set3 w rb o x0 x1 x2).cell? ⟨rb, q, none⟩ = w.cell? ⟨rb, q, none⟩ := by
  unfold set3
  rw [World.cell?_setCell_other _ _ _ _ (by intro e; simp only [Addr.mk.injEq] at e; omega), World.cell?_setCell_other _ _ _ _ (by intro e; simp only [Addr.mk.injEq] at e; omega), World.cell?_setCell_other _ _ _ _ (by intro e; simp only [Addr.mk.injEq] at e; omega)]
theorem set3_same (w : World) (rb o : Nat) (x0 x1 x2 : Value) {y0 y1 y2 : Value} (h0 : w.cell? ⟨rb, o, none⟩ = some y0) (h1 : w.cell? ⟨rb, o + 1, none⟩ = some y1) (h2 : w.cell? ⟨rb, o + 2, none⟩ = some y2) (j : Nat) (hj : j < 3) : (set3 w rb o x0 x1 x2).cell? ⟨rb, o + j, none⟩ = some (pick3 x0 x1 x2 j) := by
  unfold set3
  obtain rfl | rfl | rfl : j = 0 ∨ j = 1 ∨ j = 2 := by omega
  · rw [World.cell?_setCell_other _ _ _ _ (by intro e; simp only [Addr.mk.injEq] at e; omega), World.cell?_setCell_other _ _ _ _ (by intro e; simp only [Addr.mk.injEq] at e; omega)]
    exact World.cell?_setCell_same _ _ _ h0
  · rw [World.cell?_setCell_other _ _ _ _ (by intro e; simp only [Addr.mk.injEq] at e; omega)]
    exact World.cell?_setCell_same _ _ _ ((World.cell?_setCell_other _ _ _ _ (by intro e; simp only [Addr.mk.injEq] at e; omega)).trans h1)
  · exact World.cell?_setCell_same _ _ _ ((World.cell?_setCell_other _ _ _ _ (by intro e; simp only [Addr.mk.injEq] at e; omega)).trans ((World.cell?_setCell_other _ _ _ _ (by intro e; simp only [Addr.mk.injEq] at e; omega)).trans h2))
theorem set3_heap (w : World) (rb o : Nat) (x0 x1 x2 : Value) (k : Nat) (h : k ≠ rb) : (set3 w rb o x0 x1 x2).heap[k]? = w.heap[k]? := by
  unfold set3
  rw [Below.heap_setCell _ _ _ _ (by show k ≠ rb; exact h), Below.heap_setCell _ _ _ _ (by show k ≠ rb; exact h), Below.heap_setCell _ _ _ _ (by show k ≠ rb; exact h)]
theorem set3_frz (w : World) (rb o : Nat) (x0 x1 x2 : Value) (a : Addr) : (set3 w rb o x0 x1 x2).frozen? a = w.frozen? a := by simp [set3]
/-- Two rows change places. -/
def swapI (a b i : Nat) : Nat := if i = a then b else if i = b then a else i
theorem swapF_eq (R : Nat → List Int) (a b : Nat) : swapF R a b = fun i => R (swapI a b i) := by
  funext i
  unfold swapF swapI
  by_cases h1 : i = a
  · simp [h1]
  · by_cases h2 : i = b
    · subst h2; simp [h1]
    · simp [h1, h2]
theorem MRows.swap {w w1 : World} {rb B n u : Nat} {VL VB : Nat → Value} {R : Nat → List Int} (h : MRows w rb B n u VL VB R) {a b : Nat} (ha : a < n) (hb : b < n) (h1 : Below w.heap.size w w1) (hl : rb < w.heap.size) :
    MRows (set3 (set3 w1 rb (a * 3) (VL b) (.int .i64 (intN (R b) u)) (VB b)) rb (b * 3) (VL a) (.int .i64 (intN (R a) u)) (VB a)) rb B n u (fun i => VL (swapI a b i)) (fun i => VB (swapI a b i)) (swapF R a b) := by
  have hm := h.below h1 hl
  have hra := hm.row a ha
  have hrb := hm.row b hb
  rw [swapF_eq]
  refine h.perm (swapI a b) (fun i hi => ?_) (fun i j hi hj hij => ?_) (fun k hk hne => ?_) (fun o => ?_) (fun i hi j hj => ?_)
  · unfold swapI; split
    · exact hb
    · split
      · exact ha
      · exact hi
  · unfold swapI
    repeat' split
    all_goals omega
  · rw [set3_heap _ _ _ _ _ _ _ hne, set3_heap _ _ _ _ _ _ _ hne]
    exact h1.block k hk
  · rw [set3_frz, set3_frz]
    exact hm.frz o
  · have hbk : ∀ o, w1.cell? ⟨rb, o, none⟩ = w.cell? ⟨rb, o, none⟩ := fun o => World.cell?_of_block (h1.block rb hl)
    have e3 : ∀ (k : Nat) (i : Nat), i < n → k < 3 → (pick3 (VL i) (.int .i64 (intN (R i) u)) (VB i) k) = (pick3 (VL i) (.int .i64 (intN (R i) u)) (VB i) k) := fun _ _ _ _ => rfl
    have hp : ∀ i, i < n → ∀ k, k < 3 → w.cell? ⟨rb, i * 3 + k, none⟩ = some (pick3 (VL i) (.int .i64 (intN (R i) u)) (VB i) k) := fun i hi k hk => by
      have hr := h.row i hi
      obtain rfl | rfl | rfl : k = 0 ∨ k = 1 ∨ k = 2 := by omega
      · exact hr.left
      · exact hr.right
      · exact hr.by_
    by_cases hib : i = b
    · subst hib
      have hs : swapI a i i = a := by unfold swapI; split <;> simp_all
      rw [hs, hp a ha j hj]
      by_cases hab : a = i
      · subst hab
        have k0 := set3_same w1 rb (a * 3) (VL a) (.int .i64 (intN (R a) u)) (VB a) hra.left hra.right hra.by_
        exact set3_same _ rb (a * 3) _ _ _ (k0 0 (by omega)) (k0 1 (by omega)) (k0 2 (by omega)) j hj
      · exact set3_same _ rb (i * 3) _ _ _ ((set3_other _ _ _ _ _ _ _ (by omega)).trans hrb.left) ((set3_other _ _ _ _ _ _ _ (by omega)).trans hrb.right) ((set3_other _ _ _ _ _ _ _ (by omega)).trans hrb.by_) j hj
    · rw [set3_other _ _ _ _ _ _ _ (by omega)]
      by_cases hia : i = a
      · subst hia
        have hs : swapI i b i = b := by unfold swapI; simp
        rw [hs, hp b hb j hj]
        exact set3_same w1 rb (i * 3) _ _ _ hra.left hra.right hra.by_ j hj
      · have hs : swapI a b i = i := by unfold swapI; rw [if_neg hia, if_neg hib]
        rw [hs, set3_other _ _ _ _ _ _ _ (by omega), hbk]

end Go.Proofs.Ytnbgpeoceejolaa
