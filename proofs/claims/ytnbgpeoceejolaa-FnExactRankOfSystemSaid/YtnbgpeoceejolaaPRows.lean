/-
  The rows of an elimination of the program in memory: they lie in one array, and a slice of slices tells where.
-/
import Derived.Test.YtnbgpeoceejolaaDivided
namespace Go.Proofs.Ytnbgpeoceejolaa
open Go.RowKit

/-- The row at the s i-th place of the array. -/
def rowAtF (F : Nat → Int) (s : Nat → Nat) (l i : Nat) : List Int := (List.range l).map fun j => F (s i * l + j)
theorem rowAtF_len (F : Nat → Int) (s : Nat → Nat) (l i : Nat) : (rowAtF F s l i).length = l := by simp [rowAtF]
theorem rowAtF_at {F : Nat → Int} {s : Nat → Nat} {l i j : Nat} (h : j < l) : intN (rowAtF F s l i) j = F (s i * l + j) := by
  rw [intN_at _ _ (by rw [rowAtF_len]; exact h)]
  simp [rowAtF]
/-- Different rows lie apart. -/
theorem far_rows {a b l : Nat} (h : a ≠ b) : a * l + l ≤ b * l ∨ b * l + l ≤ a * l := by
  rcases Nat.lt_or_gt_of_ne h with h | h
  · exact .inl (by have := Nat.mul_le_mul_right l (show a + 1 ≤ b from h); rw [Nat.succ_mul] at this; exact this)
  · exact .inr (by have := Nat.mul_le_mul_right l (show b + 1 ≤ a from h); rw [Nat.succ_mul] at this; exact this)
theorem rowAtF_take {p t : Int} {F : Nat → Int} {s : Nat → Nat} {l i d k : Nat} (hki : k ≠ i → s k ≠ s i) : rowAtF (takeF p t F (s i * l) (s d * l) l) s l k = if k = i then rowSub p t (rowAtF F s l i) (rowAtF F s l d) else rowAtF F s l k := by
  apply list_ext_intN
  · split
    · rw [rowAtF_len, rowSub_len, rowAtF_len]
    · rw [rowAtF_len, rowAtF_len]
  · intro j hj
    rw [rowAtF_len] at hj
    rw [rowAtF_at hj]
    by_cases h : k = i
    · subst h
      rw [if_pos rfl, rowSub_at (by rw [rowAtF_len]; exact hj), rowAtF_at hj, rowAtF_at hj]
      unfold takeF
      rw [if_pos (by omega), show s k * l + j - s k * l = j by omega]
    · rw [if_neg h, rowAtF_at hj]
      unfold takeF
      have := far_rows (l := l) (hki h)
      rw [if_neg (by omega)]
theorem rowAtF_scale {p t : Int} {F : Nat → Int} {s : Nat → Nat} {l i k : Nat} (hki : k ≠ i → s k ≠ s i) : rowAtF (scaleF p t F (s i * l) l) s l k = if k = i then rowScale p t (rowAtF F s l i) else rowAtF F s l k := by
  apply list_ext_intN
  · split
    · rw [rowAtF_len, rowScale_len, rowAtF_len]
    · rw [rowAtF_len, rowAtF_len]
  · intro j hj
    rw [rowAtF_len] at hj
    rw [rowAtF_at hj]
    by_cases h : k = i
    · subst h
      rw [if_pos rfl, rowScale_at (by rw [rowAtF_len]; exact hj), rowAtF_at hj]
      unfold scaleF
      rw [if_pos (by omega)]
    · rw [if_neg h, rowAtF_at hj]
      unfold scaleF
      have := far_rows (l := l) (hki h)
      rw [if_neg (by omega)]
/-- All numbers are some modulo p. -/
def LowF (p : Int) (F : Nat → Int) : Prop := ∀ o, 0 ≤ F o ∧ F o < p
theorem LowF.take {p t : Int} {F : Nat → Int} {fo ro k : Nat} (h : LowF p F) (hp : 0 < p) : LowF p (takeF p t F fo ro k) := fun o => by
  unfold takeF
  split
  · exact ⟨Int.emod_nonneg _ (by omega), Int.emod_lt_of_pos _ hp⟩
  · exact h o
theorem LowF.scale {p t : Int} {F : Nat → Int} {fo k : Nat} (h : LowF p F) (hp : 0 < p) : LowF p (scaleF p t F fo k) := fun o => by
  unfold scaleF
  split
  · exact ⟨Int.emod_nonneg _ (by omega), Int.emod_lt_of_pos _ hp⟩
  · exact h o

/-- n rows of the length l in the array g, in the order s. -/
structure PRows (w : World) (rb g N n l : Nat) (s : Nat → Nat) (p : Int) (F : Nat → Int) : Prop where
  at_ : ∀ i, i < n → w.cell? ⟨rb, i, none⟩ = some (.slice (some ⟨g, s i * l, none⟩) l l)
  frz : ∀ o, w.frozen? ⟨rb, o, none⟩ = false
  flat : Flat w g N F
  low : LowF p F
  lt : ∀ i, i < n → s i < n
  inj : ∀ i j, i < n → j < n → i ≠ j → s i ≠ s j
  ne : rb ≠ g
  fit : n * l ≤ N
  inn : g < w.heap.size
theorem PRows.fits {w : World} {rb g N n l : Nat} {s : Nat → Nat} {p : Int} {F : Nat → Int} (h : PRows w rb g N n l s p F) {i : Nat} (hi : i < n) : s i * l + l ≤ N := by
  have h1 := h.lt i hi
  have h2 := Nat.mul_le_mul_right l (show s i + 1 ≤ n from h1)
  rw [Nat.succ_mul] at h2
  exact Nat.le_trans h2 h.fit
theorem PRows.turn {w w' : World} {rb g N n l : Nat} {s : Nat → Nat} {p : Int} {F F' : Nat → Int} (h : PRows w rb g N n l s p F) (hr : 0 < n → rb < w.heap.size) (ho : Only (fun q => q = g) w w') (hf : Flat w' g N F') (hl : LowF p F') (hfz : ∀ o, w'.frozen? ⟨rb, o, none⟩ = false) : PRows w' rb g N n l s p F' :=
  ⟨fun i hi => (World.cell?_of_block (ho.block rb (hr (by omega)) h.ne)).trans (h.at_ i hi), hfz, hf, hl, h.lt, h.inj, h.ne, h.fit, Nat.lt_of_lt_of_le h.inn ho.size⟩

end Go.Proofs.Ytnbgpeoceejolaa
