/-
  Elimination as a function on rows: rows are scaled, taken away from others, and change places. No program in this text.
-/
import Derived.Test.YtnbgpeoceejolaaLess
namespace Go.Proofs.Ytnbgpeoceejolaa
open Go.RowKit

/-- A row times a number. -/
def rowScale (p t : Int) (x : List Int) : List Int := x.map fun v => v * t % p
theorem rowScale_len (p t : Int) (x : List Int) : (rowScale p t x).length = x.length := by simp [rowScale]
/-- A row less another one, so many times. -/
def rowSub (p t : Int) (x y : List Int) : List Int := lessK p t x y x.length
theorem rowSub_len (p t : Int) (x y : List Int) : (rowSub p t x y).length = x.length := lessK_len _ _ _ _ _
theorem rowSub_at {p t : Int} {x y : List Int} {i : Nat} (h : i < x.length) : intN (rowSub p t x y) i = (intN x i - t * intN y i) % p := by
  unfold rowSub
  rw [lessK_at _ _ _ _ _ _ h, if_pos h]
theorem rowScale_at {p t : Int} {x : List Int} {i : Nat} (h : i < x.length) : intN (rowScale p t x) i = intN x i * t % p := by
  rw [intN_at _ _ (by rw [rowScale_len]; exact h), intN_at _ _ h]
  simp [rowScale]
theorem intN_append_left {x y : List Int} {i : Nat} (h : i < x.length) : intN (x ++ y) i = intN x i := by
  simp [intN, List.getD, List.getElem?_append_left h]
theorem intN_append_right {x y : List Int} {i : Nat} : intN (x ++ y) (x.length + i) = intN y i := by
  simp [intN, List.getD, List.getElem?_append_right (Nat.le_add_right _ _)]
theorem list_ext_intN {x y : List Int} (hl : x.length = y.length) (h : ∀ i, i < x.length → intN x i = intN y i) : x = y := by
  apply List.ext_getElem hl
  intro i h1 h2
  have := h i h1
  rwa [intN_at _ _ h1, intN_at _ _ h2] at this
theorem rowScale_append (p t : Int) (x y : List Int) : rowScale p t (x ++ y) = rowScale p t x ++ rowScale p t y := by simp [rowScale]
theorem rowSub_append {p t : Int} {x x' y y' : List Int} (hl : x.length = y.length) : rowSub p t (x ++ x') (y ++ y') = rowSub p t x y ++ rowSub p t x' y' := by
  apply list_ext_intN
  · simp [rowSub_len]
  · intro i hi
    rw [rowSub_len] at hi
    rw [rowSub_at hi]
    by_cases h : i < x.length
    · rw [intN_append_left h, intN_append_left (by omega), intN_append_left (by rw [rowSub_len]; exact h), rowSub_at h]
    · have hi' : i - x.length < x'.length := by rw [List.length_append] at hi; omega
      have e1 : intN (x ++ x') i = intN x' (i - x.length) := by
        have := intN_append_right (x := x) (y := x') (i := i - x.length)
        rwa [show x.length + (i - x.length) = i by omega] at this
      have e2 : intN (y ++ y') i = intN y' (i - x.length) := by
        have := intN_append_right (x := y) (y := y') (i := i - x.length)
        rwa [show y.length + (i - x.length) = i by omega] at this
      have e3 : intN (rowSub p t x y ++ rowSub p t x' y') i = intN (rowSub p t x' y') (i - x.length) := by
        have := intN_append_right (x := rowSub p t x y) (y := rowSub p t x' y') (i := i - x.length)
        rwa [rowSub_len, show x.length + (i - x.length) = i by omega] at this
      rw [e1, e2, e3, rowSub_at hi']

/-- All numbers of a row are some modulo p. -/
def LowP (p : Int) (x : List Int) : Prop := ∀ i, i < x.length → 0 ≤ intN x i ∧ intN x i < p
theorem LowP.any {p : Int} {x : List Int} (h : LowP p x) (hp : 0 < p) (i : Nat) : 0 ≤ intN x i ∧ intN x i < p := by
  by_cases hi : i < x.length
  · exact h i hi
  · rw [intN_out (by omega)]; omega
theorem LowP.scale {p t : Int} (x : List Int) (hp : 0 < p) : LowP p (rowScale p t x) := fun i hi => by
  rw [rowScale_len] at hi
  rw [rowScale_at hi]
  exact ⟨Int.emod_nonneg _ (by omega), Int.emod_lt_of_pos _ hp⟩
theorem LowP.sub {p t : Int} (x y : List Int) (hp : 0 < p) : LowP p (rowSub p t x y) := fun i hi => by
  rw [rowSub_len] at hi
  rw [rowSub_at hi]
  exact ⟨Int.emod_nonneg _ (by omega), Int.emod_lt_of_pos _ hp⟩
theorem rowSub_zero {p : Int} {x y : List Int} (h : LowP p x) : rowSub p 0 x y = x := by
  apply list_ext_intN
  · exact rowSub_len _ _ _ _
  · intro i hi
    rw [rowSub_len] at hi
    rw [rowSub_at hi, Int.zero_mul, Int.sub_zero, Int.emod_eq_of_lt (h i hi).1 (h i hi).2]

/-- The first row from k on whose number of an unknown is not 0; n if there is none. -/
def findE (R : Nat → List Int) (c n : Nat) : Nat → Nat → Nat
  | 0, k => k
  | f + 1, k => if k < n ∧ intN (R k) c = 0 then findE R c n f (k + 1) else k
theorem findE_eq {R : Nat → List Int} {c n : Nat} : ∀ (f k m : Nat), k ≤ m → m ≤ n → n ≤ k + f → (∀ j, k ≤ j → j < m → intN (R j) c = 0) → (m < n → intN (R m) c ≠ 0) → findE R c n f k = m := by
  intro f
  induction f with
  | zero =>
    intro k m h1 h2 h3 _ _
    show k = m
    omega
  | succ f ih =>
    intro k m h1 h2 h3 h4 h5
    show (if k < n ∧ intN (R k) c = 0 then findE R c n f (k + 1) else k) = m
    by_cases hk : k = m
    · subst hk
      rw [if_neg]
      rintro ⟨h6, h7⟩
      exact h5 h6 h7
    · rw [if_pos ⟨by omega, h4 k (Nat.le_refl _) (by omega)⟩]
      exact ih (k + 1) m (by omega) h2 (by omega) (fun j hj hjm => h4 j (by omega) hjm) h5
theorem findE_spec {R : Nat → List Int} {c n : Nat} : ∀ (f k : Nat), k ≤ n → n ≤ k + f → k ≤ findE R c n f k ∧ findE R c n f k ≤ n ∧ (∀ j, k ≤ j → j < findE R c n f k → intN (R j) c = 0) ∧ (findE R c n f k < n → intN (R (findE R c n f k)) c ≠ 0) := by
  intro f
  induction f with
  | zero =>
    intro k h1 h2
    exact ⟨Nat.le_refl _, h1, fun j h3 h4 => by have : findE R c n 0 k = k := rfl; omega, fun h => by have : findE R c n 0 k = k := rfl; omega⟩
  | succ f ih =>
    intro k h1 h2
    have e : findE R c n (f + 1) k = if k < n ∧ intN (R k) c = 0 then findE R c n f (k + 1) else k := rfl
    by_cases h : k < n ∧ intN (R k) c = 0
    · rw [if_pos h] at e
      obtain ⟨i1, i2, i3, i4⟩ := ih (k + 1) (by omega) (by omega)
      rw [e]
      refine ⟨by omega, i2, fun j h3 h4 => ?_, i4⟩
      by_cases hj : j = k
      · subst hj; exact h.2
      · exact i3 j (by omega) h4
    · rw [if_neg h] at e
      rw [e]
      exact ⟨Nat.le_refl _, h1, fun j h3 h4 => by omega, fun h3 h4 => h ⟨h3, h4⟩⟩

/-- Two rows change places. -/
def swapF (R : Nat → List Int) (a b : Nat) : Nat → List Int := fun i => if i = a then R b else if i = b then R a else R i
/-- The row d is scaled, and taken away from the first m others. -/
def clearK (p : Int) (R : Nat → List Int) (d c m : Nat) : Nat → List Int := fun i =>
  if i = d then rowScale p (intN (R d) c) (R d) else if i < m then rowSub p (intN (R i) c) (R i) (rowScale p (intN (R d) c) (R d)) else R i
/-- One unknown's turn. -/
def stepE (p : Int) (n c : Nat) (S : (Nat → List Int) × Nat) : (Nat → List Int) × Nat :=
  if findE S.1 c n n S.2 = n then S else (clearK p (swapF S.1 S.2 (findE S.1 c n n S.2)) S.2 c n, S.2 + 1)
/-- The first u unknowns' turns. -/
def elimE (p : Int) (n : Nat) (R : Nat → List Int) : Nat → (Nat → List Int) × Nat
  | 0 => (R, 0)
  | u + 1 => stepE p n u (elimE p n R u)

/-- Rows of a length, of numbers modulo p. -/
def GoodR (p : Int) (n l : Nat) (R : Nat → List Int) : Prop := ∀ i, i < n → (R i).length = l ∧ LowP p (R i)
theorem GoodR.swap {p : Int} {n l : Nat} {R : Nat → List Int} (h : GoodR p n l R) {a b : Nat} (ha : a < n) (hb : b < n) : GoodR p n l (swapF R a b) := fun i hi => by
  unfold swapF
  split
  · exact h b hb
  · split
    · exact h a ha
    · exact h i hi
theorem GoodR.clear {p : Int} {n l : Nat} {R : Nat → List Int} (h : GoodR p n l R) (hp : 0 < p) {d c m : Nat} (hd : d < n) : GoodR p n l (clearK p R d c m) := fun i hi => by
  unfold clearK
  split
  · exact ⟨by rw [rowScale_len]; exact (h d hd).1, LowP.scale _ hp⟩
  · split
    · exact ⟨by rw [rowSub_len]; exact (h i hi).1, LowP.sub _ _ hp⟩
    · exact h i hi
theorem stepE_good {p : Int} {n l c : Nat} {S : (Nat → List Int) × Nat} (hp : 0 < p) (h : GoodR p n l S.1) (hd : S.2 ≤ n) : GoodR p n l (stepE p n c S).1 ∧ (stepE p n c S).2 ≤ n := by
  unfold stepE
  obtain ⟨h1, h2, -, -⟩ := findE_spec (R := S.1) (c := c) (n := n) n S.2 hd (by omega)
  split
  · exact ⟨h, hd⟩
  · rename_i hne
    have hlt : findE S.1 c n n S.2 < n := by omega
    exact ⟨(h.swap (by omega) hlt).clear hp (by omega), by show S.2 + 1 ≤ n; omega⟩
theorem elimE_good {p : Int} {n l : Nat} {R : Nat → List Int} (hp : 0 < p) (h : GoodR p n l R) : ∀ u, GoodR p n l (elimE p n R u).1 ∧ (elimE p n R u).2 ≤ n := by
  intro u
  induction u with
  | zero => exact ⟨h, Nat.zero_le _⟩
  | succ u ih => exact stepE_good hp ih.1 ih.2
theorem elimE_le {p : Int} {n : Nat} {R : Nat → List Int} (u : Nat) : (elimE p n R u).2 ≤ u := by
  induction u with
  | zero => exact Nat.le_refl _
  | succ u ih =>
    show (stepE p n u (elimE p n R u)).2 ≤ u + 1
    unfold stepE
    split
    · omega
    · show _ + 1 ≤ u + 1
      omega

/-- The row of the i-th equation of a system: its left side, its right side, how it has been made. -/
def row0 (rs : List (Int × List Int)) (i : Nat) : List Int := rowO rs i ++ [arO rs i] ++ (List.range rs.length).map fun j => if j = i then 1 else 0

end Go.Proofs.Ytnbgpeoceejolaa
