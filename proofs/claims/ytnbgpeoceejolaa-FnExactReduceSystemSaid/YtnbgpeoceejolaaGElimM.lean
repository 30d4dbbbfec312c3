/-  Elimination as a function on rows: rows are scaled, taken away from others, and change places. No program in this text. The reduced form: each row that is done begins with 1 at an unknown of its own, of which the other rows have 0. (*l07Row).less of the model, with what it leaves in the row's own block: all but the right side. (*l07Row).scale of the model: a row of its own is multiplied. The rows of an elimination of the model in memory: three cells for each in one block, their lists each in blocks of their own. The rows of a system in the model: l07Rows. Elimination in the model: l07Reduce. RankOfSystem and CountAnswers of the model. -/
import Derived.Test.YtnbgpeoceejolaaLess
import Derived.Test.YtnbgpeoceejolaaSys
import Derived.Test.YtnbgpeoceejolaaTupleOf
import Derived.Test.YtnbgpeoceejolaaGrowAt
import Derived.Deep.CutRange
import Derived.Deep.AppendLies
namespace Go.Proofs.Ytnbgpeoceejolaa
open Go.RowKit

/-- A row times a number. -/
def rowScale (p t : Int) (x : List Int) : List Int := x.map fun v => v * t % p
theorem rowScale_len (p t : Int) (x : List Int) : (rowScale p t x).length = x.length := by simp [rowScale]
/-- A row less another one, so many times. -/
def rowSub (p t : Int) (x y : List Int) : List Int := lessK p t x y x.length
theorem rowSub_len (p t : Int) (x y : List Int) : (rowSub p t x y).length = x.length := lessK_len _ _ _ _ _
theorem rowSub_at {p t : Int} {x y : List Int} {i : Nat} (h : i < x.length) : intN (rowSub p t x y) i = (intN x i - t * intN y i) % p := by
  unfold rowSub
  rw [lessK_at _ _ _ _ _ _ h, if_pos h]
theorem rowScale_at {p t : Int} {x : List Int} {i : Nat} (h : i < x.length) : intN (rowScale p t x) i = intN x i * t % p := by
  rw [intN_at _ _ (by rw [rowScale_len]; exact h), intN_at _ _ h]
  simp [rowScale]
theorem intN_append_left {x y : List Int} {i : Nat} (h : i < x.length) : intN (x ++ y) i = intN x i := by
  simp [intN, List.getD, List.getElem?_append_left h]
theorem intN_append_right {x y : List Int} {i : Nat} : intN (x ++ y) (x.length + i) = intN y i := by
  simp [intN, List.getD, List.getElem?_append_right (Nat.le_add_right _ _)]
theorem list_ext_intN {x y : List Int} (hl : x.length = y.length) (h : ∀ i, i < x.length → intN x i = intN y i) : x = y := by
  apply List.ext_getElem hl
  intro i h1 h2
  have := h i h1
  rwa [intN_at _ _ h1, intN_at _ _ h2] at this
theorem rowScale_append (p t : Int) (x y : List Int) : rowScale p t (x ++ y) = rowScale p t x ++ rowScale p t y := by simp [rowScale]
theorem rowSub_append {p t : Int} {x x' y y' : List Int} (hl : x.length = y.length) : rowSub p t (x ++ x') (y ++ y') = rowSub p t x y ++ rowSub p t x' y' := by
  apply list_ext_intN
  · simp [rowSub_len]
  · intro i hi
    rw [rowSub_len] at hi
    rw [rowSub_at hi]
    by_cases h : i < x.length
    · rw [intN_append_left h, intN_append_left (by omega), intN_append_left (by rw [rowSub_len]; exact h), rowSub_at h]
    · have hi' : i - x.length < x'.length := by rw [List.length_append] at hi; omega
      have e1 : intN (x ++ x') i = intN x' (i - x.length) := by
        have := intN_append_right (x := x) (y := x') (i := i - x.length)
        rwa [show x.length + (i - x.length) = i by omega] at this
      have e2 : intN (y ++ y') i = intN y' (i - x.length) := by
        have := intN_append_right (x := y) (y := y') (i := i - x.length)
        rwa [show y.length + (i - x.length) = i by omega] at this
      have e3 : intN (rowSub p t x y ++ rowSub p t x' y') i = intN (rowSub p t x' y') (i - x.length) := by
        have := intN_append_right (x := rowSub p t x y) (y := rowSub p t x' y') (i := i - x.length)
        rwa [rowSub_len, show x.length + (i - x.length) = i by omega] at this
      rw [e1, e2, e3, rowSub_at hi']

/-- All numbers of a row are some modulo p. -/
def LowP (p : Int) (x : List Int) : Prop := ∀ i, i < x.length → 0 ≤ intN x i ∧ intN x i < p
theorem LowP.any {p : Int} {x : List Int} (h : LowP p x) (hp : 0 < p) (i : Nat) : 0 ≤ intN x i ∧ intN x i < p := by
  by_cases hi : i < x.length
  · exact h i hi
  · rw [intN_out (by omega)]; omega
theorem LowP.scale {p t : Int} (x : List Int) (hp : 0 < p) : LowP p (rowScale p t x) := fun i hi => by
  rw [rowScale_len] at hi
  rw [rowScale_at hi]
  exact ⟨Int.emod_nonneg _ (by omega), Int.emod_lt_of_pos _ hp⟩
theorem LowP.sub {p t : Int} (x y : List Int) (hp : 0 < p) : LowP p (rowSub p t x y) := fun i hi => by
  rw [rowSub_len] at hi
  rw [rowSub_at hi]
  exact ⟨Int.emod_nonneg _ (by omega), Int.emod_lt_of_pos _ hp⟩
theorem rowSub_zero {p : Int} {x y : List Int} (h : LowP p x) : rowSub p 0 x y = x := by
  apply list_ext_intN
  · exact rowSub_len _ _ _ _
  · intro i hi
    rw [rowSub_len] at hi
    rw [rowSub_at hi, Int.zero_mul, Int.sub_zero, Int.emod_eq_of_lt (h i hi).1 (h i hi).2]

/-- The first row from k on whose number of an unknown is not 0; n if there is none. -/
def findE (R : Nat → List Int) (c n : Nat) : Nat → Nat → Nat
  | 0, k => k
  | f + 1, k => if k < n ∧ intN (R k) c = 0 then findE R c n f (k + 1) else k
theorem findE_eq {R : Nat → List Int} {c n : Nat} : ∀ (f k m : Nat), k ≤ m → m ≤ n → n ≤ k + f → (∀ j, k ≤ j → j < m → intN (R j) c = 0) → (m < n → intN (R m) c ≠ 0) → findE R c n f k = m := by
  intro f
  induction f with
  | zero =>
    intro k m h1 h2 h3 _ _
    show k = m
    omega
  | succ f ih =>
    intro k m h1 h2 h3 h4 h5
    show (if k < n ∧ intN (R k) c = 0 then findE R c n f (k + 1) else k) = m
    by_cases hk : k = m
    · subst hk
      rw [if_neg]
      rintro ⟨h6, h7⟩
      exact h5 h6 h7
    · rw [if_pos ⟨by omega, h4 k (Nat.le_refl _) (by omega)⟩]
      exact ih (k + 1) m (by omega) h2 (by omega) (fun j hj hjm => h4 j (by omega) hjm) h5
theorem findE_spec {R : Nat → List Int} {c n : Nat} : ∀ (f k : Nat), k ≤ n → n ≤ k + f → k ≤ findE R c n f k ∧ findE R c n f k ≤ n ∧ (∀ j, k ≤ j → j < findE R c n f k → intN (R j) c = 0) ∧ (findE R c n f k < n → intN (R (findE R c n f k)) c ≠ 0) := by
  intro f
  induction f with
  | zero =>
    intro k h1 h2
    exact ⟨Nat.le_refl _, h1, fun j h3 h4 => by have : findE R c n 0 k = k := rfl; omega, fun h => by have : findE R c n 0 k = k := rfl; omega⟩
  | succ f ih =>
    intro k h1 h2
    have e : findE R c n (f + 1) k = if k < n ∧ intN (R k) c = 0 then findE R c n f (k + 1) else k := rfl
    by_cases h : k < n ∧ intN (R k) c = 0
    · rw [if_pos h] at e
      obtain ⟨i1, i2, i3, i4⟩ := ih (k + 1) (by omega) (by omega)
      rw [e]
      refine ⟨by omega, i2, fun j h3 h4 => ?_, i4⟩
      by_cases hj : j = k
      · subst hj; exact h.2
      · exact i3 j (by omega) h4
    · rw [if_neg h] at e
      rw [e]
      exact ⟨Nat.le_refl _, h1, fun j h3 h4 => by omega, fun h3 h4 => h ⟨h3, h4⟩⟩

/-- Two rows change places. -/
def swapF (R : Nat → List Int) (a b : Nat) : Nat → List Int := fun i => if i = a then R b else if i = b then R a else R i
/-- The row d is scaled, and taken away from the first m others. -/
def clearK (p : Int) (R : Nat → List Int) (d c m : Nat) : Nat → List Int := fun i =>
  if i = d then rowScale p (intN (R d) c) (R d) else if i < m then rowSub p (intN (R i) c) (R i) (rowScale p (intN (R d) c) (R d)) else R i
/-- One unknown's turn. -/
def stepE (p : Int) (n c : Nat) (S : (Nat → List Int) × Nat) : (Nat → List Int) × Nat :=
  if findE S.1 c n n S.2 = n then S else (clearK p (swapF S.1 S.2 (findE S.1 c n n S.2)) S.2 c n, S.2 + 1)
/-- The first u unknowns' turns. -/
def elimE (p : Int) (n : Nat) (R : Nat → List Int) : Nat → (Nat → List Int) × Nat
  | 0 => (R, 0)
  | u + 1 => stepE p n u (elimE p n R u)

/-- Rows of a length, of numbers modulo p. -/
def GoodR (p : Int) (n l : Nat) (R : Nat → List Int) : Prop := ∀ i, i < n → (R i).length = l ∧ LowP p (R i)
theorem GoodR.swap {p : Int} {n l : Nat} {R : Nat → List Int} (h : GoodR p n l R) {a b : Nat} (ha : a < n) (hb : b < n) : GoodR p n l (swapF R a b) := fun i hi => by
  unfold swapF
  split
  · exact h b hb
  · split
    · exact h a ha
    · exact h i hi
theorem GoodR.clear {p : Int} {n l : Nat} {R : Nat → List Int} (h : GoodR p n l R) (hp : 0 < p) {d c m : Nat} (hd : d < n) : GoodR p n l (clearK p R d c m) := fun i hi => by
  unfold clearK
  split
  · exact ⟨by rw [rowScale_len]; exact (h d hd).1, LowP.scale _ hp⟩
  · split
    · exact ⟨by rw [rowSub_len]; exact (h i hi).1, LowP.sub _ _ hp⟩
    · exact h i hi
theorem stepE_good {p : Int} {n l c : Nat} {S : (Nat → List Int) × Nat} (hp : 0 < p) (h : GoodR p n l S.1) (hd : S.2 ≤ n) : GoodR p n l (stepE p n c S).1 ∧ (stepE p n c S).2 ≤ n := by
  unfold stepE
  obtain ⟨h1, h2, -, -⟩ := findE_spec (R := S.1) (c := c) (n := n) n S.2 hd (by omega)
  split
  · exact ⟨h, hd⟩
  · rename_i hne
    have hlt : findE S.1 c n n S.2 < n := by omega
    exact ⟨(h.swap (by omega) hlt).clear hp (by omega), by show S.2 + 1 ≤ n; omega⟩
theorem elimE_good {p : Int} {n l : Nat} {R : Nat → List Int} (hp : 0 < p) (h : GoodR p n l R) : ∀ u, GoodR p n l (elimE p n R u).1 ∧ (elimE p n R u).2 ≤ n := by
  intro u
  induction u with
  | zero => exact ⟨h, Nat.zero_le _⟩
  | succ u ih => exact stepE_good hp ih.1 ih.2
theorem elimE_le {p : Int} {n : Nat} {R : Nat → List Int} (u : Nat) : (elimE p n R u).2 ≤ u := by
  induction u with
  | zero => exact Nat.le_refl _
  | succ u ih =>
    show (stepE p n u (elimE p n R u)).2 ≤ u + 1
    unfold stepE
    split
    · omega
    · show _ + 1 ≤ u + 1
      omega

/-- The row of the i-th equation of a system: its left side, its right side, how it has been made. -/
def row0 (rs : List (Int × List Int)) (i : Nat) : List Int := rowO rs i ++ [arO rs i] ++ (List.range rs.length).map fun j => if j = i then 1 else 0

end Go.Proofs.Ytnbgpeoceejolaa

namespace Go.Proofs.Ytnbgpeoceejolaa
open Go.RowKit

/-- Where the rows that are done begin. -/
structure Piv (n u : Nat) (R : Nat → List Int) (d : Nat) (c : Nat → Nat) : Prop where
  lt : ∀ i, i < d → c i < u
  one : ∀ i, i < d → ∀ j, j < n → intN (R j) (c i) = if j = i then 1 else 0
  lead : ∀ i, i < d → ∀ q, q < c i → intN (R i) q = 0
  rest : ∀ j, d ≤ j → j < n → ∀ q, q < u → intN (R j) q = 0

theorem sq_one {p t : Int} (hp : p = 2 ∨ p = 3) (h0 : t ≠ 0) (h1 : 0 ≤ t) (h2 : t < p) : t * t % p = 1 := by
  rcases hp with rfl | rfl
  · obtain rfl : t = 1 := by omega
    decide
  · have : t = 1 ∨ t = 2 := by omega
    rcases this with rfl | rfl <;> decide

theorem Piv.step {p : Int} {n l u : Nat} {R : Nat → List Int} {d : Nat} {c : Nat → Nat} (h : Piv n u R d c) (hp : p = 2 ∨ p = 3) (hg : GoodR p n l R) (hd : d ≤ n) (hul : u < l) : ∃ c', Piv n (u + 1) (stepE p n u (R, d)).1 (stepE p n u (R, d)).2 c' := by
  have hp0 : 0 < p := by rcases hp with rfl | rfl <;> decide
  obtain ⟨f1, f2, f3, f4⟩ := findE_spec (R := R) (c := u) (n := n) n d hd (by omega)
  unfold stepE
  show ∃ c', Piv n (u + 1) (if findE R u n n d = n then (R, d) else (clearK p (swapF R d (findE R u n n d)) d u n, d + 1)).1 (if findE R u n n d = n then (R, d) else (clearK p (swapF R d (findE R u n n d)) d u n, d + 1)).2 c'
  by_cases hk : findE R u n n d = n
  · rw [if_pos hk]
    refine ⟨c, fun i hi => by have := h.lt i hi; omega, h.one, h.lead, fun j h1 h2 q hq => ?_⟩
    by_cases hqu : q = u
    · subst hqu
      exact f3 j h1 (by omega)
    · exact h.rest j h1 h2 q (by omega)
  · rw [if_neg hk]
    generalize findE R u n n d = k at *
    have hkn : k < n := by omega
    have hnz := f4 hkn
    have hdn : d < n := by omega
    have hgs : GoodR p n l (swapF R d k) := hg.swap hdn hkn
    have hsd : swapF R d k d = R k := by simp [swapF]
    have hslt : ∀ j, j < d → swapF R d k j = R j := fun j hj => by
      unfold swapF
      rw [if_neg (by omega), if_neg (by omega)]
    have hs0 : ∀ j, d ≤ j → j < n → ∀ q, q < u → intN (swapF R d k j) q = 0 := fun j h1 h2 q hq => by
      unfold swapF
      split
      · exact h.rest k f1 hkn q hq
      · split
        · exact h.rest d (Nat.le_refl _) hdn q hq
        · exact h.rest j h1 h2 q hq
    obtain ⟨R', hR'⟩ : ∃ R', swapF R d k = R' := ⟨_, rfl⟩
    rw [hR'] at hgs hsd hslt hs0 ⊢
    obtain ⟨t, ht⟩ : ∃ t, intN (R' d) u = t := ⟨_, rfl⟩
    have htnz : t ≠ 0 := by rw [← ht, hsd]; exact hnz
    have htlow : 0 ≤ t ∧ t < p := by rw [← ht]; exact (hgs d hdn).2.any hp0 _
    have hD : ∀ q, q < l → intN (clearK p R' d u n d) q = intN (R' d) q * t % p := fun q hq => by
      unfold clearK
      rw [if_pos rfl, ht, rowScale_at (by rw [(hgs d hdn).1]; exact hq)]
    have hD0 : ∀ q, q < u → intN (clearK p R' d u n d) q = 0 := fun q hq => by
      rw [hD q (by omega), hs0 d (Nat.le_refl _) hdn q hq, Int.zero_mul, Int.zero_emod]
    have hDu : intN (clearK p R' d u n d) u = 1 := by
      rw [hD u hul, ht]
      exact sq_one hp htnz htlow.1 htlow.2
    have hJ : ∀ j, j < n → j ≠ d → ∀ q, q < l → intN (clearK p R' d u n j) q = (intN (R' j) q - intN (R' j) u * intN (clearK p R' d u n d) q) % p := fun j hj hjd q hq => by
      have e : clearK p R' d u n d = rowScale p (intN (R' d) u) (R' d) := by unfold clearK; rw [if_pos rfl]
      rw [e]
      have e2 : clearK p R' d u n j = rowSub p (intN (R' j) u) (R' j) (rowScale p (intN (R' d) u) (R' d)) := by unfold clearK; rw [if_neg hjd, if_pos hj]
      rw [e2, rowSub_at (by rw [(hgs j hj).1]; exact hq)]
    have hJ0 : ∀ j, j < n → j ≠ d → ∀ q, q < u → intN (clearK p R' d u n j) q = intN (R' j) q := fun j hj hjd q hq => by
      rw [hJ j hj hjd q (by omega), hD0 q hq, Int.mul_zero, Int.sub_zero]
      have := (hgs j hj).2.any hp0 q
      exact Int.emod_eq_of_lt this.1 this.2
    have hJu : ∀ j, j < n → j ≠ d → intN (clearK p R' d u n j) u = 0 := fun j hj hjd => by
      rw [hJ j hj hjd u hul, hDu, Int.mul_one, Int.sub_self, Int.zero_emod]
    refine ⟨fun i => if i = d then u else c i, fun i hi => ?_, fun i hi j hj => ?_, fun i hi q hq => ?_, fun j h1 h2 q hq => ?_⟩
    · show (if i = d then u else c i) < u + 1
      have hi' : i < d + 1 := hi
      split
      · omega
      · have := h.lt i (by omega); omega
    · show intN (clearK p R' d u n j) (if i = d then u else c i) = _
      have hi' : i < d + 1 := hi
      by_cases hid : i = d
      · subst hid
        rw [if_pos rfl]
        by_cases hji : j = i
        · subst hji; rw [if_pos rfl]; exact hDu
        · rw [if_neg hji]; exact hJu j hj hji
      · rw [if_neg hid]
        have hcu := h.lt i (by omega)
        by_cases hjd : j = d
        · subst hjd
          rw [if_neg (by omega)]
          exact hD0 _ hcu
        · rw [hJ0 j hj hjd _ hcu]
          by_cases hj2 : j < d
          · rw [hslt j hj2]
            exact h.one i (by omega) j hj
          · rw [if_neg (by omega)]
            exact hs0 j (by omega) hj _ hcu
    · have hi' : i < d + 1 := hi
      have hq' : q < (if i = d then u else c i) := hq
      show intN (clearK p R' d u n i) q = 0
      by_cases hid : i = d
      · subst hid
        rw [if_pos rfl] at hq'
        exact hD0 q hq'
      · rw [if_neg hid] at hq'
        have hcu := h.lt i (by omega)
        rw [hJ0 i (by omega) hid q (by omega), hslt i (by omega)]
        exact h.lead i (by omega) q hq'
    · have h1' : d + 1 ≤ j := h1
      show intN (clearK p R' d u n j) q = 0
      by_cases hqu : q = u
      · subst hqu
        exact hJu j h2 (by omega)
      · rw [hJ0 j h2 (by omega) q (by omega)]
        exact hs0 j (by omega) h2 q (by omega)

theorem elimE_piv {p : Int} {n l : Nat} {R : Nat → List Int} (hp : p = 2 ∨ p = 3) (hg : GoodR p n l R) : ∀ u, u ≤ l → ∃ c, Piv n u (elimE p n R u).1 (elimE p n R u).2 c := by
  intro u
  induction u with
  | zero =>
    intro _
    exact ⟨fun _ => 0, fun i hi => absurd hi (Nat.not_lt_zero _), fun i hi => absurd hi (Nat.not_lt_zero _), fun i hi => absurd hi (Nat.not_lt_zero _), fun j _ _ q hq => absurd hq (Nat.not_lt_zero _)⟩
  | succ u ih =>
    intro hu
    obtain ⟨c, hc⟩ := ih (by omega)
    have hgd := elimE_good (by rcases hp with rfl | rfl <;> decide) hg u
    exact hc.step hp hgd.1 hgd.2 (by omega)

end Go.Proofs.Ytnbgpeoceejolaa

namespace Go.Proofs.Ytnbgpeoceejolaa
open Go.RowKit

/-- Nothing but the right side of the row at ro of the block rb, and the blocks a and b, has turned. -/
structure RowK (rb ro : Nat) (a b : Option Nat) (w w' : World) : Prop where
  rest : RestK rb a b w w'
  cells : ∀ o, o ≠ ro + 1 → w'.cell? ⟨rb, o, none⟩ = w.cell? ⟨rb, o, none⟩
  frz : ∀ o, w'.frozen? ⟨rb, o, none⟩ = w.frozen? ⟨rb, o, none⟩
theorem RowK.refl (rb ro : Nat) (a b : Option Nat) (w : World) : RowK rb ro a b w w := ⟨RestK.refl _ _ _ _, fun _ _ => rfl, fun _ => rfl⟩
theorem RowK.drewN {rb ro : Nat} {a b : Option Nat} {w w1 : World} (h : RowK rb ro a b w w1) (n : Nat) : RowK rb ro a b w (w1.drewN n) := ⟨h.rest.drewN n, h.cells, h.frz⟩
theorem RowK.setL {rb ro : Nat} {a b : Option Nat} {w w1 : World} (h : RowK rb ro a b w w1) (p : Addr) (v : Value) (hp : some p.block = a ∨ some p.block = b) (hne : p.block ≠ rb) : RowK rb ro a b w (w1.setCell p v) := by
  have hb : (w1.setCell p v).heap[rb]? = w1.heap[rb]? := Below.heap_setCell _ _ _ _ (fun e => hne e.symm)
  refine ⟨h.rest.set p v (.inr hp), fun o ho => ?_, fun o => ?_⟩
  · exact (World.cell?_of_block hb).trans (h.cells o ho)
  · exact (World.frozen?_of_block hb).trans (h.frz o)
theorem RowK.setR {rb ro : Nat} {a b : Option Nat} {w w1 : World} (h : RowK rb ro a b w w1) (v : Value) : RowK rb ro a b w (w1.setCell ⟨rb, ro + 1, none⟩ v) := by
  refine ⟨h.rest.set _ v (.inl rfl), fun o ho => ?_, fun o => ?_⟩
  · exact (World.cell?_setCell_other w1 _ _ _ (by intro e; simp only [Addr.mk.injEq] at e; exact ho e.2.1.symm)).trans (h.cells o ho)
  · exact (by simp : (w1.setCell ⟨rb, ro + 1, none⟩ v).frozen? ⟨rb, o, none⟩ = w1.frozen? ⟨rb, o, none⟩).trans (h.frz o)

set_option linter.unusedSimpArgs false in
set_option maxHeartbeats 4000000 in
set_option maxRecDepth 100000 in
theorem lessR (rb ro ob oo B : Nat) (p t : Int) (vl : Value) (xs : List Int) (r : Int) (vb : Value) (bs ys : List Int) (q : Int) (zs : List Int) (w : World) (h : RowSt w rb ro B vl xs r vb bs)
    (ho : ∀ w', RowK rb ro vl.ownBlock vb.ownBlock w w' → RowRd w' ob oo ys q zs) (hp : PrimeP p) (ht : 0 ≤ t ∧ t ≤ 3) (hxl : Low3 xs) (hyl : Low3 ys) (hbl : Low3 bs) (hzl : Low3 zs) (hr : 0 ≤ r ∧ r ≤ 2) (hq : 0 ≤ q ∧ q ≤ 2) (hl1 : xs.length = ys.length) (hl2 : bs.length = zs.length) (hB : B ≤ rb) (hn1 : xs.length ≤ 1000) (hn2 : bs.length ≤ 1000) :
    Calls Try.prog 141 #[.pointer (some ⟨rb, ro, none⟩), .pointer (some ⟨ob, oo, none⟩), .int .i64 t, .int .i64 p] w fun e w' => e = .returned (.tuple #[]) ∧ RowSt w' rb ro B vl (lessK p t xs ys xs.length) ((r - t * q) % p) vb (lessK p t bs zs bs.length) ∧ Below B w w' ∧ RowK rb ro vl.ownBlock vb.ownBlock w w' := by
  obtain ⟨la, lc, rfl⟩ : ∃ la lc, vl = .slice la xs.length lc := by obtain ⟨a, c, he, _⟩ := h.ownL.rowAt; exact ⟨a, c, he⟩
  obtain ⟨ba, bc, rfl⟩ : ∃ ba bc, vb = .slice ba bs.length bc := by obtain ⟨a, c, he, _⟩ := h.ownB.rowAt; exact ⟨a, c, he⟩
  have S0 := Lib.hid h
  have HO := Lib.hid ho
  have HP := Lib.hid hp
  have HT := Lib.hid ht
  have HXL := Lib.hid hxl
  have HYL := Lib.hid hyl
  have HXB := Lib.hid hbl
  have HYB := Lib.hid hzl
  have HLENL := Lib.hid hl1
  have HLENB := Lib.hid hl2
  clear h ho hxl hyl hbl hzl hl1 hl2 hp
  go_enter Try.func141, Try.ntmps141
  go_wp2
  go_loopw [8] (fun i wr => ∃ k : Nat, k ≤ xs.length ∧ i = .int .i64 k ∧ RowSt wr rb ro B (.slice la xs.length lc) (lessK p t xs ys k) r (.slice ba bs.length bc) bs ∧ Below B w wr ∧ RowK rb ro (Value.slice la xs.length lc).ownBlock (Value.slice ba bs.length bc).ownBlock w wr) (fun i _ => xs.length - (intOf i).toNat)
  case atStart => exact ⟨0, Nat.zero_le _, rfl, by rw [lessK_zero]; exact S0.out, Below.refl _ _, RowK.refl _ _ _ _ _⟩
  case round =>
    obtain ⟨k, hk, rfl, hst, hbl, hrs⟩ := hrel
    have HST := Lib.hid hst
    have HBL := Lib.hid hbl
    have HRS := Lib.hid hrs
    have HOR := Lib.hid (HO.out wr hrs)
    have hlf := hst.left
    clear hst hbl hrs
    by_cases hlt : k < xs.length
    · obtain ⟨g, rfl, hBg, hgs⟩ : ∃ g, la = some ⟨g, 0, none⟩ ∧ B ≤ g ∧ g < wr.heap.size := by
        rcases HST.out.ownL.rowIn with ⟨_, h0⟩ | ⟨g, c', hv, hB, hg, _, _⟩
        · have := congrArg List.length h0
          simp only [lessK_len, List.length_nil] at this
          omega
        · simp only [Value.slice.injEq] at hv
          exact ⟨g, hv.1, hB, hg⟩
      have HBG := Lib.hid hBg
      have hfr : wr.frozen? ⟨g, k, none⟩ = false := HST.out.ownL.free k
      have hx : wr.cell? ⟨g, k, none⟩ = some (.int .i64 (intN xs k)) := by
        have h := HST.out.ownL.cell_of k (by rw [lessK_len]; exact hlt)
        rwa [lessK_at _ _ _ _ _ _ hlt, if_neg (by omega)] at h
      obtain ⟨oa, oc, hoc, hor⟩ := HOR.out.left
      obtain ⟨b2, off2, rfl, hy⟩ : ∃ b2 off2, oa = some ⟨b2, off2, none⟩ ∧ wr.cell? ⟨b2, off2 + k, none⟩ = some (.int .i64 (intN ys k)) := by
        obtain ⟨a', c', hv, _, hc⟩ := hor
        simp only [Value.slice.injEq] at hv
        obtain ⟨rfl, _, rfl⟩ := hv
        obtain ⟨b2, off2, rfl, hcell⟩ := hc (by have := HLENL.out; omega)
        exact ⟨b2, off2, rfl, hcell k (by have := HLENL.out; omega)⟩
      have hxb := HXL.out k
      have hyb := HYL.out k
      obtain ⟨x, hxe⟩ : ∃ x, intN xs k = x := ⟨_, rfl⟩
      obtain ⟨y, hye⟩ : ∃ y, intN ys k = y := ⟨_, rfl⟩
      rw [hxe] at hx hxb
      rw [hye] at hy hyb
      have hmb := prodT HT.out hyb
      obtain ⟨z, hze⟩ : ∃ z, x - t * y = z := ⟨_, rfl⟩
      have HZ : Hid (-9 ≤ z ∧ z ≤ 100) := Lib.hid (by omega)
      have HZE : Hid ((intN xs k - t * intN ys k) % p = z % p) := Lib.hid (by rw [hxe, hye, hze])
      have hw1 : IntKind.i64.wrap (t * y) = t * y := IntWalk.i64_in _ (by omega)
      have hw2 : IntKind.i64.wrap (x - t * y) = z := by rw [hze]; exact IntWalk.i64_in _ (by have := HZ.out; omega)
      have hlt' : (k : Int) < (xs.length : Int) := by omega
      have hlt2 : (k : Int) < (ys.length : Int) := by have := HLENL.out; omega
      clear hor hxb hyb hxe hye hze hmb hgs hBg
      have d0 := hlf
      have d1 := hx
      have d2 := hoc
      have d3 := hy
      clear hlf hx hoc hy
      go_wp2
      refine wp_region_noPanic ?_
      refine wp_region_late (S := (fun w' => w'.cell? ⟨rb, ro, none⟩ = some (.slice (some ⟨g, 0, none⟩) xs.length lc) ∧ w'.cell? ⟨g, k, none⟩ = some (.int .i64 x) ∧ w'.cell? ⟨ob, oo, none⟩ = some (.slice (some ⟨b2, off2, none⟩) ys.length oc) ∧ w'.cell? ⟨b2, off2 + k, none⟩ = some (.int .i64 y))) [25] (by kernel_rfl) ?_ (fun hHeld => ?_)
      · exact ⟨d0, d1, d2, d3⟩
      refine wpAnyL_free (i := 0) (v := ?_) (some 19) rfl rfl (by kernel_rfl) (by kernel_rfl) (by kernel_rfl) (by decide) (fun _ _ _ h => h) (Or.inl ⟨by rfl, ?_⟩) (fun h0 => by assumption) ?_
      rotate_left
      · intro wS
        go_simp
        try with_reducible rfl
      try simp only [Act.put, List.setIfInBounds_toArray, List.set_cons_zero, List.set_cons_succ]
      refine wpAnyL_free (i := 1) (v := ?_) (some 20) rfl rfl (by kernel_rfl) (by kernel_rfl) (by kernel_rfl) (by decide) (fun _ _ _ h => h) (Or.inl ⟨by rfl, ?_⟩) (fun h0 => by assumption) ?_
      rotate_left
      · intro wS
        go_simp
        try with_reducible rfl
      try simp only [Act.put, List.setIfInBounds_toArray, List.set_cons_zero, List.set_cons_succ]
      refine wpAnyL_free (i := 2) (v := ?_) (some 21) rfl rfl (by kernel_rfl) (by kernel_rfl) (by kernel_rfl) (by decide) (fun _ _ _ h => h) (Or.inl ⟨by rfl, ?_⟩) (fun h0 => by assumption) ?_
      rotate_left
      · intro wS
        go_simp
        try with_reducible rfl
      try simp only [Act.put, List.setIfInBounds_toArray, List.set_cons_zero, List.set_cons_succ]
      refine wpAnyL_take (i := 3) (v := ?_) (some 22) rfl rfl (by kernel_rfl) (by kernel_rfl) (by kernel_rfl) (by kernel_rfl) (by kernel_rfl) (fun _ _ _ h => h) (Or.inl ⟨by rfl, ?_⟩) (by assumption) ?_
      rotate_left
      · intro wS hSw
        try dsimp only at hSw
        go_simp
        try with_reducible rfl
      try simp only [Act.put, List.setIfInBounds_toArray, List.set_cons_zero, List.set_cons_succ]
      refine wpAnyL_free (i := 4) (v := ?_) (some 23) rfl rfl (by kernel_rfl) (by kernel_rfl) (by kernel_rfl) (by decide) (fun _ _ _ h => h) (Or.inl ⟨by rfl, ?_⟩) (fun h0 => by assumption) ?_
      rotate_left
      · intro wS
        go_simp
        try with_reducible rfl
      try simp only [Act.put, List.setIfInBounds_toArray, List.set_cons_zero, List.set_cons_succ]
      refine wpAnyL_free (i := 5) (v := ?_) (some 24) rfl rfl (by kernel_rfl) (by kernel_rfl) (by kernel_rfl) (by decide) (fun _ _ _ h => h) (Or.inl ⟨by rfl, ?_⟩) (fun h0 => by assumption) ?_
      rotate_left
      · intro wS
        go_simp
        try with_reducible rfl
      try simp only [Act.put, List.setIfInBounds_toArray, List.set_cons_zero, List.set_cons_succ]
      refine wpAnyL_free (i := 6) (v := ?_) (some 25) rfl rfl (by kernel_rfl) (by kernel_rfl) (by kernel_rfl) (by decide) (fun _ _ _ h => h) (Or.inl ⟨by rfl, ?_⟩) (fun h0 => by assumption) ?_
      rotate_left
      · intro wS
        go_simp
        try with_reducible rfl
      try simp only [Act.put, List.setIfInBounds_toArray, List.set_cons_zero, List.set_cons_succ]
      refine wpAnyL_free (i := 7) (v := ?_) (some 26) rfl rfl (by kernel_rfl) (by kernel_rfl) (by kernel_rfl) (by decide) (fun _ _ _ h => h) (Or.inl ⟨by rfl, ?_⟩) (fun h0 => by assumption) ?_
      rotate_left
      · intro wS
        go_simp
        try with_reducible rfl
      try simp only [Act.put, List.setIfInBounds_toArray, List.set_cons_zero, List.set_cons_succ]
      refine wpAnyL_take (i := 8) (v := ?_) (some 27) rfl rfl (by kernel_rfl) (by kernel_rfl) (by kernel_rfl) (by kernel_rfl) (by kernel_rfl) (fun _ _ _ h => h) (Or.inl ⟨by rfl, ?_⟩) (by assumption) ?_
      rotate_left
      · intro wS hSw
        try dsimp only at hSw
        go_simp
        try with_reducible rfl
      try simp only [Act.put, List.setIfInBounds_toArray, List.set_cons_zero, List.set_cons_succ]
      refine wpAnyL_free (i := 9) (v := ?_) (some 28) rfl rfl (by kernel_rfl) (by kernel_rfl) (by kernel_rfl) (by decide) (fun _ _ _ h => h) (Or.inl ⟨by rfl, ?_⟩) (fun h0 => by assumption) ?_
      rotate_left
      · intro wS
        go_simp
        try with_reducible rfl
      try simp only [Act.put, List.setIfInBounds_toArray, List.set_cons_zero, List.set_cons_succ]
      refine wpAnyL_free (i := 10) (v := ?_) (some 29) rfl rfl (by kernel_rfl) (by kernel_rfl) (by kernel_rfl) (by decide) (fun _ _ _ h => h) (Or.inl ⟨by rfl, ?_⟩) (fun h0 => by assumption) ?_
      rotate_left
      · intro wS
        go_simp
        try with_reducible rfl
      try simp only [Act.put, List.setIfInBounds_toArray, List.set_cons_zero, List.set_cons_succ]
      refine wpAnyL_take (i := 11) (v := ?_) (some 30) rfl rfl (by kernel_rfl) (by kernel_rfl) (by kernel_rfl) (by kernel_rfl) (by kernel_rfl) (fun _ _ _ h => h) (Or.inl ⟨by rfl, ?_⟩) (by assumption) ?_
      rotate_left
      · intro wS hSw
        try dsimp only at hSw
        go_simp
        try with_reducible rfl
      try simp only [Act.put, List.setIfInBounds_toArray, List.set_cons_zero, List.set_cons_succ]
      refine wpAnyL_free (i := 12) (v := ?_) (some 31) rfl rfl (by kernel_rfl) (by kernel_rfl) (by kernel_rfl) (by decide) (fun _ _ _ h => h) (Or.inl ⟨by rfl, ?_⟩) (fun h0 => by assumption) ?_
      rotate_left
      · intro wS
        go_simp
        try with_reducible rfl
      try simp only [Act.put, List.setIfInBounds_toArray, List.set_cons_zero, List.set_cons_succ]
      refine wpAnyL_free (i := 13) (v := ?_) (some 32) rfl rfl (by kernel_rfl) (by kernel_rfl) (by kernel_rfl) (by decide) (fun _ _ _ h => h) (Or.inl ⟨by rfl, ?_⟩) (fun h0 => by assumption) ?_
      rotate_left
      · intro wS
        go_simp
        try with_reducible rfl
      try simp only [Act.put, List.setIfInBounds_toArray, List.set_cons_zero, List.set_cons_succ]
      refine wpAnyL_free (i := 14) (v := ?_) (some 33) rfl rfl (by kernel_rfl) (by kernel_rfl) (by kernel_rfl) (by decide) (fun _ _ _ h => h) (Or.inl ⟨by rfl, ?_⟩) (fun h0 => by assumption) ?_
      rotate_left
      · intro wS
        go_simp
        try with_reducible rfl
      try simp only [Act.put, List.setIfInBounds_toArray, List.set_cons_zero, List.set_cons_succ]
      refine wpAnyL_free (i := 15) (v := ?_) (some 34) rfl rfl (by kernel_rfl) (by kernel_rfl) (by kernel_rfl) (by decide) (fun _ _ _ h => h) (Or.inl ⟨by rfl, ?_⟩) (fun h0 => by assumption) ?_
      rotate_left
      · intro wS
        go_simp
        try with_reducible rfl
      try simp only [Act.put, List.setIfInBounds_toArray, List.set_cons_zero, List.set_cons_succ]
      refine wpAnyL_take (i := 16) (v := ?_) (some 35) rfl rfl (by kernel_rfl) (by kernel_rfl) (by kernel_rfl) (by kernel_rfl) (by kernel_rfl) (fun _ _ _ h => h) (Or.inl ⟨by rfl, ?_⟩) (by assumption) ?_
      rotate_left
      · intro wS hSw
        try dsimp only at hSw
        go_simp
        try with_reducible rfl
      try simp only [Act.put, List.setIfInBounds_toArray, List.set_cons_zero, List.set_cons_succ]
      refine wpAnyL_free (i := 17) (v := ?_) (some 36) rfl rfl (by kernel_rfl) (by kernel_rfl) (by kernel_rfl) (by decide) (fun _ _ _ h => h) (Or.inl ⟨by rfl, ?_⟩) (fun h0 => by assumption) ?_
      rotate_left
      · intro wS
        go_simp
        try with_reducible rfl
      try simp only [Act.put, List.setIfInBounds_toArray, List.set_cons_zero, List.set_cons_succ]
      refine wpAnyL_free (i := 18) (v := ?_) (some 37) rfl rfl (by kernel_rfl) (by kernel_rfl) (by kernel_rfl) (by decide) (fun _ _ _ h => h) (Or.inl ⟨by rfl, ?_⟩) (fun h0 => by assumption) ?_
      rotate_left
      · intro wS
        go_simp
        try with_reducible rfl
      try simp only [Act.put, List.setIfInBounds_toArray, List.set_cons_zero, List.set_cons_succ]
      refine wpAnyL_take (i := 19) (v := ?_) (some 38) rfl rfl (by kernel_rfl) (by kernel_rfl) (by kernel_rfl) (by kernel_rfl) (by kernel_rfl) (fun _ _ _ h => h) (Or.inl ⟨by rfl, ?_⟩) (by assumption) ?_
      rotate_left
      · intro wS hSw
        try dsimp only at hSw
        go_simp
        try with_reducible rfl
      try simp only [Act.put, List.setIfInBounds_toArray, List.set_cons_zero, List.set_cons_succ]
      refine wpAnyL_free (i := 20) (v := ?_) (some 39) rfl rfl (by kernel_rfl) (by kernel_rfl) (by kernel_rfl) (by decide) (fun _ _ _ h => h) (Or.inl ⟨by rfl, ?_⟩) (fun h0 => by assumption) ?_
      rotate_left
      · intro wS
        go_simp
        try with_reducible rfl
      try simp only [Act.put, List.setIfInBounds_toArray, List.set_cons_zero, List.set_cons_succ]
      refine wpAnyL_free (i := 21) (v := ?_) (some 40) rfl rfl (by kernel_rfl) (by kernel_rfl) (by kernel_rfl) (by decide) (fun _ _ _ h => h) (Or.inl ⟨by rfl, ?_⟩) (fun h0 => by assumption) ?_
      rotate_left
      · intro wS
        go_simp
        try with_reducible rfl
      try simp only [Act.put, List.setIfInBounds_toArray, List.set_cons_zero, List.set_cons_succ]
      refine wpAnyL_free (i := 22) (v := ?_) (some 41) rfl rfl (by kernel_rfl) (by kernel_rfl) (by kernel_rfl) (by decide) (fun _ _ _ h => h) (Or.inl ⟨by rfl, ?_⟩) (fun h0 => by assumption) ?_
      rotate_left
      · intro wS
        go_simp
        try with_reducible rfl
      try simp only [Act.put, List.setIfInBounds_toArray, List.set_cons_zero, List.set_cons_succ]
      refine wpAnyL_ready (rs := [23]) (by kernel_rfl) (by simp) ?_
      refine AllReadyL.cons rfl (fun K hK => ?_) AllReadyL.nil
      go_simp; go_at_call 189; refine (l07ModP p z HP.out HZ.out _).mono ?_; rintro e w5 ⟨rfl, rfl⟩
      refine hK.out _ _ ?_ (fun hHeld => ?_)
      · exact hHeld
      clear hK K
      try simp only [Act.put, List.setIfInBounds_toArray, List.set_cons_zero, List.set_cons_succ]
      refine wpAnyL_free (i := 24) (v := ?_) (some 43) rfl rfl (by kernel_rfl) (by kernel_rfl) (by kernel_rfl) (by decide) (fun _ _ _ h => h) (Or.inl ⟨by rfl, ?_⟩) (fun h0 => by assumption) ?_
      rotate_left
      · intro wS
        go_simp
        try with_reducible rfl
      try simp only [Act.put, List.setIfInBounds_toArray, List.set_cons_zero, List.set_cons_succ]
      refine wpAnyL_ready (rs := [25]) (by kernel_rfl) (by simp) ?_
      refine AllReadyL.last rfl (by kernel_rfl) (fun K hK => ?_) AllReadyL.nil
      go_simp
      refine hK.out _ _ ?_
      clear hK K
      try simp only [Act.put, List.setIfInBounds_toArray, List.set_cons_zero, List.set_cons_succ]
      refine wpAnyL_done (by kernel_rfl) ?_ _
      refine NoPanic.normal ?_
      clear hHeld d0 d1 d2 d3
      have HST2 := Lib.hid (HST.out.setL k ((intN xs k - t * intN ys k) % p))
      go_wp2
      go_roundw
      case rel => exact ⟨k + 1, by omega, by go_num, by have h := HST2.out; rw [lessK_set, HZE.out] at h; exact h.drewN 1, (HBL.out.setCell (by show B ≤ g; exact HBG.out) _).drew, (HRS.out.setL _ _ (by exact .inl rfl) (by intro e; exact HST.out.neL (by have e' : g = rb := e; simp [Value.ownBlock, e']))).drewN 1⟩
      case measure => simp [intOf]; omega
    · obtain rfl : k = xs.length := by omega
      have d0 := HST.out.right
      have hfr := HST.out.free
      have d1 := HOR.out.right
      have hmb := prodT HT.out hq
      obtain ⟨z, hze⟩ : ∃ z, r - t * q = z := ⟨_, rfl⟩
      have HZ : Hid (-9 ≤ z ∧ z ≤ 100) := Lib.hid (by omega)
      have hw1 : IntKind.i64.wrap (t * q) = t * q := IntWalk.i64_in _ (by omega)
      have hw2 : IntKind.i64.wrap (r - t * q) = z := by rw [hze]; exact IntWalk.i64_in _ (by have := HZ.out; omega)
      have HZR := Lib.hid hze
      clear hze hmb
      go_wp2
      refine wp_region_noPanic ?_
      refine wp_region_late (S := (fun w' => w'.cell? ⟨rb, ro + 1, none⟩ = some (.int .i64 r) ∧ w'.cell? ⟨ob, oo + 1, none⟩ = some (.int .i64 q))) [16] (by kernel_rfl) ?_ (fun hHeld => ?_)
      · exact ⟨d0, d1⟩
      refine wpAnyL_free (i := 0) (v := ?_) (some 44) rfl rfl (by kernel_rfl) (by kernel_rfl) (by kernel_rfl) (by decide) (fun _ _ _ h => h) (Or.inl ⟨by rfl, ?_⟩) (fun h0 => by assumption) ?_
      rotate_left
      · intro wS
        go_simp
        try with_reducible rfl
      try simp only [Act.put, List.setIfInBounds_toArray, List.set_cons_zero, List.set_cons_succ]
      refine wpAnyL_free (i := 1) (v := ?_) (some 45) rfl rfl (by kernel_rfl) (by kernel_rfl) (by kernel_rfl) (by decide) (fun _ _ _ h => h) (Or.inl ⟨by rfl, ?_⟩) (fun h0 => by assumption) ?_
      rotate_left
      · intro wS
        go_simp
        try with_reducible rfl
      try simp only [Act.put, List.setIfInBounds_toArray, List.set_cons_zero, List.set_cons_succ]
      refine wpAnyL_free (i := 2) (v := ?_) (some 46) rfl rfl (by kernel_rfl) (by kernel_rfl) (by kernel_rfl) (by decide) (fun _ _ _ h => h) (Or.inl ⟨by rfl, ?_⟩) (fun h0 => by assumption) ?_
      rotate_left
      · intro wS
        go_simp
        try with_reducible rfl
      try simp only [Act.put, List.setIfInBounds_toArray, List.set_cons_zero, List.set_cons_succ]
      refine wpAnyL_free (i := 3) (v := ?_) (some 47) rfl rfl (by kernel_rfl) (by kernel_rfl) (by kernel_rfl) (by decide) (fun _ _ _ h => h) (Or.inl ⟨by rfl, ?_⟩) (fun h0 => by assumption) ?_
      rotate_left
      · intro wS
        go_simp
        try with_reducible rfl
      try simp only [Act.put, List.setIfInBounds_toArray, List.set_cons_zero, List.set_cons_succ]
      refine wpAnyL_take (i := 4) (v := ?_) (some 48) rfl rfl (by kernel_rfl) (by kernel_rfl) (by kernel_rfl) (by kernel_rfl) (by kernel_rfl) (fun _ _ _ h => h) (Or.inl ⟨by rfl, ?_⟩) (by assumption) ?_
      rotate_left
      · intro wS hSw
        try dsimp only at hSw
        go_simp
        try with_reducible rfl
      try simp only [Act.put, List.setIfInBounds_toArray, List.set_cons_zero, List.set_cons_succ]
      refine wpAnyL_free (i := 5) (v := ?_) (some 49) rfl rfl (by kernel_rfl) (by kernel_rfl) (by kernel_rfl) (by decide) (fun _ _ _ h => h) (Or.inl ⟨by rfl, ?_⟩) (fun h0 => by assumption) ?_
      rotate_left
      · intro wS
        go_simp
        try with_reducible rfl
      try simp only [Act.put, List.setIfInBounds_toArray, List.set_cons_zero, List.set_cons_succ]
      refine wpAnyL_free (i := 6) (v := ?_) (some 50) rfl rfl (by kernel_rfl) (by kernel_rfl) (by kernel_rfl) (by decide) (fun _ _ _ h => h) (Or.inl ⟨by rfl, ?_⟩) (fun h0 => by assumption) ?_
      rotate_left
      · intro wS
        go_simp
        try with_reducible rfl
      try simp only [Act.put, List.setIfInBounds_toArray, List.set_cons_zero, List.set_cons_succ]
      refine wpAnyL_free (i := 7) (v := ?_) (some 51) rfl rfl (by kernel_rfl) (by kernel_rfl) (by kernel_rfl) (by decide) (fun _ _ _ h => h) (Or.inl ⟨by rfl, ?_⟩) (fun h0 => by assumption) ?_
      rotate_left
      · intro wS
        go_simp
        try with_reducible rfl
      try simp only [Act.put, List.setIfInBounds_toArray, List.set_cons_zero, List.set_cons_succ]
      refine wpAnyL_free (i := 8) (v := ?_) (some 52) rfl rfl (by kernel_rfl) (by kernel_rfl) (by kernel_rfl) (by decide) (fun _ _ _ h => h) (Or.inl ⟨by rfl, ?_⟩) (fun h0 => by assumption) ?_
      rotate_left
      · intro wS
        go_simp
        try with_reducible rfl
      try simp only [Act.put, List.setIfInBounds_toArray, List.set_cons_zero, List.set_cons_succ]
      refine wpAnyL_take (i := 9) (v := ?_) (some 53) rfl rfl (by kernel_rfl) (by kernel_rfl) (by kernel_rfl) (by kernel_rfl) (by kernel_rfl) (fun _ _ _ h => h) (Or.inl ⟨by rfl, ?_⟩) (by assumption) ?_
      rotate_left
      · intro wS hSw
        try dsimp only at hSw
        go_simp
        try with_reducible rfl
      try simp only [Act.put, List.setIfInBounds_toArray, List.set_cons_zero, List.set_cons_succ]
      refine wpAnyL_free (i := 10) (v := ?_) (some 54) rfl rfl (by kernel_rfl) (by kernel_rfl) (by kernel_rfl) (by decide) (fun _ _ _ h => h) (Or.inl ⟨by rfl, ?_⟩) (fun h0 => by assumption) ?_
      rotate_left
      · intro wS
        go_simp
        try with_reducible rfl
      try simp only [Act.put, List.setIfInBounds_toArray, List.set_cons_zero, List.set_cons_succ]
      refine wpAnyL_free (i := 11) (v := ?_) (some 55) rfl rfl (by kernel_rfl) (by kernel_rfl) (by kernel_rfl) (by decide) (fun _ _ _ h => h) (Or.inl ⟨by rfl, ?_⟩) (fun h0 => by assumption) ?_
      rotate_left
      · intro wS
        go_simp
        try with_reducible rfl
      try simp only [Act.put, List.setIfInBounds_toArray, List.set_cons_zero, List.set_cons_succ]
      refine wpAnyL_free (i := 12) (v := ?_) (some 56) rfl rfl (by kernel_rfl) (by kernel_rfl) (by kernel_rfl) (by decide) (fun _ _ _ h => h) (Or.inl ⟨by rfl, ?_⟩) (fun h0 => by assumption) ?_
      rotate_left
      · intro wS
        go_simp
        try with_reducible rfl
      try simp only [Act.put, List.setIfInBounds_toArray, List.set_cons_zero, List.set_cons_succ]
      refine wpAnyL_ready (rs := [13]) (by kernel_rfl) (by simp) ?_
      refine AllReadyL.cons rfl (fun K hK => ?_) AllReadyL.nil
      go_simp; go_at_call 189; refine (l07ModP p z HP.out HZ.out _).mono ?_; rintro e w5 ⟨rfl, rfl⟩
      refine hK.out _ _ ?_ (fun hHeld => ?_)
      · exact hHeld
      clear hK K
      try simp only [Act.put, List.setIfInBounds_toArray, List.set_cons_zero, List.set_cons_succ]
      refine wpAnyL_free (i := 14) (v := ?_) (some 58) rfl rfl (by kernel_rfl) (by kernel_rfl) (by kernel_rfl) (by decide) (fun _ _ _ h => h) (Or.inl ⟨by rfl, ?_⟩) (fun h0 => by assumption) ?_
      rotate_left
      · intro wS
        go_simp
        try with_reducible rfl
      try simp only [Act.put, List.setIfInBounds_toArray, List.set_cons_zero, List.set_cons_succ]
      refine wpAnyL_free (i := 15) (v := ?_) (some 59) rfl rfl (by kernel_rfl) (by kernel_rfl) (by kernel_rfl) (by decide) (fun _ _ _ h => h) (Or.inl ⟨by rfl, ?_⟩) (fun h0 => by assumption) ?_
      rotate_left
      · intro wS
        go_simp
        try with_reducible rfl
      try simp only [Act.put, List.setIfInBounds_toArray, List.set_cons_zero, List.set_cons_succ]
      refine wpAnyL_ready (rs := [16]) (by kernel_rfl) (by simp) ?_
      refine AllReadyL.last rfl (by kernel_rfl) (fun K hK => ?_) AllReadyL.nil
      go_simp
      refine hK.out _ _ ?_
      clear hK K
      try simp only [Act.put, List.setIfInBounds_toArray, List.set_cons_zero, List.set_cons_succ]
      refine wpAnyL_done (by kernel_rfl) ?_ _
      refine NoPanic.normal ?_
      have HST2 := Lib.hid (HST.out.setR (z % p))
      have HZE : Hid ((r - t * q) % p = z % p) := Lib.hid (by rw [HZR.out])
      clear hHeld d0 d1
      obtain ⟨w9, hw9⟩ : ∃ w9, (wr.setCell ⟨rb, ro + 1, none⟩ (.int .i64 (z % p))).drew = w9 := ⟨_, rfl⟩
      have S1 : Hid (RowSt w9 rb ro B (.slice la xs.length lc) (lessK p t xs ys xs.length) ((r - t * q) % p) (.slice ba bs.length bc) bs) := Lib.hid (by rw [← hw9, HZE.out]; exact HST2.out.drewN 1)
      have B1 : Hid (Below B w w9) := Lib.hid (by rw [← hw9]; exact (HBL.out.setCell (by show B ≤ rb; exact hB) _).drew)
      have R1 : Hid (RowK rb ro (Value.slice la xs.length lc).ownBlock (Value.slice ba bs.length bc).ownBlock w w9) := Lib.hid (by rw [← hw9]; exact (HRS.out.setR _).drewN 1)
      rw [show (wr.setCell ⟨rb, ro + 1, none⟩ (.int .i64 (z % p))).drew = w9 from hw9]
      clear hw9 HST HBL HRS HST2 HOR
      go_wp2
      go_loopw [9] (fun i wr => ∃ k : Nat, k ≤ bs.length ∧ i = .int .i64 k ∧ RowSt wr rb ro B (.slice la xs.length lc) (lessK p t xs ys xs.length) ((r - t * q) % p) (.slice ba bs.length bc) (lessK p t bs zs k) ∧ Below B w wr ∧ RowK rb ro (Value.slice la xs.length lc).ownBlock (Value.slice ba bs.length bc).ownBlock w wr) (fun i _ => bs.length - (intOf i).toNat)
      case atStart => exact ⟨0, Nat.zero_le _, rfl, by rw [lessK_zero]; exact S1.out, B1.out, R1.out⟩
      case round =>
        obtain ⟨k, hk, rfl, hst, hbl, hrs⟩ := hrel
        have HST := Lib.hid hst
        have HBL := Lib.hid hbl
        have HRS := Lib.hid hrs
        have HOR := Lib.hid (HO.out wr hrs)
        have hlf := hst.by_
        clear hst hbl hrs
        by_cases hlt : k < bs.length
        · obtain ⟨g, rfl, hBg, hgs⟩ : ∃ g, ba = some ⟨g, 0, none⟩ ∧ B ≤ g ∧ g < wr.heap.size := by
            rcases HST.out.ownB.rowIn with ⟨_, h0⟩ | ⟨g, c', hv, hB, hg, _, _⟩
            · have := congrArg List.length h0
              simp only [lessK_len, List.length_nil] at this
              omega
            · simp only [Value.slice.injEq] at hv
              exact ⟨g, hv.1, hB, hg⟩
          have HBG := Lib.hid hBg
          have hfr : wr.frozen? ⟨g, k, none⟩ = false := HST.out.ownB.free k
          have hx : wr.cell? ⟨g, k, none⟩ = some (.int .i64 (intN bs k)) := by
            have h := HST.out.ownB.cell_of k (by rw [lessK_len]; exact hlt)
            rwa [lessK_at _ _ _ _ _ _ hlt, if_neg (by omega)] at h
          obtain ⟨oa, oc, hoc, hor⟩ := HOR.out.by_
          obtain ⟨b2, off2, rfl, hy⟩ : ∃ b2 off2, oa = some ⟨b2, off2, none⟩ ∧ wr.cell? ⟨b2, off2 + k, none⟩ = some (.int .i64 (intN zs k)) := by
            obtain ⟨a', c', hv, _, hc⟩ := hor
            simp only [Value.slice.injEq] at hv
            obtain ⟨rfl, _, rfl⟩ := hv
            obtain ⟨b2, off2, rfl, hcell⟩ := hc (by have := HLENB.out; omega)
            exact ⟨b2, off2, rfl, hcell k (by have := HLENB.out; omega)⟩
          have hxb := HXB.out k
          have hyb := HYB.out k
          obtain ⟨x, hxe⟩ : ∃ x, intN bs k = x := ⟨_, rfl⟩
          obtain ⟨y, hye⟩ : ∃ y, intN zs k = y := ⟨_, rfl⟩
          rw [hxe] at hx hxb
          rw [hye] at hy hyb
          have hmb := prodT HT.out hyb
          obtain ⟨z, hze⟩ : ∃ z, x - t * y = z := ⟨_, rfl⟩
          have HZ : Hid (-9 ≤ z ∧ z ≤ 100) := Lib.hid (by omega)
          have HZE : Hid ((intN bs k - t * intN zs k) % p = z % p) := Lib.hid (by rw [hxe, hye, hze])
          have hw1 : IntKind.i64.wrap (t * y) = t * y := IntWalk.i64_in _ (by omega)
          have hw2 : IntKind.i64.wrap (x - t * y) = z := by rw [hze]; exact IntWalk.i64_in _ (by have := HZ.out; omega)
          have hlt' : (k : Int) < (bs.length : Int) := by omega
          have hlt2 : (k : Int) < (zs.length : Int) := by have := HLENB.out; omega
          clear hor hxb hyb hxe hye hze hmb hgs hBg
          have d0 := hlf
          have d1 := hx
          have d2 := hoc
          have d3 := hy
          clear hlf hx hoc hy
          go_wp2
          refine wp_region_noPanic ?_
          refine wp_region_late (S := (fun w' => w'.cell? ⟨rb, ro + 2, none⟩ = some (.slice (some ⟨g, 0, none⟩) bs.length bc) ∧ w'.cell? ⟨g, k, none⟩ = some (.int .i64 x) ∧ w'.cell? ⟨ob, oo + 2, none⟩ = some (.slice (some ⟨b2, off2, none⟩) zs.length oc) ∧ w'.cell? ⟨b2, off2 + k, none⟩ = some (.int .i64 y))) [25] (by kernel_rfl) ?_ (fun hHeld => ?_)
          · exact ⟨d0, d1, d2, d3⟩
          refine wpAnyL_free (i := 0) (v := ?_) (some 69) rfl rfl (by kernel_rfl) (by kernel_rfl) (by kernel_rfl) (by decide) (fun _ _ _ h => h) (Or.inl ⟨by rfl, ?_⟩) (fun h0 => by assumption) ?_
          rotate_left
          · intro wS
            go_simp
            try with_reducible rfl
          try simp only [Act.put, List.setIfInBounds_toArray, List.set_cons_zero, List.set_cons_succ]
          refine wpAnyL_free (i := 1) (v := ?_) (some 70) rfl rfl (by kernel_rfl) (by kernel_rfl) (by kernel_rfl) (by decide) (fun _ _ _ h => h) (Or.inl ⟨by rfl, ?_⟩) (fun h0 => by assumption) ?_
          rotate_left
          · intro wS
            go_simp
            try with_reducible rfl
          try simp only [Act.put, List.setIfInBounds_toArray, List.set_cons_zero, List.set_cons_succ]
          refine wpAnyL_free (i := 2) (v := ?_) (some 71) rfl rfl (by kernel_rfl) (by kernel_rfl) (by kernel_rfl) (by decide) (fun _ _ _ h => h) (Or.inl ⟨by rfl, ?_⟩) (fun h0 => by assumption) ?_
          rotate_left
          · intro wS
            go_simp
            try with_reducible rfl
          try simp only [Act.put, List.setIfInBounds_toArray, List.set_cons_zero, List.set_cons_succ]
          refine wpAnyL_take (i := 3) (v := ?_) (some 72) rfl rfl (by kernel_rfl) (by kernel_rfl) (by kernel_rfl) (by kernel_rfl) (by kernel_rfl) (fun _ _ _ h => h) (Or.inl ⟨by rfl, ?_⟩) (by assumption) ?_
          rotate_left
          · intro wS hSw
            try dsimp only at hSw
            go_simp
            try with_reducible rfl
          try simp only [Act.put, List.setIfInBounds_toArray, List.set_cons_zero, List.set_cons_succ]
          refine wpAnyL_free (i := 4) (v := ?_) (some 73) rfl rfl (by kernel_rfl) (by kernel_rfl) (by kernel_rfl) (by decide) (fun _ _ _ h => h) (Or.inl ⟨by rfl, ?_⟩) (fun h0 => by assumption) ?_
          rotate_left
          · intro wS
            go_simp
            try with_reducible rfl
          try simp only [Act.put, List.setIfInBounds_toArray, List.set_cons_zero, List.set_cons_succ]
          refine wpAnyL_free (i := 5) (v := ?_) (some 74) rfl rfl (by kernel_rfl) (by kernel_rfl) (by kernel_rfl) (by decide) (fun _ _ _ h => h) (Or.inl ⟨by rfl, ?_⟩) (fun h0 => by assumption) ?_
          rotate_left
          · intro wS
            go_simp
            try with_reducible rfl
          try simp only [Act.put, List.setIfInBounds_toArray, List.set_cons_zero, List.set_cons_succ]
          refine wpAnyL_free (i := 6) (v := ?_) (some 75) rfl rfl (by kernel_rfl) (by kernel_rfl) (by kernel_rfl) (by decide) (fun _ _ _ h => h) (Or.inl ⟨by rfl, ?_⟩) (fun h0 => by assumption) ?_
          rotate_left
          · intro wS
            go_simp
            try with_reducible rfl
          try simp only [Act.put, List.setIfInBounds_toArray, List.set_cons_zero, List.set_cons_succ]
          refine wpAnyL_free (i := 7) (v := ?_) (some 76) rfl rfl (by kernel_rfl) (by kernel_rfl) (by kernel_rfl) (by decide) (fun _ _ _ h => h) (Or.inl ⟨by rfl, ?_⟩) (fun h0 => by assumption) ?_
          rotate_left
          · intro wS
            go_simp
            try with_reducible rfl
          try simp only [Act.put, List.setIfInBounds_toArray, List.set_cons_zero, List.set_cons_succ]
          refine wpAnyL_take (i := 8) (v := ?_) (some 77) rfl rfl (by kernel_rfl) (by kernel_rfl) (by kernel_rfl) (by kernel_rfl) (by kernel_rfl) (fun _ _ _ h => h) (Or.inl ⟨by rfl, ?_⟩) (by assumption) ?_
          rotate_left
          · intro wS hSw
            try dsimp only at hSw
            go_simp
            try with_reducible rfl
          try simp only [Act.put, List.setIfInBounds_toArray, List.set_cons_zero, List.set_cons_succ]
          refine wpAnyL_free (i := 9) (v := ?_) (some 78) rfl rfl (by kernel_rfl) (by kernel_rfl) (by kernel_rfl) (by decide) (fun _ _ _ h => h) (Or.inl ⟨by rfl, ?_⟩) (fun h0 => by assumption) ?_
          rotate_left
          · intro wS
            go_simp
            try with_reducible rfl
          try simp only [Act.put, List.setIfInBounds_toArray, List.set_cons_zero, List.set_cons_succ]
          refine wpAnyL_free (i := 10) (v := ?_) (some 79) rfl rfl (by kernel_rfl) (by kernel_rfl) (by kernel_rfl) (by decide) (fun _ _ _ h => h) (Or.inl ⟨by rfl, ?_⟩) (fun h0 => by assumption) ?_
          rotate_left
          · intro wS
            go_simp
            try with_reducible rfl
          try simp only [Act.put, List.setIfInBounds_toArray, List.set_cons_zero, List.set_cons_succ]
          refine wpAnyL_take (i := 11) (v := ?_) (some 80) rfl rfl (by kernel_rfl) (by kernel_rfl) (by kernel_rfl) (by kernel_rfl) (by kernel_rfl) (fun _ _ _ h => h) (Or.inl ⟨by rfl, ?_⟩) (by assumption) ?_
          rotate_left
          · intro wS hSw
            try dsimp only at hSw
            go_simp
            try with_reducible rfl
          try simp only [Act.put, List.setIfInBounds_toArray, List.set_cons_zero, List.set_cons_succ]
          refine wpAnyL_free (i := 12) (v := ?_) (some 81) rfl rfl (by kernel_rfl) (by kernel_rfl) (by kernel_rfl) (by decide) (fun _ _ _ h => h) (Or.inl ⟨by rfl, ?_⟩) (fun h0 => by assumption) ?_
          rotate_left
          · intro wS
            go_simp
            try with_reducible rfl
          try simp only [Act.put, List.setIfInBounds_toArray, List.set_cons_zero, List.set_cons_succ]
          refine wpAnyL_free (i := 13) (v := ?_) (some 82) rfl rfl (by kernel_rfl) (by kernel_rfl) (by kernel_rfl) (by decide) (fun _ _ _ h => h) (Or.inl ⟨by rfl, ?_⟩) (fun h0 => by assumption) ?_
          rotate_left
          · intro wS
            go_simp
            try with_reducible rfl
          try simp only [Act.put, List.setIfInBounds_toArray, List.set_cons_zero, List.set_cons_succ]
          refine wpAnyL_free (i := 14) (v := ?_) (some 83) rfl rfl (by kernel_rfl) (by kernel_rfl) (by kernel_rfl) (by decide) (fun _ _ _ h => h) (Or.inl ⟨by rfl, ?_⟩) (fun h0 => by assumption) ?_
          rotate_left
          · intro wS
            go_simp
            try with_reducible rfl
          try simp only [Act.put, List.setIfInBounds_toArray, List.set_cons_zero, List.set_cons_succ]
          refine wpAnyL_free (i := 15) (v := ?_) (some 84) rfl rfl (by kernel_rfl) (by kernel_rfl) (by kernel_rfl) (by decide) (fun _ _ _ h => h) (Or.inl ⟨by rfl, ?_⟩) (fun h0 => by assumption) ?_
          rotate_left
          · intro wS
            go_simp
            try with_reducible rfl
          try simp only [Act.put, List.setIfInBounds_toArray, List.set_cons_zero, List.set_cons_succ]
          refine wpAnyL_take (i := 16) (v := ?_) (some 85) rfl rfl (by kernel_rfl) (by kernel_rfl) (by kernel_rfl) (by kernel_rfl) (by kernel_rfl) (fun _ _ _ h => h) (Or.inl ⟨by rfl, ?_⟩) (by assumption) ?_
          rotate_left
          · intro wS hSw
            try dsimp only at hSw
            go_simp
            try with_reducible rfl
          try simp only [Act.put, List.setIfInBounds_toArray, List.set_cons_zero, List.set_cons_succ]
          refine wpAnyL_free (i := 17) (v := ?_) (some 86) rfl rfl (by kernel_rfl) (by kernel_rfl) (by kernel_rfl) (by decide) (fun _ _ _ h => h) (Or.inl ⟨by rfl, ?_⟩) (fun h0 => by assumption) ?_
          rotate_left
          · intro wS
            go_simp
            try with_reducible rfl
          try simp only [Act.put, List.setIfInBounds_toArray, List.set_cons_zero, List.set_cons_succ]
          refine wpAnyL_free (i := 18) (v := ?_) (some 87) rfl rfl (by kernel_rfl) (by kernel_rfl) (by kernel_rfl) (by decide) (fun _ _ _ h => h) (Or.inl ⟨by rfl, ?_⟩) (fun h0 => by assumption) ?_
          rotate_left
          · intro wS
            go_simp
            try with_reducible rfl
          try simp only [Act.put, List.setIfInBounds_toArray, List.set_cons_zero, List.set_cons_succ]
          refine wpAnyL_take (i := 19) (v := ?_) (some 88) rfl rfl (by kernel_rfl) (by kernel_rfl) (by kernel_rfl) (by kernel_rfl) (by kernel_rfl) (fun _ _ _ h => h) (Or.inl ⟨by rfl, ?_⟩) (by assumption) ?_
          rotate_left
          · intro wS hSw
            try dsimp only at hSw
            go_simp
            try with_reducible rfl
          try simp only [Act.put, List.setIfInBounds_toArray, List.set_cons_zero, List.set_cons_succ]
          refine wpAnyL_free (i := 20) (v := ?_) (some 89) rfl rfl (by kernel_rfl) (by kernel_rfl) (by kernel_rfl) (by decide) (fun _ _ _ h => h) (Or.inl ⟨by rfl, ?_⟩) (fun h0 => by assumption) ?_
          rotate_left
          · intro wS
            go_simp
            try with_reducible rfl
          try simp only [Act.put, List.setIfInBounds_toArray, List.set_cons_zero, List.set_cons_succ]
          refine wpAnyL_free (i := 21) (v := ?_) (some 90) rfl rfl (by kernel_rfl) (by kernel_rfl) (by kernel_rfl) (by decide) (fun _ _ _ h => h) (Or.inl ⟨by rfl, ?_⟩) (fun h0 => by assumption) ?_
          rotate_left
          · intro wS
            go_simp
            try with_reducible rfl
          try simp only [Act.put, List.setIfInBounds_toArray, List.set_cons_zero, List.set_cons_succ]
          refine wpAnyL_free (i := 22) (v := ?_) (some 91) rfl rfl (by kernel_rfl) (by kernel_rfl) (by kernel_rfl) (by decide) (fun _ _ _ h => h) (Or.inl ⟨by rfl, ?_⟩) (fun h0 => by assumption) ?_
          rotate_left
          · intro wS
            go_simp
            try with_reducible rfl
          try simp only [Act.put, List.setIfInBounds_toArray, List.set_cons_zero, List.set_cons_succ]
          refine wpAnyL_ready (rs := [23]) (by kernel_rfl) (by simp) ?_
          refine AllReadyL.cons rfl (fun K hK => ?_) AllReadyL.nil
          go_simp; go_at_call 189; refine (l07ModP p z HP.out HZ.out _).mono ?_; rintro e w5 ⟨rfl, rfl⟩
          refine hK.out _ _ ?_ (fun hHeld => ?_)
          · exact hHeld
          clear hK K
          try simp only [Act.put, List.setIfInBounds_toArray, List.set_cons_zero, List.set_cons_succ]
          refine wpAnyL_free (i := 24) (v := ?_) (some 93) rfl rfl (by kernel_rfl) (by kernel_rfl) (by kernel_rfl) (by decide) (fun _ _ _ h => h) (Or.inl ⟨by rfl, ?_⟩) (fun h0 => by assumption) ?_
          rotate_left
          · intro wS
            go_simp
            try with_reducible rfl
          try simp only [Act.put, List.setIfInBounds_toArray, List.set_cons_zero, List.set_cons_succ]
          refine wpAnyL_ready (rs := [25]) (by kernel_rfl) (by simp) ?_
          refine AllReadyL.last rfl (by kernel_rfl) (fun K hK => ?_) AllReadyL.nil
          go_simp
          refine hK.out _ _ ?_
          clear hK K
          try simp only [Act.put, List.setIfInBounds_toArray, List.set_cons_zero, List.set_cons_succ]
          refine wpAnyL_done (by kernel_rfl) ?_ _
          refine NoPanic.normal ?_
          clear hHeld d0 d1 d2 d3
          have HST2 := Lib.hid (HST.out.setB k ((intN bs k - t * intN zs k) % p))
          go_wp2
          go_roundw
          case rel => exact ⟨k + 1, by omega, by go_num, by have h := HST2.out; rw [lessK_set, HZE.out] at h; exact h.drewN 1, (HBL.out.setCell (by show B ≤ g; exact HBG.out) _).drew, (HRS.out.setL _ _ (by exact .inr rfl) (by intro e; exact HST.out.neB (by have e' : g = rb := e; simp [Value.ownBlock, e']))).drewN 1⟩
          case measure => simp [intOf]; omega
        · obtain rfl : k = bs.length := by omega
          go_wp2
          go_end0
          exact ⟨rfl, HST.out, HBL.out, HRS.out⟩

end Go.Proofs.Ytnbgpeoceejolaa

namespace Go.Proofs.Ytnbgpeoceejolaa
open Go.RowKit

/-- A list whose first k numbers have been multiplied. -/
def scaleK (p t : Int) (xs : List Int) (k : Nat) : List Int := (List.range xs.length).map fun i => if i < k then intN xs i * t % p else intN xs i
theorem scaleK_len (p t : Int) (xs : List Int) (k : Nat) : (scaleK p t xs k).length = xs.length := by simp [scaleK]
theorem scaleK_at (p t : Int) (xs : List Int) (k i : Nat) (h : i < xs.length) : intN (scaleK p t xs k) i = if i < k then intN xs i * t % p else intN xs i := by
  rw [intN_at _ _ (by rw [scaleK_len]; exact h)]
  simp [scaleK]
theorem scaleK_zero (p t : Int) (xs : List Int) : scaleK p t xs 0 = xs := by
  apply list_ext_intN (scaleK_len _ _ _ _)
  intro i hi
  rw [scaleK_len] at hi
  rw [scaleK_at _ _ _ _ _ hi, if_neg (by omega)]
theorem scaleK_all (p t : Int) (xs : List Int) : scaleK p t xs xs.length = rowScale p t xs := by
  apply list_ext_intN
  · rw [scaleK_len, rowScale_len]
  · intro i hi
    rw [scaleK_len] at hi
    rw [scaleK_at _ _ _ _ _ hi, if_pos hi, rowScale_at hi]
theorem scaleK_set (p t : Int) (xs : List Int) (k : Nat) : (scaleK p t xs k).set k (intN xs k * t % p) = scaleK p t xs (k + 1) := by
  apply List.ext_getElem
  · simp [scaleK]
  · intro i h1 h2
    rw [List.getElem_set]
    by_cases hik : k = i
    · subst hik
      simp [scaleK]
    · rw [if_neg hik]
      have e : i < k + 1 ↔ i < k := by omega
      simp [scaleK, e]

set_option linter.unusedSimpArgs false in
set_option maxHeartbeats 4000000 in
set_option maxRecDepth 100000 in
theorem scaleC (rb ro B : Nat) (p t : Int) (vl : Value) (xs : List Int) (r : Int) (vb : Value) (bs : List Int) (w : World) (h : RowSt w rb ro B vl xs r vb bs)
    (hp : PrimeP p) (ht : 0 ≤ t ∧ t ≤ 2) (hxl : Low3 xs) (hbl : Low3 bs) (hr : 0 ≤ r ∧ r ≤ 2) (hB : B ≤ rb) (hn1 : xs.length ≤ 1000) (hn2 : bs.length ≤ 1000) :
    Calls Try.prog 83 #[.pointer (some ⟨rb, ro, none⟩), .int .i64 t, .int .i64 p] w fun e w' => e = .returned (.tuple #[]) ∧ RowSt w' rb ro B vl (rowScale p t xs) (r * t % p) vb (rowScale p t bs) ∧ Below B w w' ∧ RowK rb ro vl.ownBlock vb.ownBlock w w' := by
  obtain ⟨la, lc, rfl⟩ : ∃ la lc, vl = .slice la xs.length lc := by obtain ⟨a, c, he, _⟩ := h.ownL.rowAt; exact ⟨a, c, he⟩
  obtain ⟨ba, bc, rfl⟩ : ∃ ba bc, vb = .slice ba bs.length bc := by obtain ⟨a, c, he, _⟩ := h.ownB.rowAt; exact ⟨a, c, he⟩
  have S0 := Lib.hid h
  have HT := Lib.hid ht
  have HXL := Lib.hid hxl
  have HXB := Lib.hid hbl
  have hp3 : 2 ≤ p ∧ p ≤ 3 := by rcases hp with rfl | rfl <;> omega
  have hp0 : ¬ p = 0 := by omega
  have ht0 := ht.1
  have ht1 := ht.2
  clear h hxl hbl hp ht
  go_enter Try.func83, Try.ntmps83
  go_wp2
  go_loopw [6] (fun i wr => ∃ k : Nat, k ≤ xs.length ∧ i = .int .i64 k ∧ RowSt wr rb ro B (.slice la xs.length lc) (scaleK p t xs k) r (.slice ba bs.length bc) bs ∧ Below B w wr ∧ RowK rb ro (Value.slice la xs.length lc).ownBlock (Value.slice ba bs.length bc).ownBlock w wr) (fun i _ => xs.length - (intOf i).toNat)
  case atStart => exact ⟨0, Nat.zero_le _, rfl, by rw [scaleK_zero]; exact S0.out, Below.refl _ _, RowK.refl _ _ _ _ _⟩
  case round =>
    obtain ⟨k, hk, rfl, hst, hbl, hrs⟩ := hrel
    have HST := Lib.hid hst
    have HBL := Lib.hid hbl
    have HRS := Lib.hid hrs
    have hlf := hst.left
    clear hst hbl hrs
    by_cases hlt : k < xs.length
    · obtain ⟨g, rfl, hBg⟩ : ∃ g, la = some ⟨g, 0, none⟩ ∧ B ≤ g := by
        rcases HST.out.ownL.rowIn with ⟨_, h0⟩ | ⟨g, c', hv, hB, _, _, _⟩
        · have := congrArg List.length h0
          simp only [scaleK_len, List.length_nil] at this
          omega
        · simp only [Value.slice.injEq] at hv
          exact ⟨g, hv.1, hB⟩
      have HBG := Lib.hid hBg
      have hfr : wr.frozen? ⟨g, k, none⟩ = false := HST.out.ownL.free k
      have hx : wr.cell? ⟨g, k, none⟩ = some (.int .i64 (intN xs k)) := by
        have h := HST.out.ownL.cell_of k (by rw [scaleK_len]; exact hlt)
        rwa [scaleK_at _ _ _ _ _ hlt, if_neg (by omega)] at h
      have hxb := HXL.out k
      obtain ⟨x, hxe⟩ : ∃ x, intN xs k = x := ⟨_, rfl⟩
      rw [hxe] at hx hxb
      have hmb := prodT (t := x) (y := t) ⟨hxb.1, by omega⟩ HT.out
      obtain ⟨z, hz⟩ : ∃ z, x * t % p = z := ⟨_, rfl⟩
      have HZE : Hid (intN xs k * t % p = z) := Lib.hid (by rw [hxe, hz])
      have hw1 : IntKind.i64.wrap (x * t) = x * t := IntWalk.i64_in _ (by omega)
      have hm1 : Int.tmod (x * t) p = z := by rw [Int.tmod_eq_emod_of_nonneg hmb.1]; exact hz
      have hz3 : 0 ≤ z ∧ z < p := by rw [← hz]; exact ⟨Int.emod_nonneg _ (by omega), Int.emod_lt_of_pos _ (by omega)⟩
      have hw2 : IntKind.i64.wrap z = z := IntWalk.i64_in _ (by omega)
      have hlt' : (k : Int) < (xs.length : Int) := by omega
      clear hxb hxe hmb hz hBg
      have d0 := hlf
      have d1 := hx
      clear hlf hx
      go_wp2
      refine wp_region_noPanic ?_
      refine wp_region_late (S := (fun w' => w'.cell? ⟨rb, ro, none⟩ = some (.slice (some ⟨g, 0, none⟩) xs.length lc) ∧ w'.cell? ⟨g, k, none⟩ = some (.int .i64 x))) [17] (by kernel_rfl) ?_ (fun hHeld => ?_)
      · exact ⟨d0, d1⟩
      refine wpAnyL_free (i := 0) (v := ?_) (some 17) rfl rfl (by kernel_rfl) (by kernel_rfl) (by kernel_rfl) (by decide) (fun _ _ _ h => h) (Or.inl ⟨by rfl, ?_⟩) (fun h0 => by assumption) ?_
      rotate_left
      · intro wS
        go_simp
        try with_reducible rfl
      try simp only [Act.put, List.setIfInBounds_toArray, List.set_cons_zero, List.set_cons_succ]
      refine wpAnyL_free (i := 1) (v := ?_) (some 18) rfl rfl (by kernel_rfl) (by kernel_rfl) (by kernel_rfl) (by decide) (fun _ _ _ h => h) (Or.inl ⟨by rfl, ?_⟩) (fun h0 => by assumption) ?_
      rotate_left
      · intro wS
        go_simp
        try with_reducible rfl
      try simp only [Act.put, List.setIfInBounds_toArray, List.set_cons_zero, List.set_cons_succ]
      refine wpAnyL_free (i := 2) (v := ?_) (some 19) rfl rfl (by kernel_rfl) (by kernel_rfl) (by kernel_rfl) (by decide) (fun _ _ _ h => h) (Or.inl ⟨by rfl, ?_⟩) (fun h0 => by assumption) ?_
      rotate_left
      · intro wS
        go_simp
        try with_reducible rfl
      try simp only [Act.put, List.setIfInBounds_toArray, List.set_cons_zero, List.set_cons_succ]
      refine wpAnyL_take (i := 3) (v := ?_) (some 20) rfl rfl (by kernel_rfl) (by kernel_rfl) (by kernel_rfl) (by kernel_rfl) (by kernel_rfl) (fun _ _ _ h => h) (Or.inl ⟨by rfl, ?_⟩) (by assumption) ?_
      rotate_left
      · intro wS hSw
        try dsimp only at hSw
        go_simp
        try with_reducible rfl
      try simp only [Act.put, List.setIfInBounds_toArray, List.set_cons_zero, List.set_cons_succ]
      refine wpAnyL_free (i := 4) (v := ?_) (some 21) rfl rfl (by kernel_rfl) (by kernel_rfl) (by kernel_rfl) (by decide) (fun _ _ _ h => h) (Or.inl ⟨by rfl, ?_⟩) (fun h0 => by assumption) ?_
      rotate_left
      · intro wS
        go_simp
        try with_reducible rfl
      try simp only [Act.put, List.setIfInBounds_toArray, List.set_cons_zero, List.set_cons_succ]
      refine wpAnyL_free (i := 5) (v := ?_) (some 22) rfl rfl (by kernel_rfl) (by kernel_rfl) (by kernel_rfl) (by decide) (fun _ _ _ h => h) (Or.inl ⟨by rfl, ?_⟩) (fun h0 => by assumption) ?_
      rotate_left
      · intro wS
        go_simp
        try with_reducible rfl
      try simp only [Act.put, List.setIfInBounds_toArray, List.set_cons_zero, List.set_cons_succ]
      refine wpAnyL_free (i := 6) (v := ?_) (some 23) rfl rfl (by kernel_rfl) (by kernel_rfl) (by kernel_rfl) (by decide) (fun _ _ _ h => h) (Or.inl ⟨by rfl, ?_⟩) (fun h0 => by assumption) ?_
      rotate_left
      · intro wS
        go_simp
        try with_reducible rfl
      try simp only [Act.put, List.setIfInBounds_toArray, List.set_cons_zero, List.set_cons_succ]
      refine wpAnyL_free (i := 7) (v := ?_) (some 24) rfl rfl (by kernel_rfl) (by kernel_rfl) (by kernel_rfl) (by decide) (fun _ _ _ h => h) (Or.inl ⟨by rfl, ?_⟩) (fun h0 => by assumption) ?_
      rotate_left
      · intro wS
        go_simp
        try with_reducible rfl
      try simp only [Act.put, List.setIfInBounds_toArray, List.set_cons_zero, List.set_cons_succ]
      refine wpAnyL_take (i := 8) (v := ?_) (some 25) rfl rfl (by kernel_rfl) (by kernel_rfl) (by kernel_rfl) (by kernel_rfl) (by kernel_rfl) (fun _ _ _ h => h) (Or.inl ⟨by rfl, ?_⟩) (by assumption) ?_
      rotate_left
      · intro wS hSw
        try dsimp only at hSw
        go_simp
        try with_reducible rfl
      try simp only [Act.put, List.setIfInBounds_toArray, List.set_cons_zero, List.set_cons_succ]
      refine wpAnyL_free (i := 9) (v := ?_) (some 26) rfl rfl (by kernel_rfl) (by kernel_rfl) (by kernel_rfl) (by decide) (fun _ _ _ h => h) (Or.inl ⟨by rfl, ?_⟩) (fun h0 => by assumption) ?_
      rotate_left
      · intro wS
        go_simp
        try with_reducible rfl
      try simp only [Act.put, List.setIfInBounds_toArray, List.set_cons_zero, List.set_cons_succ]
      refine wpAnyL_free (i := 10) (v := ?_) (some 27) rfl rfl (by kernel_rfl) (by kernel_rfl) (by kernel_rfl) (by decide) (fun _ _ _ h => h) (Or.inl ⟨by rfl, ?_⟩) (fun h0 => by assumption) ?_
      rotate_left
      · intro wS
        go_simp
        try with_reducible rfl
      try simp only [Act.put, List.setIfInBounds_toArray, List.set_cons_zero, List.set_cons_succ]
      refine wpAnyL_take (i := 11) (v := ?_) (some 28) rfl rfl (by kernel_rfl) (by kernel_rfl) (by kernel_rfl) (by kernel_rfl) (by kernel_rfl) (fun _ _ _ h => h) (Or.inl ⟨by rfl, ?_⟩) (by assumption) ?_
      rotate_left
      · intro wS hSw
        try dsimp only at hSw
        go_simp
        try with_reducible rfl
      try simp only [Act.put, List.setIfInBounds_toArray, List.set_cons_zero, List.set_cons_succ]
      refine wpAnyL_free (i := 12) (v := ?_) (some 29) rfl rfl (by kernel_rfl) (by kernel_rfl) (by kernel_rfl) (by decide) (fun _ _ _ h => h) (Or.inl ⟨by rfl, ?_⟩) (fun h0 => by assumption) ?_
      rotate_left
      · intro wS
        go_simp
        try with_reducible rfl
      try simp only [Act.put, List.setIfInBounds_toArray, List.set_cons_zero, List.set_cons_succ]
      refine wpAnyL_free (i := 13) (v := ?_) (some 30) rfl rfl (by kernel_rfl) (by kernel_rfl) (by kernel_rfl) (by decide) (fun _ _ _ h => h) (Or.inl ⟨by rfl, ?_⟩) (fun h0 => by assumption) ?_
      rotate_left
      · intro wS
        go_simp
        try with_reducible rfl
      try simp only [Act.put, List.setIfInBounds_toArray, List.set_cons_zero, List.set_cons_succ]
      refine wpAnyL_free (i := 14) (v := ?_) (some 31) rfl rfl (by kernel_rfl) (by kernel_rfl) (by kernel_rfl) (by decide) (fun _ _ _ h => h) (Or.inl ⟨by rfl, ?_⟩) (fun h0 => by assumption) ?_
      rotate_left
      · intro wS
        go_simp
        try with_reducible rfl
      try simp only [Act.put, List.setIfInBounds_toArray, List.set_cons_zero, List.set_cons_succ]
      refine wpAnyL_free (i := 15) (v := ?_) (some 32) rfl rfl (by kernel_rfl) (by kernel_rfl) (by kernel_rfl) (by decide) (fun _ _ _ h => h) (Or.inl ⟨by rfl, ?_⟩) (fun h0 => by assumption) ?_
      rotate_left
      · intro wS
        go_simp
        try with_reducible rfl
      try simp only [Act.put, List.setIfInBounds_toArray, List.set_cons_zero, List.set_cons_succ]
      refine wpAnyL_free (i := 16) (v := ?_) (some 33) rfl rfl (by kernel_rfl) (by kernel_rfl) (by kernel_rfl) (by decide) (fun _ _ _ h => h) (Or.inl ⟨by rfl, ?_⟩) (fun h0 => by assumption) ?_
      rotate_left
      · intro wS
        go_simp
        try with_reducible rfl
      try simp only [Act.put, List.setIfInBounds_toArray, List.set_cons_zero, List.set_cons_succ]
      refine wpAnyL_ready (rs := [17]) (by kernel_rfl) (by simp) ?_
      refine AllReadyL.last rfl (by kernel_rfl) (fun K hK => ?_) AllReadyL.nil
      go_simp
      refine hK.out _ _ ?_
      clear hK K
      try simp only [Act.put, List.setIfInBounds_toArray, List.set_cons_zero, List.set_cons_succ]
      refine wpAnyL_done (by kernel_rfl) ?_ _
      refine NoPanic.normal ?_
      clear hHeld d0 d1
      have HST2 := Lib.hid (HST.out.setL k (intN xs k * t % p))
      go_wp2
      go_roundw
      case rel => exact ⟨k + 1, by omega, by go_num, by have h := HST2.out; rw [scaleK_set, HZE.out] at h; exact h.drewN 1, (HBL.out.setCell (by show B ≤ g; exact HBG.out) _).drew, (HRS.out.setL _ _ (by exact .inl rfl) (by intro e; exact HST.out.neL (by have e' : g = rb := e; simp [Value.ownBlock, e']))).drewN 1⟩
      case measure => simp [intOf]; omega
    · obtain rfl : k = xs.length := by omega
      have d0 := HST.out.right
      have hfr := HST.out.free
      have hmb := prodT (t := r) (y := t) ⟨hr.1, by omega⟩ HT.out
      obtain ⟨z, hz⟩ : ∃ z, r * t % p = z := ⟨_, rfl⟩
      have HZR := Lib.hid hz
      have hw1 : IntKind.i64.wrap (r * t) = r * t := IntWalk.i64_in _ (by omega)
      have hm1 : Int.tmod (r * t) p = z := by rw [Int.tmod_eq_emod_of_nonneg hmb.1]; exact hz
      have hz3 : 0 ≤ z ∧ z < p := by rw [← hz]; exact ⟨Int.emod_nonneg _ (by omega), Int.emod_lt_of_pos _ (by omega)⟩
      have hw2 : IntKind.i64.wrap z = z := IntWalk.i64_in _ (by omega)
      have HST2 := Lib.hid (HST.out.setR z)
      clear hmb hz
      go_wp2_with fail
      obtain ⟨w9, hw9⟩ : ∃ w9, wr.setCell ⟨rb, ro + 1, none⟩ (.int .i64 z) = w9 := ⟨_, rfl⟩
      have S1 : Hid (RowSt w9 rb ro B (.slice la xs.length lc) (rowScale p t xs) (r * t % p) (.slice ba bs.length bc) bs) := Lib.hid (by rw [← hw9, HZR.out]; have h := HST2.out; rw [scaleK_all] at h; exact h)
      have B1 : Hid (Below B w w9) := Lib.hid (by rw [← hw9]; exact HBL.out.setCell (by show B ≤ rb; exact hB) _)
      have R1 : Hid (RowK rb ro (Value.slice la xs.length lc).ownBlock (Value.slice ba bs.length bc).ownBlock w w9) := Lib.hid (by rw [← hw9]; exact HRS.out.setR _)
      rw [hw9]
      clear hw9 HST HBL HRS HST2 d0 hfr hw1 hm1 hz3 hw2 HZR
      go_loopw [7] (fun i wr => ∃ k : Nat, k ≤ bs.length ∧ i = .int .i64 k ∧ RowSt wr rb ro B (.slice la xs.length lc) (rowScale p t xs) (r * t % p) (.slice ba bs.length bc) (scaleK p t bs k) ∧ Below B w wr ∧ RowK rb ro (Value.slice la xs.length lc).ownBlock (Value.slice ba bs.length bc).ownBlock w wr) (fun i _ => bs.length - (intOf i).toNat)
      case atStart => exact ⟨0, Nat.zero_le _, rfl, by rw [scaleK_zero]; exact S1.out, B1.out, R1.out⟩
      case round =>
        obtain ⟨k, hk, rfl, hst, hbl, hrs⟩ := hrel
        have HST := Lib.hid hst
        have HBL := Lib.hid hbl
        have HRS := Lib.hid hrs
        have hlf := hst.by_
        clear hst hbl hrs
        by_cases hlt : k < bs.length
        · obtain ⟨g, rfl, hBg⟩ : ∃ g, ba = some ⟨g, 0, none⟩ ∧ B ≤ g := by
            rcases HST.out.ownB.rowIn with ⟨_, h0⟩ | ⟨g, c', hv, hB, _, _, _⟩
            · have := congrArg List.length h0
              simp only [scaleK_len, List.length_nil] at this
              omega
            · simp only [Value.slice.injEq] at hv
              exact ⟨g, hv.1, hB⟩
          have HBG := Lib.hid hBg
          have hfr : wr.frozen? ⟨g, k, none⟩ = false := HST.out.ownB.free k
          have hx : wr.cell? ⟨g, k, none⟩ = some (.int .i64 (intN bs k)) := by
            have h := HST.out.ownB.cell_of k (by rw [scaleK_len]; exact hlt)
            rwa [scaleK_at _ _ _ _ _ hlt, if_neg (by omega)] at h
          have hxb := HXB.out k
          obtain ⟨x, hxe⟩ : ∃ x, intN bs k = x := ⟨_, rfl⟩
          rw [hxe] at hx hxb
          have hmb := prodT (t := x) (y := t) ⟨hxb.1, by omega⟩ HT.out
          obtain ⟨z, hz⟩ : ∃ z, x * t % p = z := ⟨_, rfl⟩
          have HZE : Hid (intN bs k * t % p = z) := Lib.hid (by rw [hxe, hz])
          have hw1 : IntKind.i64.wrap (x * t) = x * t := IntWalk.i64_in _ (by omega)
          have hm1 : Int.tmod (x * t) p = z := by rw [Int.tmod_eq_emod_of_nonneg hmb.1]; exact hz
          have hz3 : 0 ≤ z ∧ z < p := by rw [← hz]; exact ⟨Int.emod_nonneg _ (by omega), Int.emod_lt_of_pos _ (by omega)⟩
          have hw2 : IntKind.i64.wrap z = z := IntWalk.i64_in _ (by omega)
          have hlt' : (k : Int) < (bs.length : Int) := by omega
          clear hxb hxe hmb hz hBg
          have d0 := hlf
          have d1 := hx
          clear hlf hx
          go_wp2
          refine wp_region_noPanic ?_
          refine wp_region_late (S := (fun w' => w'.cell? ⟨rb, ro + 2, none⟩ = some (.slice (some ⟨g, 0, none⟩) bs.length bc) ∧ w'.cell? ⟨g, k, none⟩ = some (.int .i64 x))) [17] (by kernel_rfl) ?_ (fun hHeld => ?_)
          · exact ⟨d0, d1⟩
          refine wpAnyL_free (i := 0) (v := ?_) (some 54) rfl rfl (by kernel_rfl) (by kernel_rfl) (by kernel_rfl) (by decide) (fun _ _ _ h => h) (Or.inl ⟨by rfl, ?_⟩) (fun h0 => by assumption) ?_
          rotate_left
          · intro wS
            go_simp
            try with_reducible rfl
          try simp only [Act.put, List.setIfInBounds_toArray, List.set_cons_zero, List.set_cons_succ]
          refine wpAnyL_free (i := 1) (v := ?_) (some 55) rfl rfl (by kernel_rfl) (by kernel_rfl) (by kernel_rfl) (by decide) (fun _ _ _ h => h) (Or.inl ⟨by rfl, ?_⟩) (fun h0 => by assumption) ?_
          rotate_left
          · intro wS
            go_simp
            try with_reducible rfl
          try simp only [Act.put, List.setIfInBounds_toArray, List.set_cons_zero, List.set_cons_succ]
          refine wpAnyL_free (i := 2) (v := ?_) (some 56) rfl rfl (by kernel_rfl) (by kernel_rfl) (by kernel_rfl) (by decide) (fun _ _ _ h => h) (Or.inl ⟨by rfl, ?_⟩) (fun h0 => by assumption) ?_
          rotate_left
          · intro wS
            go_simp
            try with_reducible rfl
          try simp only [Act.put, List.setIfInBounds_toArray, List.set_cons_zero, List.set_cons_succ]
          refine wpAnyL_take (i := 3) (v := ?_) (some 57) rfl rfl (by kernel_rfl) (by kernel_rfl) (by kernel_rfl) (by kernel_rfl) (by kernel_rfl) (fun _ _ _ h => h) (Or.inl ⟨by rfl, ?_⟩) (by assumption) ?_
          rotate_left
          · intro wS hSw
            try dsimp only at hSw
            go_simp
            try with_reducible rfl
          try simp only [Act.put, List.setIfInBounds_toArray, List.set_cons_zero, List.set_cons_succ]
          refine wpAnyL_free (i := 4) (v := ?_) (some 58) rfl rfl (by kernel_rfl) (by kernel_rfl) (by kernel_rfl) (by decide) (fun _ _ _ h => h) (Or.inl ⟨by rfl, ?_⟩) (fun h0 => by assumption) ?_
          rotate_left
          · intro wS
            go_simp
            try with_reducible rfl
          try simp only [Act.put, List.setIfInBounds_toArray, List.set_cons_zero, List.set_cons_succ]
          refine wpAnyL_free (i := 5) (v := ?_) (some 59) rfl rfl (by kernel_rfl) (by kernel_rfl) (by kernel_rfl) (by decide) (fun _ _ _ h => h) (Or.inl ⟨by rfl, ?_⟩) (fun h0 => by assumption) ?_
          rotate_left
          · intro wS
            go_simp
            try with_reducible rfl
          try simp only [Act.put, List.setIfInBounds_toArray, List.set_cons_zero, List.set_cons_succ]
          refine wpAnyL_free (i := 6) (v := ?_) (some 60) rfl rfl (by kernel_rfl) (by kernel_rfl) (by kernel_rfl) (by decide) (fun _ _ _ h => h) (Or.inl ⟨by rfl, ?_⟩) (fun h0 => by assumption) ?_
          rotate_left
          · intro wS
            go_simp
            try with_reducible rfl
          try simp only [Act.put, List.setIfInBounds_toArray, List.set_cons_zero, List.set_cons_succ]
          refine wpAnyL_free (i := 7) (v := ?_) (some 61) rfl rfl (by kernel_rfl) (by kernel_rfl) (by kernel_rfl) (by decide) (fun _ _ _ h => h) (Or.inl ⟨by rfl, ?_⟩) (fun h0 => by assumption) ?_
          rotate_left
          · intro wS
            go_simp
            try with_reducible rfl
          try simp only [Act.put, List.setIfInBounds_toArray, List.set_cons_zero, List.set_cons_succ]
          refine wpAnyL_take (i := 8) (v := ?_) (some 62) rfl rfl (by kernel_rfl) (by kernel_rfl) (by kernel_rfl) (by kernel_rfl) (by kernel_rfl) (fun _ _ _ h => h) (Or.inl ⟨by rfl, ?_⟩) (by assumption) ?_
          rotate_left
          · intro wS hSw
            try dsimp only at hSw
            go_simp
            try with_reducible rfl
          try simp only [Act.put, List.setIfInBounds_toArray, List.set_cons_zero, List.set_cons_succ]
          refine wpAnyL_free (i := 9) (v := ?_) (some 63) rfl rfl (by kernel_rfl) (by kernel_rfl) (by kernel_rfl) (by decide) (fun _ _ _ h => h) (Or.inl ⟨by rfl, ?_⟩) (fun h0 => by assumption) ?_
          rotate_left
          · intro wS
            go_simp
            try with_reducible rfl
          try simp only [Act.put, List.setIfInBounds_toArray, List.set_cons_zero, List.set_cons_succ]
          refine wpAnyL_free (i := 10) (v := ?_) (some 64) rfl rfl (by kernel_rfl) (by kernel_rfl) (by kernel_rfl) (by decide) (fun _ _ _ h => h) (Or.inl ⟨by rfl, ?_⟩) (fun h0 => by assumption) ?_
          rotate_left
          · intro wS
            go_simp
            try with_reducible rfl
          try simp only [Act.put, List.setIfInBounds_toArray, List.set_cons_zero, List.set_cons_succ]
          refine wpAnyL_take (i := 11) (v := ?_) (some 65) rfl rfl (by kernel_rfl) (by kernel_rfl) (by kernel_rfl) (by kernel_rfl) (by kernel_rfl) (fun _ _ _ h => h) (Or.inl ⟨by rfl, ?_⟩) (by assumption) ?_
          rotate_left
          · intro wS hSw
            try dsimp only at hSw
            go_simp
            try with_reducible rfl
          try simp only [Act.put, List.setIfInBounds_toArray, List.set_cons_zero, List.set_cons_succ]
          refine wpAnyL_free (i := 12) (v := ?_) (some 66) rfl rfl (by kernel_rfl) (by kernel_rfl) (by kernel_rfl) (by decide) (fun _ _ _ h => h) (Or.inl ⟨by rfl, ?_⟩) (fun h0 => by assumption) ?_
          rotate_left
          · intro wS
            go_simp
            try with_reducible rfl
          try simp only [Act.put, List.setIfInBounds_toArray, List.set_cons_zero, List.set_cons_succ]
          refine wpAnyL_free (i := 13) (v := ?_) (some 67) rfl rfl (by kernel_rfl) (by kernel_rfl) (by kernel_rfl) (by decide) (fun _ _ _ h => h) (Or.inl ⟨by rfl, ?_⟩) (fun h0 => by assumption) ?_
          rotate_left
          · intro wS
            go_simp
            try with_reducible rfl
          try simp only [Act.put, List.setIfInBounds_toArray, List.set_cons_zero, List.set_cons_succ]
          refine wpAnyL_free (i := 14) (v := ?_) (some 68) rfl rfl (by kernel_rfl) (by kernel_rfl) (by kernel_rfl) (by decide) (fun _ _ _ h => h) (Or.inl ⟨by rfl, ?_⟩) (fun h0 => by assumption) ?_
          rotate_left
          · intro wS
            go_simp
            try with_reducible rfl
          try simp only [Act.put, List.setIfInBounds_toArray, List.set_cons_zero, List.set_cons_succ]
          refine wpAnyL_free (i := 15) (v := ?_) (some 69) rfl rfl (by kernel_rfl) (by kernel_rfl) (by kernel_rfl) (by decide) (fun _ _ _ h => h) (Or.inl ⟨by rfl, ?_⟩) (fun h0 => by assumption) ?_
          rotate_left
          · intro wS
            go_simp
            try with_reducible rfl
          try simp only [Act.put, List.setIfInBounds_toArray, List.set_cons_zero, List.set_cons_succ]
          refine wpAnyL_free (i := 16) (v := ?_) (some 70) rfl rfl (by kernel_rfl) (by kernel_rfl) (by kernel_rfl) (by decide) (fun _ _ _ h => h) (Or.inl ⟨by rfl, ?_⟩) (fun h0 => by assumption) ?_
          rotate_left
          · intro wS
            go_simp
            try with_reducible rfl
          try simp only [Act.put, List.setIfInBounds_toArray, List.set_cons_zero, List.set_cons_succ]
          refine wpAnyL_ready (rs := [17]) (by kernel_rfl) (by simp) ?_
          refine AllReadyL.last rfl (by kernel_rfl) (fun K hK => ?_) AllReadyL.nil
          go_simp
          refine hK.out _ _ ?_
          clear hK K
          try simp only [Act.put, List.setIfInBounds_toArray, List.set_cons_zero, List.set_cons_succ]
          refine wpAnyL_done (by kernel_rfl) ?_ _
          refine NoPanic.normal ?_
          clear hHeld d0 d1
          have HST2 := Lib.hid (HST.out.setB k (intN bs k * t % p))
          go_wp2
          go_roundw
          case rel => exact ⟨k + 1, by omega, by go_num, by have h := HST2.out; rw [scaleK_set, HZE.out] at h; exact h.drewN 1, (HBL.out.setCell (by show B ≤ g; exact HBG.out) _).drew, (HRS.out.setL _ _ (by exact .inr rfl) (by intro e; exact HST.out.neB (by have e' : g = rb := e; simp [Value.ownBlock, e']))).drewN 1⟩
          case measure => simp [intOf]; omega
        · obtain rfl : k = bs.length := by omega
          go_wp2
          go_end0
          exact ⟨rfl, by have h := HST.out; rw [scaleK_all] at h; exact h, HBL.out, HRS.out⟩

end Go.Proofs.Ytnbgpeoceejolaa

namespace Go.Proofs.Ytnbgpeoceejolaa
open Go.RowKit

theorem intN_take {x : List Int} {u i : Nat} (h : i < u) : intN (x.take u) i = intN x i := by
  simp [intN, List.getD, h]
theorem intN_drop {x : List Int} {u i : Nat} : intN (x.drop u) i = intN x (u + i) := by
  simp [intN, List.getD, List.getElem?_drop]
theorem rowScale_take (p t : Int) (x : List Int) (u : Nat) : (rowScale p t x).take u = rowScale p t (x.take u) := by simp [rowScale, List.map_take]
theorem rowScale_drop (p t : Int) (x : List Int) (u : Nat) : (rowScale p t x).drop u = rowScale p t (x.drop u) := by simp [rowScale, List.map_drop]
theorem rowSub_take (p t : Int) (x y : List Int) (u : Nat) : (rowSub p t x y).take u = rowSub p t (x.take u) (y.take u) := by
  apply list_ext_intN
  · simp [rowSub_len]
  · intro i hi
    rw [List.length_take, rowSub_len] at hi
    rw [intN_take (by omega), rowSub_at (by omega), rowSub_at (by rw [List.length_take]; omega), intN_take (by omega), intN_take (by omega)]
theorem rowSub_drop (p t : Int) (x y : List Int) (u : Nat) : (rowSub p t x y).drop u = rowSub p t (x.drop u) (y.drop u) := by
  apply list_ext_intN
  · simp [rowSub_len]
  · intro i hi
    rw [List.length_drop, rowSub_len] at hi
    rw [intN_drop, rowSub_at (by omega), rowSub_at (by rw [List.length_drop]; omega), intN_drop, intN_drop]
theorem LowP.low3 {p : Int} {x : List Int} (h : LowP p x) (hp : p ≤ 3) : Low3 x := fun j => by
  by_cases hj : j < x.length
  · have := h j hj; omega
  · rw [intN_out (by omega)]; omega
theorem LowP.take {p : Int} {x : List Int} (h : LowP p x) (u : Nat) : LowP p (x.take u) := fun i hi => by
  rw [List.length_take] at hi
  rw [intN_take (by omega)]
  exact h i (by omega)
theorem LowP.drop {p : Int} {x : List Int} (h : LowP p x) (u : Nat) : LowP p (x.drop u) := fun i hi => by
  rw [List.length_drop] at hi
  rw [intN_drop]
  exact h _ (by omega)

theorem RowSt.keep {w w' : World} {rb ro B : Nat} {vl vb : Value} {xs bs : List Int} {r : Int} (h : RowSt w rb ro B vl xs r vb bs) (hc : ∀ o, ro ≤ o → o ≤ ro + 2 → w'.cell? ⟨rb, o, none⟩ = w.cell? ⟨rb, o, none⟩) (hf : w'.frozen? ⟨rb, ro + 1, none⟩ = false)
    (hL : ∀ g, vl.ownBlock = some g → w'.heap[g]? = w.heap[g]?) (hB : ∀ g, vb.ownBlock = some g → w'.heap[g]? = w.heap[g]?) : RowSt w' rb ro B vl xs r vb bs :=
  ⟨(hc _ (Nat.le_refl _) (by omega)).trans h.left, (hc _ (by omega) (by omega)).trans h.right, (hc _ (by omega) (Nat.le_refl _)).trans h.by_, hf, ownsRow_same h.ownL hL, ownsRow_same h.ownB hB, h.neL, h.neB, h.apart⟩

/-- n rows in the block rb. -/
structure MRows (w : World) (rb B n u : Nat) (VL VB : Nat → Value) (R : Nat → List Int) : Prop where
  row : ∀ i, i < n → RowSt w rb (i * 3) B (VL i) ((R i).take u) (intN (R i) u) (VB i) ((R i).drop (u + 1))
  ap : ∀ i j, i < n → j < n → i ≠ j → ∀ g, ((VL i).ownBlock = some g ∨ (VB i).ownBlock = some g) → (VL j).ownBlock ≠ some g ∧ (VB j).ownBlock ≠ some g
  frz : ∀ o, w.frozen? ⟨rb, o, none⟩ = false
theorem MRows.keep {w w' : World} {rb B n u : Nat} {VL VB : Nat → Value} {R : Nat → List Int} (h : MRows w rb B n u VL VB R) (hk : ∀ k, k < w.heap.size → w'.heap[k]? = w.heap[k]?) (hf : ∀ o, w'.frozen? ⟨rb, o, none⟩ = false) : MRows w' rb B n u VL VB R := by
  refine ⟨fun i hi => ?_, h.ap, hf⟩
  have hr := h.row i hi
  have hrb : rb < w.heap.size := cell_block_lt hr.left
  exact hr.keep (fun o _ _ => World.cell?_of_block (hk rb hrb)) (hf _) (fun g hg => hk g (hr.ownL.lt g hg).2) (fun g hg => hk g (hr.ownB.lt g hg).2)
theorem MRows.below {w w' : World} {rb B n u : Nat} {VL VB : Nat → Value} {R : Nat → List Int} (h : MRows w rb B n u VL VB R) (hb : Below w.heap.size w w') (hl : rb < w.heap.size) : MRows w' rb B n u VL VB R :=
  h.keep (fun k hk => hb.block k hk) (fun o => (World.frozen?_of_block (hb.block rb hl)).trans (h.frz o))
theorem MRows.drewN {w : World} {rb B n u : Nat} {VL VB : Nat → Value} {R : Nat → List Int} (h : MRows w rb B n u VL VB R) (m : Nat) : MRows (w.drewN m) rb B n u VL VB R := ⟨fun i hi => (h.row i hi).drewN m, h.ap, h.frz⟩
/-- A row has turned. -/
theorem MRows.upd {w w' : World} {rb B n u : Nat} {VL VB : Nat → Value} {R : Nat → List Int} (h : MRows w rb B n u VL VB R) {i : Nat} (hi : i < n) (hK : RowK rb (i * 3) (VL i).ownBlock (VB i).ownBlock w w') {x : List Int}
    (hrow : RowSt w' rb (i * 3) B (VL i) (x.take u) (intN x u) (VB i) (x.drop (u + 1))) : MRows w' rb B n u VL VB (fun k => if k = i then x else R k) := by
  refine ⟨fun j hj => ?_, h.ap, fun o => (hK.frz o).trans (h.frz o)⟩
  by_cases hij : j = i
  · subst hij
    simp only [if_true]
    exact hrow
  · rw [if_neg hij]
    have hr := h.row j hj
    have hab := h.ap j i hj hi hij
    refine hr.keep (fun o h1 h2 => hK.cells o (by omega)) ((hK.frz _).trans (h.frz _)) (fun g hg => ?_) (fun g hg => ?_)
    · obtain ⟨k1, k2⟩ := hab g (.inl hg)
      exact hK.rest.2 g (hr.ownL.lt g hg).2 (fun e => hr.neL (e ▸ hg)) (fun e => k1 e.symm) (fun e => k2 e.symm)
    · obtain ⟨k1, k2⟩ := hab g (.inr hg)
      exact hK.rest.2 g (hr.ownB.lt g hg).2 (fun e => hr.neB (e ▸ hg)) (fun e => k1 e.symm) (fun e => k2 e.symm)
/-- Another row is read as it was while a row turns. -/
theorem MRows.other {w w' : World} {rb B n u : Nat} {VL VB : Nat → Value} {R : Nat → List Int} (h : MRows w rb B n u VL VB R) {i d : Nat} (hi : i < n) (hd : d < n) (hne : d ≠ i) (hK : RowK rb (i * 3) (VL i).ownBlock (VB i).ownBlock w w') :
    RowRd w' rb (d * 3) ((R d).take u) (intN (R d) u) ((R d).drop (u + 1)) := by
  have hr := h.row d hd
  have hab := h.ap d i hd hi hne
  have k : RowSt w' rb (d * 3) B (VL d) ((R d).take u) (intN (R d) u) (VB d) ((R d).drop (u + 1)) := by
    refine hr.keep (fun o h1 h2 => hK.cells o (by omega)) ((hK.frz _).trans (h.frz _)) (fun g hg => ?_) (fun g hg => ?_)
    · obtain ⟨k1, k2⟩ := hab g (.inl hg)
      exact hK.rest.2 g (hr.ownL.lt g hg).2 (fun e => hr.neL (e ▸ hg)) (fun e => k1 e.symm) (fun e => k2 e.symm)
    · obtain ⟨k1, k2⟩ := hab g (.inr hg)
      exact hK.rest.2 g (hr.ownB.lt g hg).2 (fun e => hr.neB (e ▸ hg)) (fun e => k1 e.symm) (fun e => k2 e.symm)
  refine ⟨?_, k.right, ?_⟩
  · obtain ⟨a, c, he, ha⟩ := k.ownL.rowAt
    have hra := k.ownL.rowAt
    rw [he] at hra
    exact ⟨a, c, by rw [← he]; exact k.left, hra⟩
  · obtain ⟨a, c, he, ha⟩ := k.ownB.rowAt
    have hra := k.ownB.rowAt
    rw [he] at hra
    exact ⟨a, c, by rw [← he]; exact k.by_, hra⟩
/-- The rows in another order. -/
theorem MRows.perm {w w' : World} {rb B n u : Nat} {VL VB : Nat → Value} {R : Nat → List Int} (h : MRows w rb B n u VL VB R) (s : Nat → Nat) (hs : ∀ i, i < n → s i < n) (hinj : ∀ i j, i < n → j < n → i ≠ j → s i ≠ s j) (hh : ∀ k, k < w.heap.size → k ≠ rb → w'.heap[k]? = w.heap[k]?) (hf : ∀ o, w'.frozen? ⟨rb, o, none⟩ = false)
    (hc : ∀ i, i < n → ∀ j, j < 3 → w'.cell? ⟨rb, i * 3 + j, none⟩ = w.cell? ⟨rb, s i * 3 + j, none⟩) : MRows w' rb B n u (fun i => VL (s i)) (fun i => VB (s i)) (fun i => R (s i)) := by
  refine ⟨fun i hi => ?_, fun i j hi hj hij g hg => h.ap (s i) (s j) (hs i hi) (hs j hj) (hinj i j hi hj hij) g hg, hf⟩
  have hr := h.row (s i) (hs i hi)
  refine ⟨?_, ?_, ?_, hf _, ownsRow_same hr.ownL fun g hg => hh g (hr.ownL.lt g hg).2 (fun e => hr.neL (e ▸ hg)), ownsRow_same hr.ownB fun g hg => hh g (hr.ownB.lt g hg).2 (fun e => hr.neB (e ▸ hg)), hr.neL, hr.neB, hr.apart⟩
  · exact (hc i hi 0 (by omega)).trans hr.left
  · exact (hc i hi 1 (by omega)).trans hr.right
  · exact (hc i hi 2 (by omega)).trans hr.by_

/-- Three cells of a block are stored into. -/
def set3 (w : World) (rb o : Nat) (x0 x1 x2 : Value) : World := ((w.setCell ⟨rb, o, none⟩ x0).setCell ⟨rb, o + 1, none⟩ x1).setCell ⟨rb, o + 2, none⟩ x2
def pick3 (x0 x1 x2 : Value) (j : Nat) : Value := if j = 0 then x0 else if j = 1 then x1 else x2
theorem set3_other (w : World) (rb o : Nat) (x0 x1 x2 : Value) (q : Nat) (h : q < o ∨ o + 2 < q) : (set3 w rb o x0 x1 x2).cell? ⟨rb, q, none⟩ = w.cell? ⟨rb, q, none⟩ := by
  unfold set3
  rw [World.cell?_setCell_other _ _ _ _ (by intro e; simp only [Addr.mk.injEq] at e; omega), World.cell?_setCell_other _ _ _ _ (by intro e; simp only [Addr.mk.injEq] at e; omega), World.cell?_setCell_other _ _ _ _ (by intro e; simp only [Addr.mk.injEq] at e; omega)]
theorem set3_same (w : World) (rb o : Nat) (x0 x1 x2 : Value) {y0 y1 y2 : Value} (h0 : w.cell? ⟨rb, o, none⟩ = some y0) (h1 : w.cell? ⟨rb, o + 1, none⟩ = some y1) (h2 : w.cell? ⟨rb, o + 2, none⟩ = some y2) (j : Nat) (hj : j < 3) : (set3 w rb o x0 x1 x2).cell? ⟨rb, o + j, none⟩ = some (pick3 x0 x1 x2 j) := by
  unfold set3
  obtain rfl | rfl | rfl : j = 0 ∨ j = 1 ∨ j = 2 := by omega
  · rw [World.cell?_setCell_other _ _ _ _ (by intro e; simp only [Addr.mk.injEq] at e; omega), World.cell?_setCell_other _ _ _ _ (by intro e; simp only [Addr.mk.injEq] at e; omega)]
    exact World.cell?_setCell_same _ _ _ h0
  · rw [World.cell?_setCell_other _ _ _ _ (by intro e; simp only [Addr.mk.injEq] at e; omega)]
    exact World.cell?_setCell_same _ _ _ ((World.cell?_setCell_other _ _ _ _ (by intro e; simp only [Addr.mk.injEq] at e; omega)).trans h1)
  · exact World.cell?_setCell_same _ _ _ ((World.cell?_setCell_other _ _ _ _ (by intro e; simp only [Addr.mk.injEq] at e; omega)).trans ((World.cell?_setCell_other _ _ _ _ (by intro e; simp only [Addr.mk.injEq] at e; omega)).trans h2))
theorem set3_heap (w : World) (rb o : Nat) (x0 x1 x2 : Value) (k : Nat) (h : k ≠ rb) : (set3 w rb o x0 x1 x2).heap[k]? = w.heap[k]? := by
  unfold set3
  rw [Below.heap_setCell _ _ _ _ (by show k ≠ rb; exact h), Below.heap_setCell _ _ _ _ (by show k ≠ rb; exact h), Below.heap_setCell _ _ _ _ (by show k ≠ rb; exact h)]
theorem set3_frz (w : World) (rb o : Nat) (x0 x1 x2 : Value) (a : Addr) : (set3 w rb o x0 x1 x2).frozen? a = w.frozen? a := by simp [set3]
/-- Two rows change places. -/
def swapI (a b i : Nat) : Nat := if i = a then b else if i = b then a else i
theorem swapF_eq (R : Nat → List Int) (a b : Nat) : swapF R a b = fun i => R (swapI a b i) := by
  funext i
  unfold swapF swapI
  by_cases h1 : i = a
  · simp [h1]
  · by_cases h2 : i = b
    · subst h2; simp [h1]
    · simp [h1, h2]
theorem MRows.swap {w w1 : World} {rb B n u : Nat} {VL VB : Nat → Value} {R : Nat → List Int} (h : MRows w rb B n u VL VB R) {a b : Nat} (ha : a < n) (hb : b < n) (h1 : Below w.heap.size w w1) (hl : rb < w.heap.size) :
    MRows (set3 (set3 w1 rb (a * 3) (VL b) (.int .i64 (intN (R b) u)) (VB b)) rb (b * 3) (VL a) (.int .i64 (intN (R a) u)) (VB a)) rb B n u (fun i => VL (swapI a b i)) (fun i => VB (swapI a b i)) (swapF R a b) := by
  have hm := h.below h1 hl
  have hra := hm.row a ha
  have hrb := hm.row b hb
  rw [swapF_eq]
  refine h.perm (swapI a b) (fun i hi => ?_) (fun i j hi hj hij => ?_) (fun k hk hne => ?_) (fun o => ?_) (fun i hi j hj => ?_)
  · unfold swapI; split
    · exact hb
    · split
      · exact ha
      · exact hi
  · unfold swapI
    repeat' split
    all_goals omega
  · rw [set3_heap _ _ _ _ _ _ _ hne, set3_heap _ _ _ _ _ _ _ hne]
    exact h1.block k hk
  · rw [set3_frz, set3_frz]
    exact hm.frz o
  · have hbk : ∀ o, w1.cell? ⟨rb, o, none⟩ = w.cell? ⟨rb, o, none⟩ := fun o => World.cell?_of_block (h1.block rb hl)
    have e3 : ∀ (k : Nat) (i : Nat), i < n → k < 3 → (pick3 (VL i) (.int .i64 (intN (R i) u)) (VB i) k) = (pick3 (VL i) (.int .i64 (intN (R i) u)) (VB i) k) := fun _ _ _ _ => rfl
    have hp : ∀ i, i < n → ∀ k, k < 3 → w.cell? ⟨rb, i * 3 + k, none⟩ = some (pick3 (VL i) (.int .i64 (intN (R i) u)) (VB i) k) := fun i hi k hk => by
      have hr := h.row i hi
      obtain rfl | rfl | rfl : k = 0 ∨ k = 1 ∨ k = 2 := by omega
      · exact hr.left
      · exact hr.right
      · exact hr.by_
    by_cases hib : i = b
    · subst hib
      have hs : swapI a i i = a := by unfold swapI; split <;> simp_all
      rw [hs, hp a ha j hj]
      by_cases hab : a = i
      · subst hab
        have k0 := set3_same w1 rb (a * 3) (VL a) (.int .i64 (intN (R a) u)) (VB a) hra.left hra.right hra.by_
        exact set3_same _ rb (a * 3) _ _ _ (k0 0 (by omega)) (k0 1 (by omega)) (k0 2 (by omega)) j hj
      · exact set3_same _ rb (i * 3) _ _ _ ((set3_other _ _ _ _ _ _ _ (by omega)).trans hrb.left) ((set3_other _ _ _ _ _ _ _ (by omega)).trans hrb.right) ((set3_other _ _ _ _ _ _ _ (by omega)).trans hrb.by_) j hj
    · rw [set3_other _ _ _ _ _ _ _ (by omega)]
      by_cases hia : i = a
      · subst hia
        have hs : swapI i b i = b := by unfold swapI; simp
        rw [hs, hp b hb j hj]
        exact set3_same w1 rb (i * 3) _ _ _ hra.left hra.right hra.by_ j hj
      · have hs : swapI a b i = i := by unfold swapI; rw [if_neg hia, if_neg hib]
        rw [hs, set3_other _ _ _ _ _ _ _ (by omega), hbk]

end Go.Proofs.Ytnbgpeoceejolaa

namespace Go.Proofs.Ytnbgpeoceejolaa
open Go.RowKit

theorem OwnRow.setO {w : World} {B : Nat} {v : Value} {xs : List Int} (h : OwnRow w B v xs) (p : Addr) (u : Value) (hp : v.ownBlock ≠ some p.block) : OwnRow (w.setCell p u) B v xs :=
  ownsRow_same h fun _ hg => Below.heap_setCell _ _ _ _ (fun e => hp (e ▸ hg))
theorem own_zeros (w : World) (B n : Nat) (hB : B ≤ w.heap.size) (hn : n ≤ 1000) : OwnRow (w.alloc (.cells (Array.replicate n (Value.int .i64 0)) 2)) B (.slice (some ⟨w.heap.size, 0, none⟩) n n) (List.replicate n 0) := by
  have h := ownsRow_alloc_new w B (List.replicate n (Value.int .i64 0)) n hB (by simp) (by omega)
  unfold OwnRow
  have e : (List.replicate n (Value.int .i64 0)).toArray = Array.replicate n (Value.int .i64 0) := by simp
  rw [e] at h
  simpa using h
theorem info_R3 : (Try.prog.info? 123).map (fun i => (i.zero, i.size, i.bytes)) = some (some (.agg #[.slice none 0 0, .int .i64 0, .slice none 0 0]), 3, 56) := by kernel_rfl
/-- The cells of k rows. -/
def flat3 (VL : Nat → Value) (rs : List (Int × List Int)) (VB : Nat → Value) (k : Nat) : List Value := (List.range k).flatMap fun i => [VL i, .int .i64 (arO rs i), VB i]
theorem flat3_succ (VL : Nat → Value) (rs : List (Int × List Int)) (VB : Nat → Value) (k : Nat) : flat3 VL rs VB (k + 1) = flat3 VL rs VB k ++ [VL k, .int .i64 (arO rs k), VB k] := by simp [flat3, List.range_succ]
theorem flat3_len (VL : Nat → Value) (rs : List (Int × List Int)) (VB : Nat → Value) (k : Nat) : (flat3 VL rs VB k).length = k * 3 := by
  induction k with
  | zero => rfl
  | succ k ih => rw [flat3_succ, List.length_append, ih]; simp; omega
theorem flat3_at (VL : Nat → Value) (rs : List (Int × List Int)) (VB : Nat → Value) {k i : Nat} (hi : i < k) : (flat3 VL rs VB k)[i * 3]? = some (VL i) ∧ (flat3 VL rs VB k)[i * 3 + 1]? = some (.int .i64 (arO rs i)) ∧ (flat3 VL rs VB k)[i * 3 + 2]? = some (VB i) := by
  induction k with
  | zero => omega
  | succ k ih =>
    rw [flat3_succ]
    by_cases h : i < k
    · obtain ⟨h1, h2, h3⟩ := ih h
      refine ⟨?_, ?_, ?_⟩
      · rw [List.getElem?_append_left (by rw [flat3_len]; omega)]; exact h1
      · rw [List.getElem?_append_left (by rw [flat3_len]; omega)]; exact h2
      · rw [List.getElem?_append_left (by rw [flat3_len]; omega)]; exact h3
    · obtain rfl : i = k := by omega
      refine ⟨?_, ?_, ?_⟩
      · rw [List.getElem?_append_right (by rw [flat3_len]; omega), flat3_len, show i * 3 - i * 3 = 0 by omega]; rfl
      · rw [List.getElem?_append_right (by rw [flat3_len]; omega), flat3_len, show i * 3 + 1 - i * 3 = 1 by omega]; rfl
      · rw [List.getElem?_append_right (by rw [flat3_len]; omega), flat3_len, show i * 3 + 2 - i * 3 = 2 by omega]; rfl
theorem flat3_congr {VL VL' VB VB' : Nat → Value} {rs : List (Int × List Int)} {k : Nat} (h : ∀ i, i < k → VL i = VL' i ∧ VB i = VB' i) : flat3 VL rs VB k = flat3 VL' rs VB' k := by
  induction k with
  | zero => rfl
  | succ k ih => rw [flat3_succ, flat3_succ, ih fun i hi => h i (by omega), (h k (by omega)).1, (h k (by omega)).2]
/-- How an equation has been made: once itself. -/
def unitL (n i : Nat) : List Int := (List.range n).map fun j => if j = i then 1 else 0
theorem unitL_set (n i : Nat) : (List.replicate n (0 : Int)).set i 1 = unitL n i := by
  apply List.ext_getElem
  · simp [unitL]
  · intro j h1 h2
    rw [List.getElem_set]
    by_cases h : i = j
    · subst h; simp [unitL]
    · rw [if_neg h]
      simp [unitL, show ¬ j = i from fun e => h e.symm]
/-- Rows in the making: k of them. -/
structure MkRows (w : World) (B : Nat) (v : Value) (k n : Nat) (VL VB : Nat → Value) (rs : List (Int × List Int)) : Prop where
  outer : w.ownsRow B 123 3 v k (flat3 VL rs VB k)
  left : ∀ i, i < k → OwnRow w B (VL i) (rowO rs i)
  by_ : ∀ i, i < k → OwnRow w B (VB i) (unitL n i)
  ap : ∀ i j, i < k → j < k → i ≠ j → ∀ g, ((VL i).ownBlock = some g ∨ (VB i).ownBlock = some g) → (VL j).ownBlock ≠ some g ∧ (VB j).ownBlock ≠ some g
  own : ∀ i, i < k → ∀ g, (VL i).ownBlock = some g → (VB i).ownBlock ≠ some g
  out : ∀ i, i < k → ∀ g, ((VL i).ownBlock = some g ∨ (VB i).ownBlock = some g) → v.ownBlock ≠ some g
theorem MkRows.below {w w' : World} {B k n : Nat} {v : Value} {VL VB : Nat → Value} {rs : List (Int × List Int)} (h : MkRows w B v k n VL VB rs) (hb : Below w.heap.size w w') : MkRows w' B v k n VL VB rs :=
  ⟨ownsRow_below h.outer hb, fun i hi => (h.left i hi).below hb, fun i hi => (h.by_ i hi).below hb, h.ap, h.own, h.out⟩

/-- One row more. -/
theorem MkRows.more {wr w7 w8 : World} {B k n c g cap : Nat} {a : Option Addr} {VL VB : Nat → Value} {rs : List (Int × List Int)} {V1 V2 : Value} (h : MkRows wr B (.slice a k c) k n VL VB rs) (hB : B ≤ wr.heap.size) (hsz : wr.heap.size ≤ w7.heap.size) (h1 : ∀ j, j < wr.heap.size → w7.heap[j]? = wr.heap[j]?)
    (hA : OwnRow w7 wr.heap.size V1 (rowO rs k)) (hG : OwnRow w7 wr.heap.size V2 (unitL n k)) (hAG : ∀ x, V1.ownBlock = some x → V2.ownBlock ≠ some x) (hg : w7.grownBy w8 (Value.slice a k c).ownBlock)
    (hown : w8.ownsRow B 123 3 (.slice (some ⟨g, 0, none⟩) (k + 1) cap) (k + 1) (flat3 VL rs VB k ++ [V1, .int .i64 (arO rs k), V2])) (hat : (Value.slice a k c).ownBlock = some g ∨ g = w7.heap.size) :
    MkRows w8 B (.slice (some ⟨g, 0, none⟩) (k + 1) cap) (k + 1) n (fun i => if i = k then V1 else VL i) (fun i => if i = k then V2 else VB i) rs := by
  have hgo : ∀ x, (Value.slice (some ⟨g, 0, none⟩) (k + 1) cap).ownBlock = some x → x = g := fun x hx => by simpa [Value.ownBlock, eq_comm] using hx
  have hout : ∀ x, (Value.slice a k c).ownBlock = some x → x < wr.heap.size := fun x hx => (h.outer.lt x hx).2
  have old : ∀ {v : Value} {xs : List Int}, OwnRow wr B v xs → (∀ x, v.ownBlock = some x → (Value.slice a k c).ownBlock ≠ some x) → OwnRow w8 B v xs := fun {v xs} ho hne => by
    refine ownsRow_same ho fun x hx => ?_
    have hx1 := (ho.lt x hx).2
    rw [hg.block x (by omega) (fun e => hne x hx e.symm)]
    exact h1 x hx1
  have new : ∀ {v : Value} {xs : List Int}, OwnRow w7 wr.heap.size v xs → OwnRow w8 B v xs := fun {v xs} ho => by
    have h8 : OwnRow w8 wr.heap.size v xs := ownsRow_same ho fun x hx => hg.block x (ho.lt x hx).2 (fun e => by have := hout x e.symm; have := (ho.lt x hx).1; omega)
    exact h8.mono hB
  have far : ∀ x, x < w7.heap.size → (Value.slice a k c).ownBlock ≠ some x → x ≠ g := fun x hx hne e => by
    subst e
    rcases hat with e | e
    · exact hne e
    · omega
  refine ⟨?_, fun i hi => ?_, fun i hi => ?_, fun i j hi hj hij x hx => ?_, fun i hi x hx => ?_, fun i hi x hx e => ?_⟩
  · rw [flat3_succ]
    simp only [if_true]
    rw [flat3_congr (VL := fun i => if i = k then V1 else VL i) (VL' := VL) (VB := fun i => if i = k then V2 else VB i) (VB' := VB) fun i hi => ⟨if_neg (by omega), if_neg (by omega)⟩]
    exact hown
  · show OwnRow w8 B (if i = k then V1 else VL i) (rowO rs i)
    by_cases hik : i = k
    · rw [if_pos hik, hik]; exact new hA
    · rw [if_neg hik]; exact old (h.left i (by omega)) fun x hx => h.out i (by omega) x (.inl hx)
  · show OwnRow w8 B (if i = k then V2 else VB i) (unitL n i)
    by_cases hik : i = k
    · rw [if_pos hik, hik]; exact new hG
    · rw [if_neg hik]; exact old (h.by_ i (by omega)) fun x hx => h.out i (by omega) x (.inr hx)
  · by_cases hik : i = k
    · simp only [if_pos hik] at hx
      have hxw : wr.heap.size ≤ x := by
        rcases hx with e | e
        · exact (hA.lt x e).1
        · exact (hG.lt x e).1
      have hjk : ¬ j = k := by omega
      simp only [if_neg hjk]
      exact ⟨fun e => by have := ((h.left j (by omega)).lt x e).2; omega, fun e => by have := ((h.by_ j (by omega)).lt x e).2; omega⟩
    · simp only [if_neg hik] at hx
      have hxw : x < wr.heap.size := by
        rcases hx with e | e
        · exact ((h.left i (by omega)).lt x e).2
        · exact ((h.by_ i (by omega)).lt x e).2
      by_cases hjk : j = k
      · simp only [if_pos hjk]
        exact ⟨fun e => by have := (hA.lt x e).1; omega, fun e => by have := (hG.lt x e).1; omega⟩
      · simp only [if_neg hjk]
        exact h.ap i j (by omega) (by omega) hij x hx
  · by_cases hik : i = k
    · simp only [if_pos hik] at hx ⊢; exact hAG x hx
    · simp only [if_neg hik] at hx ⊢; exact h.own i (by omega) x hx
  · have hxg := hgo x e
    by_cases hik : i = k
    · simp only [if_pos hik] at hx
      have hxw : wr.heap.size ≤ x ∧ x < w7.heap.size := by
        rcases hx with e | e
        · exact hA.lt x e
        · exact hG.lt x e
      exact far x hxw.2 (fun e => by have := hout x e; omega) hxg
    · simp only [if_neg hik] at hx
      have hxw : x < wr.heap.size := by
        rcases hx with e | e
        · exact ((h.left i (by omega)).lt x e).2
        · exact ((h.by_ i (by omega)).lt x e).2
      exact far x (by omega) (h.out i (by omega) x hx) hxg

set_option linter.unusedSimpArgs false in
set_option maxHeartbeats 4000000 in
set_option maxRecDepth 100000 in
theorem l07RowsC (sb so : Nat) (p : Int) (u : Nat) (rs : List (Int × List Int)) (w : World) (hs : SysAt w sb so p u rs) (hok : SysOk p u rs) :
    Calls Try.prog 140 #[.pointer (some ⟨sb, so, none⟩)] w fun e w' => ∃ a c VL VB, e = .returned (.slice a rs.length c) ∧ MkRows w' w.heap.size (.slice a rs.length c) rs.length rs.length VL VB rs ∧ Below w.heap.size w w' := by
  obtain ⟨hpr, hun, a0, n0, c0, hls, hes⟩ := hs
  obtain ⟨ea, ec, hv, hnn, hel⟩ := hes
  simp only [Value.slice.injEq] at hv
  obtain ⟨rfl, rfl, rfl⟩ := hv
  have HEL := Lib.hid hel
  have HOK := Lib.hid hok
  have hn24 := hok.2.2.1
  have hu12 := hok.2.1
  obtain ⟨i0, hi, hz0, hz1, hz2⟩ := info_parts info_R3
  have hmk := make_row rs.length (by omega)
  have HLS := Lib.hid hls
  clear hel hok hls hpr hun
  go_enter Try.func140, Try.ntmps140
  go_wp2
  obtain ⟨w1, hw1⟩ : ∃ w1, w.alloc (.cells #[] 123) = w1 := ⟨_, rfl⟩
  have HW1 : Hid (Below w.heap.size w w1) := Lib.hid (by rw [← hw1]; exact (Below.refl _ _).alloc (Nat.le_refl _) _)
  have HI1 : Hid (MkRows w1 w.heap.size (.slice (some ⟨w.heap.size, 0, none⟩) 0 0) 0 rs.length (fun _ => .slice none 0 0) (fun _ => .slice none 0 0) rs) := Lib.hid (by
    refine ⟨⟨rfl, .inr ⟨w.heap.size, 0, #[], rfl, Nat.le_refl _, by rw [← hw1]; exact heap_alloc_new w _, Nat.le_refl _, Nat.zero_le _, rfl, rfl⟩⟩, fun i hi => by omega, fun i hi => by omega, fun i j hi => by omega, fun i hi => by omega, fun i hi => by omega⟩)
  rw [hw1]
  clear hw1
  go_loopw [3, 4] (fun v i wr => ∃ (k : Nat) (a : Option Addr) (c : Nat) (VL VB : Nat → Value), k ≤ rs.length ∧ i = .int .i64 k ∧ v = .slice a k c ∧ MkRows wr w.heap.size (.slice a k c) k rs.length VL VB rs ∧ Below w.heap.size w wr) (fun _ i _ => rs.length - (intOf i).toNat)
  case atStart => exact ⟨0, _, _, _, _, Nat.zero_le _, rfl, rfl, HI1.out, HW1.out⟩
  case round =>
    obtain ⟨k, a, c, VL, VB, hk, rfl, rfl, hmkr, hbl⟩ := hrel
    have HMK := Lib.hid hmkr
    have HBL := Lib.hid hbl
    have dl := below_cell hbl HLS.out
    clear hmkr
    by_cases hlt : k < rs.length
    · obtain ⟨eb, ef, rfl, hel⟩ := HEL.out (by omega)
      obtain ⟨er, la, ln, lc, el, hrow⟩ := (hel k hlt).below hbl
      have hln : ln = (rowO rs k).length := by
        obtain ⟨a', c', hv, _, _⟩ := hrow
        simp only [Value.slice.injEq] at hv
        exact hv.2.1
      subst hln
      have HLR := Lib.hid hrow
      obtain ⟨hlen, hrr, _⟩ := HOK.out.2.2.2 k hlt
      have hl1 : 1 ≤ (rowO rs k).length := by have := hu12.1; omega
      have hl12 : (rowO rs k).length ≤ 12 := by have := hu12.2; omega
      obtain ⟨r, hr⟩ : ∃ r, arO rs k = r := ⟨_, rfl⟩
      rw [hr] at er
      have HR := Lib.hid hr
      have hkn : (k : Int) < (rs.length : Int) := by omega
      have d0 := dl
      have d1 := el
      have d2 := er
      clear hbl dl hel hrow hlen hrr hr el er
      go_upto_region 5 with fail
      go_cut [5] from 7 to 47 (fun v5 wz => ∃ b5 a1 c1 g2, v5 = .pointer (some ⟨b5, 0, none⟩) ∧ Box 123 wz b5 #[.slice a1 (rowO rs k).length c1, .int .i64 r, .slice (some ⟨g2, 0, none⟩) rs.length rs.length] ∧ OwnRow wz wr.heap.size (.slice a1 (rowO rs k).length c1) (rowO rs k) ∧ OwnRow wz wr.heap.size (.slice (some ⟨g2, 0, none⟩) rs.length rs.length) (List.replicate rs.length 0) ∧ (∀ g, (Value.slice a1 (rowO rs k).length c1).ownBlock = some g → g ≠ g2) ∧ (∀ g, (Value.slice a1 (rowO rs k).length c1).ownBlock = some g → g ≠ b5) ∧ g2 ≠ b5 ∧ Below wr.heap.size wr wz)
      case first =>
        refine wp_region_noPanic ?_
        refine wp_region_late (S := (fun w' => w'.cell? ⟨sb, so + 2, none⟩ = some (.slice (some ⟨eb, ef, none⟩) rs.length c0) ∧ w'.cell? ⟨eb, ef + k * 2, none⟩ = some (.slice la (rowO rs k).length lc) ∧ w'.cell? ⟨eb, ef + k * 2 + 1, none⟩ = some (.int .i64 r) ∧ Below wr.heap.size wr w')) [25] (by kernel_rfl) ?_ (fun hHeld => ?_)
        · exact ⟨d0, d1, d2, (QW.refl _).drew.below _⟩
        refine wpAnyL_free (i := 0) (v := ?_) (some 16) rfl rfl (by kernel_rfl) (by kernel_rfl) (by kernel_rfl) (by decide) (fun _ _ _ h => h) (Or.inl ⟨by rfl, ?_⟩) (fun h0 => by assumption) ?_
        rotate_left
        · intro wS
          go_simp
          try with_reducible rfl
        try simp only [Act.put, List.setIfInBounds_toArray, List.set_cons_zero, List.set_cons_succ]
        refine wpAnyL_free (i := 1) (v := ?_) (some 17) rfl rfl (by kernel_rfl) (by kernel_rfl) (by kernel_rfl) (by decide) (fun _ _ _ h => h) (Or.inl ⟨by rfl, ?_⟩) (fun h0 => by assumption) ?_
        rotate_left
        · intro wS
          go_simp
          try with_reducible rfl
        try simp only [Act.put, List.setIfInBounds_toArray, List.set_cons_zero, List.set_cons_succ]
        refine wpAnyL_free (i := 2) (v := ?_) (some 18) rfl rfl (by kernel_rfl) (by kernel_rfl) (by kernel_rfl) (by decide) (fun _ _ _ h => h) (Or.inl ⟨by rfl, ?_⟩) (fun h0 => by assumption) ?_
        rotate_left
        · intro wS
          go_simp
          try with_reducible rfl
        try simp only [Act.put, List.setIfInBounds_toArray, List.set_cons_zero, List.set_cons_succ]
        refine wpAnyL_take (i := 3) (v := ?_) (some 19) rfl rfl (by kernel_rfl) (by kernel_rfl) (by kernel_rfl) (by kernel_rfl) (by kernel_rfl) (fun _ _ _ h => h) (Or.inl ⟨by rfl, ?_⟩) (by assumption) ?_
        rotate_left
        · intro wS hSw
          try dsimp only at hSw
          go_simp
          try with_reducible rfl
        try simp only [Act.put, List.setIfInBounds_toArray, List.set_cons_zero, List.set_cons_succ]
        refine wpAnyL_free (i := 4) (v := ?_) (some 20) rfl rfl (by kernel_rfl) (by kernel_rfl) (by kernel_rfl) (by decide) (fun _ _ _ h => h) (Or.inl ⟨by rfl, ?_⟩) (fun h0 => by assumption) ?_
        rotate_left
        · intro wS
          go_simp
          try with_reducible rfl
        try simp only [Act.put, List.setIfInBounds_toArray, List.set_cons_zero, List.set_cons_succ]
        refine wpAnyL_free (i := 5) (v := ?_) (some 21) rfl rfl (by kernel_rfl) (by kernel_rfl) (by kernel_rfl) (by decide) (fun _ _ _ h => h) (Or.inl ⟨by rfl, ?_⟩) (fun h0 => by assumption) ?_
        rotate_left
        · intro wS
          go_simp
          try with_reducible rfl
        try simp only [Act.put, List.setIfInBounds_toArray, List.set_cons_zero, List.set_cons_succ]
        refine wpAnyL_free (i := 6) (v := ?_) (some 22) rfl rfl (by kernel_rfl) (by kernel_rfl) (by kernel_rfl) (by decide) (fun _ _ _ h => h) (Or.inl ⟨by rfl, ?_⟩) (fun h0 => by assumption) ?_
        rotate_left
        · intro wS
          go_simp
          try with_reducible rfl
        try simp only [Act.put, List.setIfInBounds_toArray, List.set_cons_zero, List.set_cons_succ]
        refine wpAnyL_take (i := 7) (v := ?_) (some 23) rfl rfl (by kernel_rfl) (by kernel_rfl) (by kernel_rfl) (by kernel_rfl) (by kernel_rfl) (fun _ _ _ h => h) (Or.inl ⟨by rfl, ?_⟩) (by assumption) ?_
        rotate_left
        · intro wS hSw
          try dsimp only at hSw
          go_simp
          try with_reducible rfl
        try simp only [Act.put, List.setIfInBounds_toArray, List.set_cons_zero, List.set_cons_succ]
        refine wpAnyL_free (i := 9) (v := ?_) (some 25) rfl rfl (by kernel_rfl) (by kernel_rfl) (by kernel_rfl) (by decide) (fun _ _ _ h => h) (Or.inl ⟨by rfl, ?_⟩) (fun h0 => by assumption) ?_
        rotate_left
        · intro wS
          go_simp
          try with_reducible rfl
        try simp only [Act.put, List.setIfInBounds_toArray, List.set_cons_zero, List.set_cons_succ]
        refine wpAnyL_free (i := 10) (v := ?_) (some 26) rfl rfl (by kernel_rfl) (by kernel_rfl) (by kernel_rfl) (by decide) (fun _ _ _ h => h) (Or.inl ⟨by rfl, ?_⟩) (fun h0 => by assumption) ?_
        rotate_left
        · intro wS
          go_simp
          try with_reducible rfl
        try simp only [Act.put, List.setIfInBounds_toArray, List.set_cons_zero, List.set_cons_succ]
        refine wpAnyL_free (i := 11) (v := ?_) (some 27) rfl rfl (by kernel_rfl) (by kernel_rfl) (by kernel_rfl) (by decide) (fun _ _ _ h => h) (Or.inl ⟨by rfl, ?_⟩) (fun h0 => by assumption) ?_
        rotate_left
        · intro wS
          go_simp
          try with_reducible rfl
        try simp only [Act.put, List.setIfInBounds_toArray, List.set_cons_zero, List.set_cons_succ]
        refine wpAnyL_take (i := 12) (v := ?_) (some 28) rfl rfl (by kernel_rfl) (by kernel_rfl) (by kernel_rfl) (by kernel_rfl) (by kernel_rfl) (fun _ _ _ h => h) (Or.inl ⟨by rfl, ?_⟩) (by assumption) ?_
        rotate_left
        · intro wS hSw
          try dsimp only at hSw
          go_simp
          try with_reducible rfl
        try simp only [Act.put, List.setIfInBounds_toArray, List.set_cons_zero, List.set_cons_succ]
        refine wpAnyL_free (i := 13) (v := ?_) (some 29) rfl rfl (by kernel_rfl) (by kernel_rfl) (by kernel_rfl) (by decide) (fun _ _ _ h => h) (Or.inl ⟨by rfl, ?_⟩) (fun h0 => by assumption) ?_
        rotate_left
        · intro wS
          go_simp
          try with_reducible rfl
        try simp only [Act.put, List.setIfInBounds_toArray, List.set_cons_zero, List.set_cons_succ]
        refine wpAnyL_free (i := 14) (v := ?_) (some 30) rfl rfl (by kernel_rfl) (by kernel_rfl) (by kernel_rfl) (by decide) (fun _ _ _ h => h) (Or.inl ⟨by rfl, ?_⟩) (fun h0 => by assumption) ?_
        rotate_left
        · intro wS
          go_simp
          try with_reducible rfl
        try simp only [Act.put, List.setIfInBounds_toArray, List.set_cons_zero, List.set_cons_succ]
        refine wpAnyL_free (i := 15) (v := ?_) (some 31) rfl rfl (by kernel_rfl) (by kernel_rfl) (by kernel_rfl) (by decide) (fun _ _ _ h => h) (Or.inl ⟨by rfl, ?_⟩) (fun h0 => by assumption) ?_
        rotate_left
        · intro wS
          go_simp
          try with_reducible rfl
        try simp only [Act.put, List.setIfInBounds_toArray, List.set_cons_zero, List.set_cons_succ]
        refine wpAnyL_take (i := 16) (v := ?_) (some 32) rfl rfl (by kernel_rfl) (by kernel_rfl) (by kernel_rfl) (by kernel_rfl) (by kernel_rfl) (fun _ _ _ h => h) (Or.inl ⟨by rfl, ?_⟩) (by assumption) ?_
        rotate_left
        · intro wS hSw
          try dsimp only at hSw
          go_simp
          try with_reducible rfl
        try simp only [Act.put, List.setIfInBounds_toArray, List.set_cons_zero, List.set_cons_succ]
        refine wpAnyL_free (i := 17) (v := ?_) (some 33) rfl rfl (by kernel_rfl) (by kernel_rfl) (by kernel_rfl) (by decide) (fun _ _ _ h => h) (Or.inl ⟨by rfl, ?_⟩) (fun h0 => by assumption) ?_
        rotate_left
        · intro wS
          go_simp
          try with_reducible rfl
        try simp only [Act.put, List.setIfInBounds_toArray, List.set_cons_zero, List.set_cons_succ]
        refine wpAnyL_free (i := 18) (v := ?_) (some 34) rfl rfl (by kernel_rfl) (by kernel_rfl) (by kernel_rfl) (by decide) (fun _ _ _ h => h) (Or.inl ⟨by rfl, ?_⟩) (fun h0 => by assumption) ?_
        rotate_left
        · intro wS
          go_simp
          try with_reducible rfl
        try simp only [Act.put, List.setIfInBounds_toArray, List.set_cons_zero, List.set_cons_succ]
        refine wpAnyL_free (i := 19) (v := ?_) (some 35) rfl rfl (by kernel_rfl) (by kernel_rfl) (by kernel_rfl) (by decide) (fun _ _ _ h => h) (Or.inl ⟨by rfl, ?_⟩) (fun h0 => by assumption) ?_
        rotate_left
        · intro wS
          go_simp
          try with_reducible rfl
        try simp only [Act.put, List.setIfInBounds_toArray, List.set_cons_zero, List.set_cons_succ]
        refine wpAnyL_take (i := 20) (v := ?_) (some 36) rfl rfl (by kernel_rfl) (by kernel_rfl) (by kernel_rfl) (by kernel_rfl) (by kernel_rfl) (fun _ _ _ h => h) (Or.inl ⟨by rfl, ?_⟩) (by assumption) ?_
        rotate_left
        · intro wS hSw
          try dsimp only at hSw
          go_simp
          try with_reducible rfl
        try simp only [Act.put, List.setIfInBounds_toArray, List.set_cons_zero, List.set_cons_succ]
        refine wpAnyL_free (i := 21) (v := ?_) (some 37) rfl rfl (by kernel_rfl) (by kernel_rfl) (by kernel_rfl) (by decide) (fun _ _ _ h => h) (Or.inl ⟨by rfl, ?_⟩) (fun h0 => by assumption) ?_
        rotate_left
        · intro wS
          go_simp
          try with_reducible rfl
        try simp only [Act.put, List.setIfInBounds_toArray, List.set_cons_zero, List.set_cons_succ]
        refine wpAnyL_ready (rs := [8, 22, 24]) (by kernel_rfl) (by simp) ?_
        refine AllReadyL.cons rfl (fun K hK => ?_) ?_
        · skip
          go_simp; go_at_call 144; refine (l00Own _ _ _ (rowO rs k) _ (HLR.out.below hHeld.2.2.2) hl1 (by omega)).mono ?_; rintro e wA ⟨a1, c1, rfl, hoA, hbA⟩
          have HA1 := Lib.hid (hoA.mono hHeld.2.2.2.size)
          have hnA : ∀ g, (Value.slice a1 (rowO rs k).length c1).ownBlock = some g → wr.drew.heap.size ≤ g := fun g hg => (hoA.lt g hg).1
          have HNA := Lib.hid hnA
          clear hoA hnA
          refine hK.out _ _ ?_ (fun hHeld => ?_)
          · exact ⟨below_cell hbA hHeld.1, below_cell hbA hHeld.2.1, below_cell hbA hHeld.2.2.1, hHeld.2.2.2.trans (hbA.mono hHeld.2.2.2.size)⟩
          clear hK K
          try simp only [Act.put, List.setIfInBounds_toArray, List.set_cons_zero, List.set_cons_succ]
          refine wpAnyL_ready (rs := [22, 24]) (by kernel_rfl) (by simp) ?_
          refine AllReadyL.cons rfl (fun K hK => ?_) ?_
          · skip
            go_simp
            obtain ⟨wB, hwB⟩ : ∃ wB, wA.alloc (.cells (Array.replicate rs.length (Value.int .i64 0)) 2) = wB := ⟨_, rfl⟩
            obtain ⟨g2, hg2⟩ : ∃ g2, wA.heap.size = g2 := ⟨_, rfl⟩
            have hbB : Below wA.heap.size wA wB := by rw [← hwB]; exact (Below.refl _ _).alloc (Nat.le_refl _) _
            have HB2 : Hid (OwnRow wB wr.heap.size (.slice (some ⟨g2, 0, none⟩) rs.length rs.length) (List.replicate rs.length 0)) := Lib.hid (by rw [← hwB, ← hg2]; exact own_zeros _ _ _ hHeld.2.2.2.size (by omega))
            have HNB := Lib.hid hg2
            try simp only [World.drew_heap]
            try rw [show wr.heap.size = g2 from hg2]
            try rw [hg2]
            rw [hwB]
            clear hwB
            have HA2 := Lib.hid (HA1.out.below hbB)
            refine hK.out _ _ ?_ (fun hHeld => ?_)
            · exact ⟨below_cell hbB hHeld.1, below_cell hbB hHeld.2.1, below_cell hbB hHeld.2.2.1, hHeld.2.2.2.trans (hbB.mono hHeld.2.2.2.size)⟩
            clear hK K
            try simp only [Act.put, List.setIfInBounds_toArray, List.set_cons_zero, List.set_cons_succ]
            refine wpAnyL_free (i := 23) (v := ?_) (some 39) rfl rfl (by kernel_rfl) (by kernel_rfl) (by kernel_rfl) (by decide) (fun _ _ _ h => h) (Or.inl ⟨by rfl, ?_⟩) (fun h0 => by assumption) ?_
            rotate_left
            · intro wS
              go_simp
              try with_reducible rfl
            try simp only [Act.put, List.setIfInBounds_toArray, List.set_cons_zero, List.set_cons_succ]
            refine wpAnyL_ready (rs := [24]) (by kernel_rfl) (by simp) ?_
            refine AllReadyL.cons rfl (fun K hK => ?_) AllReadyL.nil
            go_simp
            obtain ⟨wC, hwC⟩ : ∃ wC, wB.alloc (.cells #[.slice none 0 0, .int .i64 0, .slice none 0 0] 123) = wC := ⟨_, rfl⟩
            obtain ⟨b5, hb5⟩ : ∃ b5, wB.heap.size = b5 := ⟨_, rfl⟩
            have hbC : Below wB.heap.size wB wC := by rw [← hwC]; exact (Below.refl _ _).alloc (Nat.le_refl _) _
            have HC3 : Hid (Box 123 wC b5 #[.slice none 0 0, .int .i64 0, .slice none 0 0]) := Lib.hid (by rw [← hwC, ← hb5]; exact Box.new _ _ _)
            have HNC := Lib.hid hb5
            have HLC : Hid (wr.heap.size ≤ b5) := Lib.hid (by rw [← hb5]; exact hHeld.2.2.2.size)
            try simp only [World.drew_heap]
            try rw [show wr.heap.size = b5 from hb5]
            try rw [hb5]
            rw [hwC]
            clear hwC
            have HA3 := Lib.hid (HA2.out.below hbC)
            have HB3 := Lib.hid (HB2.out.below hbC)
            refine hK.out _ _ ?_ (fun hHeld => ?_)
            · exact ⟨below_cell hbC hHeld.1, below_cell hbC hHeld.2.1, below_cell hbC hHeld.2.2.1, hHeld.2.2.2.trans (hbC.mono hHeld.2.2.2.size)⟩
            clear hK K
            try simp only [Act.put, List.setIfInBounds_toArray, List.set_cons_zero, List.set_cons_succ]
            refine wpAnyL_ready (rs := [25]) (by kernel_rfl) (by simp) ?_
            refine AllReadyL.last rfl (by kernel_rfl) (fun K hK => ?_) AllReadyL.nil
            have HBW := Lib.hid hHeld.2.2.2
            have hAB : ∀ g, (Value.slice a1 (rowO rs k).length c1).ownBlock = some g → g ≠ g2 := fun g hg e => by
              have h1 := (HA1.out.lt g hg).2
              have h2 := HNB.out
              omega
            have hAC : ∀ g, (Value.slice a1 (rowO rs k).length c1).ownBlock = some g → g ≠ b5 := fun g hg e => by
              have h1 := (HA2.out.lt g hg).2
              have h2 := HNC.out
              omega
            have hBC : g2 ≠ b5 := fun e => by
              have h1 := (HB2.out.lt g2 (by simp [Value.ownBlock])).2
              have h2 := HNC.out
              omega
            have HAB := Lib.hid hAB
            have HAC := Lib.hid hAC
            have HBC := Lib.hid hBC
            have z0 : wC.cell? ⟨b5, 0, none⟩ = some (.slice none 0 0) := HC3.out.c 0 rfl
            have y0 := HC3.out.free 0
            have z1 : wC.cell? ⟨b5, 1, none⟩ = some (.int .i64 0) := HC3.out.c 1 rfl
            have y1 := HC3.out.free 1
            have z2 : wC.cell? ⟨b5, 2, none⟩ = some (.slice none 0 0) := HC3.out.c 2 rfl
            have y2 := HC3.out.free 2
            clear hAB hAC hBC
            go_simp
            refine hK.out _ _ ?_
            clear hK K
            try simp only [Act.put, List.setIfInBounds_toArray, List.set_cons_zero, List.set_cons_succ]
            refine wpAnyL_done (by kernel_rfl) ?_ _
            refine NoPanic.normal ?_
            have HF := Lib.hid (((HC3.out.set 0 (.slice a1 (rowO rs k).length c1)).set 1 (.int .i64 r)).set 2 (.slice (some ⟨g2, 0, none⟩) rs.length rs.length))
            have hlo : wr.heap.size ≤ b5 := HLC.out
            have HBF := Lib.hid (((HBW.out.setCell (p := ⟨b5, 0, none⟩) hlo (.slice a1 (rowO rs k).length c1)).setCell (p := ⟨b5, 1, none⟩) hlo (.int .i64 r)).setCell (p := ⟨b5, 2, none⟩) hlo (.slice (some ⟨g2, 0, none⟩) rs.length rs.length))
            have HAF := Lib.hid (OwnRow.setO (OwnRow.setO (OwnRow.setO HA3.out ⟨b5, 0, none⟩ (.slice a1 (rowO rs k).length c1) (fun e => HAC.out b5 e rfl)) ⟨b5, 1, none⟩ (.int .i64 r) (fun e => HAC.out b5 e rfl)) ⟨b5, 2, none⟩ (.slice (some ⟨g2, 0, none⟩) rs.length rs.length) (fun e => HAC.out b5 e rfl))
            have hg2n : ∀ o : Nat, (Value.slice (some ⟨g2, 0, none⟩) rs.length rs.length).ownBlock ≠ some (Addr.mk b5 o none).block := fun o e => HBC.out (by simpa [Value.ownBlock] using e)
            have HGF := Lib.hid (OwnRow.setO (OwnRow.setO (OwnRow.setO HB3.out ⟨b5, 0, none⟩ (.slice a1 (rowO rs k).length c1) (hg2n 0)) ⟨b5, 1, none⟩ (.int .i64 r) (hg2n 1)) ⟨b5, 2, none⟩ (.slice (some ⟨g2, 0, none⟩) rs.length rs.length) (hg2n 2))
            clear z0 z1 z2 y0 y1 y2 hHeld hlo hg2n
            go_wp2_with fail
            go_meet
            exact ⟨b5, a1, c1, g2, rfl, HF.out, HAF.out, HGF.out, HAB.out, HAC.out, HBC.out, HBF.out⟩
          refine AllReadyL.cons rfl (fun K hK => ?_) AllReadyL.nil
          go_simp
          obtain ⟨wC, hwC⟩ : ∃ wC, wA.alloc (.cells #[.slice none 0 0, .int .i64 0, .slice none 0 0] 123) = wC := ⟨_, rfl⟩
          obtain ⟨b5, hb5⟩ : ∃ b5, wA.heap.size = b5 := ⟨_, rfl⟩
          have hbC : Below wA.heap.size wA wC := by rw [← hwC]; exact (Below.refl _ _).alloc (Nat.le_refl _) _
          have HC2 : Hid (Box 123 wC b5 #[.slice none 0 0, .int .i64 0, .slice none 0 0]) := Lib.hid (by rw [← hwC, ← hb5]; exact Box.new _ _ _)
          have HNC := Lib.hid hb5
          have HLC : Hid (wr.heap.size ≤ b5) := Lib.hid (by rw [← hb5]; exact hHeld.2.2.2.size)
          try simp only [World.drew_heap]
          try rw [show wr.heap.size = b5 from hb5]
          try rw [hb5]
          rw [hwC]
          clear hwC
          have HA2 := Lib.hid (HA1.out.below hbC)
          refine hK.out _ _ ?_ (fun hHeld => ?_)
          · exact ⟨below_cell hbC hHeld.1, below_cell hbC hHeld.2.1, below_cell hbC hHeld.2.2.1, hHeld.2.2.2.trans (hbC.mono hHeld.2.2.2.size)⟩
          clear hK K
          try simp only [Act.put, List.setIfInBounds_toArray, List.set_cons_zero, List.set_cons_succ]
          refine wpAnyL_ready (rs := [22]) (by kernel_rfl) (by simp) ?_
          refine AllReadyL.cons rfl (fun K hK => ?_) AllReadyL.nil
          go_simp
          obtain ⟨wB, hwB⟩ : ∃ wB, wC.alloc (.cells (Array.replicate rs.length (Value.int .i64 0)) 2) = wB := ⟨_, rfl⟩
          obtain ⟨g2, hg2⟩ : ∃ g2, wC.heap.size = g2 := ⟨_, rfl⟩
          have hbB : Below wC.heap.size wC wB := by rw [← hwB]; exact (Below.refl _ _).alloc (Nat.le_refl _) _
          have HB3 : Hid (OwnRow wB wr.heap.size (.slice (some ⟨g2, 0, none⟩) rs.length rs.length) (List.replicate rs.length 0)) := Lib.hid (by rw [← hwB, ← hg2]; exact own_zeros _ _ _ hHeld.2.2.2.size (by omega))
          have HNB := Lib.hid hg2
          try simp only [World.drew_heap]
          try rw [show wr.heap.size = g2 from hg2]
          try rw [hg2]
          rw [hwB]
          clear hwB
          have HA3 := Lib.hid (HA2.out.below hbB)
          have HC3 := Lib.hid (HC2.out.below hbB)
          refine hK.out _ _ ?_ (fun hHeld => ?_)
          · exact ⟨below_cell hbB hHeld.1, below_cell hbB hHeld.2.1, below_cell hbB hHeld.2.2.1, hHeld.2.2.2.trans (hbB.mono hHeld.2.2.2.size)⟩
          clear hK K
          try simp only [Act.put, List.setIfInBounds_toArray, List.set_cons_zero, List.set_cons_succ]
          refine wpAnyL_free (i := 23) (v := ?_) (some 39) rfl rfl (by kernel_rfl) (by kernel_rfl) (by kernel_rfl) (by decide) (fun _ _ _ h => h) (Or.inl ⟨by rfl, ?_⟩) (fun h0 => by assumption) ?_
          rotate_left
          · intro wS
            go_simp
            try with_reducible rfl
          try simp only [Act.put, List.setIfInBounds_toArray, List.set_cons_zero, List.set_cons_succ]
          refine wpAnyL_ready (rs := [25]) (by kernel_rfl) (by simp) ?_
          refine AllReadyL.last rfl (by kernel_rfl) (fun K hK => ?_) AllReadyL.nil
          have HBW := Lib.hid hHeld.2.2.2
          have hAB : ∀ g, (Value.slice a1 (rowO rs k).length c1).ownBlock = some g → g ≠ g2 := fun g hg e => by
            have h1 := (HA2.out.lt g hg).2
            have h2 := HNB.out
            omega
          have hAC : ∀ g, (Value.slice a1 (rowO rs k).length c1).ownBlock = some g → g ≠ b5 := fun g hg e => by
            have h1 := (HA1.out.lt g hg).2
            have h2 := HNC.out
            omega
          have hBC : g2 ≠ b5 := fun e => by
            have h1 := HNB.out
            have h2 := HC2.out.lt
            omega
          have HAB := Lib.hid hAB
          have HAC := Lib.hid hAC
          have HBC := Lib.hid hBC
          have z0 : wB.cell? ⟨b5, 0, none⟩ = some (.slice none 0 0) := HC3.out.c 0 rfl
          have y0 := HC3.out.free 0
          have z1 : wB.cell? ⟨b5, 1, none⟩ = some (.int .i64 0) := HC3.out.c 1 rfl
          have y1 := HC3.out.free 1
          have z2 : wB.cell? ⟨b5, 2, none⟩ = some (.slice none 0 0) := HC3.out.c 2 rfl
          have y2 := HC3.out.free 2
          clear hAB hAC hBC
          go_simp
          refine hK.out _ _ ?_
          clear hK K
          try simp only [Act.put, List.setIfInBounds_toArray, List.set_cons_zero, List.set_cons_succ]
          refine wpAnyL_done (by kernel_rfl) ?_ _
          refine NoPanic.normal ?_
          have HF := Lib.hid (((HC3.out.set 0 (.slice a1 (rowO rs k).length c1)).set 1 (.int .i64 r)).set 2 (.slice (some ⟨g2, 0, none⟩) rs.length rs.length))
          have hlo : wr.heap.size ≤ b5 := HLC.out
          have HBF := Lib.hid (((HBW.out.setCell (p := ⟨b5, 0, none⟩) hlo (.slice a1 (rowO rs k).length c1)).setCell (p := ⟨b5, 1, none⟩) hlo (.int .i64 r)).setCell (p := ⟨b5, 2, none⟩) hlo (.slice (some ⟨g2, 0, none⟩) rs.length rs.length))
          have HAF := Lib.hid (OwnRow.setO (OwnRow.setO (OwnRow.setO HA3.out ⟨b5, 0, none⟩ (.slice a1 (rowO rs k).length c1) (fun e => HAC.out b5 e rfl)) ⟨b5, 1, none⟩ (.int .i64 r) (fun e => HAC.out b5 e rfl)) ⟨b5, 2, none⟩ (.slice (some ⟨g2, 0, none⟩) rs.length rs.length) (fun e => HAC.out b5 e rfl))
          have hg2n : ∀ o : Nat, (Value.slice (some ⟨g2, 0, none⟩) rs.length rs.length).ownBlock ≠ some (Addr.mk b5 o none).block := fun o e => HBC.out (by simpa [Value.ownBlock] using e)
          have HGF := Lib.hid (OwnRow.setO (OwnRow.setO (OwnRow.setO HB3.out ⟨b5, 0, none⟩ (.slice a1 (rowO rs k).length c1) (hg2n 0)) ⟨b5, 1, none⟩ (.int .i64 r) (hg2n 1)) ⟨b5, 2, none⟩ (.slice (some ⟨g2, 0, none⟩) rs.length rs.length) (hg2n 2))
          clear z0 z1 z2 y0 y1 y2 hHeld hlo hg2n
          go_wp2_with fail
          go_meet
          exact ⟨b5, a1, c1, g2, rfl, HF.out, HAF.out, HGF.out, HAB.out, HAC.out, HBC.out, HBF.out⟩
        refine AllReadyL.cons rfl (fun K hK => ?_) ?_
        · skip
          go_simp
          obtain ⟨wB, hwB⟩ : ∃ wB, (wr.alloc (.cells (Array.replicate rs.length (Value.int .i64 0)) 2)).drew = wB := ⟨_, rfl⟩
          obtain ⟨g2, hg2⟩ : ∃ g2, wr.drew.heap.size = g2 := ⟨_, rfl⟩
          have hbB : Below wr.drew.heap.size wr.drew wB := by rw [← hwB]; exact (Below.refl _ _).alloc (Nat.le_refl _) _
          have HB1 : Hid (OwnRow wB wr.heap.size (.slice (some ⟨g2, 0, none⟩) rs.length rs.length) (List.replicate rs.length 0)) := Lib.hid (by rw [← hwB, ← hg2]; exact own_zeros _ _ _ hHeld.2.2.2.size (by omega))
          have HNB := Lib.hid hg2
          try simp only [World.drew_heap]
          try rw [show wr.heap.size = g2 from hg2]
          try rw [hg2]
          rw [hwB]
          clear hwB
          refine hK.out _ _ ?_ (fun hHeld => ?_)
          · exact ⟨below_cell hbB hHeld.1, below_cell hbB hHeld.2.1, below_cell hbB hHeld.2.2.1, hHeld.2.2.2.trans (hbB.mono hHeld.2.2.2.size)⟩
          clear hK K
          try simp only [Act.put, List.setIfInBounds_toArray, List.set_cons_zero, List.set_cons_succ]
          refine wpAnyL_ready (rs := [8, 24]) (by kernel_rfl) (by simp) ?_
          refine AllReadyL.cons rfl (fun K hK => ?_) ?_
          · skip
            go_simp; go_at_call 144; refine (l00Own _ _ _ (rowO rs k) _ (HLR.out.below hHeld.2.2.2) hl1 (by omega)).mono ?_; rintro e wA ⟨a1, c1, rfl, hoA, hbA⟩
            have HA2 := Lib.hid (hoA.mono hHeld.2.2.2.size)
            have hnA : ∀ g, (Value.slice a1 (rowO rs k).length c1).ownBlock = some g → wB.heap.size ≤ g := fun g hg => (hoA.lt g hg).1
            have HNA := Lib.hid hnA
            clear hoA hnA
            have HB2 := Lib.hid (HB1.out.below hbA)
            refine hK.out _ _ ?_ (fun hHeld => ?_)
            · exact ⟨below_cell hbA hHeld.1, below_cell hbA hHeld.2.1, below_cell hbA hHeld.2.2.1, hHeld.2.2.2.trans (hbA.mono hHeld.2.2.2.size)⟩
            clear hK K
            try simp only [Act.put, List.setIfInBounds_toArray, List.set_cons_zero, List.set_cons_succ]
            refine wpAnyL_free (i := 23) (v := ?_) (some 39) rfl rfl (by kernel_rfl) (by kernel_rfl) (by kernel_rfl) (by decide) (fun _ _ _ h => h) (Or.inl ⟨by rfl, ?_⟩) (fun h0 => by assumption) ?_
            rotate_left
            · intro wS
              go_simp
              try with_reducible rfl
            try simp only [Act.put, List.setIfInBounds_toArray, List.set_cons_zero, List.set_cons_succ]
            refine wpAnyL_ready (rs := [24]) (by kernel_rfl) (by simp) ?_
            refine AllReadyL.cons rfl (fun K hK => ?_) AllReadyL.nil
            go_simp
            obtain ⟨wC, hwC⟩ : ∃ wC, wA.alloc (.cells #[.slice none 0 0, .int .i64 0, .slice none 0 0] 123) = wC := ⟨_, rfl⟩
            obtain ⟨b5, hb5⟩ : ∃ b5, wA.heap.size = b5 := ⟨_, rfl⟩
            have hbC : Below wA.heap.size wA wC := by rw [← hwC]; exact (Below.refl _ _).alloc (Nat.le_refl _) _
            have HC3 : Hid (Box 123 wC b5 #[.slice none 0 0, .int .i64 0, .slice none 0 0]) := Lib.hid (by rw [← hwC, ← hb5]; exact Box.new _ _ _)
            have HNC := Lib.hid hb5
            have HLC : Hid (wr.heap.size ≤ b5) := Lib.hid (by rw [← hb5]; exact hHeld.2.2.2.size)
            try simp only [World.drew_heap]
            try rw [show wr.heap.size = b5 from hb5]
            try rw [hb5]
            rw [hwC]
            clear hwC
            have HB3 := Lib.hid (HB2.out.below hbC)
            have HA3 := Lib.hid (HA2.out.below hbC)
            refine hK.out _ _ ?_ (fun hHeld => ?_)
            · exact ⟨below_cell hbC hHeld.1, below_cell hbC hHeld.2.1, below_cell hbC hHeld.2.2.1, hHeld.2.2.2.trans (hbC.mono hHeld.2.2.2.size)⟩
            clear hK K
            try simp only [Act.put, List.setIfInBounds_toArray, List.set_cons_zero, List.set_cons_succ]
            refine wpAnyL_ready (rs := [25]) (by kernel_rfl) (by simp) ?_
            refine AllReadyL.last rfl (by kernel_rfl) (fun K hK => ?_) AllReadyL.nil
            have HBW := Lib.hid hHeld.2.2.2
            have hAB : ∀ g, (Value.slice a1 (rowO rs k).length c1).ownBlock = some g → g ≠ g2 := fun g hg e => by
              have h1 := HNA.out g hg
              have h2 := (HB1.out.lt g2 (by simp [Value.ownBlock])).2
              omega
            have hAC : ∀ g, (Value.slice a1 (rowO rs k).length c1).ownBlock = some g → g ≠ b5 := fun g hg e => by
              have h1 := (HA2.out.lt g hg).2
              have h2 := HNC.out
              omega
            have hBC : g2 ≠ b5 := fun e => by
              have h1 := (HB2.out.lt g2 (by simp [Value.ownBlock])).2
              have h2 := HNC.out
              omega
            have HAB := Lib.hid hAB
            have HAC := Lib.hid hAC
            have HBC := Lib.hid hBC
            have z0 : wC.cell? ⟨b5, 0, none⟩ = some (.slice none 0 0) := HC3.out.c 0 rfl
            have y0 := HC3.out.free 0
            have z1 : wC.cell? ⟨b5, 1, none⟩ = some (.int .i64 0) := HC3.out.c 1 rfl
            have y1 := HC3.out.free 1
            have z2 : wC.cell? ⟨b5, 2, none⟩ = some (.slice none 0 0) := HC3.out.c 2 rfl
            have y2 := HC3.out.free 2
            clear hAB hAC hBC
            go_simp
            refine hK.out _ _ ?_
            clear hK K
            try simp only [Act.put, List.setIfInBounds_toArray, List.set_cons_zero, List.set_cons_succ]
            refine wpAnyL_done (by kernel_rfl) ?_ _
            refine NoPanic.normal ?_
            have HF := Lib.hid (((HC3.out.set 0 (.slice a1 (rowO rs k).length c1)).set 1 (.int .i64 r)).set 2 (.slice (some ⟨g2, 0, none⟩) rs.length rs.length))
            have hlo : wr.heap.size ≤ b5 := HLC.out
            have HBF := Lib.hid (((HBW.out.setCell (p := ⟨b5, 0, none⟩) hlo (.slice a1 (rowO rs k).length c1)).setCell (p := ⟨b5, 1, none⟩) hlo (.int .i64 r)).setCell (p := ⟨b5, 2, none⟩) hlo (.slice (some ⟨g2, 0, none⟩) rs.length rs.length))
            have HAF := Lib.hid (OwnRow.setO (OwnRow.setO (OwnRow.setO HA3.out ⟨b5, 0, none⟩ (.slice a1 (rowO rs k).length c1) (fun e => HAC.out b5 e rfl)) ⟨b5, 1, none⟩ (.int .i64 r) (fun e => HAC.out b5 e rfl)) ⟨b5, 2, none⟩ (.slice (some ⟨g2, 0, none⟩) rs.length rs.length) (fun e => HAC.out b5 e rfl))
            have hg2n : ∀ o : Nat, (Value.slice (some ⟨g2, 0, none⟩) rs.length rs.length).ownBlock ≠ some (Addr.mk b5 o none).block := fun o e => HBC.out (by simpa [Value.ownBlock] using e)
            have HGF := Lib.hid (OwnRow.setO (OwnRow.setO (OwnRow.setO HB3.out ⟨b5, 0, none⟩ (.slice a1 (rowO rs k).length c1) (hg2n 0)) ⟨b5, 1, none⟩ (.int .i64 r) (hg2n 1)) ⟨b5, 2, none⟩ (.slice (some ⟨g2, 0, none⟩) rs.length rs.length) (hg2n 2))
            clear z0 z1 z2 y0 y1 y2 hHeld hlo hg2n
            go_wp2_with fail
            go_meet
            exact ⟨b5, a1, c1, g2, rfl, HF.out, HAF.out, HGF.out, HAB.out, HAC.out, HBC.out, HBF.out⟩
          refine AllReadyL.cons rfl (fun K hK => ?_) AllReadyL.nil
          go_simp
          obtain ⟨wC, hwC⟩ : ∃ wC, wB.alloc (.cells #[.slice none 0 0, .int .i64 0, .slice none 0 0] 123) = wC := ⟨_, rfl⟩
          obtain ⟨b5, hb5⟩ : ∃ b5, wB.heap.size = b5 := ⟨_, rfl⟩
          have hbC : Below wB.heap.size wB wC := by rw [← hwC]; exact (Below.refl _ _).alloc (Nat.le_refl _) _
          have HC2 : Hid (Box 123 wC b5 #[.slice none 0 0, .int .i64 0, .slice none 0 0]) := Lib.hid (by rw [← hwC, ← hb5]; exact Box.new _ _ _)
          have HNC := Lib.hid hb5
          have HLC : Hid (wr.heap.size ≤ b5) := Lib.hid (by rw [← hb5]; exact hHeld.2.2.2.size)
          try simp only [World.drew_heap]
          try rw [show wr.heap.size = b5 from hb5]
          try rw [hb5]
          rw [hwC]
          clear hwC
          have HB2 := Lib.hid (HB1.out.below hbC)
          refine hK.out _ _ ?_ (fun hHeld => ?_)
          · exact ⟨below_cell hbC hHeld.1, below_cell hbC hHeld.2.1, below_cell hbC hHeld.2.2.1, hHeld.2.2.2.trans (hbC.mono hHeld.2.2.2.size)⟩
          clear hK K
          try simp only [Act.put, List.setIfInBounds_toArray, List.set_cons_zero, List.set_cons_succ]
          refine wpAnyL_ready (rs := [8]) (by kernel_rfl) (by simp) ?_
          refine AllReadyL.cons rfl (fun K hK => ?_) AllReadyL.nil
          go_simp; go_at_call 144; refine (l00Own _ _ _ (rowO rs k) _ (HLR.out.below hHeld.2.2.2) hl1 (by omega)).mono ?_; rintro e wA ⟨a1, c1, rfl, hoA, hbA⟩
          have HA3 := Lib.hid (hoA.mono hHeld.2.2.2.size)
          have hnA : ∀ g, (Value.slice a1 (rowO rs k).length c1).ownBlock = some g → wC.heap.size ≤ g := fun g hg => (hoA.lt g hg).1
          have HNA := Lib.hid hnA
          clear hoA hnA
          have HB3 := Lib.hid (HB2.out.below hbA)
          have HC3 := Lib.hid (HC2.out.below hbA)
          refine hK.out _ _ ?_ (fun hHeld => ?_)
          · exact ⟨below_cell hbA hHeld.1, below_cell hbA hHeld.2.1, below_cell hbA hHeld.2.2.1, hHeld.2.2.2.trans (hbA.mono hHeld.2.2.2.size)⟩
          clear hK K
          try simp only [Act.put, List.setIfInBounds_toArray, List.set_cons_zero, List.set_cons_succ]
          refine wpAnyL_free (i := 23) (v := ?_) (some 39) rfl rfl (by kernel_rfl) (by kernel_rfl) (by kernel_rfl) (by decide) (fun _ _ _ h => h) (Or.inl ⟨by rfl, ?_⟩) (fun h0 => by assumption) ?_
          rotate_left
          · intro wS
            go_simp
            try with_reducible rfl
          try simp only [Act.put, List.setIfInBounds_toArray, List.set_cons_zero, List.set_cons_succ]
          refine wpAnyL_ready (rs := [25]) (by kernel_rfl) (by simp) ?_
          refine AllReadyL.last rfl (by kernel_rfl) (fun K hK => ?_) AllReadyL.nil
          have HBW := Lib.hid hHeld.2.2.2
          have hAB : ∀ g, (Value.slice a1 (rowO rs k).length c1).ownBlock = some g → g ≠ g2 := fun g hg e => by
            have h1 := HNA.out g hg
            have h2 := (HB2.out.lt g2 (by simp [Value.ownBlock])).2
            omega
          have hAC : ∀ g, (Value.slice a1 (rowO rs k).length c1).ownBlock = some g → g ≠ b5 := fun g hg e => by
            have h1 := HNA.out g hg
            have h2 := HC2.out.lt
            omega
          have hBC : g2 ≠ b5 := fun e => by
            have h1 := (HB1.out.lt g2 (by simp [Value.ownBlock])).2
            have h2 := HNC.out
            omega
          have HAB := Lib.hid hAB
          have HAC := Lib.hid hAC
          have HBC := Lib.hid hBC
          have z0 : wA.cell? ⟨b5, 0, none⟩ = some (.slice none 0 0) := HC3.out.c 0 rfl
          have y0 := HC3.out.free 0
          have z1 : wA.cell? ⟨b5, 1, none⟩ = some (.int .i64 0) := HC3.out.c 1 rfl
          have y1 := HC3.out.free 1
          have z2 : wA.cell? ⟨b5, 2, none⟩ = some (.slice none 0 0) := HC3.out.c 2 rfl
          have y2 := HC3.out.free 2
          clear hAB hAC hBC
          go_simp
          refine hK.out _ _ ?_
          clear hK K
          try simp only [Act.put, List.setIfInBounds_toArray, List.set_cons_zero, List.set_cons_succ]
          refine wpAnyL_done (by kernel_rfl) ?_ _
          refine NoPanic.normal ?_
          have HF := Lib.hid (((HC3.out.set 0 (.slice a1 (rowO rs k).length c1)).set 1 (.int .i64 r)).set 2 (.slice (some ⟨g2, 0, none⟩) rs.length rs.length))
          have hlo : wr.heap.size ≤ b5 := HLC.out
          have HBF := Lib.hid (((HBW.out.setCell (p := ⟨b5, 0, none⟩) hlo (.slice a1 (rowO rs k).length c1)).setCell (p := ⟨b5, 1, none⟩) hlo (.int .i64 r)).setCell (p := ⟨b5, 2, none⟩) hlo (.slice (some ⟨g2, 0, none⟩) rs.length rs.length))
          have HAF := Lib.hid (OwnRow.setO (OwnRow.setO (OwnRow.setO HA3.out ⟨b5, 0, none⟩ (.slice a1 (rowO rs k).length c1) (fun e => HAC.out b5 e rfl)) ⟨b5, 1, none⟩ (.int .i64 r) (fun e => HAC.out b5 e rfl)) ⟨b5, 2, none⟩ (.slice (some ⟨g2, 0, none⟩) rs.length rs.length) (fun e => HAC.out b5 e rfl))
          have hg2n : ∀ o : Nat, (Value.slice (some ⟨g2, 0, none⟩) rs.length rs.length).ownBlock ≠ some (Addr.mk b5 o none).block := fun o e => HBC.out (by simpa [Value.ownBlock] using e)
          have HGF := Lib.hid (OwnRow.setO (OwnRow.setO (OwnRow.setO HB3.out ⟨b5, 0, none⟩ (.slice a1 (rowO rs k).length c1) (hg2n 0)) ⟨b5, 1, none⟩ (.int .i64 r) (hg2n 1)) ⟨b5, 2, none⟩ (.slice (some ⟨g2, 0, none⟩) rs.length rs.length) (hg2n 2))
          clear z0 z1 z2 y0 y1 y2 hHeld hlo hg2n
          go_wp2_with fail
          go_meet
          exact ⟨b5, a1, c1, g2, rfl, HF.out, HAF.out, HGF.out, HAB.out, HAC.out, HBC.out, HBF.out⟩
        refine AllReadyL.cons rfl (fun K hK => ?_) AllReadyL.nil
        go_simp
        obtain ⟨wC, hwC⟩ : ∃ wC, (wr.alloc (.cells #[.slice none 0 0, .int .i64 0, .slice none 0 0] 123)).drew = wC := ⟨_, rfl⟩
        obtain ⟨b5, hb5⟩ : ∃ b5, wr.drew.heap.size = b5 := ⟨_, rfl⟩
        have hbC : Below wr.drew.heap.size wr.drew wC := by rw [← hwC]; exact (Below.refl _ _).alloc (Nat.le_refl _) _
        have HC1 : Hid (Box 123 wC b5 #[.slice none 0 0, .int .i64 0, .slice none 0 0]) := Lib.hid (by rw [← hwC, ← hb5]; exact Box.new _ _ _)
        have HNC := Lib.hid hb5
        have HLC : Hid (wr.heap.size ≤ b5) := Lib.hid (by rw [← hb5]; exact hHeld.2.2.2.size)
        try simp only [World.drew_heap]
        try rw [show wr.heap.size = b5 from hb5]
        try rw [hb5]
        rw [hwC]
        clear hwC
        refine hK.out _ _ ?_ (fun hHeld => ?_)
        · exact ⟨below_cell hbC hHeld.1, below_cell hbC hHeld.2.1, below_cell hbC hHeld.2.2.1, hHeld.2.2.2.trans (hbC.mono hHeld.2.2.2.size)⟩
        clear hK K
        try simp only [Act.put, List.setIfInBounds_toArray, List.set_cons_zero, List.set_cons_succ]
        refine wpAnyL_ready (rs := [8, 22]) (by kernel_rfl) (by simp) ?_
        refine AllReadyL.cons rfl (fun K hK => ?_) ?_
        · skip
          go_simp; go_at_call 144; refine (l00Own _ _ _ (rowO rs k) _ (HLR.out.below hHeld.2.2.2) hl1 (by omega)).mono ?_; rintro e wA ⟨a1, c1, rfl, hoA, hbA⟩
          have HA2 := Lib.hid (hoA.mono hHeld.2.2.2.size)
          have hnA : ∀ g, (Value.slice a1 (rowO rs k).length c1).ownBlock = some g → wC.heap.size ≤ g := fun g hg => (hoA.lt g hg).1
          have HNA := Lib.hid hnA
          clear hoA hnA
          have HC2 := Lib.hid (HC1.out.below hbA)
          refine hK.out _ _ ?_ (fun hHeld => ?_)
          · exact ⟨below_cell hbA hHeld.1, below_cell hbA hHeld.2.1, below_cell hbA hHeld.2.2.1, hHeld.2.2.2.trans (hbA.mono hHeld.2.2.2.size)⟩
          clear hK K
          try simp only [Act.put, List.setIfInBounds_toArray, List.set_cons_zero, List.set_cons_succ]
          refine wpAnyL_ready (rs := [22]) (by kernel_rfl) (by simp) ?_
          refine AllReadyL.cons rfl (fun K hK => ?_) AllReadyL.nil
          go_simp
          obtain ⟨wB, hwB⟩ : ∃ wB, wA.alloc (.cells (Array.replicate rs.length (Value.int .i64 0)) 2) = wB := ⟨_, rfl⟩
          obtain ⟨g2, hg2⟩ : ∃ g2, wA.heap.size = g2 := ⟨_, rfl⟩
          have hbB : Below wA.heap.size wA wB := by rw [← hwB]; exact (Below.refl _ _).alloc (Nat.le_refl _) _
          have HB3 : Hid (OwnRow wB wr.heap.size (.slice (some ⟨g2, 0, none⟩) rs.length rs.length) (List.replicate rs.length 0)) := Lib.hid (by rw [← hwB, ← hg2]; exact own_zeros _ _ _ hHeld.2.2.2.size (by omega))
          have HNB := Lib.hid hg2
          try simp only [World.drew_heap]
          try rw [show wr.heap.size = g2 from hg2]
          try rw [hg2]
          rw [hwB]
          clear hwB
          have HC3 := Lib.hid (HC2.out.below hbB)
          have HA3 := Lib.hid (HA2.out.below hbB)
          refine hK.out _ _ ?_ (fun hHeld => ?_)
          · exact ⟨below_cell hbB hHeld.1, below_cell hbB hHeld.2.1, below_cell hbB hHeld.2.2.1, hHeld.2.2.2.trans (hbB.mono hHeld.2.2.2.size)⟩
          clear hK K
          try simp only [Act.put, List.setIfInBounds_toArray, List.set_cons_zero, List.set_cons_succ]
          refine wpAnyL_free (i := 23) (v := ?_) (some 39) rfl rfl (by kernel_rfl) (by kernel_rfl) (by kernel_rfl) (by decide) (fun _ _ _ h => h) (Or.inl ⟨by rfl, ?_⟩) (fun h0 => by assumption) ?_
          rotate_left
          · intro wS
            go_simp
            try with_reducible rfl
          try simp only [Act.put, List.setIfInBounds_toArray, List.set_cons_zero, List.set_cons_succ]
          refine wpAnyL_ready (rs := [25]) (by kernel_rfl) (by simp) ?_
          refine AllReadyL.last rfl (by kernel_rfl) (fun K hK => ?_) AllReadyL.nil
          have HBW := Lib.hid hHeld.2.2.2
          have hAB : ∀ g, (Value.slice a1 (rowO rs k).length c1).ownBlock = some g → g ≠ g2 := fun g hg e => by
            have h1 := (HA2.out.lt g hg).2
            have h2 := HNB.out
            omega
          have hAC : ∀ g, (Value.slice a1 (rowO rs k).length c1).ownBlock = some g → g ≠ b5 := fun g hg e => by
            have h1 := HNA.out g hg
            have h2 := HC1.out.lt
            omega
          have hBC : g2 ≠ b5 := fun e => by
            have h1 := HNB.out
            have h2 := HC2.out.lt
            omega
          have HAB := Lib.hid hAB
          have HAC := Lib.hid hAC
          have HBC := Lib.hid hBC
          have z0 : wB.cell? ⟨b5, 0, none⟩ = some (.slice none 0 0) := HC3.out.c 0 rfl
          have y0 := HC3.out.free 0
          have z1 : wB.cell? ⟨b5, 1, none⟩ = some (.int .i64 0) := HC3.out.c 1 rfl
          have y1 := HC3.out.free 1
          have z2 : wB.cell? ⟨b5, 2, none⟩ = some (.slice none 0 0) := HC3.out.c 2 rfl
          have y2 := HC3.out.free 2
          clear hAB hAC hBC
          go_simp
          refine hK.out _ _ ?_
          clear hK K
          try simp only [Act.put, List.setIfInBounds_toArray, List.set_cons_zero, List.set_cons_succ]
          refine wpAnyL_done (by kernel_rfl) ?_ _
          refine NoPanic.normal ?_
          have HF := Lib.hid (((HC3.out.set 0 (.slice a1 (rowO rs k).length c1)).set 1 (.int .i64 r)).set 2 (.slice (some ⟨g2, 0, none⟩) rs.length rs.length))
          have hlo : wr.heap.size ≤ b5 := HLC.out
          have HBF := Lib.hid (((HBW.out.setCell (p := ⟨b5, 0, none⟩) hlo (.slice a1 (rowO rs k).length c1)).setCell (p := ⟨b5, 1, none⟩) hlo (.int .i64 r)).setCell (p := ⟨b5, 2, none⟩) hlo (.slice (some ⟨g2, 0, none⟩) rs.length rs.length))
          have HAF := Lib.hid (OwnRow.setO (OwnRow.setO (OwnRow.setO HA3.out ⟨b5, 0, none⟩ (.slice a1 (rowO rs k).length c1) (fun e => HAC.out b5 e rfl)) ⟨b5, 1, none⟩ (.int .i64 r) (fun e => HAC.out b5 e rfl)) ⟨b5, 2, none⟩ (.slice (some ⟨g2, 0, none⟩) rs.length rs.length) (fun e => HAC.out b5 e rfl))
          have hg2n : ∀ o : Nat, (Value.slice (some ⟨g2, 0, none⟩) rs.length rs.length).ownBlock ≠ some (Addr.mk b5 o none).block := fun o e => HBC.out (by simpa [Value.ownBlock] using e)
          have HGF := Lib.hid (OwnRow.setO (OwnRow.setO (OwnRow.setO HB3.out ⟨b5, 0, none⟩ (.slice a1 (rowO rs k).length c1) (hg2n 0)) ⟨b5, 1, none⟩ (.int .i64 r) (hg2n 1)) ⟨b5, 2, none⟩ (.slice (some ⟨g2, 0, none⟩) rs.length rs.length) (hg2n 2))
          clear z0 z1 z2 y0 y1 y2 hHeld hlo hg2n
          go_wp2_with fail
          go_meet
          exact ⟨b5, a1, c1, g2, rfl, HF.out, HAF.out, HGF.out, HAB.out, HAC.out, HBC.out, HBF.out⟩
        refine AllReadyL.cons rfl (fun K hK => ?_) AllReadyL.nil
        go_simp
        obtain ⟨wB, hwB⟩ : ∃ wB, wC.alloc (.cells (Array.replicate rs.length (Value.int .i64 0)) 2) = wB := ⟨_, rfl⟩
        obtain ⟨g2, hg2⟩ : ∃ g2, wC.heap.size = g2 := ⟨_, rfl⟩
        have hbB : Below wC.heap.size wC wB := by rw [← hwB]; exact (Below.refl _ _).alloc (Nat.le_refl _) _
        have HB2 : Hid (OwnRow wB wr.heap.size (.slice (some ⟨g2, 0, none⟩) rs.length rs.length) (List.replicate rs.length 0)) := Lib.hid (by rw [← hwB, ← hg2]; exact own_zeros _ _ _ hHeld.2.2.2.size (by omega))
        have HNB := Lib.hid hg2
        try simp only [World.drew_heap]
        try rw [show wr.heap.size = g2 from hg2]
        try rw [hg2]
        rw [hwB]
        clear hwB
        have HC2 := Lib.hid (HC1.out.below hbB)
        refine hK.out _ _ ?_ (fun hHeld => ?_)
        · exact ⟨below_cell hbB hHeld.1, below_cell hbB hHeld.2.1, below_cell hbB hHeld.2.2.1, hHeld.2.2.2.trans (hbB.mono hHeld.2.2.2.size)⟩
        clear hK K
        try simp only [Act.put, List.setIfInBounds_toArray, List.set_cons_zero, List.set_cons_succ]
        refine wpAnyL_ready (rs := [8]) (by kernel_rfl) (by simp) ?_
        refine AllReadyL.cons rfl (fun K hK => ?_) AllReadyL.nil
        go_simp; go_at_call 144; refine (l00Own _ _ _ (rowO rs k) _ (HLR.out.below hHeld.2.2.2) hl1 (by omega)).mono ?_; rintro e wA ⟨a1, c1, rfl, hoA, hbA⟩
        have HA3 := Lib.hid (hoA.mono hHeld.2.2.2.size)
        have hnA : ∀ g, (Value.slice a1 (rowO rs k).length c1).ownBlock = some g → wB.heap.size ≤ g := fun g hg => (hoA.lt g hg).1
        have HNA := Lib.hid hnA
        clear hoA hnA
        have HC3 := Lib.hid (HC2.out.below hbA)
        have HB3 := Lib.hid (HB2.out.below hbA)
        refine hK.out _ _ ?_ (fun hHeld => ?_)
        · exact ⟨below_cell hbA hHeld.1, below_cell hbA hHeld.2.1, below_cell hbA hHeld.2.2.1, hHeld.2.2.2.trans (hbA.mono hHeld.2.2.2.size)⟩
        clear hK K
        try simp only [Act.put, List.setIfInBounds_toArray, List.set_cons_zero, List.set_cons_succ]
        refine wpAnyL_free (i := 23) (v := ?_) (some 39) rfl rfl (by kernel_rfl) (by kernel_rfl) (by kernel_rfl) (by decide) (fun _ _ _ h => h) (Or.inl ⟨by rfl, ?_⟩) (fun h0 => by assumption) ?_
        rotate_left
        · intro wS
          go_simp
          try with_reducible rfl
        try simp only [Act.put, List.setIfInBounds_toArray, List.set_cons_zero, List.set_cons_succ]
        refine wpAnyL_ready (rs := [25]) (by kernel_rfl) (by simp) ?_
        refine AllReadyL.last rfl (by kernel_rfl) (fun K hK => ?_) AllReadyL.nil
        have HBW := Lib.hid hHeld.2.2.2
        have hAB : ∀ g, (Value.slice a1 (rowO rs k).length c1).ownBlock = some g → g ≠ g2 := fun g hg e => by
          have h1 := HNA.out g hg
          have h2 := (HB2.out.lt g2 (by simp [Value.ownBlock])).2
          omega
        have hAC : ∀ g, (Value.slice a1 (rowO rs k).length c1).ownBlock = some g → g ≠ b5 := fun g hg e => by
          have h1 := HNA.out g hg
          have h2 := HC2.out.lt
          omega
        have hBC : g2 ≠ b5 := fun e => by
          have h1 := HNB.out
          have h2 := HC1.out.lt
          omega
        have HAB := Lib.hid hAB
        have HAC := Lib.hid hAC
        have HBC := Lib.hid hBC
        have z0 : wA.cell? ⟨b5, 0, none⟩ = some (.slice none 0 0) := HC3.out.c 0 rfl
        have y0 := HC3.out.free 0
        have z1 : wA.cell? ⟨b5, 1, none⟩ = some (.int .i64 0) := HC3.out.c 1 rfl
        have y1 := HC3.out.free 1
        have z2 : wA.cell? ⟨b5, 2, none⟩ = some (.slice none 0 0) := HC3.out.c 2 rfl
        have y2 := HC3.out.free 2
        clear hAB hAC hBC
        go_simp
        refine hK.out _ _ ?_
        clear hK K
        try simp only [Act.put, List.setIfInBounds_toArray, List.set_cons_zero, List.set_cons_succ]
        refine wpAnyL_done (by kernel_rfl) ?_ _
        refine NoPanic.normal ?_
        have HF := Lib.hid (((HC3.out.set 0 (.slice a1 (rowO rs k).length c1)).set 1 (.int .i64 r)).set 2 (.slice (some ⟨g2, 0, none⟩) rs.length rs.length))
        have hlo : wr.heap.size ≤ b5 := HLC.out
        have HBF := Lib.hid (((HBW.out.setCell (p := ⟨b5, 0, none⟩) hlo (.slice a1 (rowO rs k).length c1)).setCell (p := ⟨b5, 1, none⟩) hlo (.int .i64 r)).setCell (p := ⟨b5, 2, none⟩) hlo (.slice (some ⟨g2, 0, none⟩) rs.length rs.length))
        have HAF := Lib.hid (OwnRow.setO (OwnRow.setO (OwnRow.setO HA3.out ⟨b5, 0, none⟩ (.slice a1 (rowO rs k).length c1) (fun e => HAC.out b5 e rfl)) ⟨b5, 1, none⟩ (.int .i64 r) (fun e => HAC.out b5 e rfl)) ⟨b5, 2, none⟩ (.slice (some ⟨g2, 0, none⟩) rs.length rs.length) (fun e => HAC.out b5 e rfl))
        have hg2n : ∀ o : Nat, (Value.slice (some ⟨g2, 0, none⟩) rs.length rs.length).ownBlock ≠ some (Addr.mk b5 o none).block := fun o e => HBC.out (by simpa [Value.ownBlock] using e)
        have HGF := Lib.hid (OwnRow.setO (OwnRow.setO (OwnRow.setO HB3.out ⟨b5, 0, none⟩ (.slice a1 (rowO rs k).length c1) (hg2n 0)) ⟨b5, 1, none⟩ (.int .i64 r) (hg2n 1)) ⟨b5, 2, none⟩ (.slice (some ⟨g2, 0, none⟩) rs.length rs.length) (hg2n 2))
        clear z0 z1 z2 y0 y1 y2 hHeld hlo hg2n
        go_wp2_with fail
        go_meet
        exact ⟨b5, a1, c1, g2, rfl, HF.out, HAF.out, HGF.out, HAB.out, HAC.out, HBC.out, HBF.out⟩
      case rest =>
        obtain ⟨b5, a1, c1, g2, rfl, hbx, hA, hG, hAB, hAC, hBC, hbw⟩ := hcut
        have hg2 := hG.lt g2 (by simp [Value.ownBlock])
        have x2 : wc.cell? ⟨b5, 2, none⟩ = some (.slice (some ⟨g2, 0, none⟩) rs.length rs.length) := hbx.c 2 rfl
        have xk : wc.cell? ⟨g2, k, none⟩ = some (.int .i64 0) := by
          have h := hG.cell_of k (by simpa using hlt)
          rw [h, intN_at _ _ (by simpa using hlt)]
          simp
        have yk : wc.frozen? ⟨g2, k, none⟩ = false := hG.free k
        have hbx6 : Box 123 (wc.setCell ⟨g2, k, none⟩ (.int .i64 1)) b5 #[.slice a1 (rowO rs k).length c1, .int .i64 r, .slice (some ⟨g2, 0, none⟩) rs.length rs.length] := hbx.other (by show b5 ≠ g2; exact fun e => hBC e.symm) _
        have q0 : (wc.setCell ⟨g2, k, none⟩ (.int .i64 1)).cell? ⟨b5, 0, none⟩ = some (.slice a1 (rowO rs k).length c1) := hbx6.c 0 rfl
        have q1 : (wc.setCell ⟨g2, k, none⟩ (.int .i64 1)).cell? ⟨b5, 1, none⟩ = some (.int .i64 r) := hbx6.c 1 rfl
        have q2 : (wc.setCell ⟨g2, k, none⟩ (.int .i64 1)).cell? ⟨b5, 2, none⟩ = some (.slice (some ⟨g2, 0, none⟩) rs.length rs.length) := hbx6.c 2 rfl
        have HA6 : Hid (OwnRow ((wc.setCell ⟨g2, k, none⟩ (.int .i64 1)).alloc (.cells #[.slice a1 (rowO rs k).length c1, .int .i64 r, .slice (some ⟨g2, 0, none⟩) rs.length rs.length] 123)) wr.heap.size (.slice a1 (rowO rs k).length c1) (rowO rs k)) := Lib.hid ((OwnRow.setO hA _ _ (fun e => hAB g2 e rfl)).below ((Below.refl _ _).alloc (Nat.le_refl _) _))
        have HG6 : Hid (OwnRow ((wc.setCell ⟨g2, k, none⟩ (.int .i64 1)).alloc (.cells #[.slice a1 (rowO rs k).length c1, .int .i64 r, .slice (some ⟨g2, 0, none⟩) rs.length rs.length] 123)) wr.heap.size (.slice (some ⟨g2, 0, none⟩) rs.length rs.length) (unitL rs.length k)) := Lib.hid (by
          have h := (hG.set k 1).below (w' := ((wc.setCell ⟨g2, k, none⟩ (.int .i64 1)).alloc (.cells #[.slice a1 (rowO rs k).length c1, .int .i64 r, .slice (some ⟨g2, 0, none⟩) rs.length rs.length] 123))) ((Below.refl _ _).alloc (Nat.le_refl _) _)
          rw [unitL_set] at h
          exact h)
        have HAG : Hid (∀ x, (Value.slice a1 (rowO rs k).length c1).ownBlock = some x → (Value.slice (some ⟨g2, 0, none⟩) rs.length rs.length).ownBlock ≠ some x) := Lib.hid fun x hx e => by
          have e' : g2 = x := by simpa [Value.ownBlock] using e
          exact hAB x hx e'.symm
        have HSZ7 : Hid (wr.heap.size ≤ ((wc.setCell ⟨g2, k, none⟩ (.int .i64 1)).alloc (.cells #[.slice a1 (rowO rs k).length c1, .int .i64 r, .slice (some ⟨g2, 0, none⟩) rs.length rs.length] 123)).heap.size) := Lib.hid (by have := hbw.size; simp [World.setCell]; omega)
        have HOLD : Hid (∀ j, j < wr.heap.size → ((wc.setCell ⟨g2, k, none⟩ (.int .i64 1)).alloc (.cells #[.slice a1 (rowO rs k).length c1, .int .i64 r, .slice (some ⟨g2, 0, none⟩) rs.length rs.length] 123)).heap[j]? = wr.heap[j]?) := Lib.hid fun j hj => by
          have e1 : ((wc.setCell ⟨g2, k, none⟩ (.int .i64 1)).alloc (.cells #[.slice a1 (rowO rs k).length c1, .int .i64 r, .slice (some ⟨g2, 0, none⟩) rs.length rs.length] 123)).heap[j]? = (wc.setCell ⟨g2, k, none⟩ (.int .i64 1)).heap[j]? := ((((Below.refl _ _).alloc (Nat.le_refl _) _) : Below (wc.setCell ⟨g2, k, none⟩ (.int .i64 1)).heap.size (wc.setCell ⟨g2, k, none⟩ (.int .i64 1)) ((wc.setCell ⟨g2, k, none⟩ (.int .i64 1)).alloc (.cells #[.slice a1 (rowO rs k).length c1, .int .i64 r, .slice (some ⟨g2, 0, none⟩) rs.length rs.length] 123)))).block j (by have := hbw.size; simp [World.setCell]; omega)
          rw [e1, Below.heap_setCell _ _ _ _ (by show j ≠ g2; omega)]
          exact hbw.block j hj
        have HO7 : Hid (((wc.setCell ⟨g2, k, none⟩ (.int .i64 1)).alloc (.cells #[.slice a1 (rowO rs k).length c1, .int .i64 r, .slice (some ⟨g2, 0, none⟩) rs.length rs.length] 123)).ownsRow w.heap.size 123 3 (.slice a k c) k (flat3 VL rs VB k)) := Lib.hid (ownsRow_same HMK.out.outer fun x hx => HOLD.out x (HMK.out.outer.lt x hx).2)
        have HB7 : Hid (Below w.heap.size w ((wc.setCell ⟨g2, k, none⟩ (.int .i64 1)).alloc (.cells #[.slice a1 (rowO rs k).length c1, .int .i64 r, .slice (some ⟨g2, 0, none⟩) rs.length rs.length] 123))) := Lib.hid (((HBL.out.trans (hbw.mono HBL.out.size)).setCell (p := ⟨g2, k, none⟩) (by show w.heap.size ≤ g2; have := HBL.out.size; omega) _).trans ((((Below.refl _ _).alloc (Nat.le_refl _) _) : Below (wc.setCell ⟨g2, k, none⟩ (.int .i64 1)).heap.size (wc.setCell ⟨g2, k, none⟩ (.int .i64 1)) ((wc.setCell ⟨g2, k, none⟩ (.int .i64 1)).alloc (.cells #[.slice a1 (rowO rs k).length c1, .int .i64 r, .slice (some ⟨g2, 0, none⟩) rs.length rs.length] 123))).mono (by have := hbw.size; have := HBL.out.size; simp [World.setCell]; omega)))
        have hsz := HBL.out.size
        clear hbx hA hG hAB hAC hBC hbw hbx6
        go_wp2_with (at_builtin; refine wpList_append_lies _ rfl _ _ 118 rfl w.heap.size 123 i0 (.agg #[.slice none 0 0, .int .i64 0, .slice none 0 0]) 3 56 Try.underlying118 hi hz0 hz1 hz2 rfl (by decide) (.slice a k c) k _ rfl HO7.out ⟨wc.heap.size, 0, none⟩ 1 1 [.slice a1 (rowO rs k).length c1, .int .i64 r, .slice (some ⟨g2, 0, none⟩) rs.length rs.length] rfl rfl (fun j u hu => by have h := World.news_of_block (heap_alloc_new (wc.setCell ⟨g2, k, none⟩ (.int .i64 1)) (.cells #[.slice a1 (rowO rs k).length c1, .int .i64 r, .slice (some ⟨g2, 0, none⟩) rs.length rs.length] 123)) j u (by simpa using hu); have e : (wc.setCell ⟨g2, k, none⟩ (.int .i64 1)).heap.size = wc.heap.size := (by simp [World.setCell]); rw [e] at h; exact h) (by simp [Value.oneCell']) (by omega) (by unfold maxLen; omega) (by omega) (Nat.le_trans hsz HSZ7.out) _ rfl ?_; intro g8 cap8 w8 hown hgrow hat hlt8; have HO8 := Lib.hid hown; have HG8 := Lib.hid hgrow; have HA8 := Lib.hid hat; clear hown hgrow hat hlt8)
        have HM8 := Lib.hid (HMK.out.more HBL.out.size HSZ7.out HOLD.out HA6.out HG6.out HAG.out HG8.out (by rw [HR.out]; exact HO8.out) HA8.out)
        have HB8 := Lib.hid (HB7.out.grown HG8.out (by have := HB7.out.size; omega) (fun x hx => (HO7.out.lt x hx).1))
        go_roundw
        case rel => exact ⟨k + 1, some ⟨g8, 0, none⟩, cap8, _, _, by omega, by go_num, rfl, HM8.out, HB8.out⟩
        case measure => simp [intOf]; omega
    · obtain rfl : k = rs.length := by omega
      clear hbl
      go_wp2
      go_ret
      exact ⟨a, c, rfl, ⟨VL, VB, HMK.out⟩, HBL.out⟩

end Go.Proofs.Ytnbgpeoceejolaa

namespace Go.Proofs.Ytnbgpeoceejolaa
open Go.RowKit

theorem RowSt.bel {w w' : World} {rb ro B : Nat} {vl vb : Value} {xs bs : List Int} {r : Int} (h : RowSt w rb ro B vl xs r vb bs) (hb : Below w.heap.size w w') : RowSt w' rb ro B vl xs r vb bs := by
  have hl : rb < w.heap.size := cell_block_lt h.left
  exact h.keep (fun o _ _ => World.cell?_of_block (hb.block rb hl)) ((World.frozen?_of_block (hb.block rb hl)).trans h.free) (fun g hg => hb.block g (h.ownL.lt g hg).2) (fun g hg => hb.block g (h.ownB.lt g hg).2)
theorem row0_parts {rs : List (Int × List Int)} {u i : Nat} (hl : (rowO rs i).length = u) : (row0 rs i).take u = rowO rs i ∧ intN (row0 rs i) u = arO rs i ∧ (row0 rs i).drop (u + 1) = unitL rs.length i ∧ (row0 rs i).length = u + 1 + rs.length := by
  subst hl
  unfold row0 unitL
  refine ⟨?_, ?_, ?_, by simp; omega⟩
  · rw [List.append_assoc, List.take_left' rfl]
  · rw [List.append_assoc]
    have := intN_append_right (x := rowO rs i) (y := [arO rs i] ++ (List.range rs.length).map fun j => if j = i then (1 : Int) else 0) (i := 0)
    rw [Nat.add_zero] at this
    rw [this]
    rfl
  · rw [List.drop_left' (by simp)]
theorem row0_good {p : Int} {u : Nat} {rs : List (Int × List Int)} (h : SysOk p u rs) : GoodR p rs.length (u + 1 + rs.length) (row0 rs) := fun i hi => by
  obtain ⟨hlen, hr, hx⟩ := h.2.2.2 i hi
  have hl : (rowO rs i).length = u := by omega
  obtain ⟨h1, h2, h3, h4⟩ := row0_parts (rs := rs) hl
  have hp : 2 ≤ p := by rcases h.1 with rfl | rfl <;> omega
  refine ⟨h4, fun j hj => ?_⟩
  rw [h4] at hj
  by_cases h5 : j < u
  · have e := intN_take (x := row0 rs i) h5
    rw [h1] at e
    rw [← e]
    have := hx j (by omega)
    unfold InP at this
    omega
  · by_cases h6 : j = u
    · subst h6
      rw [h2]
      unfold InP at hr
      omega
    · have e := intN_drop (x := row0 rs i) (u := u + 1) (i := j - (u + 1))
      rw [h3, show u + 1 + (j - (u + 1)) = j by omega] at e
      rw [← e]
      rw [intN_at _ _ (by simp [unitL]; omega)]
      simp only [unitL, List.getElem_map, List.getElem_range]
      split <;> omega
/-- The rows of a system are such. -/
theorem MkRows.rows {w : World} {B n u : Nat} {v : Value} {VL VB : Nat → Value} {rs : List (Int × List Int)} (h : MkRows w B v n n VL VB rs) (hn : 0 < n) (hrs : n = rs.length) (hl : ∀ i, i < n → (rowO rs i).length = u) :
    ∃ rb c, v = .slice (some ⟨rb, 0, none⟩) n c ∧ B ≤ rb ∧ rb < w.heap.size ∧ MRows w rb B n u VL VB (row0 rs) := by
  rcases h.outer.2 with ⟨_, h0⟩ | ⟨rb, cap, cur, rfl, hB, hg, h1, h2, h3, h4⟩
  · omega
  · refine ⟨rb, cap, rfl, hB, (Array.getElem?_eq_some_iff.1 hg).1, ⟨fun i hi => ?_, h.ap, fun o => frozen_of_row w rb o _ _ hg⟩⟩
    obtain ⟨e1, e2, e3, -⟩ := row0_parts (rs := rs) (hl i hi)
    rw [e1, e2, e3, ← hrs]
    obtain ⟨k1, k2, k3⟩ := flat3_at VL rs VB hi
    have hc : ∀ o x, (flat3 VL rs VB n)[o]? = some x → w.cell? ⟨rb, o, none⟩ = some x := fun o x hx => by
      rw [← h4, List.getElem?_take] at hx
      split at hx
      · rw [cell_of_row w rb o cur _ (0, 0) hg]; simpa using hx
      · cases hx
    refine ⟨hc _ _ k1, hc _ _ k2, hc _ _ k3, frozen_of_row w rb _ _ _ hg, h.left i hi, h.by_ i hi, fun e => h.out i hi rb (.inl e) (by simp [Value.ownBlock]), fun e => h.out i hi rb (.inr e) (by simp [Value.ownBlock]), h.own i hi⟩
/-- The number of an unknown in a row. -/
theorem MRows.at {w : World} {rb B n u l : Nat} {VL VB : Nat → Value} {R : Nat → List Int} (h : MRows w rb B n u VL VB R) {i c : Nat} (hi : i < n) (hc : c < u) (hl : (R i).length = l) (hul : u ≤ l) :
    ∃ g cap, VL i = .slice (some ⟨g, 0, none⟩) u cap ∧ w.cell? ⟨rb, i * 3, none⟩ = some (.slice (some ⟨g, 0, none⟩) u cap) ∧ w.cell? ⟨g, c, none⟩ = some (.int .i64 (intN (R i) c)) := by
  have hr := h.row i hi
  have hlen : ((R i).take u).length = u := by rw [List.length_take]; omega
  rcases hr.ownL.rowIn with ⟨_, h0⟩ | ⟨g, cap, hv, _, _, _, _⟩
  · rw [h0] at hlen; simp at hlen; omega
  · rw [hlen] at hv
    have h1 := hr.left
    have h2 := hr.ownL
    rw [hv] at h1 h2
    have h3 := h2.cell_of c (by omega)
    rw [intN_take hc] at h3
    exact ⟨g, cap, hv, h1, h3⟩

theorem clearK_skip (p : Int) (R : Nat → List Int) (d c : Nat) : clearK p R d c (d + 1) = clearK p R d c d := by
  funext k
  unfold clearK
  by_cases h : k = d
  · simp [h]
  · rw [if_neg h, if_neg h]
    have e : k < d + 1 ↔ k < d := by omega
    simp [e]
theorem clearK_succ {p : Int} {R : Nat → List Int} {d c i : Nat} (h : ¬ i = d) : (fun k => if k = i then rowSub p (intN (R i) c) (R i) (rowScale p (intN (R d) c) (R d)) else clearK p R d c i k) = clearK p R d c (i + 1) := by
  funext k
  by_cases hk : k = i
  · subst hk
    unfold clearK
    rw [if_pos rfl, if_neg h, if_pos (Nat.lt_succ_self _)]
  · rw [if_neg hk]
    unfold clearK
    have e : k < i + 1 ↔ k < i := by omega
    simp [e]
theorem clearK_zero {p : Int} {R : Nat → List Int} {d c i : Nat} (h : ¬ i = d) (h0 : intN (R i) c = 0) (hl : LowP p (R i)) : clearK p R d c (i + 1) = clearK p R d c i := by
  rw [← clearK_succ h]
  funext k
  by_cases hk : k = i
  · subst hk
    rw [if_pos rfl, h0, rowSub_zero hl]
    unfold clearK
    rw [if_neg h, if_neg (Nat.lt_irrefl _)]
  · rw [if_neg hk]

set_option linter.unusedSimpArgs false in
set_option maxHeartbeats 4000000 in
set_option maxRecDepth 100000 in
theorem l07ReduceC (sb so : Nat) (p : Int) (u : Nat) (rs : List (Int × List Int)) (w : World) (hs : SysAt w sb so p u rs) (hok : SysOk p u rs) :
    Calls Try.prog 81 #[.pointer (some ⟨sb, so, none⟩)] w fun e w' => ∃ a c, e = .returned (.tuple #[.slice a rs.length c, .int .i64 ((elimE p rs.length (row0 rs) u).2 : Int)]) ∧ (0 < rs.length → ∃ rb VL VB, a = some ⟨rb, 0, none⟩ ∧ w.heap.size ≤ rb ∧ rb < w'.heap.size ∧ MRows w' rb w.heap.size rs.length u VL VB (elimE p rs.length (row0 rs) u).1) ∧ Below w.heap.size w w' := by
  have HS := Lib.hid hs
  have HOK := Lib.hid hok
  have HP := Lib.hid hok.1
  have hp3 : 2 ≤ p ∧ p ≤ 3 := by rcases hok.1 with rfl | rfl <;> omega
  have hn24 := hok.2.2.1
  have hu12 : 1 ≤ u ∧ u ≤ 12 := by have := hok.2.1; unfold InP at this; omega
  have HGD := Lib.hid (row0_good hok)
  have HLEN : Hid (∀ i, i < rs.length → (rowO rs i).length = u) := Lib.hid fun i hi => by have := (hok.2.2.2 i hi).1; omega
  clear hs hok
  go_enter Try.func81, Try.ntmps81
  go_wp2_with fail
  refine (l07RowsC sb so p u rs _ HS.out HOK.out).mono ?_
  rintro e w1 ⟨a, c, VL0, VB0, rfl, hmk, hb1⟩
  have HB1 := Lib.hid hb1
  have HM1 : Hid (0 < rs.length → ∃ rb VL VB, a = some ⟨rb, 0, none⟩ ∧ w.heap.size ≤ rb ∧ rb < w1.heap.size ∧ MRows w1 rb w.heap.size rs.length u VL VB (row0 rs)) := Lib.hid fun hn => by
    obtain ⟨rb, c', hv, h1, h2, h3⟩ := hmk.rows hn rfl HLEN.out
    simp only [Value.slice.injEq] at hv
    exact ⟨rb, VL0, VB0, hv.1, h1, h2, h3⟩
  have du1 := (HS.out.below hb1).unknowns
  clear hmk hb1
  go_wp2
  clear du1
  go_loopw [5, 6] (fun vd vc wr => ∃ cc : Nat, cc ≤ u ∧ vc = .int .i64 cc ∧ vd = .int .i64 ((elimE p rs.length (row0 rs) cc).2 : Int) ∧ (0 < rs.length → ∃ rb VL VB, a = some ⟨rb, 0, none⟩ ∧ w.heap.size ≤ rb ∧ rb < wr.heap.size ∧ MRows wr rb w.heap.size rs.length u VL VB (elimE p rs.length (row0 rs) cc).1) ∧ Below w.heap.size w wr) (fun _ i _ => u - (intOf i).toNat)
  case atStart => exact ⟨0, Nat.zero_le _, rfl, rfl, HM1.out, HB1.out⟩
  case round =>
    obtain ⟨cc, hcc, rfl, rfl, hmr, hbl⟩ := hrel
    obtain ⟨⟨R, d⟩, hS⟩ : ∃ S : (Nat → List Int) × Nat, elimE p rs.length (row0 rs) cc = S := ⟨_, rfl⟩
    have hgd := elimE_good (by omega) HGD.out cc
    have hdc : (elimE p rs.length (row0 rs) cc).2 ≤ cc := elimE_le cc
    rw [hS] at hmr hgd hdc
    rw [hS]
    obtain ⟨hgd, hdn⟩ := hgd
    simp only at hmr hgd hdn hdc ⊢
    have HE := Lib.hid hS
    have HMR := Lib.hid hmr
    have HBL := Lib.hid hbl
    have HGR := Lib.hid hgd
    have HSW0 := Lib.hid (HS.out.below (hbl.mono (Nat.le_refl _)))
    have du := HSW0.out.unknowns
    have dp := HSW0.out.prime
    have HDU := Lib.hid du
    have HDP := Lib.hid dp
    clear hS hmr hbl hgd
    obtain ⟨wo, rfl⟩ : ∃ wo, wo = wr := ⟨_, rfl⟩
    by_cases hlt : cc < u
    · have hcu : (cc : Int) < (u : Int) := by omega
      clear dp
      go_wp2
      clear du
      go_loop [7] (fun v => ∃ m : Nat, d ≤ m ∧ m ≤ rs.length ∧ v = .int .i64 m ∧ ∀ j, d ≤ j → j < m → intN (R j) cc = 0) (fun v => rs.length - (intOf v).toNat)
      case atStart => exact ⟨d, Nat.le_refl _, hdn, rfl, fun j h1 h2 => by omega⟩
      case round =>
        obtain ⟨m, hdm, hmn, rfl, hzz⟩ := hrel
        have HZZ := Lib.hid hzz
        clear hzz
        by_cases hml : m < rs.length
        · have hmi : (m : Int) < (rs.length : Int) := by omega
          obtain ⟨rb, VL, VB, rfl, hrb0, hrb1, hM⟩ := HMR.out (by omega)
          obtain ⟨gm, cm, hvm, x0, x1⟩ := hM.at hml hlt (HGR.out m hml).1 (by omega)
          have hxx := (HGR.out m hml).2.any (by omega) cc
          have HM := Lib.hid hM
          obtain ⟨x, hx⟩ : ∃ x, intN (R m) cc = x := ⟨_, rfl⟩
          rw [hx] at x1 hxx
          have HX := Lib.hid hx
          clear hM hx
          by_cases hx0 : x = 0
          · subst hx0
            clear hxx
            go_wp2
            go_round
            case rel =>
              refine ⟨m + 1, by omega, by omega, by go_num, fun j h1 h2 => ?_⟩
              by_cases hjm : j = m
              · subst hjm; exact HX.out
              · exact HZZ.out j h1 (by omega)
            case measure => simp [intOf]; omega
          · have hxb : (x == 0) = false := beq_eq_false_iff_ne.2 hx0
            have hmnb : ((m : Int) == (rs.length : Int)) = false := beq_eq_false_iff_ne.2 (by omega)
            have HNE := Lib.hid hx0
            clear hx0
            have hd : d < rs.length := by omega
            obtain ⟨gd, ed, hvd, y0, -⟩ := HM.out.at hd hlt (HGR.out d hd).1 (by omega)
            have hrm := HM.out.row m hml
            have hrd := HM.out.row d hd
            obtain ⟨bm, em, hbm⟩ : ∃ bm em, VB m = .slice bm rs.length em := by
              obtain ⟨a', c', hv, _⟩ := hrm.ownB.rowAt
              rw [List.length_drop, (HGR.out m hml).1, show u + 1 + rs.length - (u + 1) = rs.length by omega] at hv
              exact ⟨a', c', hv⟩
            obtain ⟨bd, fd, hbd⟩ : ∃ bd fd, VB d = .slice bd rs.length fd := by
              obtain ⟨a', c', hv, _⟩ := hrd.ownB.rowAt
              rw [List.length_drop, (HGR.out d hd).1, show u + 1 + rs.length - (u + 1) = rs.length by omega] at hv
              exact ⟨a', c', hv⟩
            obtain ⟨qm, hqm⟩ : ∃ q, intN (R m) u = q := ⟨_, rfl⟩
            obtain ⟨qd, hqd⟩ : ∃ q, intN (R d) u = q := ⟨_, rfl⟩
            have y1 : wo.cell? ⟨rb, d * 3 + 1, none⟩ = some (.int .i64 qd) := by rw [← hqd]; exact hrd.right
            have y2 : wo.cell? ⟨rb, d * 3 + 2, none⟩ = some (.slice bd rs.length fd) := by rw [← hbd]; exact hrd.by_
            have HB1' : Hid (Below wo.heap.size wo (wo.alloc (.cells #[.slice (some ⟨gd, 0, none⟩) u ed, .int .i64 qd, .slice bd rs.length fd] 123))) := Lib.hid ((Below.refl _ _).alloc (Nat.le_refl _) _)
            have v0 : (wo.alloc (.cells #[.slice (some ⟨gd, 0, none⟩) u ed, .int .i64 qd, .slice bd rs.length fd] 123)).cell? ⟨rb, m * 3, none⟩ = some (.slice (some ⟨gm, 0, none⟩) u cm) := below_cell HB1'.out x0
            have v1 : (wo.alloc (.cells #[.slice (some ⟨gd, 0, none⟩) u ed, .int .i64 qd, .slice bd rs.length fd] 123)).cell? ⟨rb, m * 3 + 1, none⟩ = some (.int .i64 qm) := below_cell HB1'.out (by rw [← hqm]; exact hrm.right)
            have v2 : (wo.alloc (.cells #[.slice (some ⟨gd, 0, none⟩) u ed, .int .i64 qd, .slice bd rs.length fd] 123)).cell? ⟨rb, m * 3 + 2, none⟩ = some (.slice bm rs.length em) := below_cell HB1'.out (by rw [← hbm]; exact hrm.by_)
            have u0 := below_cell HB1'.out y0
            have u1 := below_cell HB1'.out y1
            have u2 := below_cell HB1'.out y2
            have HM1 := Lib.hid (HM.out.below HB1'.out hrb1)
            have f0 := HM1.out.frz (d * 3)
            have f1 := HM1.out.frz (d * 3 + 1)
            have f2 := HM1.out.frz (d * 3 + 2)
            have HBX1 : Hid (Box 123 (wo.alloc (.cells #[.slice (some ⟨gd, 0, none⟩) u ed, .int .i64 qd, .slice bd rs.length fd] 123)) wo.heap.size #[.slice (some ⟨gd, 0, none⟩) u ed, .int .i64 qd, .slice bd rs.length fd]) := Lib.hid (Box.new _ _ _)
            have HSW : Hid (MRows (set3 (set3 (wo.alloc (.cells #[.slice (some ⟨gd, 0, none⟩) u ed, .int .i64 qd, .slice bd rs.length fd] 123)) rb (d * 3) (.slice (some ⟨gm, 0, none⟩) u cm) (.int .i64 qm) (.slice bm rs.length em)) rb (m * 3) (.slice (some ⟨gd, 0, none⟩) u ed) (.int .i64 qd) (.slice bd rs.length fd)) rb w.heap.size rs.length u (fun i => VL (swapI d m i)) (fun i => VB (swapI d m i)) (swapF R d m)) := Lib.hid (by
              have h := HM.out.swap hd hml HB1'.out hrb1
              rw [hvm, hvd, hbm, hbd, hqm, hqd] at h
              exact h)
            have HBW3 : Hid (Below w.heap.size w (set3 (set3 (wo.alloc (.cells #[.slice (some ⟨gd, 0, none⟩) u ed, .int .i64 qd, .slice bd rs.length fd] 123)) rb (d * 3) (.slice (some ⟨gm, 0, none⟩) u cm) (.int .i64 qm) (.slice bm rs.length em)) rb (m * 3) (.slice (some ⟨gd, 0, none⟩) u ed) (.int .i64 qd) (.slice bd rs.length fd))) := Lib.hid (by
              have h0 : Below w.heap.size w (wo.alloc (.cells #[.slice (some ⟨gd, 0, none⟩) u ed, .int .i64 qd, .slice bd rs.length fd] 123)) := HBL.out.alloc HBL.out.size _
              unfold set3
              exact (((((h0.setCell (p := ⟨rb, _, none⟩) hrb0 _).setCell (p := ⟨rb, _, none⟩) hrb0 _).setCell (p := ⟨rb, _, none⟩) hrb0 _).setCell (p := ⟨rb, _, none⟩) hrb0 _).setCell (p := ⟨rb, _, none⟩) hrb0 _).setCell (p := ⟨rb, _, none⟩) hrb0 _)
            have HRL3 : Hid (rb < (set3 (set3 (wo.alloc (.cells #[.slice (some ⟨gd, 0, none⟩) u ed, .int .i64 qd, .slice bd rs.length fd] 123)) rb (d * 3) (.slice (some ⟨gm, 0, none⟩) u cm) (.int .i64 qm) (.slice bm rs.length em)) rb (m * 3) (.slice (some ⟨gd, 0, none⟩) u ed) (.int .i64 qd) (.slice bd rs.length fd)).heap.size) := Lib.hid (by unfold set3; simp [World.setCell]; omega)
            have HVD : Hid (VL (swapI d m d) = .slice (some ⟨gm, 0, none⟩) u cm) := Lib.hid (by rw [show swapI d m d = m by unfold swapI; simp]; exact hvm)
            have HRD : Hid (swapF R d m d = R m) := Lib.hid (by unfold swapF; simp)
            have HGS := Lib.hid (HGR.out.swap hd hml)
            have HRM := Lib.hid hrb0
            clear hrm hrd hbm hbd hvm hvd hqm hqd
            go_upto_region 9 with fail
            go_upto_region 10 with fail
            go_upto_region 11 with fail
            clear x0 x1 y0 y1 y2
            obtain ⟨w1', hw1⟩ : ∃ w1', (wo.alloc (.cells #[.slice (some ⟨gd, 0, none⟩) u ed, .int .i64 qd, .slice bd rs.length fd] 123)) = w1' := ⟨_, rfl⟩
            rw [hw1] at v0 v1 v2 u0 u1 u2 f0 f1 f2 HM1 HBX1 HSW HBW3 HRL3 HB1'
            rw [hw1]
            clear hw1
            go_upto_region 12 with fail
            obtain ⟨w2, hw2⟩ : ∃ w2, (set3 w1' rb (d * 3) (.slice (some ⟨gm, 0, none⟩) u cm) (.int .i64 qm) (.slice bm rs.length em)) = w2 := ⟨_, rfl⟩
            have HSW2 : Hid (MRows (set3 w2 rb (m * 3) (.slice (some ⟨gd, 0, none⟩) u ed) (.int .i64 qd) (.slice bd rs.length fd)) rb w.heap.size rs.length u (fun i => VL (swapI d m i)) (fun i => VB (swapI d m i)) (swapF R d m)) := Lib.hid (by rw [← hw2]; exact HSW.out)
            have HBW4 : Hid (Below w.heap.size w (set3 w2 rb (m * 3) (.slice (some ⟨gd, 0, none⟩) u ed) (.int .i64 qd) (.slice bd rs.length fd))) := Lib.hid (by rw [← hw2]; exact HBW3.out)
            have HRL4 : Hid (rb < (set3 w2 rb (m * 3) (.slice (some ⟨gd, 0, none⟩) u ed) (.int .i64 qd) (.slice bd rs.length fd)).heap.size) := Lib.hid (by rw [← hw2]; exact HRL3.out)
            have hcm : ∀ j, j < 3 → ∃ v, w2.cell? ⟨rb, m * 3 + j, none⟩ = some v := fun j hj => by
              rw [← hw2]
              by_cases hmd : m = d
              · subst hmd
                exact ⟨_, set3_same _ rb (m * 3) _ _ _ u0 u1 u2 j hj⟩
              · have e := set3_other w1' rb (d * 3) (.slice (some ⟨gm, 0, none⟩) u cm) (.int .i64 qm) (.slice bm rs.length em) (m * 3 + j) (by omega)
                obtain rfl | rfl | rfl : j = 0 ∨ j = 1 ∨ j = 2 := by omega
                · exact ⟨_, e.trans v0⟩
                · exact ⟨_, e.trans v1⟩
                · exact ⟨_, e.trans v2⟩
            obtain ⟨k0, p0⟩ := hcm 0 (by omega)
            obtain ⟨k1, p1⟩ := hcm 1 (by omega)
            obtain ⟨k2, p2⟩ := hcm 2 (by omega)
            have p0' : w2.cell? ⟨rb, m * 3, none⟩ = some k0 := p0
            have hfz : ∀ o, w2.frozen? ⟨rb, o, none⟩ = false := fun o => by rw [← hw2, set3_frz]; exact HM1.out.frz o
            have f3 := hfz (m * 3)
            have f4 := hfz (m * 3 + 1)
            have f5 := hfz (m * 3 + 2)
            have hbx2 : Box 123 w2 wo.heap.size #[.slice (some ⟨gd, 0, none⟩) u ed, .int .i64 qd, .slice bd rs.length fd] := by
              rw [← hw2]
              exact HBX1.out.same (set3_heap _ _ _ _ _ _ _ (by omega))
            have z0 : w2.cell? ⟨wo.heap.size, 0, none⟩ = some (.slice (some ⟨gd, 0, none⟩) u ed) := hbx2.c 0 rfl
            have z1 : w2.cell? ⟨wo.heap.size, 1, none⟩ = some (.int .i64 qd) := hbx2.c 1 rfl
            have z2 : w2.cell? ⟨wo.heap.size, 2, none⟩ = some (.slice bd rs.length fd) := hbx2.c 2 rfl
            have hw2' : (((w1'.setCell ⟨rb, d * 3, none⟩ (.slice (some ⟨gm, 0, none⟩) u cm)).setCell ⟨rb, d * 3 + 1, none⟩ (.int .i64 qm)).setCell ⟨rb, d * 3 + 2, none⟩ (.slice bm rs.length em)) = w2 := hw2
            rw [hw2']
            clear hw2 hw2' hcm p0 hfz hbx2 u0 u1 u2 v0 v1 v2 f0 f1 f2 HSW HBW3 HRL3
            go_upto_region 13 with fail
            obtain ⟨w3, hw3⟩ : ∃ w3, set3 w2 rb (m * 3) (.slice (some ⟨gd, 0, none⟩) u ed) (.int .i64 qd) (.slice bd rs.length fd) = w3 := ⟨_, rfl⟩
            rw [hw3] at HSW2 HBW4 HRL4
            have hw3' : (((w2.setCell ⟨rb, m * 3, none⟩ (.slice (some ⟨gd, 0, none⟩) u ed)).setCell ⟨rb, m * 3 + 1, none⟩ (.int .i64 qd)).setCell ⟨rb, m * 3 + 2, none⟩ (.slice bd rs.length fd)) = w3 := hw3
            rw [hw3']
            clear hw3 hw3' p0' p1 p2 f3 f4 f5 z0 z1 z2
            obtain ⟨R2, hR2⟩ : ∃ R2, swapF R d m = R2 := ⟨_, rfl⟩
            obtain ⟨VL2, hVL2⟩ : ∃ V, (fun i => VL (swapI d m i)) = V := ⟨_, rfl⟩
            obtain ⟨VB2, hVB2⟩ : ∃ V, (fun i => VB (swapI d m i)) = V := ⟨_, rfl⟩
            have HR2 := Lib.hid hR2
            rw [hR2, hVL2, hVB2] at HSW2
            rw [hR2] at HRD HGS
            clear hR2 hVL2 hVB2 HVD
            have HXD : Hid (intN (R2 d) cc = x) := Lib.hid (by rw [HRD.out]; exact HX.out)
            obtain ⟨gs, cs, hvs, x0, x1⟩ := HSW2.out.at hd hlt (HGS.out d hd).1 (by omega)
            rw [HXD.out] at x1
            have x2 := (HS.out.below HBW4.out).prime
            have hld := (HGS.out d hd).1
            have HT : Hid (0 ≤ x ∧ x ≤ 2) := Lib.hid (by omega)
            have hlow := (HGS.out d hd).2
            have HL1 := Lib.hid ((hlow.take u).low3 hp3.2)
            have HL2 := Lib.hid ((hlow.drop (u + 1)).low3 hp3.2)
            have hq0 := hlow.any (by omega) u
            have HQ0 : Hid (0 ≤ intN (R2 d) u ∧ intN (R2 d) u ≤ 2) := Lib.hid (by omega)
            have HN1 : Hid (((R2 d).take u).length ≤ 1000) := Lib.hid (by rw [List.length_take]; omega)
            have HN2 : Hid (((R2 d).drop (u + 1)).length ≤ 1000) := Lib.hid (by rw [List.length_drop]; omega)
            have HLD := Lib.hid hld
            clear hvs hlow hq0 hld hxx
            refine wp_region_noPanic ?_
            refine wp_region_late (S := (fun w' => w'.cell? ⟨rb, d * 3, none⟩ = some (.slice (some ⟨gs, 0, none⟩) u cs) ∧ w'.cell? ⟨gs, cc, none⟩ = some (.int .i64 x) ∧ w'.cell? ⟨sb, so, none⟩ = some (.int .i64 p) ∧ Below w3.heap.size w3 w')) [15] (by kernel_rfl) ?_ (fun hHeld => ?_)
            · exact ⟨x0, x1, x2, (QW.refl _).drew.below _⟩
            refine wpAnyL_free (i := 0) (v := ?_) (some 57) rfl rfl (by kernel_rfl) (by kernel_rfl) (by kernel_rfl) (by decide) (fun _ _ _ h => h) (Or.inl ⟨by rfl, ?_⟩) (fun h0 => by assumption) ?_
            rotate_left
            · intro wS
              go_simp
              try with_reducible rfl
            try simp only [Act.put, List.setIfInBounds_toArray, List.set_cons_zero, List.set_cons_succ]
            refine wpAnyL_free (i := 1) (v := ?_) (some 58) rfl rfl (by kernel_rfl) (by kernel_rfl) (by kernel_rfl) (by decide) (fun _ _ _ h => h) (Or.inl ⟨by rfl, ?_⟩) (fun h0 => by assumption) ?_
            rotate_left
            · intro wS
              go_simp
              try with_reducible rfl
            try simp only [Act.put, List.setIfInBounds_toArray, List.set_cons_zero, List.set_cons_succ]
            refine wpAnyL_free (i := 2) (v := ?_) (some 59) rfl rfl (by kernel_rfl) (by kernel_rfl) (by kernel_rfl) (by decide) (fun _ _ _ h => h) (Or.inl ⟨by rfl, ?_⟩) (fun h0 => by assumption) ?_
            rotate_left
            · intro wS
              go_simp
              try with_reducible rfl
            try simp only [Act.put, List.setIfInBounds_toArray, List.set_cons_zero, List.set_cons_succ]
            refine wpAnyL_free (i := 3) (v := ?_) (some 60) rfl rfl (by kernel_rfl) (by kernel_rfl) (by kernel_rfl) (by decide) (fun _ _ _ h => h) (Or.inl ⟨by rfl, ?_⟩) (fun h0 => by assumption) ?_
            rotate_left
            · intro wS
              go_simp
              try with_reducible rfl
            try simp only [Act.put, List.setIfInBounds_toArray, List.set_cons_zero, List.set_cons_succ]
            refine wpAnyL_free (i := 4) (v := ?_) (some 61) rfl rfl (by kernel_rfl) (by kernel_rfl) (by kernel_rfl) (by decide) (fun _ _ _ h => h) (Or.inl ⟨by rfl, ?_⟩) (fun h0 => by assumption) ?_
            rotate_left
            · intro wS
              go_simp
              try with_reducible rfl
            try simp only [Act.put, List.setIfInBounds_toArray, List.set_cons_zero, List.set_cons_succ]
            refine wpAnyL_free (i := 5) (v := ?_) (some 62) rfl rfl (by kernel_rfl) (by kernel_rfl) (by kernel_rfl) (by decide) (fun _ _ _ h => h) (Or.inl ⟨by rfl, ?_⟩) (fun h0 => by assumption) ?_
            rotate_left
            · intro wS
              go_simp
              try with_reducible rfl
            try simp only [Act.put, List.setIfInBounds_toArray, List.set_cons_zero, List.set_cons_succ]
            refine wpAnyL_free (i := 6) (v := ?_) (some 63) rfl rfl (by kernel_rfl) (by kernel_rfl) (by kernel_rfl) (by decide) (fun _ _ _ h => h) (Or.inl ⟨by rfl, ?_⟩) (fun h0 => by assumption) ?_
            rotate_left
            · intro wS
              go_simp
              try with_reducible rfl
            try simp only [Act.put, List.setIfInBounds_toArray, List.set_cons_zero, List.set_cons_succ]
            refine wpAnyL_take (i := 7) (v := ?_) (some 64) rfl rfl (by kernel_rfl) (by kernel_rfl) (by kernel_rfl) (by kernel_rfl) (by kernel_rfl) (fun _ _ _ h => h) (Or.inl ⟨by rfl, ?_⟩) (by assumption) ?_
            rotate_left
            · intro wS hSw
              try dsimp only at hSw
              go_simp
              try with_reducible rfl
            try simp only [Act.put, List.setIfInBounds_toArray, List.set_cons_zero, List.set_cons_succ]
            refine wpAnyL_free (i := 8) (v := ?_) (some 65) rfl rfl (by kernel_rfl) (by kernel_rfl) (by kernel_rfl) (by decide) (fun _ _ _ h => h) (Or.inl ⟨by rfl, ?_⟩) (fun h0 => by assumption) ?_
            rotate_left
            · intro wS
              go_simp
              try with_reducible rfl
            try simp only [Act.put, List.setIfInBounds_toArray, List.set_cons_zero, List.set_cons_succ]
            refine wpAnyL_free (i := 9) (v := ?_) (some 66) rfl rfl (by kernel_rfl) (by kernel_rfl) (by kernel_rfl) (by decide) (fun _ _ _ h => h) (Or.inl ⟨by rfl, ?_⟩) (fun h0 => by assumption) ?_
            rotate_left
            · intro wS
              go_simp
              try with_reducible rfl
            try simp only [Act.put, List.setIfInBounds_toArray, List.set_cons_zero, List.set_cons_succ]
            refine wpAnyL_take (i := 10) (v := ?_) (some 67) rfl rfl (by kernel_rfl) (by kernel_rfl) (by kernel_rfl) (by kernel_rfl) (by kernel_rfl) (fun _ _ _ h => h) (Or.inl ⟨by rfl, ?_⟩) (by assumption) ?_
            rotate_left
            · intro wS hSw
              try dsimp only at hSw
              go_simp
              try with_reducible rfl
            try simp only [Act.put, List.setIfInBounds_toArray, List.set_cons_zero, List.set_cons_succ]
            refine wpAnyL_free (i := 11) (v := ?_) (some 68) rfl rfl (by kernel_rfl) (by kernel_rfl) (by kernel_rfl) (by decide) (fun _ _ _ h => h) (Or.inl ⟨by rfl, ?_⟩) (fun h0 => by assumption) ?_
            rotate_left
            · intro wS
              go_simp
              try with_reducible rfl
            try simp only [Act.put, List.setIfInBounds_toArray, List.set_cons_zero, List.set_cons_succ]
            refine wpAnyL_free (i := 12) (v := ?_) (some 69) rfl rfl (by kernel_rfl) (by kernel_rfl) (by kernel_rfl) (by decide) (fun _ _ _ h => h) (Or.inl ⟨by rfl, ?_⟩) (fun h0 => by assumption) ?_
            rotate_left
            · intro wS
              go_simp
              try with_reducible rfl
            try simp only [Act.put, List.setIfInBounds_toArray, List.set_cons_zero, List.set_cons_succ]
            refine wpAnyL_free (i := 13) (v := ?_) (some 70) rfl rfl (by kernel_rfl) (by kernel_rfl) (by kernel_rfl) (by decide) (fun _ _ _ h => h) (Or.inl ⟨by rfl, ?_⟩) (fun h0 => by assumption) ?_
            rotate_left
            · intro wS
              go_simp
              try with_reducible rfl
            try simp only [Act.put, List.setIfInBounds_toArray, List.set_cons_zero, List.set_cons_succ]
            refine wpAnyL_take (i := 14) (v := ?_) (some 71) rfl rfl (by kernel_rfl) (by kernel_rfl) (by kernel_rfl) (by kernel_rfl) (by kernel_rfl) (fun _ _ _ h => h) (Or.inl ⟨by rfl, ?_⟩) (by assumption) ?_
            rotate_left
            · intro wS hSw
              try dsimp only at hSw
              go_simp
              try with_reducible rfl
            try simp only [Act.put, List.setIfInBounds_toArray, List.set_cons_zero, List.set_cons_succ]
            refine wpAnyL_ready (rs := [15]) (by kernel_rfl) (by simp) ?_
            refine AllReadyL.last rfl (by kernel_rfl) (fun K hK => ?_) AllReadyL.nil
            go_simp; go_at_call 83; refine (scaleC rb (d * 3) w.heap.size p x _ _ _ _ _ _ ((HSW2.out.row d hd).bel hHeld.2.2.2) HP.out HT.out HL1.out HL2.out HQ0.out HRM.out HN1.out HN2.out).mono ?_; rintro e w4 ⟨rfl, hr4, hb4, hk4⟩
            refine hK.out _ _ ?_
            clear hK K
            try simp only [Act.put, List.setIfInBounds_toArray, List.set_cons_zero, List.set_cons_succ]
            refine wpAnyL_done (by kernel_rfl) ?_ _
            refine NoPanic.normal ?_
            have HM4 : Hid (MRows w4 rb w.heap.size rs.length u VL2 VB2 (clearK p R2 d cc 0)) := Lib.hid (by
              have h := (HSW2.out.below hHeld.2.2.2 HRL4.out).upd hd hk4 (x := rowScale p x (R2 d)) (by
                rw [rowScale_take, rowScale_at (by rw [HLD.out]; omega), rowScale_drop]
                exact hr4)
              have e : (fun k => if k = d then rowScale p x (R2 d) else R2 k) = clearK p R2 d cc 0 := by
                funext k
                unfold clearK
                rw [HXD.out]
                by_cases hkd : k = d
                · simp [hkd]
                · simp [hkd]
              rw [e] at h
              exact h)
            have HB4 : Hid (Below w.heap.size w w4) := Lib.hid ((HBW4.out.trans (hHeld.2.2.2.mono HBW4.out.size)).trans hb4)
            have HRL5 : Hid (rb < w4.heap.size) := Lib.hid (Nat.lt_of_lt_of_le HRL4.out hk4.rest.1)
            have HEQ2 : Hid (elimE p rs.length (row0 rs) (cc + 1) = (clearK p R2 d cc rs.length, d + 1)) := Lib.hid (by
              show stepE p rs.length cc (elimE p rs.length (row0 rs) cc) = _
              rw [HE.out]
              unfold stepE
              have hf := findE_eq rs.length d m hdm hmn (by omega) HZZ.out (fun _ => by rw [HX.out]; exact HNE.out)
              rw [if_neg (by simp only [hf]; omega)]
              simp only [hf, HR2.out])
            clear hHeld hr4 hb4 hk4 x0 x1 x2 HL1 HL2 HQ0 HN1 HN2 HSW2 HBW4 HRL4
            go_wp2
            go_loopw [9] (fun v wr => ∃ i : Nat, i ≤ rs.length ∧ v = .int .i64 i ∧ MRows wr rb w.heap.size rs.length u VL2 VB2 (clearK p R2 d cc i) ∧ rb < wr.heap.size ∧ Below w.heap.size w wr) (fun v _ => rs.length - (intOf v).toNat)
            case atStart => exact ⟨0, Nat.zero_le _, rfl, HM4.out, HRL5.out, HB4.out⟩
            case round =>
              obtain ⟨i, hin, rfl, hmi2, hrl, hbl⟩ := hrel
              have HMI := Lib.hid hmi2
              have HRLI := Lib.hid hrl
              have HBLI := Lib.hid hbl
              have HGC := Lib.hid (HGS.out.clear (c := cc) (m := i) (by omega) hd)
              clear hmi2 hrl hbl
              by_cases hil : i < rs.length
              · have hii : (i : Int) < (rs.length : Int) := by omega
                by_cases hid : i = d
                · have hidb : ((i : Int) != (d : Int)) = false := by rw [hid]; simp
                  have HCK : Hid (clearK p R2 d cc (i + 1) = clearK p R2 d cc i) := Lib.hid (by rw [hid]; exact clearK_skip _ _ _ _)
                  clear hid
                  go_wp2
                  go_roundw
                  case rel => exact ⟨i + 1, by omega, by go_num, by rw [HCK.out]; exact HMI.out, HRLI.out, HBLI.out⟩
                  case measure => simp [intOf]; omega
                · have hidb : ((i : Int) != (d : Int)) = true := bne_iff_ne.2 (by omega)
                  obtain ⟨gi, ci, hvi, a0, a1⟩ := HMI.out.at hil hlt (HGC.out i hil).1 (by omega)
                  have HCI : Hid (clearK p R2 d cc i i = R2 i) := Lib.hid (by unfold clearK; rw [if_neg hid, if_neg (Nat.lt_irrefl _)])
                  rw [HCI.out] at a1
                  obtain ⟨t, ht⟩ : ∃ t, intN (R2 i) cc = t := ⟨_, rfl⟩
                  rw [ht] at a1
                  have HTT := Lib.hid ht
                  have hlow := (HGS.out i hil).2
                  have htb := hlow.any (by omega) cc
                  rw [ht] at htb
                  have HID := Lib.hid hid
                  clear ht hvi hid
                  by_cases ht0 : t = 0
                  · have htn : (t != 0) = false := by rw [ht0]; rfl
                    have HCK : Hid (clearK p R2 d cc (i + 1) = clearK p R2 d cc i) := Lib.hid (clearK_zero HID.out (by rw [HTT.out]; exact ht0) hlow)
                    clear ht0 hlow htb
                    go_wp2
                    go_roundw
                    case rel => exact ⟨i + 1, by omega, by go_num, by rw [HCK.out]; exact HMI.out, HRLI.out, HBLI.out⟩
                    case measure => simp [intOf]; omega
                  · have htn : (t != 0) = true := bne_iff_ne.2 ht0
                    have HT3 : Hid (0 ≤ t ∧ t ≤ 3) := Lib.hid (by omega)
                    have a2 := (HS.out.below HBLI.out).prime
                    have hli := (HGC.out i hil).1
                    have hld2 := (HGC.out d hd).1
                    have hlc := (HGC.out i hil).2
                    have hlcd := (HGC.out d hd).2
                    have hqi := hlc.any (by omega) u
                    have hqd2 := hlcd.any (by omega) u
                    have HL1 := Lib.hid ((hlc.take u).low3 hp3.2)
                    have HL2 := Lib.hid ((hlc.drop (u + 1)).low3 hp3.2)
                    have HL3 := Lib.hid ((hlcd.take u).low3 hp3.2)
                    have HL4 := Lib.hid ((hlcd.drop (u + 1)).low3 hp3.2)
                    have HQ1 : Hid (0 ≤ intN (clearK p R2 d cc i i) u ∧ intN (clearK p R2 d cc i i) u ≤ 2) := Lib.hid (by omega)
                    have HQ2 : Hid (0 ≤ intN (clearK p R2 d cc i d) u ∧ intN (clearK p R2 d cc i d) u ≤ 2) := Lib.hid (by omega)
                    have HE1 : Hid (((clearK p R2 d cc i i).take u).length = ((clearK p R2 d cc i d).take u).length) := Lib.hid (by rw [List.length_take, List.length_take, hli, hld2])
                    have HE2 : Hid (((clearK p R2 d cc i i).drop (u + 1)).length = ((clearK p R2 d cc i d).drop (u + 1)).length) := Lib.hid (by rw [List.length_drop, List.length_drop, hli, hld2])
                    have HN1 : Hid (((clearK p R2 d cc i i).take u).length ≤ 1000) := Lib.hid (by rw [List.length_take]; omega)
                    have HN2 : Hid (((clearK p R2 d cc i i).drop (u + 1)).length ≤ 1000) := Lib.hid (by rw [List.length_drop]; omega)
                    have HLI := Lib.hid hli
                    clear ht0 hlow htb hli hld2 hlc hlcd hqi hqd2
                    go_wp2
                    refine wp_region_noPanic ?_
                    refine wp_region_late (S := (fun w' => w'.cell? ⟨rb, i * 3, none⟩ = some (.slice (some ⟨gi, 0, none⟩) u ci) ∧ w'.cell? ⟨gi, cc, none⟩ = some (.int .i64 t) ∧ w'.cell? ⟨sb, so, none⟩ = some (.int .i64 p) ∧ Below wr.heap.size wr w')) [18] (by kernel_rfl) ?_ (fun hHeld => ?_)
                    · exact ⟨a0, a1, a2, (QW.refl _).drew.below _⟩
                    refine wpAnyL_free (i := 0) (v := ?_) (some 93) rfl rfl (by kernel_rfl) (by kernel_rfl) (by kernel_rfl) (by decide) (fun _ _ _ h => h) (Or.inl ⟨by rfl, ?_⟩) (fun h0 => by assumption) ?_
                    rotate_left
                    · intro wS
                      go_simp
                      try with_reducible rfl
                    try simp only [Act.put, List.setIfInBounds_toArray, List.set_cons_zero, List.set_cons_succ]
                    refine wpAnyL_free (i := 1) (v := ?_) (some 94) rfl rfl (by kernel_rfl) (by kernel_rfl) (by kernel_rfl) (by decide) (fun _ _ _ h => h) (Or.inl ⟨by rfl, ?_⟩) (fun h0 => by assumption) ?_
                    rotate_left
                    · intro wS
                      go_simp
                      try with_reducible rfl
                    try simp only [Act.put, List.setIfInBounds_toArray, List.set_cons_zero, List.set_cons_succ]
                    refine wpAnyL_free (i := 2) (v := ?_) (some 95) rfl rfl (by kernel_rfl) (by kernel_rfl) (by kernel_rfl) (by decide) (fun _ _ _ h => h) (Or.inl ⟨by rfl, ?_⟩) (fun h0 => by assumption) ?_
                    rotate_left
                    · intro wS
                      go_simp
                      try with_reducible rfl
                    try simp only [Act.put, List.setIfInBounds_toArray, List.set_cons_zero, List.set_cons_succ]
                    refine wpAnyL_free (i := 3) (v := ?_) (some 96) rfl rfl (by kernel_rfl) (by kernel_rfl) (by kernel_rfl) (by decide) (fun _ _ _ h => h) (Or.inl ⟨by rfl, ?_⟩) (fun h0 => by assumption) ?_
                    rotate_left
                    · intro wS
                      go_simp
                      try with_reducible rfl
                    try simp only [Act.put, List.setIfInBounds_toArray, List.set_cons_zero, List.set_cons_succ]
                    refine wpAnyL_free (i := 4) (v := ?_) (some 97) rfl rfl (by kernel_rfl) (by kernel_rfl) (by kernel_rfl) (by decide) (fun _ _ _ h => h) (Or.inl ⟨by rfl, ?_⟩) (fun h0 => by assumption) ?_
                    rotate_left
                    · intro wS
                      go_simp
                      try with_reducible rfl
                    try simp only [Act.put, List.setIfInBounds_toArray, List.set_cons_zero, List.set_cons_succ]
                    refine wpAnyL_free (i := 5) (v := ?_) (some 98) rfl rfl (by kernel_rfl) (by kernel_rfl) (by kernel_rfl) (by decide) (fun _ _ _ h => h) (Or.inl ⟨by rfl, ?_⟩) (fun h0 => by assumption) ?_
                    rotate_left
                    · intro wS
                      go_simp
                      try with_reducible rfl
                    try simp only [Act.put, List.setIfInBounds_toArray, List.set_cons_zero, List.set_cons_succ]
                    refine wpAnyL_free (i := 6) (v := ?_) (some 99) rfl rfl (by kernel_rfl) (by kernel_rfl) (by kernel_rfl) (by decide) (fun _ _ _ h => h) (Or.inl ⟨by rfl, ?_⟩) (fun h0 => by assumption) ?_
                    rotate_left
                    · intro wS
                      go_simp
                      try with_reducible rfl
                    try simp only [Act.put, List.setIfInBounds_toArray, List.set_cons_zero, List.set_cons_succ]
                    refine wpAnyL_free (i := 7) (v := ?_) (some 100) rfl rfl (by kernel_rfl) (by kernel_rfl) (by kernel_rfl) (by decide) (fun _ _ _ h => h) (Or.inl ⟨by rfl, ?_⟩) (fun h0 => by assumption) ?_
                    rotate_left
                    · intro wS
                      go_simp
                      try with_reducible rfl
                    try simp only [Act.put, List.setIfInBounds_toArray, List.set_cons_zero, List.set_cons_succ]
                    refine wpAnyL_free (i := 8) (v := ?_) (some 101) rfl rfl (by kernel_rfl) (by kernel_rfl) (by kernel_rfl) (by decide) (fun _ _ _ h => h) (Or.inl ⟨by rfl, ?_⟩) (fun h0 => by assumption) ?_
                    rotate_left
                    · intro wS
                      go_simp
                      try with_reducible rfl
                    try simp only [Act.put, List.setIfInBounds_toArray, List.set_cons_zero, List.set_cons_succ]
                    refine wpAnyL_free (i := 9) (v := ?_) (some 102) rfl rfl (by kernel_rfl) (by kernel_rfl) (by kernel_rfl) (by decide) (fun _ _ _ h => h) (Or.inl ⟨by rfl, ?_⟩) (fun h0 => by assumption) ?_
                    rotate_left
                    · intro wS
                      go_simp
                      try with_reducible rfl
                    try simp only [Act.put, List.setIfInBounds_toArray, List.set_cons_zero, List.set_cons_succ]
                    refine wpAnyL_take (i := 10) (v := ?_) (some 103) rfl rfl (by kernel_rfl) (by kernel_rfl) (by kernel_rfl) (by kernel_rfl) (by kernel_rfl) (fun _ _ _ h => h) (Or.inl ⟨by rfl, ?_⟩) (by assumption) ?_
                    rotate_left
                    · intro wS hSw
                      try dsimp only at hSw
                      go_simp
                      try with_reducible rfl
                    try simp only [Act.put, List.setIfInBounds_toArray, List.set_cons_zero, List.set_cons_succ]
                    refine wpAnyL_free (i := 11) (v := ?_) (some 104) rfl rfl (by kernel_rfl) (by kernel_rfl) (by kernel_rfl) (by decide) (fun _ _ _ h => h) (Or.inl ⟨by rfl, ?_⟩) (fun h0 => by assumption) ?_
                    rotate_left
                    · intro wS
                      go_simp
                      try with_reducible rfl
                    try simp only [Act.put, List.setIfInBounds_toArray, List.set_cons_zero, List.set_cons_succ]
                    refine wpAnyL_free (i := 12) (v := ?_) (some 105) rfl rfl (by kernel_rfl) (by kernel_rfl) (by kernel_rfl) (by decide) (fun _ _ _ h => h) (Or.inl ⟨by rfl, ?_⟩) (fun h0 => by assumption) ?_
                    rotate_left
                    · intro wS
                      go_simp
                      try with_reducible rfl
                    try simp only [Act.put, List.setIfInBounds_toArray, List.set_cons_zero, List.set_cons_succ]
                    refine wpAnyL_take (i := 13) (v := ?_) (some 106) rfl rfl (by kernel_rfl) (by kernel_rfl) (by kernel_rfl) (by kernel_rfl) (by kernel_rfl) (fun _ _ _ h => h) (Or.inl ⟨by rfl, ?_⟩) (by assumption) ?_
                    rotate_left
                    · intro wS hSw
                      try dsimp only at hSw
                      go_simp
                      try with_reducible rfl
                    try simp only [Act.put, List.setIfInBounds_toArray, List.set_cons_zero, List.set_cons_succ]
                    refine wpAnyL_free (i := 14) (v := ?_) (some 107) rfl rfl (by kernel_rfl) (by kernel_rfl) (by kernel_rfl) (by decide) (fun _ _ _ h => h) (Or.inl ⟨by rfl, ?_⟩) (fun h0 => by assumption) ?_
                    rotate_left
                    · intro wS
                      go_simp
                      try with_reducible rfl
                    try simp only [Act.put, List.setIfInBounds_toArray, List.set_cons_zero, List.set_cons_succ]
                    refine wpAnyL_free (i := 15) (v := ?_) (some 108) rfl rfl (by kernel_rfl) (by kernel_rfl) (by kernel_rfl) (by decide) (fun _ _ _ h => h) (Or.inl ⟨by rfl, ?_⟩) (fun h0 => by assumption) ?_
                    rotate_left
                    · intro wS
                      go_simp
                      try with_reducible rfl
                    try simp only [Act.put, List.setIfInBounds_toArray, List.set_cons_zero, List.set_cons_succ]
                    refine wpAnyL_free (i := 16) (v := ?_) (some 109) rfl rfl (by kernel_rfl) (by kernel_rfl) (by kernel_rfl) (by decide) (fun _ _ _ h => h) (Or.inl ⟨by rfl, ?_⟩) (fun h0 => by assumption) ?_
                    rotate_left
                    · intro wS
                      go_simp
                      try with_reducible rfl
                    try simp only [Act.put, List.setIfInBounds_toArray, List.set_cons_zero, List.set_cons_succ]
                    refine wpAnyL_take (i := 17) (v := ?_) (some 110) rfl rfl (by kernel_rfl) (by kernel_rfl) (by kernel_rfl) (by kernel_rfl) (by kernel_rfl) (fun _ _ _ h => h) (Or.inl ⟨by rfl, ?_⟩) (by assumption) ?_
                    rotate_left
                    · intro wS hSw
                      try dsimp only at hSw
                      go_simp
                      try with_reducible rfl
                    try simp only [Act.put, List.setIfInBounds_toArray, List.set_cons_zero, List.set_cons_succ]
                    refine wpAnyL_ready (rs := [18]) (by kernel_rfl) (by simp) ?_
                    refine AllReadyL.last rfl (by kernel_rfl) (fun K hK => ?_) AllReadyL.nil
                    go_simp; go_at_call 141; refine (lessR rb (i * 3) rb (d * 3) w.heap.size p t _ _ _ _ _ _ _ _ _ ((HMI.out.row i hil).bel hHeld.2.2.2) (fun w' hk => (HMI.out.below hHeld.2.2.2 HRLI.out).other hil hd (fun e => HID.out e.symm) hk) HP.out HT3.out HL1.out HL3.out HL2.out HL4.out HQ1.out HQ2.out HE1.out HE2.out HRM.out HN1.out HN2.out).mono ?_; rintro e w5 ⟨rfl, hr5, hb5, hk5⟩
                    refine hK.out _ _ ?_
                    clear hK K
                    try simp only [Act.put, List.setIfInBounds_toArray, List.set_cons_zero, List.set_cons_succ]
                    refine wpAnyL_done (by kernel_rfl) ?_ _
                    refine NoPanic.normal ?_
                    have HM5 : Hid (MRows w5 rb w.heap.size rs.length u VL2 VB2 (clearK p R2 d cc (i + 1))) := Lib.hid (by
                      have h := (HMI.out.below hHeld.2.2.2 HRLI.out).upd hil hk5 (x := rowSub p t (clearK p R2 d cc i i) (clearK p R2 d cc i d)) (by
                        rw [rowSub_take, rowSub_at (by rw [HLI.out]; omega), rowSub_drop]
                        exact hr5)
                      have e := clearK_succ (p := p) (R := R2) (c := cc) HID.out
                      rw [HTT.out] at e
                      rw [HCI.out, show clearK p R2 d cc i d = rowScale p (intN (R2 d) cc) (R2 d) by unfold clearK; rw [if_pos rfl]] at h
                      rw [e] at h
                      exact h)
                    have HB5 : Hid (Below w.heap.size w w5) := Lib.hid ((HBLI.out.trans (hHeld.2.2.2.mono HBLI.out.size)).trans hb5)
                    have HRL6 : Hid (rb < w5.heap.size) := Lib.hid (Nat.lt_of_lt_of_le HRLI.out hk5.rest.1)
                    clear hHeld hr5 hb5 hk5
                    go_wp2
                    go_roundw
                    case rel => exact ⟨i + 1, by omega, by go_num, HM5.out, HRL6.out, HB5.out⟩
                    case measure => simp [intOf]; omega
              · obtain rfl : i = rs.length := by omega
                go_wp2
                go_roundw
                case rel => exact ⟨cc + 1, by omega, by go_num, by rw [HEQ2.out]; go_num, fun _ => ⟨rb, VL2, VB2, rfl, HRM.out, HRLI.out, by rw [HEQ2.out]; exact HMI.out⟩, HBLI.out⟩
                case measure => simp [intOf]; omega
        · obtain rfl : m = rs.length := by omega
          have HEQ : Hid (elimE p rs.length (row0 rs) (cc + 1) = (R, d)) := Lib.hid (by
            show stepE p rs.length cc (elimE p rs.length (row0 rs) cc) = _
            rw [HE.out]
            unfold stepE
            rw [if_pos (findE_eq rs.length d rs.length hdn (Nat.le_refl _) (by omega) HZZ.out (fun h => by omega))])
          go_wp2
          go_roundw
          case rel => exact ⟨cc + 1, by omega, by go_num, by rw [HEQ.out], by rw [HEQ.out]; exact HMR.out, HBL.out⟩
          case measure => simp [intOf]; omega
    · obtain rfl : cc = u := by omega
      clear dp
      go_wp2
      go_ret2
      rw [HE.out]
      exact ⟨_, _, rfl, HMR.out, HBL.out⟩

end Go.Proofs.Ytnbgpeoceejolaa

namespace Go.Proofs.Ytnbgpeoceejolaa
open Go.RowKit

/-- The rows that are not done have a right side other than 0. -/
def NoAns (p : Int) (u : Nat) (rs : List (Int × List Int)) : Prop := ∃ j, (elimE p rs.length (row0 rs) u).2 ≤ j ∧ j < rs.length ∧ intN ((elimE p rs.length (row0 rs) u).1 j) u ≠ 0
/-- The first row from d on whose right side is not 0, or -1. -/
def FalseAt (R : Nat → List Int) (u d n : Nat) (m : Int) : Prop :=
  (∃ i : Nat, d ≤ i ∧ i < n ∧ m = i ∧ intN (R i) u ≠ 0 ∧ ∀ j, d ≤ j → j < i → intN (R j) u = 0) ∨ (m = -1 ∧ ∀ j, d ≤ j → j < n → intN (R j) u = 0)
theorem FalseAt.exists (R : Nat → List Int) (u d n : Nat) (hd : d ≤ n) : ∃ m, FalseAt R u d n m := by
  obtain ⟨h1, h2, h3, h4⟩ := findE_spec (R := R) (c := u) (n := n) n d hd (by omega)
  by_cases h : findE R u n n d < n
  · exact ⟨findE R u n n d, .inl ⟨_, h1, h, rfl, h4 h, h3⟩⟩
  · exact ⟨-1, .inr ⟨rfl, fun j hj hn => h3 j hj (by omega)⟩⟩
theorem FalseAt.neg {R : Nat → List Int} {u d n : Nat} {m : Int} (h : FalseAt R u d n m) : m < 0 ↔ ¬ ∃ j, d ≤ j ∧ j < n ∧ intN (R j) u ≠ 0 := by
  rcases h with ⟨i, h1, h2, rfl, h4, _⟩ | ⟨rfl, h⟩
  · exact ⟨fun h => by omega, fun h => absurd ⟨i, h1, h2, h4⟩ h⟩
  · exact ⟨fun _ => fun ⟨j, h1, h2, h3⟩ => h3 (h j h1 h2), fun _ => by decide⟩

set_option linter.unusedSimpArgs false in
set_option maxHeartbeats 4000000 in
set_option maxRecDepth 100000 in
theorem l07FalseC (a : Option Addr) (c n d rb B u : Nat) (VL VB : Nat → Value) (R : Nat → List Int) (m : Int) (w : World) (h : 0 < n → a = some ⟨rb, 0, none⟩ ∧ MRows w rb B n u VL VB R) (hn : n ≤ 1000) (hd : d ≤ n) (hm : FalseAt R u d n m) :
    Calls Try.prog 82 #[.slice a n c, .int .i64 (d : Int)] w fun e w' => e = .returned (.int .i64 m) ∧ w = w' := by
  have H := Lib.hid h
  have HM := Lib.hid hm
  clear h hm
  go_enter Try.func82, Try.ntmps82
  go_wp2
  go_loop [5] (fun v => ∃ k : Nat, d ≤ k ∧ k ≤ n ∧ v = .int .i64 k ∧ ∀ j, d ≤ j → j < k → intN (R j) u = 0) (fun v => n - (intOf v).toNat)
  case atStart => exact ⟨d, Nat.le_refl _, hd, rfl, fun j h1 h2 => by omega⟩
  case round =>
    obtain ⟨k, hdk, hkn, rfl, hz⟩ := hrel
    have HZ := Lib.hid hz
    clear hz
    by_cases hlt : k < n
    · have hk : (k : Int) < (n : Int) := by omega
      obtain ⟨rfl, hM⟩ := H.out (by omega)
      have x0 := (hM.row k hlt).right
      obtain ⟨x, hx⟩ : ∃ x, intN (R k) u = x := ⟨_, rfl⟩
      rw [hx] at x0
      have HX := Lib.hid hx
      clear hM hx
      by_cases h0 : x = 0
      · have hb : (x != 0) = false := by rw [h0]; rfl
        have HX0 := Lib.hid h0
        clear h0
        go_wp2
        go_round
        case rel =>
          refine ⟨k + 1, by omega, by omega, by go_num, fun j h1 h2 => ?_⟩
          by_cases hjk : j = k
          · subst hjk; rw [HX.out]; exact HX0.out
          · exact HZ.out j h1 (by omega)
        case measure => simp [intOf]; omega
      · have hb : (x != 0) = true := bne_iff_ne.2 h0
        have HX0 := Lib.hid h0
        clear h0
        have HE : Hid (m = (k : Int)) := Lib.hid (by
          rcases HM.out with ⟨i, h1, h2, rfl, h4, h5⟩ | ⟨rfl, h5⟩
          · rcases Nat.lt_trichotomy i k with hl | rfl | hl
            · exact absurd (HZ.out i h1 hl) h4
            · rfl
            · exact absurd (h5 k hdk hl) (by rw [HX.out]; exact HX0.out)
          · exact absurd (h5 k hdk hlt) (by rw [HX.out]; exact HX0.out))
        go_wp2
        go_ret
        exact ⟨by rw [HE.out]; rfl, rfl⟩
    · obtain rfl : k = n := by omega
      have HE : Hid (m = -1) := Lib.hid (by
        rcases HM.out with ⟨i, h1, h2, rfl, h4, _⟩ | ⟨h5, _⟩
        · exact absurd (HZ.out i h1 h2) h4
        · exact h5)
      go_wp2
      go_ret
      exact ⟨by rw [HE.out]; rfl, rfl⟩

set_option linter.unusedSimpArgs false in
set_option maxHeartbeats 4000000 in
set_option maxRecDepth 100000 in
theorem l07RankC (sb so : Nat) (p : Int) (u : Nat) (rs : List (Int × List Int)) (b : Bool) (w : World) (hs : SysAt w sb so p u rs) (hok : SysOk p u rs) (hb : Tells b (¬ NoAns p u rs)) :
    Calls Try.prog 73 #[.pointer (some ⟨sb, so, none⟩)] w fun e w' => e = .returned (.tuple #[.int .i64 ((elimE p rs.length (row0 rs) u).2 : Int), .bool b]) ∧ Below w.heap.size w w' := by
  have HS := Lib.hid hs
  have HOK := Lib.hid hok
  have HB := Lib.hid hb
  have hn24 := hok.2.2.1
  have hgd := elimE_good (l := u + 1 + rs.length) (by rcases hok.1 with rfl | rfl <;> omega) (row0_good hok) u
  clear hs hok hb
  go_enter Try.func73, Try.ntmps73
  go_wp2_with fail
  refine (l07ReduceC sb so p u rs _ HS.out HOK.out).mono ?_
  rintro e w2 ⟨a, c, rfl, hmr, hb2⟩
  have HB2 := Lib.hid hb2
  obtain ⟨m, hm⟩ := FalseAt.exists (elimE p rs.length (row0 rs) u).1 u (elimE p rs.length (row0 rs) u).2 rs.length hgd.2
  have HBM : Hid (decide (m < 0) = b) := Lib.hid (by
    have h1 := hm.neg
    have h2 := HB.out
    unfold NoAns at h2
    by_cases h : m < 0
    · rw [decide_eq_true h]; exact (h2.is_true (h1.1 h)).symm
    · rw [decide_eq_false h]; exact (h2.is_false fun k => h (h1.2 k)).symm)
  have HMR : Hid (∃ rb B VL VB, 0 < rs.length → a = some ⟨rb, 0, none⟩ ∧ MRows w2 rb B rs.length u VL VB (elimE p rs.length (row0 rs) u).1) := Lib.hid (by
    by_cases h0 : 0 < rs.length
    · obtain ⟨rb, VL, VB, h1, _, _, h2⟩ := hmr h0
      exact ⟨rb, _, VL, VB, fun _ => ⟨h1, h2⟩⟩
    · exact ⟨0, 0, fun _ => .slice none 0 0, fun _ => .slice none 0 0, fun h => absurd h h0⟩)
  have HM := Lib.hid hm
  have hdn := hgd.2
  obtain ⟨S, hS⟩ : ∃ S, elimE p rs.length (row0 rs) u = S := ⟨_, rfl⟩
  obtain ⟨R, d⟩ := S
  rw [hS] at HMR HM hdn ⊢
  have HSE := Lib.hid hS
  clear hmr hb2 hm hgd hS
  obtain ⟨rb, B, VL, VB, hmm⟩ := HMR.out
  have HMM := Lib.hid hmm
  clear hmm
  go_wp2_with fail
  refine (l07FalseC a c rs.length d rb B u VL VB R m _ HMM.out (by omega) hdn HM.out).mono ?_
  rintro e w3 ⟨rfl, rfl⟩
  have hbm := HBM.out
  go_wp2
  go_ret2
  exact ⟨by rw [HSE.out]; first | rfl | simp, HB2.out⟩

/-- What RankOfSystem answers. -/
def RankOfSystemIs (p u : Int) (rs : List (Int × List Int)) (r cd : Int) : Prop :=
  (SysOk p u rs ∧ ¬ NoAns p u.toNat rs ∧ r = ((elimE p rs.length (row0 rs) u.toNat).2 : Nat) ∧ cd = 0) ∨ (SysOk p u rs ∧ NoAns p u.toNat rs ∧ r = 0 ∧ cd = 4) ∨ (¬ SysOk p u rs ∧ r = 0 ∧ cd = 1)
theorem RankOfSystemIs.exists (p u : Int) (rs : List (Int × List Int)) : ∃ r cd, RankOfSystemIs p u rs r cd := by
  by_cases h1 : SysOk p u rs
  · by_cases h2 : NoAns p u.toNat rs
    · exact ⟨0, 4, .inr (.inl ⟨h1, h2, rfl, rfl⟩)⟩
    · exact ⟨_, 0, .inl ⟨h1, h2, rfl, rfl⟩⟩
  · exact ⟨0, 1, .inr (.inr ⟨h1, rfl, rfl⟩)⟩

set_option linter.unusedSimpArgs false in
set_option maxHeartbeats 4000000 in
set_option maxRecDepth 100000 in
theorem specRankOfSystem (p u : Int) (a : Option Addr) (n c : Nat) (rs : List (Int × List Int)) (r cd : Int) (w : World) (h : EqsAt w (.slice a n c) rs) (hi : RankOfSystemIs p u rs r cd) :
    Calls Try.prog 16 #[.agg #[.int .i64 p, .int .i64 u, .slice a n c]] w fun e w' => e = .returned (.tuple #[.int .i64 r, .int .i64 cd]) ∧ Below w.heap.size w w' := by
  have HS := Lib.hid (SysAt.new w p u a n c rs 30 h)
  have HW : Hid (Below w.heap.size w (w.alloc (.cells #[.int .i64 p, .int .i64 u, .slice a n c] 30))) := Lib.hid ((Below.refl _ _).alloc (Nat.le_refl _) _)
  have HI := Lib.hid hi
  clear h hi
  go_enter Try.func16, Try.ntmps16
  by_cases hok : SysOk p u rs
  · have HOK := Lib.hid hok
    obtain ⟨un, rfl⟩ : ∃ un : Nat, u = un := ⟨u.toNat, by have := hok.2.1; unfold InP at this; omega⟩
    clear hok
    go_wp2_with fail
    refine (l07Ok _ _ _ _ rs true _ HS.out (Tells.yes HOK.out)).mono ?_
    rintro e w2 ⟨rfl, hq⟩
    have HQ := Lib.hid hq.bel
    have HW2 := Lib.hid (HW.out.trans (hq.bel.mono HW.out.size))
    clear hq
    obtain ⟨b, hb⟩ := Tells.exists (¬ NoAns p un rs)
    have HB := Lib.hid hb
    clear hb
    go_wp2_with fail
    refine (l07RankC _ _ p un rs b _ (HS.out.below HQ.out) HOK.out HB.out).mono ?_
    rintro e w3 ⟨rfl, hb3⟩
    have HW3 := Lib.hid (HW2.out.trans (hb3.mono HW2.out.size))
    clear hb3
    cases b with
    | true =>
      go_wp2
      go_ret2
      rcases HI.out with ⟨_, _, rfl, rfl⟩ | ⟨_, h2, _⟩ | ⟨h1, _⟩
      · exact ⟨rfl, HW3.out⟩
      · exact absurd h2 (HB.out.1 rfl)
      · exact absurd HOK.out h1
    | false =>
      go_wp2
      go_ret2
      rcases HI.out with ⟨_, h2, _⟩ | ⟨_, _, rfl, rfl⟩ | ⟨h1, _⟩
      · exact absurd (HB.out.2 h2) (by simp)
      · exact ⟨rfl, HW3.out⟩
      · exact absurd HOK.out h1
  · have HOK := Lib.hid hok
    clear hok
    go_wp2_with fail
    refine (l07Ok _ _ _ _ rs false _ HS.out (Tells.no HOK.out)).mono ?_
    rintro e w2 ⟨rfl, hq⟩
    have HW2 := Lib.hid (HW.out.trans (hq.bel.mono HW.out.size))
    clear hq
    go_wp2
    go_ret2
    rcases HI.out with ⟨h1, _⟩ | ⟨h1, _⟩ | ⟨_, rfl, rfl⟩
    · exact absurd h1 HOK.out
    · exact absurd h1 HOK.out
    · exact ⟨rfl, HW2.out⟩

theorem pow_le3E {p k : Nat} (h : p ≤ 3) (hk : k ≤ 12) : p ^ k ≤ 531441 := by
  have h1 := Nat.pow_le_pow_left h k
  have h2 := Nat.pow_le_pow_right (show 0 < 3 by decide) hk
  exact Nat.le_trans h1 (Nat.le_trans h2 (by decide))

set_option maxHeartbeats 1000000 in
theorem powerE (size ar : Nat) (h2 : size ≤ 3) (h4 : ar ≤ 12) (w : World) :
    Calls Try.prog 138 #[.int .i64 size, .int .i64 ar] w fun e w' => e = .returned (.int .i64 ((size ^ ar : Nat) : Int)) ∧ w = w' := by
  go_enter Try.func138, Try.ntmps138
  go_wp2
  go_loop [1, 5] (fun i p => ∃ k : Nat, k ≤ ar ∧ i = .int .i64 ((ar - k : Nat) : Int) ∧ p = .int .i64 ((size ^ k : Nat) : Int)) (fun i _ => (intOf i).toNat)
  case atStart => exact ⟨0, Nat.zero_le _, rfl, rfl⟩
  case round =>
    obtain ⟨k, hk, rfl, rfl⟩ := hrel
    by_cases hlt : k < ar
    · have hlt' : (0 : Int) < ((ar - k : Nat) : Int) := by omega
      have hp := pow_le3E h2 (show k ≤ 12 by omega)
      have hs := Nat.pow_succ (n := size) (m := k)
      have hs2 := pow_le3E h2 (show k + 1 ≤ 12 by omega)
      generalize size ^ k = p at *
      generalize hqq : size ^ (k + 1) = q at *
      have hm : (p : Int) * (size : Int) = (q : Int) := by rw [hs, Int.natCast_mul]
      have HQ := Lib.hid hqq
      have HD : Hid (((ar - k : Nat) : Int) - 1 = ((ar - (k + 1) : Nat) : Int)) := by show _ = _; omega
      clear hs hqq
      go_wp2
      go_round
      case rel => exact ⟨k + 1, by omega, by rw [HD.out], by rw [HQ.out]⟩
      case measure => simp [intOf]; omega
    · obtain rfl : k = ar := by omega
      have hz : k - k = 0 := Nat.sub_self k
      go_wp2
      go_ret
      exact ⟨rfl, rfl⟩

/-- How many answers there are. -/
def cntE (p u : Nat) (rs : List (Int × List Int)) : Nat := p ^ (u - (elimE p rs.length (row0 rs) u).2)
set_option linter.unusedSimpArgs false in
set_option maxHeartbeats 4000000 in
set_option maxRecDepth 100000 in
theorem l07CountC (sb so : Nat) (p u : Nat) (rs : List (Int × List Int)) (b : Bool) (w : World) (hs : SysAt w sb so p u rs) (hok : SysOk p u rs) (hb : Tells b (¬ NoAns p u rs)) :
    Calls Try.prog 79 #[.pointer (some ⟨sb, so, none⟩)] w fun e w' => e = .returned (.int .i64 (if b then (cntE p u rs : Int) else 0)) ∧ Below w.heap.size w w' := by
  have HS := Lib.hid hs
  have HOK := Lib.hid hok
  have HB := Lib.hid hb
  have hp3 : p ≤ 3 := by have := hok.1; unfold PrimeP at this; omega
  have hu12 : u ≤ 12 := by have := hok.2.1; unfold InP at this; omega
  have hdu := elimE_le (p := p) (n := rs.length) (R := row0 rs) u
  clear hs hok hb
  go_enter Try.func79, Try.ntmps79
  go_wp2_with fail
  refine (l07RankC sb so p u rs b _ HS.out HOK.out HB.out).mono ?_
  rintro e w2 ⟨rfl, hb2⟩
  have HB2 := Lib.hid hb2
  have x0 := (HS.out.below hb2).prime
  have x1 := (HS.out.below hb2).unknowns
  obtain ⟨d, hd⟩ : ∃ d, (elimE p rs.length (row0 rs) u).2 = d := ⟨_, rfl⟩
  have HC : Hid (cntE p u rs = p ^ (u - d)) := Lib.hid (by unfold cntE; rw [hd])
  rw [hd] at hdu ⊢
  have hsub : (u : Int) - (d : Int) = ((u - d : Nat) : Int) := by omega
  have hwr : IntKind.i64.wrap (((u - d : Nat) : Int)) = ((u - d : Nat) : Int) := IntWalk.i64_in _ (by omega)
  clear hb2 hd
  cases b with
  | true =>
    go_wp2
    refine wp_region_noPanic ?_
    refine wp_region_late (S := (fun w' => w'.cell? ⟨sb, so, none⟩ = some (.int .i64 (p : Int)) ∧ w'.cell? ⟨sb, so + 1, none⟩ = some (.int .i64 (u : Int)))) [10] (by kernel_rfl) ?_ (fun hHeld => ?_)
    · exact ⟨x0, x1⟩
    refine wpAnyL_free (i := 0) (v := ?_) (some 12) rfl rfl (by kernel_rfl) (by kernel_rfl) (by kernel_rfl) (by decide) (fun _ _ _ h => h) (Or.inl ⟨by rfl, ?_⟩) (fun h0 => by assumption) ?_
    rotate_left
    · intro wS
      go_simp
      try with_reducible rfl
    try simp only [Act.put, List.setIfInBounds_toArray, List.set_cons_zero, List.set_cons_succ]
    refine wpAnyL_free (i := 1) (v := ?_) (some 13) rfl rfl (by kernel_rfl) (by kernel_rfl) (by kernel_rfl) (by decide) (fun _ _ _ h => h) (Or.inl ⟨by rfl, ?_⟩) (fun h0 => by assumption) ?_
    rotate_left
    · intro wS
      go_simp
      try with_reducible rfl
    try simp only [Act.put, List.setIfInBounds_toArray, List.set_cons_zero, List.set_cons_succ]
    refine wpAnyL_free (i := 2) (v := ?_) (some 14) rfl rfl (by kernel_rfl) (by kernel_rfl) (by kernel_rfl) (by decide) (fun _ _ _ h => h) (Or.inl ⟨by rfl, ?_⟩) (fun h0 => by assumption) ?_
    rotate_left
    · intro wS
      go_simp
      try with_reducible rfl
    try simp only [Act.put, List.setIfInBounds_toArray, List.set_cons_zero, List.set_cons_succ]
    refine wpAnyL_take (i := 3) (v := ?_) (some 15) rfl rfl (by kernel_rfl) (by kernel_rfl) (by kernel_rfl) (by kernel_rfl) (by kernel_rfl) (fun _ _ _ h => h) (Or.inl ⟨by rfl, ?_⟩) (by assumption) ?_
    rotate_left
    · intro wS hSw
      try dsimp only at hSw
      go_simp
      try with_reducible rfl
    try simp only [Act.put, List.setIfInBounds_toArray, List.set_cons_zero, List.set_cons_succ]
    refine wpAnyL_free (i := 4) (v := ?_) (some 16) rfl rfl (by kernel_rfl) (by kernel_rfl) (by kernel_rfl) (by decide) (fun _ _ _ h => h) (Or.inl ⟨by rfl, ?_⟩) (fun h0 => by assumption) ?_
    rotate_left
    · intro wS
      go_simp
      try with_reducible rfl
    try simp only [Act.put, List.setIfInBounds_toArray, List.set_cons_zero, List.set_cons_succ]
    refine wpAnyL_free (i := 5) (v := ?_) (some 17) rfl rfl (by kernel_rfl) (by kernel_rfl) (by kernel_rfl) (by decide) (fun _ _ _ h => h) (Or.inl ⟨by rfl, ?_⟩) (fun h0 => by assumption) ?_
    rotate_left
    · intro wS
      go_simp
      try with_reducible rfl
    try simp only [Act.put, List.setIfInBounds_toArray, List.set_cons_zero, List.set_cons_succ]
    refine wpAnyL_free (i := 6) (v := ?_) (some 18) rfl rfl (by kernel_rfl) (by kernel_rfl) (by kernel_rfl) (by decide) (fun _ _ _ h => h) (Or.inl ⟨by rfl, ?_⟩) (fun h0 => by assumption) ?_
    rotate_left
    · intro wS
      go_simp
      try with_reducible rfl
    try simp only [Act.put, List.setIfInBounds_toArray, List.set_cons_zero, List.set_cons_succ]
    refine wpAnyL_take (i := 7) (v := ?_) (some 19) rfl rfl (by kernel_rfl) (by kernel_rfl) (by kernel_rfl) (by kernel_rfl) (by kernel_rfl) (fun _ _ _ h => h) (Or.inl ⟨by rfl, ?_⟩) (by assumption) ?_
    rotate_left
    · intro wS hSw
      try dsimp only at hSw
      go_simp
      try with_reducible rfl
    try simp only [Act.put, List.setIfInBounds_toArray, List.set_cons_zero, List.set_cons_succ]
    refine wpAnyL_free (i := 8) (v := ?_) (some 20) rfl rfl (by kernel_rfl) (by kernel_rfl) (by kernel_rfl) (by decide) (fun _ _ _ h => h) (Or.inl ⟨by rfl, ?_⟩) (fun h0 => by assumption) ?_
    rotate_left
    · intro wS
      go_simp
      try with_reducible rfl
    try simp only [Act.put, List.setIfInBounds_toArray, List.set_cons_zero, List.set_cons_succ]
    refine wpAnyL_free (i := 9) (v := ?_) (some 21) rfl rfl (by kernel_rfl) (by kernel_rfl) (by kernel_rfl) (by decide) (fun _ _ _ h => h) (Or.inl ⟨by rfl, ?_⟩) (fun h0 => by assumption) ?_
    rotate_left
    · intro wS
      go_simp
      try with_reducible rfl
    try simp only [Act.put, List.setIfInBounds_toArray, List.set_cons_zero, List.set_cons_succ]
    refine wpAnyL_ready (rs := [10]) (by kernel_rfl) (by simp) ?_
    refine AllReadyL.last rfl (by kernel_rfl) (fun K hK => ?_) AllReadyL.nil
    go_simp; go_at_call 138; refine (powerE p (u - d) (by omega) (by omega) _).mono ?_; rintro e w5 ⟨rfl, rfl⟩
    refine hK.out _ _ ?_
    clear hK K
    try simp only [Act.put, List.setIfInBounds_toArray, List.set_cons_zero, List.set_cons_succ]
    refine wpAnyL_free (i := 11) (v := ?_) (some 2) rfl rfl (by kernel_rfl) (by kernel_rfl) (by kernel_rfl) (by decide) (fun _ _ _ h => h) (Or.inl ⟨by rfl, ?_⟩) (fun h0 => absurd h0 (by decide)) ?_
    rotate_left
    · intro wS
      go_simp
      try with_reducible rfl
    try simp only [Act.put, List.setIfInBounds_toArray, List.set_cons_zero, List.set_cons_succ]
    refine wpAnyL_done (by kernel_rfl) ?_ _
    refine NoPanic.normal ?_
    clear hHeld
    go_wp2
    go_ret
    exact ⟨by rw [HC.out]; simp, HB2.out.drew⟩
  | false =>
    clear x0 x1
    go_wp2
    go_ret
    exact ⟨by simp, HB2.out⟩

/-- What CountAnswers answers. -/
def CountAnswersIs (p u : Int) (rs : List (Int × List Int)) (r cd : Int) : Prop :=
  (SysOk p u rs ∧ ¬ NoAns p u.toNat rs ∧ r = (cntE p.toNat u.toNat rs : Nat) ∧ cd = 0) ∨ (SysOk p u rs ∧ NoAns p u.toNat rs ∧ r = 0 ∧ cd = 0) ∨ (¬ SysOk p u rs ∧ r = 0 ∧ cd = 1)
theorem CountAnswersIs.exists (p u : Int) (rs : List (Int × List Int)) : ∃ r cd, CountAnswersIs p u rs r cd := by
  by_cases h1 : SysOk p u rs
  · by_cases h2 : NoAns p u.toNat rs
    · exact ⟨0, 0, .inr (.inl ⟨h1, h2, rfl, rfl⟩)⟩
    · exact ⟨_, 0, .inl ⟨h1, h2, rfl, rfl⟩⟩
  · exact ⟨0, 1, .inr (.inr ⟨h1, rfl, rfl⟩)⟩

set_option linter.unusedSimpArgs false in
set_option maxHeartbeats 4000000 in
set_option maxRecDepth 100000 in
theorem specCountAnswers (p u : Int) (a : Option Addr) (n c : Nat) (rs : List (Int × List Int)) (r cd : Int) (w : World) (h : EqsAt w (.slice a n c) rs) (hi : CountAnswersIs p u rs r cd) :
    Calls Try.prog 20 #[.agg #[.int .i64 p, .int .i64 u, .slice a n c]] w fun e w' => e = .returned (.tuple #[.int .i64 r, .int .i64 cd]) ∧ Below w.heap.size w w' := by
  have HS := Lib.hid (SysAt.new w p u a n c rs 30 h)
  have HW : Hid (Below w.heap.size w (w.alloc (.cells #[.int .i64 p, .int .i64 u, .slice a n c] 30))) := Lib.hid ((Below.refl _ _).alloc (Nat.le_refl _) _)
  have HI := Lib.hid hi
  clear h hi
  go_enter Try.func20, Try.ntmps20
  by_cases hok : SysOk p u rs
  · have HOK := Lib.hid hok
    obtain ⟨un, rfl⟩ : ∃ un : Nat, u = un := ⟨u.toNat, by have := hok.2.1; unfold InP at this; omega⟩
    obtain ⟨pn, rfl⟩ : ∃ pn : Nat, p = pn := ⟨p.toNat, by have := hok.1; unfold PrimeP at this; omega⟩
    clear hok
    go_wp2_with fail
    refine (l07Ok _ _ _ _ rs true _ HS.out (Tells.yes HOK.out)).mono ?_
    rintro e w2 ⟨rfl, hq⟩
    have HQ := Lib.hid hq.bel
    have HW2 := Lib.hid (HW.out.trans (hq.bel.mono HW.out.size))
    clear hq
    obtain ⟨b, hb⟩ := Tells.exists (¬ NoAns pn un rs)
    have HB := Lib.hid hb
    clear hb
    go_wp2_with fail
    refine (l07CountC _ _ pn un rs b _ (HS.out.below HQ.out) HOK.out HB.out).mono ?_
    rintro e w3 ⟨rfl, hb3⟩
    have HW3 := Lib.hid (HW2.out.trans (hb3.mono HW2.out.size))
    clear hb3
    obtain ⟨y, hy⟩ : ∃ y : Int, (if b = true then (cntE pn un rs : Int) else 0) = y := ⟨_, rfl⟩
    have HY := Lib.hid hy
    rw [hy]
    clear hy
    go_wp2
    go_ret2
    refine ⟨?_, HW3.out⟩
    rw [← HY.out]
    rcases HI.out with ⟨_, h2, rfl, rfl⟩ | ⟨_, h2, rfl, rfl⟩ | ⟨h1, _⟩
    · rw [HB.out.is_true h2]; simp
    · rw [HB.out.is_false (fun k => k h2)]; simp
    · exact absurd HOK.out h1
  · have HOK := Lib.hid hok
    clear hok
    go_wp2_with fail
    refine (l07Ok _ _ _ _ rs false _ HS.out (Tells.no HOK.out)).mono ?_
    rintro e w2 ⟨rfl, hq⟩
    have HW2 := Lib.hid (HW.out.trans (hq.bel.mono HW.out.size))
    clear hq
    go_wp2
    go_ret2
    rcases HI.out with ⟨h1, _⟩ | ⟨h1, _⟩ | ⟨_, rfl, rfl⟩
    · exact absurd h1 HOK.out
    · exact absurd h1 HOK.out
    · exact ⟨rfl, HW2.out⟩

end Go.Proofs.Ytnbgpeoceejolaa
