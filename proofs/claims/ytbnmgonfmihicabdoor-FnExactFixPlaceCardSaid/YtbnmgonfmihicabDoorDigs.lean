/-
  Tuples as digits: the tuple with a number, the rows of a set of numbers, and the rows of a relation whose tuples are in order.
-/
import Derived.Test.YtbnmgonfmihicabDoorMemb
import Derived.Test.YtbnmgonfmihicabDoorCode
namespace Go.Proofs.YtbnmgonfmihicabDoor
open Go.RowKit

/-- The j-th of ar digits of a number. -/
def digN (size ar n j : Nat) : Nat := n / size ^ (ar - 1 - j) % size
/-- The tuple with a number. -/
def digs (size ar n : Nat) : List Int := (List.range ar).map fun j => (digN size ar n j : Int)
theorem digs_len (size ar n : Nat) : (digs size ar n).length = ar := by simp [digs]
theorem digs_at (size ar n j : Nat) (h : j < ar) : intN (digs size ar n) j = (digN size ar n j : Int) := by
  rw [intN_at _ _ (by rw [digs_len]; exact h)]
  simp [digs]

theorem digs_tup (size ar n : Nat) (h1 : 1 ≤ size) : TupP size ar (digs size ar n) := by
  refine ⟨by rw [digs_len], fun k hk => ?_⟩
  rw [digs_len] at hk
  rw [digs_at _ _ _ _ hk]
  have : digN size ar n k < size := Nat.mod_lt _ (by omega)
  omega

theorem digs_codeK (size ar n : Nat) (hn : n < size ^ ar) : ∀ k, k ≤ ar → codeK size (digs size ar n) k = ((n / size ^ (ar - k) : Nat) : Int) := by
  intro k
  induction k with
  | zero => intro _; simp [codeK, Nat.div_eq_of_lt hn]
  | succ k ih =>
    intro hk
    show codeK size (digs size ar n) k * size + intN (digs size ar n) k = _
    rw [ih (by omega), digs_at _ _ _ _ (by omega)]
    have e : size ^ (ar - k) = size ^ (ar - (k + 1)) * size := by rw [← Nat.pow_succ]; congr 1; omega
    have e2 : n / size ^ (ar - k) = n / size ^ (ar - (k + 1)) / size := by rw [e, Nat.div_div_eq_div_mul]
    have e3 : digN size ar n k = n / size ^ (ar - (k + 1)) % size := by unfold digN; congr 3; omega
    rw [e2, e3]
    generalize n / size ^ (ar - (k + 1)) = m
    have := Nat.div_add_mod m size
    have h2 : ((m / size : Nat) : Int) * (size : Int) = ((size * (m / size) : Nat) : Int) := by rw [Int.natCast_mul, Int.mul_comm]
    rw [h2]
    omega

theorem digs_code (size ar n : Nat) (hn : n < size ^ ar) : codeN size (digs size ar n) = n := by
  unfold codeN code
  rw [digs_len, digs_codeK size ar n hn ar (Nat.le_refl _)]
  simp

theorem codeN_pow {size ar : Nat} {xs : List Int} (h1 : 1 ≤ size) (h : TupP size ar xs) : codeN size xs < size ^ ar := by
  have h0 : xs.length = ar := by have := h.1; omega
  have := (codeK_range (size := (size : Int)) (xs := xs) (by omega) xs.length h.2).2
  have h2 := (codeK_range (size := (size : Int)) (xs := xs) (by omega) xs.length h.2).1
  rw [h0] at this h2
  have e : ((size : Int) ^ ar) = ((size ^ ar : Nat) : Int) := by simp
  rw [e] at this
  unfold codeN code
  rw [h0]
  omega

theorem pow_lim {size ar : Nat} (h1 : 1 ≤ size) (h2 : size ≤ 4) (h3 : 1 ≤ ar) (h4 : ar ≤ 4) : size ^ ar ≤ 256 ∧ 1 ≤ size ^ ar := by
  have hc : size = 1 ∨ size = 2 ∨ size = 3 ∨ size = 4 := by omega
  have hd : ar = 1 ∨ ar = 2 ∨ ar = 3 ∨ ar = 4 := by omega
  rcases hc with rfl | rfl | rfl | rfl <;> rcases hd with rfl | rfl | rfl | rfl <;> decide

theorem digs_of_code {size ar : Nat} {xs : List Int} (h1 : 1 ≤ size) (h2 : size ≤ 4) (h3 : 1 ≤ ar) (h4 : ar ≤ 4) (h : TupP size ar xs) : digs size ar (codeN size xs) = xs :=
  codeN_inj (size := (size : Int)) (ar := (ar : Int)) (digs_tup size ar _ h1) h ⟨by omega, by omega⟩ ⟨by omega, by omega⟩ (digs_code size ar _ (codeN_pow h1 h))

/-- The rows of a set of numbers. -/
def rowsS (size ar : Nat) (S : Nat → Bool) (n : Nat) : List (List Int) := (memb S n).map (digs size ar)
theorem rowsS_len (size ar : Nat) (S : Nat → Bool) (n : Nat) : (rowsS size ar S n).length = (memb S n).length := by simp [rowsS]

theorem memb_congr {S T : Nat → Bool} {n : Nat} (h : ∀ j, j < n → S j = T j) : memb S n = memb T n := by
  unfold memb
  exact List.filter_congr fun j hj => h j (List.mem_range.1 hj)
theorem memb_cut {S : Nat → Bool} {n m : Nat} (hn : n ≤ m) (h : ∀ j, n ≤ j → j < m → S j = false) : memb S m = memb S n := by
  have := memb_skip S n (m - n) fun j h1 h2 => h j h1 (by omega)
  rwa [show n + (m - n) = m by omega] at this

theorem sorted_ext : ∀ (l1 l2 : List Nat), l1.Pairwise (· < ·) → l2.Pairwise (· < ·) → (∀ n, n ∈ l1 ↔ n ∈ l2) → l1 = l2 := by
  intro l1
  induction l1 with
  | nil =>
    intro l2 _ _ h
    cases l2 with
    | nil => rfl
    | cons b l2 => exact absurd ((h b).2 (List.mem_cons_self ..)) (by simp)
  | cons a l1 ih =>
    intro l2 h1 h2 h
    cases l2 with
    | nil => exact absurd ((h a).1 (List.mem_cons_self ..)) (by simp)
    | cons b l2 =>
      rw [List.pairwise_cons] at h1 h2
      have hab : a = b := by
        rcases List.mem_cons.1 ((h a).1 (List.mem_cons_self ..)) with e | e
        · exact e
        · rcases List.mem_cons.1 ((h b).2 (List.mem_cons_self ..)) with e2 | e2
          · exact e2.symm
          · have := h1.1 b e2
            have := h2.1 a e
            omega
      subst hab
      rw [ih l2 h1.2 h2.2 fun n => ?_]
      constructor
      · intro hn
        rcases List.mem_cons.1 ((h n).1 (List.mem_cons_of_mem _ hn)) with e | e
        · have := h1.1 n hn
          omega
        · exact e
      · intro hn
        rcases List.mem_cons.1 ((h n).2 (List.mem_cons_of_mem _ hn)) with e | e
        · have := h2.1 n hn
          omega
        · exact e

theorem memb_sorted (S : Nat → Bool) (n : Nat) : (memb S n).Pairwise (· < ·) := List.Pairwise.filter _ List.pairwise_lt_range
theorem mem_memb (S : Nat → Bool) (n j : Nat) : j ∈ memb S n ↔ j < n ∧ S j = true := by simp [memb]

/-- Tuples in ascending order of their numbers. -/
def AscC (size : Nat) (xss : List (List Int)) : Prop := xss.Pairwise fun x y => codeN size x < codeN size y

/-- Tuples in order are the rows of the set of their numbers. -/
theorem rowsS_of {size ar : Nat} (h1 : 1 ≤ size) (h2 : size ≤ 4) (h3 : 1 ≤ ar) (h4 : ar ≤ 4) {xss : List (List Int)} {S : Nat → Bool} (ht : ∀ x, x ∈ xss → TupP size ar x) (ha : AscC size xss)
    (hS : ∀ n, n < 256 → (S n = true ↔ ∃ x, x ∈ xss ∧ codeN size x = n)) : rowsS size ar S 256 = xss := by
  have e : memb S 256 = xss.map (codeN size) := by
    refine sorted_ext _ _ (memb_sorted _ _) (List.pairwise_map.2 ha) fun n => ?_
    rw [mem_memb, List.mem_map]
    constructor
    · rintro ⟨hn, hs⟩
      exact (hS n hn).1 hs
    · rintro ⟨x, hx, rfl⟩
      have hlt : codeN size x < 256 := Nat.lt_of_lt_of_le (codeN_pow h1 (ht x hx)) (pow_lim h1 h2 h3 h4).1
      exact ⟨hlt, (hS _ hlt).2 ⟨x, hx, rfl⟩⟩
  unfold rowsS
  rw [e, List.map_map]
  conv => rhs; rw [← List.map_id xss]
  refine List.map_congr_left fun x hx => ?_
  exact digs_of_code h1 h2 h3 h4 (ht x hx)

theorem codeK_same {size : Int} {xs ys : List Int} (k : Nat) (h : ∀ j, j < k → intN xs j = intN ys j) : codeK size xs k = codeK size ys k := by
  induction k with
  | zero => rfl
  | succ k ih =>
    show codeK size xs k * size + intN xs k = codeK size ys k * size + intN ys k
    rw [ih fun j hj => h j (by omega), h k (by omega)]

theorem codeK_lt_of {size : Int} {xs ys : List Int} (hs : 1 ≤ size) (k : Nat) (h : ∀ j, j < k → intN xs j = intN ys j) (hlt : intN xs k < intN ys k) :
    ∀ m, k < m → (∀ j, j < m → 0 ≤ intN xs j ∧ intN xs j < size) → (∀ j, j < m → 0 ≤ intN ys j ∧ intN ys j < size) → codeK size xs m < codeK size ys m := by
  intro m
  induction m with
  | zero => intro h0; omega
  | succ m ih =>
    intro hk hx hy
    show codeK size xs m * size + intN xs m < codeK size ys m * size + intN ys m
    obtain ⟨a0, a1⟩ := hx m (by omega)
    obtain ⟨b0, b1⟩ := hy m (by omega)
    by_cases hkm : k = m
    · subst hkm
      rw [codeK_same k h]
      omega
    · have := ih (by omega) (fun j hj => hx j (by omega)) (fun j hj => hy j (by omega))
      have hm : (codeK size xs m + 1) * size ≤ codeK size ys m * size := Int.mul_le_mul_of_nonneg_right (by omega) (by omega)
      rw [Int.add_mul, Int.one_mul] at hm
      omega

theorem LtP.code {size ar : Int} {xs ys : List Int} (h : LtP xs ys) (hs : In14 size) (har : In14 ar) (hx : TupP size ar xs) (hy : TupP size ar ys) : codeN size xs < codeN size ys := by
  obtain ⟨k, hk, h1, h2⟩ := h
  have hl : xs.length = ys.length := by have := hx.1; have := hy.1; omega
  have := codeK_lt_of hs.1 k h1 h2 xs.length hk hx.2 (by rw [hl]; exact hy.2)
  have e1 := codeN_cast hx hs har
  have e2 := codeN_cast hy hs har
  unfold Go.Proofs.YtbnmgonfmihicabDoor.code at e1 e2
  rw [← hl] at e2
  omega

theorem asc_pairs {size : Nat} (xss : List (List Int)) (h : ∀ k, k + 1 < xss.length → codeN size (rowN xss k) < codeN size (rowN xss (k + 1))) : AscC size xss := by
  have hall : ∀ d k, k + d + 1 < xss.length → codeN size (rowN xss k) < codeN size (rowN xss (k + d + 1)) := by
    intro d
    induction d with
    | zero => intro k hk; exact h k hk
    | succ d ih =>
      intro k hk
      have h1 := ih k (by omega)
      have h2 := h (k + d + 1) (by omega)
      rw [show k + (d + 1) + 1 = k + d + 1 + 1 by omega]
      omega
  refine List.pairwise_iff_getElem.2 fun i j hi hj hij => ?_
  have := hall (j - i - 1) i (by omega)
  rw [show i + (j - i - 1) + 1 = j by omega, rowN_at _ _ hi, rowN_at _ _ hj] at this
  exact this

theorem RelOk.asc {size ar : Nat} {xss : List (List Int)} (h : RelOk size ar xss) : AscC size xss :=
  asc_pairs xss fun k hk => by
    have h1 := h.2.2 k (by omega)
    have h2 := h.2.2 (k + 1) hk
    exact (h2.2 (by omega)).code h.1 h.2.1 h1.1 h2.1

theorem RelOk.tups {size ar : Int} {xss : List (List Int)} (h : RelOk size ar xss) : ∀ x, x ∈ xss → TupP size ar x := by
  intro x hx
  obtain ⟨i, hi, rfl⟩ := List.mem_iff_getElem.1 hx
  have := (h.2.2 i hi).1
  rwa [rowN_at _ _ hi] at this

theorem mem_rowN {xss : List (List Int)} {x : List Int} : x ∈ xss ↔ ∃ j, j < xss.length ∧ rowN xss j = x := by
  rw [List.mem_iff_getElem]
  constructor
  · rintro ⟨i, hi, rfl⟩
    exact ⟨i, hi, rowN_at _ _ hi⟩
  · rintro ⟨i, hi, rfl⟩
    exact ⟨i, hi, (rowN_at _ _ hi).symm⟩

theorem setOf_iff {size : Int} {xss : List (List Int)} (n : Nat) : setOf size xss n = true ↔ ∃ x, x ∈ xss ∧ codeN size x = n := by
  unfold setOf
  rw [setK_iff]
  constructor
  · rintro ⟨j, hj, he⟩
    exact ⟨_, mem_rowN.2 ⟨j, hj, rfl⟩, he⟩
  · rintro ⟨x, hx, he⟩
    obtain ⟨j, hj, rfl⟩ := mem_rowN.1 hx
    exact ⟨j, hj, he⟩

theorem sum_map_le (xss : List (List Int)) (m : Nat) (h : ∀ x, x ∈ xss → x.length ≤ m) : (xss.map List.length).sum ≤ xss.length * m := by
  induction xss with
  | nil => simp
  | cons x xss ih =>
    have h1 := h x (List.mem_cons_self ..)
    have h2 := ih fun y hy => h y (List.mem_cons_of_mem _ hy)
    simp only [List.map_cons, List.sum_cons, List.length_cons, Nat.add_mul, Nat.one_mul]
    omega
theorem rowsS_small (size ar : Nat) (S : Nat → Bool) (h : ar ≤ 4) : ((rowsS size ar S 256).map List.length).sum ≤ 1048576 := by
  have h1 := sum_map_le (rowsS size ar S 256) ar fun x hx => by
    obtain ⟨n, _, rfl⟩ := List.mem_map.1 hx
    rw [digs_len]
    exact Nat.le_refl _
  have h2 : (rowsS size ar S 256).length ≤ 256 := by rw [rowsS_len]; exact memb_len S 256
  have h3 := Nat.mul_le_mul h2 h
  omega

/-- What a function answers that makes a relation: a code first, then another one, then the relation. -/
def RelAns (ok1 ok2 : Prop) (x : Int) (rows : List (List Int)) (ar : Int) (zs : List (List Int)) (cd : Int) : Prop :=
  (ok1 ∧ ok2 ∧ ar = x ∧ zs = rows ∧ cd = 0) ∨ (ok1 ∧ ¬ ok2 ∧ ar = 0 ∧ zs = [] ∧ cd = 2) ∨ (¬ ok1 ∧ ar = 0 ∧ zs = [] ∧ cd = 1)
theorem RelAns.exists (ok1 ok2 : Prop) (x : Int) (rows : List (List Int)) : ∃ ar zs cd, RelAns ok1 ok2 x rows ar zs cd := by
  by_cases h1 : ok1
  · by_cases h2 : ok2
    · exact ⟨_, _, _, .inl ⟨h1, h2, rfl, rfl, rfl⟩⟩
    · exact ⟨_, _, _, .inr (.inl ⟨h1, h2, rfl, rfl, rfl⟩)⟩
  · exact ⟨_, _, _, .inr (.inr ⟨h1, rfl, rfl, rfl⟩)⟩
theorem RelAns.small {ok1 ok2 : Prop} {x : Int} {rows : List (List Int)} {ar : Int} {zs : List (List Int)} {cd : Int} (h : RelAns ok1 ok2 x rows ar zs cd) (hr : ok1 → ok2 → (rows.map List.length).sum ≤ 1048576) : (zs.map List.length).sum ≤ 1048576 := by
  rcases h with ⟨h1, h2, rfl, rfl, rfl⟩ | ⟨_, _, rfl, rfl, rfl⟩ | ⟨_, rfl, rfl, rfl⟩
  · exact hr h1 h2
  · simp
  · simp

end Go.Proofs.YtbnmgonfmihicabDoor
