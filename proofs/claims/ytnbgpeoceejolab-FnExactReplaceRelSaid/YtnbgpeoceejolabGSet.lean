/-  math/bits.TrailingZeros64 at this program's table; the lowest of the numbers that a word holds, and the word without it. The numbers of a set below a bound, in order; what is left of a word when its lowest number is over. Tuples as digits: the tuple with a number, the rows of a set of numbers, and the rows of a relation whose tuples are in order. Lists of rows that grow round by round: what a loop has put into a set or appended; sets of numbers of lists of rows. The list with a number: l01Digits of the model. How many lists there are: tupleCount of the program, l01Power of the model. -/
import Derived.Test.YtnbgpeoceejolabGRel
import Derived.Laws.Bits64b
import Derived.Lib.TrailingZeros
import Derived.Test.YtnbgpeoceejolabGBase
namespace Go.Proofs.Ytnbgpeoceejolab
open Go.RowKit

theorem tz_key (x a : Nat) (hx : x < 18446744073709551616) (hx0 : x ≠ 0) (hlow : x &&& (18446744073709551616 - x) = a) :
    IntKind.u64.wrap (bits BinOp.and IntKind.u64 (x : Int) (IntKind.u64.wrap (-(x : Int))) * 285870213051353865) / 288230376151711744 = ((a * 285870213051353865 % 18446744073709551616 / 288230376151711744 : Nat) : Int) := by
  have e1 : IntKind.u64.wrap (-(x : Int)) = ((18446744073709551616 - x : Nat) : Int) := by rw [IntKind.wrap_u64]; omega
  rw [e1, bits_and_u64_nat x _ hx (by omega), hlow, IntKind.wrap_u64]
  omega

theorem ctz_bits (x : Nat) (hx : x < 18446744073709551616) (h0 : x ≠ 0) : x.testBit (Lib.ctz 64 x) = true ∧ (∀ j, j < Lib.ctz 64 x → x.testBit j = false) ∧ Lib.ctz 64 x < 64 ∧
    ∀ j, (x &&& (x - 1)).testBit j = (x.testBit j && decide (j ≠ Lib.ctz 64 x)) := by
  obtain ⟨m, hm, hk⟩ := Lib.ctzFrom_spec 64 x (by omega) hx
  have e : Lib.ctz 64 x = Lib.ctzFrom 64 x := by simp [Lib.ctz, h0]
  rw [e]
  generalize Lib.ctzFrom 64 x = k at hm hk
  subst hm
  have hb : ∀ j, (2 ^ k * (2 * m + 1)).testBit j = (decide (k ≤ j) && (2 * m + 1).testBit (j - k)) := fun j => by rw [Nat.mul_comm, Nat.testBit_mul_two_pow]
  have hpos : 0 < 2 ^ k := Nat.two_pow_pos k
  have e1 : 2 ^ k * (2 * m + 1) - 1 = 2 ^ k * (2 * m) + (2 ^ k - 1) := by
    rw [Nat.mul_add, Nat.mul_one]
    omega
  refine ⟨by rw [hb]; simp, fun j hj => by rw [hb]; simp; omega, hk, fun j => ?_⟩
  rw [Nat.testBit_and, hb, e1, Nat.testBit_two_pow_mul_add _ (by omega)]
  by_cases hj : j < k
  · simp [show ¬ k ≤ j by omega]
  · simp only [hj, if_false, show k ≤ j by omega, decide_true, Bool.true_and]
    by_cases hjk : j = k
    · subst hjk
      simp [Nat.testBit_zero]
    · obtain ⟨d, hd⟩ : ∃ d, j - k = d + 1 := ⟨j - k - 1, by omega⟩
      rw [hd, Nat.testBit_succ, Nat.testBit_succ, show (2 * m + 1) / 2 = m by omega, show 2 * m / 2 = m by omega]
      simp [hjk]

end Go.Proofs.Ytnbgpeoceejolab

namespace Go.Proofs.Ytnbgpeoceejolab
open Go.RowKit

/-- The numbers below n that a set has, in order. -/
def memb (S : Nat → Bool) (n : Nat) : List Nat := (List.range n).filter S
theorem memb_succ (S : Nat → Bool) (n : Nat) : memb S (n + 1) = memb S n ++ if S n then [n] else [] := by
  unfold memb
  rw [List.range_succ, List.filter_append]
  congr 1
  cases h : S n <;> simp [h]
theorem memb_len (S : Nat → Bool) (n : Nat) : (memb S n).length ≤ n := by
  unfold memb
  exact Nat.le_trans (List.length_filter_le _ _) (by simp)
theorem memb_prefix (S : Nat → Bool) {n m : Nat} (h : n ≤ m) : memb S n <+: memb S m := by
  induction m with
  | zero => rw [Nat.le_zero.1 h]; exact List.prefix_refl _
  | succ m ih =>
    by_cases e : n = m + 1
    · rw [e]; exact List.prefix_refl _
    · rw [memb_succ]
      exact (ih (by omega)).trans (List.prefix_append _ _)
theorem memb_skip (S : Nat → Bool) (n m : Nat) (h : ∀ j, n ≤ j → j < n + m → S j = false) : memb S (n + m) = memb S n := by
  induction m with
  | zero => rfl
  | succ m ih =>
    rw [show n + (m + 1) = n + m + 1 by omega, memb_succ, ih (fun j h1 h2 => h j h1 (by omega)), h (n + m) (by omega) (by omega)]
    simp

/-- What is left of a word when its first t numbers are over. -/
def rest (S : Nat → Bool) (i t : Nat) : Nat := wordN 64 fun j => S (64 * i + j) && decide (t ≤ j)
theorem rest_lt (S : Nat → Bool) (i t : Nat) : rest S i t < 18446744073709551616 := wordN_lt 64 _
theorem rest_zero (S : Nat → Bool) (i : Nat) : rest S i 0 = word S i := wordN_congr fun j _ => by simp
theorem rest_none (S : Nat → Bool) (i t : Nat) (ht : t ≤ 64) (h : rest S i t = 0) : memb S (64 * (i + 1)) = memb S (64 * i + t) := by
  have hb : ∀ j, j < 64 → t ≤ j → S (64 * i + j) = false := by
    intro j hj htj
    have h1 := wordN_bit 64 (fun j => S (64 * i + j) && decide (t ≤ j)) j
    have h2 : wordN 64 (fun j => S (64 * i + j) && decide (t ≤ j)) = 0 := h
    rw [h2] at h1
    simpa [hj, htj] using h1.symm
  rw [show 64 * (i + 1) = 64 * i + t + (64 - t) by omega]
  exact memb_skip _ _ _ fun j h1 h2 => by
    have := hb (j - 64 * i) (by omega) (by omega)
    rwa [show 64 * i + (j - 64 * i) = j by omega] at this
theorem rest_some (S : Nat → Bool) (i t : Nat) (h : rest S i t ≠ 0) : Lib.ctz 64 (rest S i t) < 64 ∧ t ≤ Lib.ctz 64 (rest S i t) ∧ memb S (64 * i + (Lib.ctz 64 (rest S i t) + 1)) = memb S (64 * i + t) ++ [64 * i + Lib.ctz 64 (rest S i t)] ∧
    rest S i t &&& (rest S i t - 1) = rest S i (Lib.ctz 64 (rest S i t) + 1) := by
  obtain ⟨h1, h2, h3, h4⟩ := ctz_bits (rest S i t) (rest_lt S i t) h
  have hbit : ∀ j, (rest S i t).testBit j = (decide (j < 64) && (S (64 * i + j) && decide (t ≤ j))) := fun j => wordN_bit 64 _ j
  generalize Lib.ctz 64 (rest S i t) = k at h1 h2 h3 h4
  rw [hbit] at h1
  simp only [h3, decide_true, Bool.true_and, Bool.and_eq_true, decide_eq_true_eq] at h1
  have hno : ∀ j, t ≤ j → j < k → S (64 * i + j) = false := by
    intro j hj1 hj2
    have := h2 j hj2
    rw [hbit] at this
    simpa [hj1, show j < 64 by omega] using this
  refine ⟨h3, h1.2, ?_, ?_⟩
  · rw [show 64 * i + (k + 1) = 64 * i + k + 1 by omega, memb_succ, h1.1, show 64 * i + k = 64 * i + t + (k - t) by omega]
    rw [memb_skip S (64 * i + t) (k - t) fun j g1 g2 => by
      have := hno (j - 64 * i) (by omega) (by omega)
      rwa [show 64 * i + (j - 64 * i) = j by omega] at this]
    simp
  · apply Nat.eq_of_testBit_eq
    intro j
    rw [h4, hbit, show (rest S i (k + 1)).testBit j = (decide (j < 64) && (S (64 * i + j) && decide (k + 1 ≤ j))) from wordN_bit 64 _ j]
    by_cases hj : j < 64
    · by_cases hk : j = k
      · subst hk; simp
      · by_cases hlt : j < k
        · by_cases htj : t ≤ j
          · rw [hno j htj hlt]; simp
          · simp [htj, show ¬ k + 1 ≤ j by omega]
        · simp [hk, show k + 1 ≤ j by omega, show t ≤ j by omega]
    · simp [hj]

theorem rest_clear (x : Nat) (hx : x < 18446744073709551616) (h0 : x ≠ 0) : bits BinOp.and IntKind.u64 (x : Int) (IntKind.u64.wrap ((x : Int) - 1)) = ((x &&& (x - 1) : Nat) : Int) := by
  have e : IntKind.u64.wrap ((x : Int) - 1) = ((x - 1 : Nat) : Int) := by rw [IntKind.wrap_u64]; omega
  rw [e, bits_and_u64_nat x _ hx (by omega)]

end Go.Proofs.Ytnbgpeoceejolab

namespace Go.Proofs.Ytnbgpeoceejolab
open Go.RowKit

/-- The j-th of ar digits of a number. -/
def digN (size ar n j : Nat) : Nat := n / size ^ (ar - 1 - j) % size
/-- The tuple with a number. -/
def digs (size ar n : Nat) : List Int := (List.range ar).map fun j => (digN size ar n j : Int)
theorem digs_len (size ar n : Nat) : (digs size ar n).length = ar := by simp [digs]
theorem digs_at (size ar n j : Nat) (h : j < ar) : intN (digs size ar n) j = (digN size ar n j : Int) := by
  rw [intN_at _ _ (by rw [digs_len]; exact h)]
  simp [digs]

theorem digs_tup (size ar n : Nat) (h1 : 1 ≤ size) : TupP size ar (digs size ar n) := by
  refine ⟨by rw [digs_len], fun k hk => ?_⟩
  rw [digs_len] at hk
  rw [digs_at _ _ _ _ hk]
  have : digN size ar n k < size := Nat.mod_lt _ (by omega)
  omega

theorem digs_codeK (size ar n : Nat) (hn : n < size ^ ar) : ∀ k, k ≤ ar → codeK size (digs size ar n) k = ((n / size ^ (ar - k) : Nat) : Int) := by
  intro k
  induction k with
  | zero => intro _; simp [codeK, Nat.div_eq_of_lt hn]
  | succ k ih =>
    intro hk
    show codeK size (digs size ar n) k * size + intN (digs size ar n) k = _
    rw [ih (by omega), digs_at _ _ _ _ (by omega)]
    have e : size ^ (ar - k) = size ^ (ar - (k + 1)) * size := by rw [← Nat.pow_succ]; congr 1; omega
    have e2 : n / size ^ (ar - k) = n / size ^ (ar - (k + 1)) / size := by rw [e, Nat.div_div_eq_div_mul]
    have e3 : digN size ar n k = n / size ^ (ar - (k + 1)) % size := by unfold digN; congr 3; omega
    rw [e2, e3]
    generalize n / size ^ (ar - (k + 1)) = m
    have := Nat.div_add_mod m size
    have h2 : ((m / size : Nat) : Int) * (size : Int) = ((size * (m / size) : Nat) : Int) := by rw [Int.natCast_mul, Int.mul_comm]
    rw [h2]
    omega

theorem digs_code (size ar n : Nat) (hn : n < size ^ ar) : codeN size (digs size ar n) = n := by
  unfold codeN code
  rw [digs_len, digs_codeK size ar n hn ar (Nat.le_refl _)]
  simp

theorem codeN_pow {size ar : Nat} {xs : List Int} (h1 : 1 ≤ size) (h : TupP size ar xs) : codeN size xs < size ^ ar := by
  have h0 : xs.length = ar := by have := h.1; omega
  have := (codeK_range (size := (size : Int)) (xs := xs) (by omega) xs.length h.2).2
  have h2 := (codeK_range (size := (size : Int)) (xs := xs) (by omega) xs.length h.2).1
  rw [h0] at this h2
  have e : ((size : Int) ^ ar) = ((size ^ ar : Nat) : Int) := by simp
  rw [e] at this
  unfold codeN code
  rw [h0]
  omega

theorem pow_lim {size ar : Nat} (h1 : 1 ≤ size) (h2 : size ≤ 4) (h3 : 1 ≤ ar) (h4 : ar ≤ 4) : size ^ ar ≤ 256 ∧ 1 ≤ size ^ ar := by
  have hc : size = 1 ∨ size = 2 ∨ size = 3 ∨ size = 4 := by omega
  have hd : ar = 1 ∨ ar = 2 ∨ ar = 3 ∨ ar = 4 := by omega
  rcases hc with rfl | rfl | rfl | rfl <;> rcases hd with rfl | rfl | rfl | rfl <;> decide

theorem digs_of_code {size ar : Nat} {xs : List Int} (h1 : 1 ≤ size) (h2 : size ≤ 4) (h3 : 1 ≤ ar) (h4 : ar ≤ 4) (h : TupP size ar xs) : digs size ar (codeN size xs) = xs :=
  codeN_inj (size := (size : Int)) (ar := (ar : Int)) (digs_tup size ar _ h1) h ⟨by omega, by omega⟩ ⟨by omega, by omega⟩ (digs_code size ar _ (codeN_pow h1 h))

/-- The rows of a set of numbers. -/
def rowsS (size ar : Nat) (S : Nat → Bool) (n : Nat) : List (List Int) := (memb S n).map (digs size ar)
theorem rowsS_len (size ar : Nat) (S : Nat → Bool) (n : Nat) : (rowsS size ar S n).length = (memb S n).length := by simp [rowsS]

theorem memb_congr {S T : Nat → Bool} {n : Nat} (h : ∀ j, j < n → S j = T j) : memb S n = memb T n := by
  unfold memb
  exact List.filter_congr fun j hj => h j (List.mem_range.1 hj)
theorem memb_cut {S : Nat → Bool} {n m : Nat} (hn : n ≤ m) (h : ∀ j, n ≤ j → j < m → S j = false) : memb S m = memb S n := by
  have := memb_skip S n (m - n) fun j h1 h2 => h j h1 (by omega)
  rwa [show n + (m - n) = m by omega] at this

theorem sorted_ext : ∀ (l1 l2 : List Nat), l1.Pairwise (· < ·) → l2.Pairwise (· < ·) → (∀ n, n ∈ l1 ↔ n ∈ l2) → l1 = l2 := by
  intro l1
  induction l1 with
  | nil =>
    intro l2 _ _ h
    cases l2 with
    | nil => rfl
    | cons b l2 => exact absurd ((h b).2 (List.mem_cons_self ..)) (by simp)
  | cons a l1 ih =>
    intro l2 h1 h2 h
    cases l2 with
    | nil => exact absurd ((h a).1 (List.mem_cons_self ..)) (by simp)
    | cons b l2 =>
      rw [List.pairwise_cons] at h1 h2
      have hab : a = b := by
        rcases List.mem_cons.1 ((h a).1 (List.mem_cons_self ..)) with e | e
        · exact e
        · rcases List.mem_cons.1 ((h b).2 (List.mem_cons_self ..)) with e2 | e2
          · exact e2.symm
          · have := h1.1 b e2
            have := h2.1 a e
            omega
      subst hab
      rw [ih l2 h1.2 h2.2 fun n => ?_]
      constructor
      · intro hn
        rcases List.mem_cons.1 ((h n).1 (List.mem_cons_of_mem _ hn)) with e | e
        · have := h1.1 n hn
          omega
        · exact e
      · intro hn
        rcases List.mem_cons.1 ((h n).2 (List.mem_cons_of_mem _ hn)) with e | e
        · have := h2.1 n hn
          omega
        · exact e

theorem memb_sorted (S : Nat → Bool) (n : Nat) : (memb S n).Pairwise (· < ·) := List.Pairwise.filter _ List.pairwise_lt_range
theorem mem_memb (S : Nat → Bool) (n j : Nat) : j ∈ memb S n ↔ j < n ∧ S j = true := by simp [memb]

/-- Tuples in ascending order of their numbers. -/
def AscC (size : Nat) (xss : List (List Int)) : Prop := xss.Pairwise fun x y => codeN size x < codeN size y

/-- Tuples in order are the rows of the set of their numbers. -/
theorem rowsS_of {size ar : Nat} (h1 : 1 ≤ size) (h2 : size ≤ 4) (h3 : 1 ≤ ar) (h4 : ar ≤ 4) {xss : List (List Int)} {S : Nat → Bool} (ht : ∀ x, x ∈ xss → TupP size ar x) (ha : AscC size xss)
    (hS : ∀ n, n < 256 → (S n = true ↔ ∃ x, x ∈ xss ∧ codeN size x = n)) : rowsS size ar S 256 = xss := by
  have e : memb S 256 = xss.map (codeN size) := by
    refine sorted_ext _ _ (memb_sorted _ _) (List.pairwise_map.2 ha) fun n => ?_
    rw [mem_memb, List.mem_map]
    constructor
    · rintro ⟨hn, hs⟩
      exact (hS n hn).1 hs
    · rintro ⟨x, hx, rfl⟩
      have hlt : codeN size x < 256 := Nat.lt_of_lt_of_le (codeN_pow h1 (ht x hx)) (pow_lim h1 h2 h3 h4).1
      exact ⟨hlt, (hS _ hlt).2 ⟨x, hx, rfl⟩⟩
  unfold rowsS
  rw [e, List.map_map]
  conv => rhs; rw [← List.map_id xss]
  refine List.map_congr_left fun x hx => ?_
  exact digs_of_code h1 h2 h3 h4 (ht x hx)

theorem codeK_same {size : Int} {xs ys : List Int} (k : Nat) (h : ∀ j, j < k → intN xs j = intN ys j) : codeK size xs k = codeK size ys k := by
  induction k with
  | zero => rfl
  | succ k ih =>
    show codeK size xs k * size + intN xs k = codeK size ys k * size + intN ys k
    rw [ih fun j hj => h j (by omega), h k (by omega)]

theorem codeK_lt_of {size : Int} {xs ys : List Int} (hs : 1 ≤ size) (k : Nat) (h : ∀ j, j < k → intN xs j = intN ys j) (hlt : intN xs k < intN ys k) :
    ∀ m, k < m → (∀ j, j < m → 0 ≤ intN xs j ∧ intN xs j < size) → (∀ j, j < m → 0 ≤ intN ys j ∧ intN ys j < size) → codeK size xs m < codeK size ys m := by
  intro m
  induction m with
  | zero => intro h0; omega
  | succ m ih =>
    intro hk hx hy
    show codeK size xs m * size + intN xs m < codeK size ys m * size + intN ys m
    obtain ⟨a0, a1⟩ := hx m (by omega)
    obtain ⟨b0, b1⟩ := hy m (by omega)
    by_cases hkm : k = m
    · subst hkm
      rw [codeK_same k h]
      omega
    · have := ih (by omega) (fun j hj => hx j (by omega)) (fun j hj => hy j (by omega))
      have hm : (codeK size xs m + 1) * size ≤ codeK size ys m * size := Int.mul_le_mul_of_nonneg_right (by omega) (by omega)
      rw [Int.add_mul, Int.one_mul] at hm
      omega

theorem LtP.code {size ar : Int} {xs ys : List Int} (h : LtP xs ys) (hs : In14 size) (har : In14 ar) (hx : TupP size ar xs) (hy : TupP size ar ys) : codeN size xs < codeN size ys := by
  obtain ⟨k, hk, h1, h2⟩ := h
  have hl : xs.length = ys.length := by have := hx.1; have := hy.1; omega
  have := codeK_lt_of hs.1 k h1 h2 xs.length hk hx.2 (by rw [hl]; exact hy.2)
  have e1 := codeN_cast hx hs har
  have e2 := codeN_cast hy hs har
  unfold Go.Proofs.Ytnbgpeoceejolab.code at e1 e2
  rw [← hl] at e2
  omega

theorem asc_pairs {size : Nat} (xss : List (List Int)) (h : ∀ k, k + 1 < xss.length → codeN size (rowN xss k) < codeN size (rowN xss (k + 1))) : AscC size xss := by
  have hall : ∀ d k, k + d + 1 < xss.length → codeN size (rowN xss k) < codeN size (rowN xss (k + d + 1)) := by
    intro d
    induction d with
    | zero => intro k hk; exact h k hk
    | succ d ih =>
      intro k hk
      have h1 := ih k (by omega)
      have h2 := h (k + d + 1) (by omega)
      rw [show k + (d + 1) + 1 = k + d + 1 + 1 by omega]
      omega
  refine List.pairwise_iff_getElem.2 fun i j hi hj hij => ?_
  have := hall (j - i - 1) i (by omega)
  rw [show i + (j - i - 1) + 1 = j by omega, rowN_at _ _ hi, rowN_at _ _ hj] at this
  exact this

theorem RelOk.asc {size ar : Nat} {xss : List (List Int)} (h : RelOk size ar xss) : AscC size xss :=
  asc_pairs xss fun k hk => by
    have h1 := h.2.2 k (by omega)
    have h2 := h.2.2 (k + 1) hk
    exact (h2.2 (by omega)).code h.1 h.2.1 h1.1 h2.1

theorem RelOk.tups {size ar : Int} {xss : List (List Int)} (h : RelOk size ar xss) : ∀ x, x ∈ xss → TupP size ar x := by
  intro x hx
  obtain ⟨i, hi, rfl⟩ := List.mem_iff_getElem.1 hx
  have := (h.2.2 i hi).1
  rwa [rowN_at _ _ hi] at this

theorem mem_rowN {xss : List (List Int)} {x : List Int} : x ∈ xss ↔ ∃ j, j < xss.length ∧ rowN xss j = x := by
  rw [List.mem_iff_getElem]
  constructor
  · rintro ⟨i, hi, rfl⟩
    exact ⟨i, hi, rowN_at _ _ hi⟩
  · rintro ⟨i, hi, rfl⟩
    exact ⟨i, hi, (rowN_at _ _ hi).symm⟩

theorem setOf_iff {size : Int} {xss : List (List Int)} (n : Nat) : setOf size xss n = true ↔ ∃ x, x ∈ xss ∧ codeN size x = n := by
  unfold setOf
  rw [setK_iff]
  constructor
  · rintro ⟨j, hj, he⟩
    exact ⟨_, mem_rowN.2 ⟨j, hj, rfl⟩, he⟩
  · rintro ⟨x, hx, he⟩
    obtain ⟨j, hj, rfl⟩ := mem_rowN.1 hx
    exact ⟨j, hj, he⟩

theorem sum_map_le (xss : List (List Int)) (m : Nat) (h : ∀ x, x ∈ xss → x.length ≤ m) : (xss.map List.length).sum ≤ xss.length * m := by
  induction xss with
  | nil => simp
  | cons x xss ih =>
    have h1 := h x (List.mem_cons_self ..)
    have h2 := ih fun y hy => h y (List.mem_cons_of_mem _ hy)
    simp only [List.map_cons, List.sum_cons, List.length_cons, Nat.add_mul, Nat.one_mul]
    omega
theorem rowsS_small (size ar : Nat) (S : Nat → Bool) (h : ar ≤ 4) : ((rowsS size ar S 256).map List.length).sum ≤ 1048576 := by
  have h1 := sum_map_le (rowsS size ar S 256) ar fun x hx => by
    obtain ⟨n, _, rfl⟩ := List.mem_map.1 hx
    rw [digs_len]
    exact Nat.le_refl _
  have h2 : (rowsS size ar S 256).length ≤ 256 := by rw [rowsS_len]; exact memb_len S 256
  have h3 := Nat.mul_le_mul h2 h
  omega

/-- What a function answers that makes a relation: a code first, then another one, then the relation. -/
def RelAns (ok1 ok2 : Prop) (x : Int) (rows : List (List Int)) (ar : Int) (zs : List (List Int)) (cd : Int) : Prop :=
  (ok1 ∧ ok2 ∧ ar = x ∧ zs = rows ∧ cd = 0) ∨ (ok1 ∧ ¬ ok2 ∧ ar = 0 ∧ zs = [] ∧ cd = 2) ∨ (¬ ok1 ∧ ar = 0 ∧ zs = [] ∧ cd = 1)
theorem RelAns.exists (ok1 ok2 : Prop) (x : Int) (rows : List (List Int)) : ∃ ar zs cd, RelAns ok1 ok2 x rows ar zs cd := by
  by_cases h1 : ok1
  · by_cases h2 : ok2
    · exact ⟨_, _, _, .inl ⟨h1, h2, rfl, rfl, rfl⟩⟩
    · exact ⟨_, _, _, .inr (.inl ⟨h1, h2, rfl, rfl, rfl⟩)⟩
  · exact ⟨_, _, _, .inr (.inr ⟨h1, rfl, rfl, rfl⟩)⟩
theorem RelAns.small {ok1 ok2 : Prop} {x : Int} {rows : List (List Int)} {ar : Int} {zs : List (List Int)} {cd : Int} (h : RelAns ok1 ok2 x rows ar zs cd) (hr : ok1 → ok2 → (rows.map List.length).sum ≤ 1048576) : (zs.map List.length).sum ≤ 1048576 := by
  rcases h with ⟨h1, h2, rfl, rfl, rfl⟩ | ⟨_, _, rfl, rfl, rfl⟩ | ⟨_, rfl, rfl, rfl⟩
  · exact hr h1 h2
  · simp
  · simp

end Go.Proofs.Ytnbgpeoceejolab

namespace Go.Proofs.Ytnbgpeoceejolab
open Go.RowKit

theorem take_row (xss : List (List Int)) (k : Nat) (h : k < xss.length) : xss.take (k + 1) = xss.take k ++ [rowN xss k] := by
  rw [List.take_succ_eq_append_getElem h, rowN_at _ _ h]
theorem take_all (xss : List (List Int)) : xss.take xss.length = xss := List.take_length
theorem rowN_left (xss yss : List (List Int)) (k : Nat) (h : k < xss.length) : rowN (xss ++ yss) k = rowN xss k := by
  rw [rowN_at _ _ (by simp; omega), rowN_at _ _ h, List.getElem_append_left h]
theorem rowN_last (xss : List (List Int)) (y : List Int) : rowN (xss ++ [y]) xss.length = y := by
  rw [rowN_at _ _ (by simp)]; simp
theorem rowN_snoc (xss : List (List Int)) (y : List Int) (i : Nat) (h : i < xss.length + 1) : rowN (xss ++ [y]) i = if i = xss.length then y else rowN xss i := by
  by_cases e : i = xss.length
  · subst e; rw [rowN_last, if_pos rfl]
  · rw [if_neg e, rowN_left _ _ _ (by omega)]
theorem rowN_mem {xss : List (List Int)} {k : Nat} (h : k < xss.length) : rowN xss k ∈ xss := by
  rw [rowN_at _ _ h]; exact List.getElem_mem h

theorem setOf_nil (size : Int) : setOf size [] = fun _ => false := rfl
theorem setK_front (size : Int) (xs ys : List (List Int)) : ∀ k, k ≤ xs.length → setK size (xs ++ ys) k = setK size xs k := by
  intro k
  induction k with
  | zero => intro _; rfl
  | succ k ih =>
    intro hk
    show putS _ _ = putS _ _
    rw [ih (by omega), rowN_left _ _ _ (by omega)]
theorem setOf_snoc (size : Int) (xs : List (List Int)) (y : List Int) : setOf size (xs ++ [y]) = putS (setOf size xs) (codeN size y) := by
  have e : (xs ++ [y]).length = xs.length + 1 := by simp
  unfold setOf
  rw [e]
  show putS (setK size (xs ++ [y]) xs.length) (codeN size (rowN (xs ++ [y]) xs.length)) = _
  rw [setK_front _ _ _ _ (Nat.le_refl _), rowN_last]

theorem AscC.filter {size : Nat} {xss : List (List Int)} (h : AscC size xss) (p : List Int → Bool) : AscC size (xss.filter p) := List.Pairwise.filter _ h
/-- The rows of the set of tuples in order are these. -/
theorem rowsS_asc {s r : Nat} (h1 : 1 ≤ s) (h2 : s ≤ 4) (h3 : 1 ≤ r) (h4 : r ≤ 4) {xss : List (List Int)} (ht : ∀ x, x ∈ xss → TupP s r x) (ha : AscC s xss) : rowsS s r (setOf s xss) 256 = xss :=
  rowsS_of h1 h2 h3 h4 ht ha fun n _ => setOf_iff n
theorem rowsS_cut {s r : Nat} (h1 : 1 ≤ s) (h2 : s ≤ 4) (h3 : 1 ≤ r) (h4 : r ≤ 4) {xss : List (List Int)} (ht : ∀ x, x ∈ xss → TupP s r x) : rowsS s r (setOf s xss) 256 = rowsS s r (setOf s xss) (s ^ r) := by
  unfold rowsS
  rw [memb_cut (pow_lim h1 h2 h3 h4).1 fun j hj _ => ?_]
  cases hb : setOf s xss j with
  | false => rfl
  | true =>
    obtain ⟨x, hx, rfl⟩ := (setOf_iff j).1 hb
    have := codeN_pow h1 (ht x hx)
    omega
theorem rowsS_set {s r : Nat} {S T : Nat → Bool} (h : ∀ n, n < 256 → S n = T n) : rowsS s r S 256 = rowsS s r T 256 := by
  unfold rowsS
  rw [memb_congr h]

end Go.Proofs.Ytnbgpeoceejolab

namespace Go.Proofs.Ytnbgpeoceejolab
open Go.RowKit

theorem mix_unset (n k : Nat) (F Z : Nat → Value) (u : Value) (hu : u = Z k) : (mix n (k + 1) F Z).set k u = mix n k F Z := by
  subst hu
  unfold mix
  apply List.ext_getElem?
  intro j
  rw [List.getElem?_set]
  by_cases hj : k = j
  · subst hj
    by_cases h : k < n <;> simp [h]
  · rw [if_neg hj]
    by_cases h : j < n
    · by_cases h1 : j < k
      · simp [h, h1, show j < k + 1 by omega]
      · simp [h, h1, show ¬ j < k + 1 by omega]
    · simp [h]

theorem digs_range (size ar n : Nat) : (digs size ar n).map (Value.int .i64) = (List.range ar).map fun i => Value.int .i64 (digN size ar n i : Int) := by
  unfold digs
  rw [List.map_map]
  rfl

end Go.Proofs.Ytnbgpeoceejolab

namespace Go.Proofs.Ytnbgpeoceejolab
open Go.RowKit

theorem pow_le4 {size : Nat} (h1 : 1 ≤ size) (h2 : size ≤ 4) (k : Nat) (hk : k ≤ 4) : size ^ k ≤ 256 ∧ 1 ≤ size ^ k := by
  have hc : size = 1 ∨ size = 2 ∨ size = 3 ∨ size = 4 := by omega
  have hd : k = 0 ∨ k = 1 ∨ k = 2 ∨ k = 3 ∨ k = 4 := by omega
  rcases hc with rfl | rfl | rfl | rfl <;> rcases hd with rfl | rfl | rfl | rfl | rfl <;> decide

end Go.Proofs.Ytnbgpeoceejolab
