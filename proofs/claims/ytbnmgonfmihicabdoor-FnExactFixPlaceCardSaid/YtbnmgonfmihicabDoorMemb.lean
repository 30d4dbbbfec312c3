/-
  The numbers of a set below a bound, in order; what is left of a word when its lowest number is over.
-/
import Derived.Test.YtbnmgonfmihicabDoorTz
namespace Go.Proofs.YtbnmgonfmihicabDoor
open Go.RowKit

/-- The numbers below n that a set has, in order. -/
def memb (S : Nat → Bool) (n : Nat) : List Nat := (List.range n).filter S
theorem memb_succ (S : Nat → Bool) (n : Nat) : memb S (n + 1) = memb S n ++ if S n then [n] else [] := by
  unfold memb
  rw [List.range_succ, List.filter_append]
  congr 1
  cases h : S n <;> simp [h]
theorem memb_len (S : Nat → Bool) (n : Nat) : (memb S n).length ≤ n := by
  unfold memb
  exact Nat.le_trans (List.length_filter_le _ _) (by simp)
theorem memb_prefix (S : Nat → Bool) {n m : Nat} (h : n ≤ m) : memb S n <+: memb S m := by
  induction m with
  | zero => rw [Nat.le_zero.1 h]; exact List.prefix_refl _
  | succ m ih =>
    by_cases e : n = m + 1
    · rw [e]; exact List.prefix_refl _
    · rw [memb_succ]
      exact (ih (by omega)).trans (List.prefix_append _ _)
theorem memb_skip (S : Nat → Bool) (n m : Nat) (h : ∀ j, n ≤ j → j < n + m → S j = false) : memb S (n + m) = memb S n := by
  induction m with
  | zero => rfl
  | succ m ih =>
    rw [show n + (m + 1) = n + m + 1 by omega, memb_succ, ih (fun j h1 h2 => h j h1 (by omega)), h (n + m) (by omega) (by omega)]
    simp

/-- What is left of a word when its first t numbers are over. -/
def rest (S : Nat → Bool) (i t : Nat) : Nat := wordN 64 fun j => S (64 * i + j) && decide (t ≤ j)
theorem rest_lt (S : Nat → Bool) (i t : Nat) : rest S i t < 18446744073709551616 := wordN_lt 64 _
theorem rest_zero (S : Nat → Bool) (i : Nat) : rest S i 0 = word S i := wordN_congr fun j _ => by simp
theorem rest_none (S : Nat → Bool) (i t : Nat) (ht : t ≤ 64) (h : rest S i t = 0) : memb S (64 * (i + 1)) = memb S (64 * i + t) := by
  have hb : ∀ j, j < 64 → t ≤ j → S (64 * i + j) = false := by
    intro j hj htj
    have h1 := wordN_bit 64 (fun j => S (64 * i + j) && decide (t ≤ j)) j
    have h2 : wordN 64 (fun j => S (64 * i + j) && decide (t ≤ j)) = 0 := h
    rw [h2] at h1
    simpa [hj, htj] using h1.symm
  rw [show 64 * (i + 1) = 64 * i + t + (64 - t) by omega]
  exact memb_skip _ _ _ fun j h1 h2 => by
    have := hb (j - 64 * i) (by omega) (by omega)
    rwa [show 64 * i + (j - 64 * i) = j by omega] at this
theorem rest_some (S : Nat → Bool) (i t : Nat) (h : rest S i t ≠ 0) : Lib.ctz 64 (rest S i t) < 64 ∧ t ≤ Lib.ctz 64 (rest S i t) ∧ memb S (64 * i + (Lib.ctz 64 (rest S i t) + 1)) = memb S (64 * i + t) ++ [64 * i + Lib.ctz 64 (rest S i t)] ∧
    rest S i t &&& (rest S i t - 1) = rest S i (Lib.ctz 64 (rest S i t) + 1) := by
  obtain ⟨h1, h2, h3, h4⟩ := ctz_bits (rest S i t) (rest_lt S i t) h
  have hbit : ∀ j, (rest S i t).testBit j = (decide (j < 64) && (S (64 * i + j) && decide (t ≤ j))) := fun j => wordN_bit 64 _ j
  generalize Lib.ctz 64 (rest S i t) = k at h1 h2 h3 h4
  rw [hbit] at h1
  simp only [h3, decide_true, Bool.true_and, Bool.and_eq_true, decide_eq_true_eq] at h1
  have hno : ∀ j, t ≤ j → j < k → S (64 * i + j) = false := by
    intro j hj1 hj2
    have := h2 j hj2
    rw [hbit] at this
    simpa [hj1, show j < 64 by omega] using this
  refine ⟨h3, h1.2, ?_, ?_⟩
  · rw [show 64 * i + (k + 1) = 64 * i + k + 1 by omega, memb_succ, h1.1, show 64 * i + k = 64 * i + t + (k - t) by omega]
    rw [memb_skip S (64 * i + t) (k - t) fun j g1 g2 => by
      have := hno (j - 64 * i) (by omega) (by omega)
      rwa [show 64 * i + (j - 64 * i) = j by omega] at this]
    simp
  · apply Nat.eq_of_testBit_eq
    intro j
    rw [h4, hbit, show (rest S i (k + 1)).testBit j = (decide (j < 64) && (S (64 * i + j) && decide (k + 1 ≤ j))) from wordN_bit 64 _ j]
    by_cases hj : j < 64
    · by_cases hk : j = k
      · subst hk; simp
      · by_cases hlt : j < k
        · by_cases htj : t ≤ j
          · rw [hno j htj hlt]; simp
          · simp [htj, show ¬ k + 1 ≤ j by omega]
        · simp [hk, show k + 1 ≤ j by omega, show t ≤ j by omega]
    · simp [hj]

theorem rest_clear (x : Nat) (hx : x < 18446744073709551616) (h0 : x ≠ 0) : bits BinOp.and IntKind.u64 (x : Int) (IntKind.u64.wrap ((x : Int) - 1)) = ((x &&& (x - 1) : Nat) : Int) := by
  have e : IntKind.u64.wrap ((x : Int) - 1) = ((x - 1 : Nat) : Int) := by rw [IntKind.wrap_u64]; omega
  rw [e, bits_and_u64_nat x _ hx (by omega)]

end Go.Proofs.YtbnmgonfmihicabDoor
