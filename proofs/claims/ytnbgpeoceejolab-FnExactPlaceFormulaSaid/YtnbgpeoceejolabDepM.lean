/-
  On which places an operation depends: the plain mathematics.
-/
import Derived.Test.YtnbgpeoceejolabGSet
namespace Go.Proofs.Ytnbgpeoceejolab
open Go.RowKit

theorem intN_set (xs : List Int) (p k : Nat) (hp : p < xs.length) : intN (xs.set p 0) k = if k = p then 0 else intN xs k := by
  unfold intN
  by_cases h : k = p
  · subst h
    simp [List.getD, hp]
  · rw [if_neg h]
    simp [List.getD, Ne.symm h]

theorem codeK_set {size : Int} {xs : List Int} (p : Nat) (hp : p < xs.length) : ∀ k, codeK size (xs.set p 0) k = codeK size xs k - (if p < k then intN xs p * size ^ (k - 1 - p) else 0) := by
  intro k
  induction k with
  | zero => simp [codeK]
  | succ k ih =>
    show codeK size (xs.set p 0) k * size + intN (xs.set p 0) k = codeK size xs k * size + intN xs k - _
    rw [ih, intN_set _ _ _ hp]
    by_cases h1 : p < k
    · rw [if_pos h1, if_neg (by omega), if_pos (by omega), show k + 1 - 1 - p = (k - 1 - p) + 1 by omega, Int.pow_succ, Int.sub_mul, Int.mul_assoc]
      omega
    · rw [if_neg h1]
      by_cases h2 : k = p
      · subst h2
        rw [if_pos rfl, if_pos (by omega), show k + 1 - 1 - k = 0 by omega]
        simp
      · rw [if_neg h2, if_neg (by omega), Int.sub_zero, Int.sub_zero]

/-- The number of the list with a number n in which place p is set to 0. -/
def cleared (size ar n p : Nat) : Nat := n - digN size ar n p * size ^ (ar - 1 - p)

theorem dig_part (size ar n p : Nat) : digN size ar n p * size ^ (ar - 1 - p) ≤ n := by
  unfold digN
  have h1 : n / size ^ (ar - 1 - p) % size ≤ n / size ^ (ar - 1 - p) := Nat.mod_le _ _
  exact Nat.le_trans (Nat.mul_le_mul_right _ h1) (Nat.div_mul_le_self _ _)

theorem digs_cleared (size ar n p : Nat) (hn : n < size ^ ar) (hp : p < ar) : codeN size ((digs size ar n).set p 0) = cleared size ar n p := by
  have hl := digs_len size ar n
  have hc := digs_codeK size ar n hn ar (Nat.le_refl _)
  have hset := codeK_set (size := (size : Int)) (xs := digs size ar n) p (by rw [hl]; exact hp) ar
  rw [if_pos hp, digs_at size ar n p hp, hc] at hset
  have hd := dig_part size ar n p
  unfold codeN code
  rw [List.length_set, hl, hset]
  unfold cleared
  simp only [Nat.sub_self, Nat.pow_zero, Nat.div_one]
  have hcast : ((digN size ar n p : Nat) : Int) * (size : Int) ^ (ar - 1 - p) = ((digN size ar n p * size ^ (ar - 1 - p) : Nat) : Int) := by
    rw [Int.natCast_mul, Int.natCast_pow]
  rw [hcast]
  omega

theorem cleared_lt (size ar n p : Nat) (hn : n < size ^ ar) : cleared size ar n p < size ^ ar := by unfold cleared; omega

/-- An operation with a table depends on a place. -/
def DepP (size ar : Nat) (tab : List Int) (p : Nat) : Prop := ∃ n, n < size ^ ar ∧ intN tab (cleared size ar n p) ≠ intN tab n
def depB (size ar : Nat) (tab : List Int) (p : Nat) : Bool := (List.range (size ^ ar)).any fun n => intN tab (cleared size ar n p) != intN tab n
theorem depB_tells (size ar : Nat) (tab : List Int) (p : Nat) : Tells (depB size ar tab p) (DepP size ar tab p) := by
  unfold depB DepP
  show _ ↔ _
  simp [List.any_eq_true]

def depRow (size ar : Nat) (tab : List Int) (k : Nat) : List Int := ((List.range k).filter fun p => depB size ar tab p).map fun (p : Nat) => (p : Int)

theorem depRow_yes {size ar : Nat} {tab : List Int} {k : Nat} (h : DepP size ar tab k) : depRow size ar tab (k + 1) = depRow size ar tab k ++ [(k : Int)] := by
  unfold depRow
  rw [List.range_succ, List.filter_append, List.map_append]
  simp [(depB_tells size ar tab k).is_true h]
theorem depRow_no {size ar : Nat} {tab : List Int} {k : Nat} (h : ¬ DepP size ar tab k) : depRow size ar tab (k + 1) = depRow size ar tab k := by
  unfold depRow
  rw [List.range_succ, List.filter_append, List.map_append]
  simp [(depB_tells size ar tab k).is_false h]
theorem depRow_len (size ar : Nat) (tab : List Int) (k : Nat) : (depRow size ar tab k).length ≤ k := by
  unfold depRow
  rw [List.length_map]
  have := List.length_filter_le (fun p => depB size ar tab p) (List.range k)
  simpa using this

end Go.Proofs.Ytnbgpeoceejolab
