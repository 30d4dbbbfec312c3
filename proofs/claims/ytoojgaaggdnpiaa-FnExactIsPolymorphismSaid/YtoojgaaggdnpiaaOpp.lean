/-
  The other tuples: without of the program's sets, OppositeRel of the model and of the program.
-/
import Derived.Test.YtoojgaaggdnpiaaJoinS
import Derived.Test.YtoojgaaggdnpiaaRelOf
import Derived.Test.YtoojgaaggdnpiaaGRel
import Derived.Test.YtoojgaaggdnpiaaFull
import Derived.Test.YtoojgaaggdnpiaaGSet
import Derived.Test.YtoojgaaggdnpiaaReg
namespace Go.Proofs.Ytoojgaaggdnpiaa
open Go.RowKit

theorem bits_andNot_nat (a b : Nat) (ha : a < 18446744073709551616) (hb : b < 18446744073709551616) :
    bits .andNot .u64 (a : Int) (b : Int) = ((a &&& (2 ^ 64 - (b + 1)) : Nat) : Int) := by
  have hx : a &&& (2 ^ 64 - (b + 1)) < 2 ^ 64 := Nat.and_lt_two_pow _ (by omega)
  have h1 : (BitVec.ofInt 64 (a : Int)).toNat = a := by
    rw [BitVec.ofInt_natCast, BitVec.toNat_ofNat]; exact Nat.mod_eq_of_lt (by omega)
  have h2 : (BitVec.ofInt 64 (b : Int)).toNat = b := by
    rw [BitVec.ofInt_natCast, BitVec.toNat_ofNat]; exact Nat.mod_eq_of_lt (by omega)
  show IntKind.u64.wrap ((BitVec.ofInt 64 (a : Int) &&& ~~~BitVec.ofInt 64 (b : Int)).toNat : Int) = _
  rw [BitVec.toNat_and, BitVec.toNat_not, h1, h2, IntKind.wrap_u64, show 2 ^ 64 - 1 - b = 2 ^ 64 - (b + 1) by omega]
  omega
theorem andNot_words (S T : Nat → Bool) (k : Nat) : bits BinOp.andNot IntKind.u64 (word S k) (word T k) = ((wordN 64 fun j => S (64 * k + j) && !T (64 * k + j) : Nat) : Int) := by
  rw [bits_andNot_nat _ _ (word_lt _ _) (word_lt _ _)]
  congr 1
  apply Nat.eq_of_testBit_eq
  intro j
  have hT : word T k < 2 ^ 64 := by have := word_lt T k; omega
  rw [Nat.testBit_and, Nat.testBit_two_pow_sub_succ hT, wordN_bit, show (word S k).testBit j = _ from wordN_bit 64 _ j, show (word T k).testBit j = _ from wordN_bit 64 _ j]
  by_cases hj : j < 64 <;> simp [hj]



def updS (S : Nat → Bool) (m : Nat) (v : Bool) : Nat → Bool := fun n => if n = m then v else S n
theorem LSetAt.upd {w : World} {B p g s ar : Nat} {S : Nat → Bool} (h : LSetAt w B p g s ar S) (m : Nat) (v : Bool) : LSetAt (w.setCell ⟨g, m, none⟩ (.bool v)) B p g s ar (updS S m v) := by
  refine ⟨by rw [Below.heap_setCell _ _ _ _ h.ne]; exact h.box, ?_, h.ne, h.le⟩
  have h2 := (h.has.stored m (.bool v)).1
  have he : ((List.range (s ^ ar)).map fun i => Value.bool (S i)).set m (.bool v) = (List.range (s ^ ar)).map fun i => Value.bool (updS S m v i) := by
    apply List.ext_getElem?
    intro j
    rw [List.getElem?_set]
    by_cases hj : m = j
    · subst hj
      by_cases hl : m < s ^ ar <;> simp [hl, updS]
    · rw [if_neg hj]
      by_cases hl : j < s ^ ar
      · simp [hl, updS, Ne.symm hj]
      · simp [hl]
  rwa [he] at h2

/-- The set, turned below k. -/
def notS (k : Nat) (S : Nat → Bool) : Nat → Bool := fun n => if n < k then !S n else S n
theorem notS_zero (S : Nat → Bool) : notS 0 S = S := by funext n; simp [notS]
theorem notS_at (k : Nat) (S : Nat → Bool) : notS k S k = S k := by simp [notS]
theorem notS_upd (k : Nat) (S : Nat → Bool) : updS (notS k S) k (!S k) = notS (k + 1) S := by
  funext n
  unfold updS notS
  by_cases h : n = k
  · subst h; simp
  · by_cases h2 : n < k
    · simp [h, h2, show n < k + 1 by omega]
    · simp [h, h2, show ¬ n < k + 1 by omega]
def oppS (N : Nat) (S : Nat → Bool) : Nat → Bool := opAll (· && !·) (ltS N) S
theorem opp_rows {s r : Nat} (h1 : 1 ≤ s) (h2 : s ≤ 4) (h3 : 1 ≤ r) (h4 : r ≤ 4) (S : Nat → Bool) : rowsS s r (notS (s ^ r) S) (s ^ r) = rowsS s r (oppS (s ^ r) S) 256 := by
  unfold rowsS
  rw [memb_cut (n := s ^ r) (m := 256) (S := oppS (s ^ r) S) (pow_lim h1 h2 h3 h4).1 fun j hj _ => by simp [oppS, opAll, ltS, show ¬ j < s ^ r by omega]]
  rw [memb_congr fun j hj => ?_]
  simp [notS, oppS, opAll, ltS, hj]

/-- What OppositeRel answers. -/
def OppositeRelIs (size x : Int) (xs : List (List Int)) (ar : Int) (zs : List (List Int)) (cd : Int) : Prop :=
  (RelOk size x xs ∧ ar = x ∧ zs = rowsS size.toNat x.toNat (oppS (size.toNat ^ x.toNat) (setOf size xs)) 256 ∧ cd = 0) ∨ (¬ RelOk size x xs ∧ ar = 0 ∧ zs = [] ∧ cd = 1)
theorem OppositeRelIs.exists (size x : Int) (xs : List (List Int)) : ∃ ar zs cd, OppositeRelIs size x xs ar zs cd := by
  by_cases h : RelOk size x xs
  · exact ⟨_, _, _, .inl ⟨h, rfl, rfl, rfl⟩⟩
  · exact ⟨_, _, _, .inr ⟨h, rfl, rfl, rfl⟩⟩
theorem OppositeRelIs.small {size x : Int} {xs : List (List Int)} {ar : Int} {zs : List (List Int)} {cd : Int} (h : OppositeRelIs size x xs ar zs cd) : (zs.map List.length).sum ≤ 1048576 := by
  rcases h with ⟨h, rfl, rfl, rfl⟩ | ⟨_, rfl, rfl, rfl⟩
  · exact rowsS_small _ _ _ (by have := h.2.1.2; omega)
  · simp

end Go.Proofs.Ytoojgaaggdnpiaa
