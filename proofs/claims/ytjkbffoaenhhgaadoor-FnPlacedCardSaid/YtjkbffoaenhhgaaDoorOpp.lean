/-
  The other tuples: without of the program's sets, OppositeRel of the model and of the program.
-/
import Derived.Test.YtjkbffoaenhhgaaDoorJoinS
import Derived.Test.YtjkbffoaenhhgaaDoorRelOf
import Derived.Test.YtjkbffoaenhhgaaDoorGRel
import Derived.Test.YtjkbffoaenhhgaaDoorFull
import Derived.Test.YtjkbffoaenhhgaaDoorGSet
import Derived.Test.YtjkbffoaenhhgaaDoorReg
namespace Go.Proofs.YtjkbffoaenhhgaaDoor
open Go.RowKit

theorem bits_andNot_nat (a b : Nat) (ha : a < 18446744073709551616) (hb : b < 18446744073709551616) :
    bits .andNot .u64 (a : Int) (b : Int) = ((a &&& (2 ^ 64 - (b + 1)) : Nat) : Int) := by
  have hx : a &&& (2 ^ 64 - (b + 1)) < 2 ^ 64 := Nat.and_lt_two_pow _ (by omega)
  have h1 : (BitVec.ofInt 64 (a : Int)).toNat = a := by
    rw [BitVec.ofInt_natCast, BitVec.toNat_ofNat]; exact Nat.mod_eq_of_lt (by omega)
  have h2 : (BitVec.ofInt 64 (b : Int)).toNat = b := by
    rw [BitVec.ofInt_natCast, BitVec.toNat_ofNat]; exact Nat.mod_eq_of_lt (by omega)
  show IntKind.u64.wrap ((BitVec.ofInt 64 (a : Int) &&& ~~~BitVec.ofInt 64 (b : Int)).toNat : Int) = _
  rw [BitVec.toNat_and, BitVec.toNat_not, h1, h2, IntKind.wrap_u64, show 2 ^ 64 - 1 - b = 2 ^ 64 - (b + 1) by omega]
  omega
theorem andNot_words (S T : Nat → Bool) (k : Nat) : bits BinOp.andNot IntKind.u64 (word S k) (word T k) = ((wordN 64 fun j => S (64 * k + j) && !T (64 * k + j) : Nat) : Int) := by
  rw [bits_andNot_nat _ _ (word_lt _ _) (word_lt _ _)]
  congr 1
  apply Nat.eq_of_testBit_eq
  intro j
  have hT : word T k < 2 ^ 64 := by have := word_lt T k; omega
  rw [Nat.testBit_and, Nat.testBit_two_pow_sub_succ hT, wordN_bit, show (word S k).testBit j = _ from wordN_bit 64 _ j, show (word T k).testBit j = _ from wordN_bit 64 _ j]
  by_cases hj : j < 64 <;> simp [hj]



end Go.Proofs.YtjkbffoaenhhgaaDoor
