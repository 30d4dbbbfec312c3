/-
  Sets of numbers below 256 as four words: tupleBits of the program: put, has, meet, isPartOf.
-/
import Derived.Test.YtbnmgonfmihicabDoorKept
import Derived.RegionTactic
import Derived.ChangeAlike
import Derived.Laws.Bits64
import Derived.Laws.Bits64b
import Derived.Laws.BitsAllLaws
import Derived.BigRegion
namespace Go.Proofs.YtbnmgonfmihicabDoor
open Go.RowKit

/-- The number with the bits T below n. -/
def wordN : Nat → (Nat → Bool) → Nat
  | 0, _ => 0
  | n + 1, T => wordN n T + if T n then 2 ^ n else 0

theorem wordN_lt (n : Nat) (T : Nat → Bool) : wordN n T < 2 ^ n := by
  induction n with
  | zero => simp [wordN]
  | succ n ih =>
    unfold wordN
    rw [Nat.pow_succ]
    split <;> omega

theorem wordN_bit (n : Nat) (T : Nat → Bool) (j : Nat) : (wordN n T).testBit j = (decide (j < n) && T j) := by
  induction n with
  | zero => simp [wordN]
  | succ n ih =>
    unfold wordN
    have hlt := wordN_lt n T
    by_cases ht : T n
    · rw [if_pos ht, Nat.add_comm]
      by_cases hj : j < n
      · rw [Nat.testBit_two_pow_add_gt hj, ih]
        simp [hj, show j < n + 1 by omega]
      · by_cases hjn : j = n
        · subst hjn
          rw [Nat.testBit_two_pow_add_eq, ih]
          simp [ht]
        · have : (2 ^ n + wordN n T) < 2 ^ j := by
            have : 2 ^ (n + 1) ≤ 2 ^ j := Nat.pow_le_pow_right (by omega) (by omega)
            rw [Nat.pow_succ] at this
            omega
          rw [Nat.testBit_lt_two_pow this]
          simp [show ¬ j < n + 1 by omega]
    · rw [if_neg ht, Nat.add_zero, ih]
      by_cases hjn : j = n
      · subst hjn; simp [ht]
      · by_cases hj : j < n
        · simp [hj, show j < n + 1 by omega]
        · simp [hj, show ¬ j < n + 1 by omega]

theorem wordN_congr {n : Nat} {T U : Nat → Bool} (h : ∀ j, j < n → T j = U j) : wordN n T = wordN n U := by
  apply Nat.eq_of_testBit_eq
  intro j
  rw [wordN_bit, wordN_bit]
  by_cases hj : j < n
  · rw [h j hj]
  · simp [hj]

theorem wordN_inj {n : Nat} {T U : Nat → Bool} (h : wordN n T = wordN n U) : ∀ j, j < n → T j = U j := by
  intro j hj
  have := congrArg (fun x => x.testBit j) h
  simpa [wordN_bit, hj] using this

theorem wordN_or (n : Nat) (T U : Nat → Bool) : wordN n T ||| wordN n U = wordN n (fun j => T j || U j) := by
  apply Nat.eq_of_testBit_eq
  intro j
  rw [Nat.testBit_or, wordN_bit, wordN_bit, wordN_bit]
  by_cases hj : j < n <;> simp [hj]

theorem wordN_and (n : Nat) (T U : Nat → Bool) : wordN n T &&& wordN n U = wordN n (fun j => T j && U j) := by
  apply Nat.eq_of_testBit_eq
  intro j
  rw [Nat.testBit_and, wordN_bit, wordN_bit, wordN_bit]
  by_cases hj : j < n <;> simp [hj]

theorem wordN_put (n : Nat) (T : Nat → Bool) (k : Nat) (hk : k < n) : wordN n T ||| 2 ^ k = wordN n (fun j => T j || j == k) := by
  apply Nat.eq_of_testBit_eq
  intro j
  rw [Nat.testBit_or, wordN_bit, wordN_bit, Nat.testBit_two_pow]
  by_cases hjk : j = k
  · subst hjk; simp [hk]
  · have h1 : (j == k) = false := beq_eq_false_iff_ne.2 hjk
    simp [h1, show ¬ k = j from fun e => hjk e.symm]

theorem wordN_shr (n : Nat) (T : Nat → Bool) (k : Nat) (hk : k < n) : wordN n T / 2 ^ k % 2 = if T k then 1 else 0 := by
  have h := wordN_bit n T k
  rw [Nat.testBit_eq_decide_div_mod_eq] at h
  by_cases ht : T k
  · simp [hk, ht] at h
    rw [if_pos ht]; exact h
  · simp [hk, ht] at h
    rw [if_neg ht]; exact h

/-- The i-th word of a set. -/
def word (S : Nat → Bool) (i : Nat) : Nat := wordN 64 (fun j => S (64 * i + j))
theorem word_lt (S : Nat → Bool) (i : Nat) : word S i < 18446744073709551616 := wordN_lt 64 _
theorem word_congr {S T : Nat → Bool} (h : ∀ n, n < 256 → S n = T n) (i : Nat) (hi : i < 4) : word S i = word T i := wordN_congr fun j hj => h _ (by omega)

/-- The cells of a set. -/
def bitsC (S : Nat → Bool) : List Value := [.int .u64 (word S 0), .int .u64 (word S 1), .int .u64 (word S 2), .int .u64 (word S 3)]
def bitsV (S : Nat → Bool) : Value := .agg (bitsC S).toArray
theorem bitsC_congr {S T : Nat → Bool} (h : ∀ n, n < 256 → S n = T n) : bitsC S = bitsC T := by
  unfold bitsC
  rw [word_congr h 0 (by omega), word_congr h 1 (by omega), word_congr h 2 (by omega), word_congr h 3 (by omega)]
theorem bitsC_inj {S T : Nat → Bool} (h0 : word S 0 = word T 0) (h1 : word S 1 = word T 1) (h2 : word S 2 = word T 2) (h3 : word S 3 = word T 3) : ∀ n, n < 256 → S n = T n := by
  intro n hn
  have e : n = 64 * (n / 64) + n % 64 := by omega
  rw [e]
  have hc : n / 64 = 0 ∨ n / 64 = 1 ∨ n / 64 = 2 ∨ n / 64 = 3 := by omega
  rcases hc with h | h | h | h <;> rw [h]
  · exact wordN_inj h0 _ (by omega)
  · exact wordN_inj h1 _ (by omega)
  · exact wordN_inj h2 _ (by omega)
  · exact wordN_inj h3 _ (by omega)
theorem bitsC_at (S : Nat → Bool) (q : Nat) (hq : q < 4) : (bitsC S)[q]? = some (.int .u64 (word S q)) := by
  have hc : q = 0 ∨ q = 1 ∨ q = 2 ∨ q = 3 := by omega
  rcases hc with rfl | rfl | rfl | rfl <;> rfl

def putS (S : Nat → Bool) (n : Nat) : Nat → Bool := fun k => S k || k == n

theorem word_put (S : Nat → Bool) (n : Nat) : word S (n / 64) ||| 2 ^ (n % 64) = word (putS S n) (n / 64) := by
  unfold word
  rw [wordN_put 64 _ _ (Nat.mod_lt _ (by omega))]
  refine wordN_congr fun j hj => ?_
  unfold putS
  have : (j == n % 64) = (64 * (n / 64) + j == n) := by
    rw [Bool.eq_iff_iff, beq_iff_eq, beq_iff_eq]; omega
  rw [this]
theorem word_put_other (S : Nat → Bool) (n i : Nat) (h : i ≠ n / 64) : word (putS S n) i = word S i := by
  refine wordN_congr fun j hj => ?_
  unfold putS
  have : (64 * i + j == n) = false := by rw [beq_eq_false_iff_ne]; omega
  rw [this, Bool.or_false]
theorem bitsC_put (S : Nat → Bool) (n : Nat) (hn : n < 256) : (bitsC S).set (n / 64) (.int .u64 (word (putS S n) (n / 64))) = bitsC (putS S n) := by
  apply List.ext_getElem?
  intro j
  rw [List.getElem?_set]
  by_cases hj : j < 4
  · rw [bitsC_at _ j hj, bitsC_at _ j hj]
    by_cases he : n / 64 = j
    · subst he; simp [bitsC, show n / 64 < 4 by omega]
    · rw [if_neg he, word_put_other S n j (fun e => he e.symm)]
  · rw [if_neg (by omega)]
    simp [bitsC, show ¬ j < 4 by omega]

/-- A set lies in a block of its own. -/
def BitsBox (w : World) (p : Nat) (S : Nat → Bool) : Prop := w.heap[p]? = some (.cells (bitsC S).toArray 56 (0, 0))
theorem BitsBox.cell {w : World} {p : Nat} {S : Nat → Bool} (h : BitsBox w p S) (q : Nat) (hq : q < 4) : w.cell? ⟨p, q, none⟩ = some (.int .u64 (word S q)) := by
  rw [cell_of_row w p q _ _ (0, 0) h]
  simpa using bitsC_at S q hq
theorem BitsBox.free {w : World} {p : Nat} {S : Nat → Bool} (h : BitsBox w p S) (q : Nat) : w.frozen? ⟨p, q, none⟩ = false := frozen_of_row w p q _ _ h
theorem BitsBox.lt {w : World} {p : Nat} {S : Nat → Bool} (h : BitsBox w p S) : p < w.heap.size := (Array.getElem?_eq_some_iff.1 h).1
theorem BitsBox.below {w w' : World} {p : Nat} {S : Nat → Bool} (h : BitsBox w p S) (hb : Below w.heap.size w w') : BitsBox w' p S := by
  unfold BitsBox
  rw [hb.block p h.lt]; exact h
theorem BitsBox.put {w : World} {p : Nat} {S : Nat → Bool} (h : BitsBox w p S) (n : Nat) (hn : n < 256) : BitsBox (w.setCell ⟨p, n / 64, none⟩ (.int .u64 (word (putS S n) (n / 64)))) p (putS S n) := by
  unfold BitsBox
  rw [heap_setCell_same w p (n / 64) _ _ _ h, ← bitsC_put S n hn]
  simp

theorem two_pow_u64 (k : Nat) (hk : k < 64) : (2 : Int) ^ k % 18446744073709551616 = ((2 ^ k : Nat) : Int) := by
  have h : (2 : Nat) ^ k < 18446744073709551616 := Nat.pow_lt_pow_right (a := 2) (m := k) (n := 64) (by decide) hk
  have e : ((2 : Int) ^ k) = ((2 ^ k : Nat) : Int) := by simp
  rw [e]
  generalize (2 : Nat) ^ k = x at h
  omega

theorem or_two_pow (x r : Nat) (hx : x < 18446744073709551616) (hr : r < 64) : bits BinOp.or IntKind.u64 (x : Int) (IntKind.u64.wrap (2 ^ r)) = ((x ||| 2 ^ r : Nat) : Int) := by
  have h : (2 : Nat) ^ r < 18446744073709551616 := Nat.pow_lt_pow_right (a := 2) (m := r) (n := 64) (by decide) hr
  rw [IntKind.wrap_u64, two_pow_u64 r hr, bits_or_u64_nat x _ hx h]

set_option maxHeartbeats 1000000 in
set_option maxRecDepth 100000 in
theorem putRaw (p n q r x : Nat) (hn : (n : Int) < 256) (hq : (n : Int) / 64 = (q : Int)) (hr : (n : Int) % 64 = (r : Int)) (hq4 : (q : Int) < 4) (hx : (x : Int) < 18446744073709551616) (w : World) (h : w.cell? ⟨p, q, none⟩ = some (.int .u64 x)) (hf : w.frozen? ⟨p, q, none⟩ = false) :
    Calls Tryd.prog 40 #[.pointer (some ⟨p, 0, none⟩), .int .i64 n] w fun e w' => e = .returned (.tuple #[]) ∧ w' = (w.setCell ⟨p, q, none⟩ (.int .u64 ((x ||| 2 ^ r : Nat) : Int))).drew := by
  have HE := Lib.hid (or_two_pow x r (by omega) (by omega))
  clear hx
  go_enter Tryd.func40, Tryd.ntmps40
  go_wp2
  go_region
  all_goals (go_end0; rw [HE.out]; exact ⟨rfl, rfl⟩)

set_option maxHeartbeats 400000 in
/-- put: one number more, in its own block. -/
theorem putBit (p : Nat) (S : Nat → Bool) (n : Nat) (hn : n < 256) (w : World) (h : BitsBox w p S) :
    Calls Tryd.prog 40 #[.pointer (some ⟨p, 0, none⟩), .int .i64 n] w fun e w' => e = .returned (.tuple #[]) ∧ Only (fun k => k = p) w w' ∧ BitsBox w' p (putS S n) := by
  refine (putRaw p n (n / 64) (n % 64) (word S (n / 64)) (by omega) (by omega) (by omega) (by omega) (by have := word_lt S (n / 64); omega) w (h.cell _ (by omega)) (h.free _)).mono ?_
  rintro e w' ⟨he, hw⟩
  rw [word_put] at hw
  subst hw
  exact ⟨he, ((Only.refl (fun k => k = p) w).setCell (p := ⟨p, n / 64, none⟩) rfl _).drew, h.put n hn⟩

theorem bit_at (x r : Nat) (hx : x < 18446744073709551616) : (bits BinOp.and IntKind.u64 ((x : Int) / 2 ^ r) 1 == 1) = decide (x / 2 ^ r % 2 = 1) := by
  have e : ((x : Int) / 2 ^ r) = ((x / 2 ^ r : Nat) : Int) := by simp
  have hl : x / 2 ^ r < 18446744073709551616 := Nat.lt_of_le_of_lt (Nat.div_le_self _ _) hx
  have h1 := bits_and_u64_nat (x / 2 ^ r) 1 hl (by decide)
  rw [e, show (1 : Int) = ((1 : Nat) : Int) from rfl, h1, Nat.and_one_is_mod, Bool.eq_iff_iff, beq_iff_eq, decide_eq_true_iff]
  omega

theorem bit_word (S : Nat → Bool) (n : Nat) : (bits BinOp.and IntKind.u64 ((word S (n / 64) : Int) / 2 ^ (n % 64)) 1 == 1) = S n := by
  rw [bit_at _ _ (word_lt _ _), word, wordN_shr 64 _ _ (Nat.mod_lt _ (by omega)), show 64 * (n / 64) + n % 64 = n by omega]
  cases S n <;> simp

set_option maxHeartbeats 400000 in
set_option maxRecDepth 100000 in
theorem hasRaw (S : Nat → Bool) (n q r : Nat) (hn : (n : Int) < 256) (hq : (n : Int) / 64 = (q : Int)) (hr : (n : Int) % 64 = (r : Int)) (hq4 : (q : Int) < 4) (w : World) (hc : (bitsC S)[q]? = some (.int .u64 (word S q))) :
    Calls Tryd.prog 37 #[bitsV S, .int .i64 n] w fun e w' => e = .returned (.bool (bits BinOp.and IntKind.u64 ((word S q : Int) / 2 ^ r) 1 == 1)) ∧ Below w.heap.size w w' := by
  unfold bitsV
  have hcell : (w.alloc (.cells (bitsC S).toArray 56)).cell? ⟨w.heap.size, q, none⟩ = some (.int .u64 (word S q)) := by simp [World.cell?_alloc_new, hc]
  go_enter Tryd.func37, Tryd.ntmps37
  go_wp2
  go_ret
  exact ⟨rfl, (Below.refl _ _).alloc (Nat.le_refl _) _⟩

/-- has: whether a number is in a set. -/
theorem hasBit (S : Nat → Bool) (n : Nat) (hn : n < 256) (w : World) :
    Calls Tryd.prog 37 #[bitsV S, .int .i64 n] w fun e w' => e = .returned (.bool (S n)) ∧ Below w.heap.size w w' := by
  have h := hasRaw S n (n / 64) (n % 64) (by omega) (by omega) (by omega) (by omega) w (bitsC_at S _ (by omega))
  rw [bit_word S n] at h
  exact h

/-- Of a set the first k words are those of another operation. -/
def opS (op : Bool → Bool → Bool) (k : Nat) (S T : Nat → Bool) : Nat → Bool := fun n => if n < 64 * k then op (S n) (T n) else S n
def opAll (op : Bool → Bool → Bool) (S T : Nat → Bool) : Nat → Bool := fun n => op (S n) (T n)
theorem opS_zero (op : Bool → Bool → Bool) (S T : Nat → Bool) : opS op 0 S T = S := by funext n; simp [opS]
theorem opS_all (op : Bool → Bool → Bool) (S T : Nat → Bool) : bitsC (opS op 4 S T) = bitsC (opAll op S T) := bitsC_congr fun n hn => by simp [opS, opAll, show n < 64 * 4 by omega]
theorem word_opS (op : Bool → Bool → Bool) (k : Nat) (S T : Nat → Bool) : word (opS op k S T) k = word S k := wordN_congr fun j _ => by simp [opS, show ¬ 64 * k + j < 64 * k by omega]
theorem bitsC_opS (op : Bool → Bool → Bool) (k : Nat) (S T : Nat → Bool) : (bitsC (opS op k S T)).set k (.int .u64 (wordN 64 fun j => op (S (64 * k + j)) (T (64 * k + j)))) = bitsC (opS op (k + 1) S T) := by
  apply List.ext_getElem?
  intro j
  rw [List.getElem?_set]
  by_cases hj : j < 4
  · rw [bitsC_at _ j hj, bitsC_at _ j hj]
    by_cases he : k = j
    · subst he
      rw [if_pos rfl, if_pos (by simpa [bitsC] using hj)]
      refine congrArg (fun x : Nat => some (Value.int .u64 x)) (wordN_congr fun j hj => ?_)
      simp [opS, show 64 * k + j < 64 * (k + 1) by omega]
    · rw [if_neg he]
      refine congrArg (fun x : Nat => some (Value.int .u64 x)) (wordN_congr fun i hi => ?_)
      by_cases h1 : j < k
      · simp [opS, show 64 * j + i < 64 * k by omega, show 64 * j + i < 64 * (k + 1) by omega]
      · simp [opS, show ¬ 64 * j + i < 64 * k by omega, show ¬ 64 * j + i < 64 * (k + 1) by omega]
  · by_cases he : k = j
    · subst he
      simp [bitsC, hj]
    · simp [bitsC, he, hj]
theorem BitsBox.opS {w : World} {p : Nat} {op : Bool → Bool → Bool} {k : Nat} {S T : Nat → Bool} (h : BitsBox w p (opS op k S T)) :
    BitsBox (w.setCell ⟨p, k, none⟩ (.int .u64 (wordN 64 fun j => op (S (64 * k + j)) (T (64 * k + j))))) p (opS op (k + 1) S T) := by
  unfold BitsBox
  rw [heap_setCell_same w p k _ _ _ h, ← bitsC_opS op k S T]
  simp

theorem and_words (S T : Nat → Bool) (k : Nat) : bits BinOp.and IntKind.u64 (word S k) (word T k) = ((wordN 64 fun j => S (64 * k + j) && T (64 * k + j) : Nat) : Int) := by
  rw [bits_and_u64_nat _ _ (word_lt _ _) (word_lt _ _)]
  unfold word
  rw [wordN_and]

theorem word_none (i : Nat) : word (fun _ => false) i = 0 := by
  apply Nat.eq_of_testBit_eq
  intro j
  rw [word, wordN_bit]
  simp

theorem bits_new (w : World) (S : Nat → Bool) : BitsBox (w.alloc (.cells (bitsC S).toArray 56)) w.heap.size S := heap_alloc_new w _
theorem bits_zero : (#[.int .u64 0, .int .u64 0, .int .u64 0, .int .u64 0] : Array Value) = (bitsC fun _ => false).toArray := by simp [bitsC, word_none]
theorem BitsBox.other {w : World} {p : Nat} {S : Nat → Bool} (h : BitsBox w p S) {a : Addr} (ha : p ≠ a.block) (u : Value) : BitsBox (w.setCell a u) p S := by
  unfold BitsBox
  rw [heap_setCell_other w a p u ha]; exact h
theorem BitsBox.drew {w : World} {p : Nat} {S : Nat → Bool} (h : BitsBox w p S) : BitsBox w.drew p S := h
theorem BitsBox.alloc {w : World} {p : Nat} {S : Nat → Bool} (h : BitsBox w p S) (o : Obj) : BitsBox (w.alloc o) p S := h.below ((Below.refl _ _).alloc (Nat.le_refl _) _)

end Go.Proofs.YtbnmgonfmihicabDoor
