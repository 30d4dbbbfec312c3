/-
  Whether a relation is a part of another one: IsPartOf of the program.
-/
import Derived.Test.YtbnmgonfmihicabDoorPart
namespace Go.Proofs.YtbnmgonfmihicabDoor
open Go.RowKit

def SubP (S T : Nat → Bool) : Prop := ∀ n, n < 256 → S n = true → T n = true

theorem eqBits (a b c d a' b' c' d' : Int) (w : World) : (Op.equalIn 10000 56 (.agg #[.int .u64 a, .int .u64 b, .int .u64 c, .int .u64 d]) (.agg #[.int .u64 a', .int .u64 b', .int .u64 c', .int .u64 d'])).run Tryd.prog w = .ok (a == a' && b == b' && c == c' && d == d') w := by
  have u3 := Tryd.underlying54
  have a3 := Tryd.isAgg54
  have z3 := Tryd.sizeOf54
  rw [show (10000 : Nat) = 9999 + 1 from rfl, Op.equalIn]
  simp only [Sem.run_bind, run_underlying Tryd.underlying56, Result.andThen_ok]
  simp only [Std.Legacy.Range.forIn_eq_forIn_range', Std.Legacy.Range.size, Nat.sub_zero, Nat.add_sub_cancel, Nat.div_one, List.range'_succ, List.range'_zero, List.forIn_cons, List.forIn_nil]
  go_simp
  by_cases h1 : a = a' <;> by_cases h2 : b = b' <;> by_cases h3 : c = c' <;> by_cases h4 : d = d' <;> simp [h1, h2, h3, h4]

theorem sub_words {S T : Nat → Bool} {b : Bool} (hb : Tells b (SubP S T)) :
    (((word (opAll (· && ·) S T) 0 : Int) == (word S 0 : Int)) && ((word (opAll (· && ·) S T) 1 : Int) == (word S 1 : Int)) && ((word (opAll (· && ·) S T) 2 : Int) == (word S 2 : Int)) && ((word (opAll (· && ·) S T) 3 : Int) == (word S 3 : Int))) = b := by
  rw [Bool.eq_iff_iff]
  simp only [Bool.and_eq_true, beq_iff_eq]
  rw [show b = true ↔ SubP S T from hb]
  constructor
  · rintro ⟨⟨⟨h0, h1⟩, h2⟩, h3⟩ n hn hs
    have := bitsC_inj (S := opAll (· && ·) S T) (T := S) (by omega) (by omega) (by omega) (by omega) n hn
    unfold opAll at this
    rw [hs] at this
    simpa using this
  · intro h
    have e : ∀ n, n < 256 → opAll (· && ·) S T n = S n := by
      intro n hn
      unfold opAll
      cases hs : S n with
      | false => rfl
      | true => rw [h n hn hs]; rfl
    rw [word_congr e 0 (by omega), word_congr e 1 (by omega), word_congr e 2 (by omega), word_congr e 3 (by omega)]
    exact ⟨⟨⟨rfl, rfl⟩, rfl⟩, rfl⟩

theorem held8 {w w' w0 : World} {a0 a1 a2 a3 b0 b1 b2 b3 : Addr} {x0 x1 x2 x3 y0 y1 y2 y3 : Value}
    (h : w.cell? a0 = some x0 ∧ w.cell? a1 = some x1 ∧ w.cell? a2 = some x2 ∧ w.cell? a3 = some x3 ∧ w.cell? b0 = some y0 ∧ w.cell? b1 = some y1 ∧ w.cell? b2 = some y2 ∧ w.cell? b3 = some y3 ∧ Below w0.heap.size w0 w) (hb : Below w.heap.size w w') :
    w'.cell? a0 = some x0 ∧ w'.cell? a1 = some x1 ∧ w'.cell? a2 = some x2 ∧ w'.cell? a3 = some x3 ∧ w'.cell? b0 = some y0 ∧ w'.cell? b1 = some y1 ∧ w'.cell? b2 = some y2 ∧ w'.cell? b3 = some y3 ∧ Below w0.heap.size w0 w' :=
  ⟨below_cell hb h.1, below_cell hb h.2.1, below_cell hb h.2.2.1, below_cell hb h.2.2.2.1, below_cell hb h.2.2.2.2.1, below_cell hb h.2.2.2.2.2.1, below_cell hb h.2.2.2.2.2.2.1, below_cell hb h.2.2.2.2.2.2.2.1, h.2.2.2.2.2.2.2.2.trans (hb.mono h.2.2.2.2.2.2.2.2.size)⟩

theorem part_sets {size x : Int} {xs ys : List (List Int)} (h1 : RelOk size x xs) (h2 : RelOk size x ys) : SubP (setOf size xs) (setOf size ys) ↔ PartP xs ys := by
  constructor
  · intro h j hj
    obtain ⟨i, hi, he⟩ := (setK_iff _ _).1 (h (codeN size (rowN xs j)) (codeN_lt (h1.2.2 j hj).1 h1.1 h1.2.1) ((setK_iff _ _).2 ⟨j, hj, rfl⟩))
    exact ⟨i, hi, codeN_inj (h2.2.2 i hi).1 (h1.2.2 j hj).1 h1.1 h1.2.1 he⟩
  · intro h n _ hs
    obtain ⟨j, hj, rfl⟩ := (setK_iff _ _).1 hs
    obtain ⟨i, hi, he⟩ := h j hj
    exact (setK_iff _ _).2 ⟨i, hi, by rw [he]⟩

end Go.Proofs.YtbnmgonfmihicabDoor
