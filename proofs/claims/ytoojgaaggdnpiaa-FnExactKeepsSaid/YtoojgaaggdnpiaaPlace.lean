/-
  A relation at places of a greater one: PlaceRel of the model and of the program.
-/
import Derived.Test.YtoojgaaggdnpiaaAtP
import Derived.Test.YtoojgaaggdnpiaaMeet
import Derived.Test.YtoojgaaggdnpiaaOpp
import Derived.Test.YtoojgaaggdnpiaaGRel
namespace Go.Proofs.Ytoojgaaggdnpiaa
open Go.RowKit

/-- The numbers of the tuples whose values at the places are a tuple of the relation. -/
def plS (s r : Nat) (ps : List Int) (xs : List (List Int)) : Nat → Bool := fun n => decide (mapped (digs s r n) ps ∈ xs)
def cutS (k : Nat) (S : Nat → Bool) : Nat → Bool := fun n => decide (n < k) && S n
theorem cutS_zero (S : Nat → Bool) : cutS 0 S = fun _ => false := by funext n; simp [cutS]
theorem cutS_in {k : Nat} {S : Nat → Bool} (h : S k = true) : cutS (k + 1) S = putS (cutS k S) k := by
  funext n
  unfold cutS putS
  by_cases e : n = k
  · subst e; simp [h]
  · by_cases l : n < k
    · simp [e, l, show n < k + 1 by omega]
    · simp [e, l, show ¬ n < k + 1 by omega]
theorem cutS_out {k : Nat} {S : Nat → Bool} (h : S k = false) : cutS (k + 1) S = cutS k S := by
  funext n
  unfold cutS
  by_cases e : n = k
  · subst e; simp [h]
  · by_cases l : n < k
    · simp [l, show n < k + 1 by omega]
    · simp [l, show ¬ n < k + 1 by omega]
theorem cut_rows {s r : Nat} (h1 : 1 ≤ s) (h2 : s ≤ 4) (h3 : 1 ≤ r) (h4 : r ≤ 4) (S : Nat → Bool) : rowsS s r (cutS (s ^ r) S) 256 = rowsS s r S (s ^ r) := by
  unfold rowsS
  rw [memb_cut (n := s ^ r) (m := 256) (S := cutS (s ^ r) S) (pow_lim h1 h2 h3 h4).1 fun j hj _ => by simp [cutS, show ¬ j < s ^ r by omega]]
  rw [memb_congr fun j hj => ?_]
  simp [cutS, hj]
theorem rowsS_succ_in {s r k : Nat} {S : Nat → Bool} (h : S k = true) : rowsS s r S (k + 1) = rowsS s r S k ++ [digs s r k] := by unfold rowsS; rw [memb_succ, h]; simp
theorem rowsS_succ_out {s r k : Nat} {S : Nat → Bool} (h : S k = false) : rowsS s r S (k + 1) = rowsS s r S k := by unfold rowsS; rw [memb_succ, h]; simp
theorem powN {s t N : Nat} (hN : s ^ t = N) (h1 : 1 ≤ s) (h2 : s ≤ 4) (h4 : t ≤ 4) (w : World) :
    Calls Try.prog 130 #[.int .i64 s, .int .i64 t] w fun e w' => e = .returned (.int .i64 (N : Int)) ∧ w = w' := by subst hN; exact l01Power s t h1 h2 h4 w
theorem countN {s t N : Nat} (hN : s ^ t = N) (h1 : 1 ≤ s) (h2 : s ≤ 4) (h4 : t ≤ 4) (w : World) :
    Calls Try.prog 119 #[.int .i64 s, .int .i64 t] w fun e w' => e = .returned (.int .i64 (N : Int)) ∧ w = w' := by subst hN; exact tupleCount s t h1 h2 h4 w

theorem bitsOf4 (size : Int) (ar : Int) (a : Option Addr) (n c : Nat) (xss : List (List Int)) (w : World) (h : GridAt w (.slice a n c) xss) (hr : RelOk size ar xss) :
    Calls Try.prog 122 #[.int .i64 size, .agg #[.int .i64 ar, .slice a n c]] w fun e w' => e = .returned (.agg #[.int .u64 (word (setOf size xss) 0), .int .u64 (word (setOf size xss) 1), .int .u64 (word (setOf size xss) 2), .int .u64 (word (setOf size xss) 3)]) ∧ Below w.heap.size w w' := bitsOf size ar a n c xss w h hr

/-- What PlaceRel answers. -/
def PlaceRelIs (size x : Int) (xs : List (List Int)) (arity : Int) (ps : List Int) (ar : Int) (zs : List (List Int)) (cd : Int) : Prop :=
  RelAns (RelOk size x xs) (In14 arity ∧ TupP arity x ps) arity (rowsS size.toNat arity.toNat (cutS (size.toNat ^ arity.toNat) (plS size.toNat arity.toNat ps xs)) 256) ar zs cd
theorem PlaceRelIs.exists (size x : Int) (xs : List (List Int)) (arity : Int) (ps : List Int) : ∃ ar zs cd, PlaceRelIs size x xs arity ps ar zs cd := RelAns.exists _ _ _ _
theorem PlaceRelIs.small {size x : Int} {xs : List (List Int)} {arity : Int} {ps : List Int} {ar : Int} {zs : List (List Int)} {cd : Int} (h : PlaceRelIs size x xs arity ps ar zs cd) : (zs.map List.length).sum ≤ 1048576 :=
  RelAns.small h fun _ h2 => rowsS_small _ _ _ (by have := h2.1.2; omega)
theorem plS_set {s r t : Nat} {ps : List Int} {xs : List (List Int)} (hc : RelOk s r xs) (h1 : 1 ≤ s) (ht : TupP t r ps) (n : Nat) : setOf s xs (codeN s (mapped (digs s t n) ps)) = plS s t ps xs n := by
  have hm : TupP s r (mapped (digs s t n) ps) := by
    have h := mapped_place (digs_tup s t n h1) ht.2
    rwa [ht.1] at h
  unfold plS
  rw [Bool.eq_iff_iff, setOf_iff, decide_eq_true_iff]
  constructor
  · rintro ⟨x, hx, he⟩
    rwa [← codeN_inj (hc.tups x hx) hm hc.1 hc.2.1 he]
  · intro h
    exact ⟨_, h, rfl⟩

end Go.Proofs.Ytoojgaaggdnpiaa
