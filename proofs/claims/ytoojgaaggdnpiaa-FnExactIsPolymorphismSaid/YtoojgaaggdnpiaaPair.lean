/-
  Tuples with tuples behind them: PairRels of the model and of the program.
-/
import Derived.Test.YtoojgaaggdnpiaaMeet
import Derived.Test.YtoojgaaggdnpiaaOpp
import Derived.Test.YtoojgaaggdnpiaaGRel
import Derived.IntWalk
namespace Go.Proofs.Ytoojgaaggdnpiaa
open Go.RowKit

def pairRow (a : List Int) (ys : List (List Int)) : List (List Int) := ys.map fun b => a ++ b
def pairL (xs ys : List (List Int)) : List (List Int) := xs.flatMap fun a => pairRow a ys
theorem pairL_snoc (xs ys : List (List Int)) (a : List Int) : pairL (xs ++ [a]) ys = pairL xs ys ++ pairRow a ys := by simp [pairL]
theorem pairRow_nil (a : List Int) : pairRow a [] = [] := rfl
theorem pairRow_snoc (a b : List Int) (ys : List (List Int)) : pairRow a (ys ++ [b]) = pairRow a ys ++ [a ++ b] := by simp [pairRow]
theorem intN_left (xs ys : List Int) (k : Nat) (h : k < xs.length) : intN (xs ++ ys) k = intN xs k := by rw [intN_at _ _ (by simp; omega), intN_at _ _ h, List.getElem_append_left h]
theorem intN_right (xs ys : List Int) (k : Nat) (h : k < ys.length) : intN (xs ++ ys) (xs.length + k) = intN ys k := by
  rw [intN_at _ _ (by simp; omega), intN_at _ _ h, List.getElem_append_right (by omega)]
  simp
theorem app_tup {s x y : Int} {a b : List Int} (h1 : TupP s x a) (h2 : TupP s y b) : TupP s (x + y) (a ++ b) := by
  refine ⟨by have := h1.1; have := h2.1; simp; omega, fun k hk => ?_⟩
  by_cases hl : k < a.length
  · rw [intN_left _ _ _ hl]; exact h1.2 k hl
  · obtain ⟨j, rfl⟩ : ∃ j, k = a.length + j := ⟨k - a.length, by omega⟩
    simp only [List.length_append] at hk
    rw [intN_right _ _ _ (by omega)]
    exact h2.2 j (by omega)
theorem codeK_app (s : Int) (a b : List Int) : ∀ k, k ≤ b.length → codeK s (a ++ b) (a.length + k) = codeK s a a.length * s ^ k + codeK s b k := by
  intro k
  induction k with
  | zero =>
    intro _
    rw [Nat.add_zero, Int.pow_zero, Int.mul_one]
    show _ = _ + 0
    rw [Int.add_zero]
    exact codeK_same _ fun j hj => intN_left _ _ _ hj
  | succ k ih =>
    intro hk
    show codeK s (a ++ b) (a.length + k) * s + intN (a ++ b) (a.length + k) = _ + (codeK s b k * s + intN b k)
    rw [ih (by omega), intN_right _ _ _ (by omega), Int.pow_succ, Int.add_mul, Int.mul_assoc, Int.add_assoc]
theorem app_code {s r q : Nat} {a b : List Int} (h1 : TupP s r a) (h2 : TupP s q b) (hs : In14 (s : Int)) (hr : In14 (r : Int)) (hq : In14 (q : Int)) : codeN s (a ++ b) = codeN s a * s ^ q + codeN s b := by
  have e1 := codeN_cast h1 hs hr
  have e2 := codeN_cast h2 hs hq
  have e : code s (a ++ b) = ((codeN s a * s ^ q + codeN s b : Nat) : Int) := by
    have hl : b.length = q := by have := h2.1; omega
    unfold code at e1 e2 ⊢
    rw [List.length_append, codeK_app _ _ _ _ (Nat.le_refl _), e1, e2, hl, Int.natCast_add, Int.natCast_mul, Int.natCast_pow]
  show (code s (a ++ b)).toNat = _
  rw [e, Int.toNat_natCast]
theorem pairRow_tups {s x y : Int} {a : List Int} {ys : List (List Int)} (h1 : TupP s x a) (h2 : ∀ b, b ∈ ys → TupP s y b) : ∀ t, t ∈ pairRow a ys → TupP s (x + y) t := fun t ht => by
  obtain ⟨b, hb, rfl⟩ := List.mem_map.1 ht
  exact app_tup h1 (h2 b hb)
theorem pairL_tups {s x y : Int} {xs ys : List (List Int)} (h1 : ∀ a, a ∈ xs → TupP s x a) (h2 : ∀ b, b ∈ ys → TupP s y b) : ∀ t, t ∈ pairL xs ys → TupP s (x + y) t := fun t ht => by
  obtain ⟨a, ha, ht⟩ := List.mem_flatMap.1 ht
  exact pairRow_tups (h1 a ha) h2 t ht
theorem pairL_asc {s r q : Nat} {xs ys : List (List Int)} (hx : RelOk s r xs) (hy : RelOk s q ys) : AscC s (pairL xs ys) := by
  have hs := hx.1
  have hr := hx.2.1
  have hq := hy.2.1
  have h1 : 1 ≤ s := by have := hs.1; omega
  have hlt : ∀ b, b ∈ ys → codeN s b < s ^ q := fun b hb => codeN_pow h1 (hy.tups b hb)
  have hrow : ∀ a, a ∈ xs → AscC s (pairRow a ys) := fun a ha => by
    refine List.pairwise_map.2 (List.Pairwise.imp_of_mem ?_ hy.asc)
    intro b b' hb hb' h
    rw [app_code (hx.tups a ha) (hy.tups b hb) hs hr hq, app_code (hx.tups a ha) (hy.tups b' hb') hs hr hq]
    omega
  have hall : ∀ l : List (List Int), (∀ a, a ∈ l → a ∈ xs) → AscC s l → AscC s (pairL l ys) := by
    intro l
    induction l with
    | nil => intro _ _; exact List.Pairwise.nil
    | cons a l ih =>
      intro hl ha
      unfold AscC at ha
      rw [List.pairwise_cons] at ha
      show List.Pairwise _ (pairRow a ys ++ pairL l ys)
      refine List.pairwise_append.2 ⟨hrow a (hl a (List.mem_cons_self ..)), ih (fun b hb => hl b (List.mem_cons_of_mem _ hb)) ha.2, fun t ht t' ht' => ?_⟩
      obtain ⟨b, hb, rfl⟩ := List.mem_map.1 ht
      obtain ⟨a', ha', ht'⟩ := List.mem_flatMap.1 ht'
      obtain ⟨b', hb', rfl⟩ := List.mem_map.1 ht'
      rw [app_code (hx.tups a (hl a (List.mem_cons_self ..))) (hy.tups b hb) hs hr hq, app_code (hx.tups a' (hl a' (List.mem_cons_of_mem _ ha'))) (hy.tups b' hb') hs hr hq]
      have h2 := ha.1 a' ha'
      have h3 := hlt b hb
      have h4 := Nat.mul_le_mul_right (s ^ q) (show codeN s a + 1 ≤ codeN s a' from h2)
      rw [Nat.add_mul, Nat.one_mul] at h4
      omega
  exact hall xs (fun a ha => ha) hx.asc
theorem pairL_len (xs ys : List (List Int)) : (pairL xs ys).length = xs.length * ys.length := by
  induction xs with
  | nil => simp [pairL]
  | cons a xs ih =>
    show (pairRow a ys ++ pairL xs ys).length = _
    rw [List.length_append, ih, List.length_cons, Nat.add_mul, Nat.one_mul, Nat.add_comm]
    simp [pairRow]
/-- What PairRels answers. -/
def PairRelsIs (size x : Int) (xs : List (List Int)) (y : Int) (ys : List (List Int)) (ar : Int) (zs : List (List Int)) (cd : Int) : Prop :=
  RelAns (RelOk size x xs ∧ RelOk size y ys) (x + y ≤ 4) (x + y) (pairL xs ys) ar zs cd
theorem PairRelsIs.exists (size x : Int) (xs : List (List Int)) (y : Int) (ys : List (List Int)) : ∃ ar zs cd, PairRelsIs size x xs y ys ar zs cd := RelAns.exists _ _ _ _
theorem PairRelsIs.small {size x : Int} {xs : List (List Int)} {y : Int} {ys : List (List Int)} {ar : Int} {zs : List (List Int)} {cd : Int} (h : PairRelsIs size x xs y ys ar zs cd) : (zs.map List.length).sum ≤ 1048576 :=
  RelAns.small h fun h1 h2 => by
    have e1 := sum_map_le (pairL xs ys) 4 fun z hz => by
      have := (pairL_tups h1.1.tups h1.2.tups z hz).1
      omega
    have e2 := pairL_len xs ys
    have e3 := Nat.mul_le_mul h1.1.few h1.2.few
    omega

end Go.Proofs.Ytoojgaaggdnpiaa
