/-
  The model's set of a relation, and the tuples of one of two relations: l01SetOf and JoinRels of the model.
-/
import Derived.Test.YtjkbffoaenhhgaaDoorMake
import Derived.Test.YtjkbffoaenhhgaaDoorGRel
namespace Go.Proofs.YtjkbffoaenhhgaaDoor
open Go.RowKit

theorem tri_set {w1 : World} {p b c d : Addr} {x y z v : Value} (h : w1.cell? b = some x ∧ w1.cell? c = some y ∧ w1.cell? d = some z) (hb : b.block ≠ p.block) (hc : c.block ≠ p.block) (hd : d.block ≠ p.block) :
    (w1.setCell p v).cell? b = some x ∧ (w1.setCell p v).cell? c = some y ∧ (w1.setCell p v).cell? d = some z :=
  ⟨(World.cell?_of_block (Below.heap_setCell _ _ _ _ hb)).trans h.1, (World.cell?_of_block (Below.heap_setCell _ _ _ _ hc)).trans h.2.1, (World.cell?_of_block (Below.heap_setCell _ _ _ _ hd)).trans h.2.2⟩

theorem setK_left (size : Int) (xs ys : List (List Int)) : ∀ k, k ≤ xs.length → setK size (xs ++ ys) k = setK size xs k := by
  intro k
  induction k with
  | zero => intro _; rfl
  | succ k ih =>
    intro hk
    show putS _ _ = putS _ _
    rw [ih (by omega), rowN_at _ _ (by simp; omega), rowN_at _ _ (by omega), List.getElem_append_left (by omega)]
theorem setK_right (size : Int) (xs ys : List (List Int)) (k : Nat) (hk : k < ys.length) : setK size (xs ++ ys) (xs.length + (k + 1)) = putS (setK size (xs ++ ys) (xs.length + k)) (codeN size (rowN ys k)) := by
  have e : rowN (xs ++ ys) (xs.length + k) = rowN ys k := by
    rw [rowN_at _ _ (by simp; omega), rowN_at _ _ hk, List.getElem_append_right (by omega)]
    simp
  show putS (setK size (xs ++ ys) (xs.length + k)) (codeN size (rowN (xs ++ ys) (xs.length + k))) = _
  rw [e]
theorem join_tups {s r : Int} {xs ys : List (List Int)} (h1 : RelOk s r xs) (h2 : RelOk s r ys) : ∀ j, j < (xs ++ ys).length → TupP s r (rowN (xs ++ ys) j) := fun j hj => by
  have hm : rowN (xs ++ ys) j ∈ xs ++ ys := mem_rowN.2 ⟨j, hj, rfl⟩
  rcases List.mem_append.1 hm with h | h
  · exact h1.tups _ h
  · exact h2.tups _ h
theorem RelOk.rows {s r : Int} {xs : List (List Int)} (h1 : RelOk s r xs) : ∀ j, j < xs.length → TupP s r (rowN xs j) := fun j hj => (h1.2.2 j hj).1

/-- What JoinRels answers. -/
def JoinRelsIs (size x : Int) (xs : List (List Int)) (y : Int) (ys : List (List Int)) (ar : Int) (zs : List (List Int)) (cd : Int) : Prop :=
  TwoCode size x xs y ys cd ∧ ((cd = 0 ∧ ar = x ∧ zs = rowsS size.toNat x.toNat (setOf size (xs ++ ys)) 256) ∨ (cd ≠ 0 ∧ ar = 0 ∧ zs = []))
theorem JoinRelsIs.exists (size x : Int) (xs : List (List Int)) (y : Int) (ys : List (List Int)) : ∃ ar zs cd, JoinRelsIs size x xs y ys ar zs cd := by
  obtain ⟨c, hc⟩ := TwoCode.exists size x xs y ys
  by_cases h : c = 0
  · exact ⟨_, _, c, hc, .inl ⟨h, rfl, rfl⟩⟩
  · exact ⟨_, _, c, hc, .inr ⟨h, rfl, rfl⟩⟩
theorem JoinRelsIs.small {size x : Int} {xs : List (List Int)} {y : Int} {ys : List (List Int)} {ar : Int} {zs : List (List Int)} {cd : Int} (h : JoinRelsIs size x xs y ys ar zs cd) : (zs.map List.length).sum ≤ 1048576 := by
  obtain ⟨hc, ⟨rfl, rfl, rfl⟩ | ⟨_, _, rfl⟩⟩ := h
  · exact rowsS_small _ _ _ (by have := hc.ok.1.2.1.2; omega)
  · simp

end Go.Proofs.YtjkbffoaenhhgaaDoor
