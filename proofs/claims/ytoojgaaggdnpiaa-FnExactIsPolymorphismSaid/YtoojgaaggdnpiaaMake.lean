/-
  The relation of some tuples: MakeRel of the model and of the program.
-/
import Derived.Test.YtoojgaaggdnpiaaLSet
import Derived.Test.YtoojgaaggdnpiaaRelOf
import Derived.Test.YtoojgaaggdnpiaaGraph2
namespace Go.Proofs.Ytoojgaaggdnpiaa
open Go.RowKit

def MakeOk (size ar : Int) (xs : List (List Int)) (k : Nat) : Prop := In14 ar ∧ ∀ j, j < k → TupP size ar (rowN xs j)
theorem MakeOk.zero {size ar : Int} {xs : List (List Int)} {b : Bool} (h : Tells b (In14 ar)) : Tells b (MakeOk size ar xs 0) := h.congr ⟨fun h => ⟨h, fun j hj => absurd hj (by omega)⟩, fun h => h.1⟩
theorem MakeOk.next {size ar : Int} {xs : List (List Int)} {k : Nat} {b : Bool} (h : MakeOk size ar xs k) (h2 : Tells b (TupP size ar (rowN xs k))) : Tells b (MakeOk size ar xs (k + 1)) :=
  h2.congr ⟨fun ht => ⟨h.1, fun j hj => by
    by_cases e : j = k
    · subst e; exact ht
    · exact h.2 j (by omega)⟩, fun ht => ht.2 k (by omega)⟩
theorem MakeOk.less {size ar : Int} {xs : List (List Int)} {k n : Nat} (h : ¬ MakeOk size ar xs k) (hk : k ≤ n) : ¬ MakeOk size ar xs n := fun g => h ⟨g.1, fun j hj => g.2 j (by omega)⟩
/-- What MakeRel answers. -/
def MakeRelIs (size ar : Int) (xs : List (List Int)) (x : Int) (zs : List (List Int)) (cd : Int) : Prop := RelAns (In14 size) (MakeOk size ar xs xs.length) ar (rowsS size.toNat ar.toNat (setOf size xs) 256) x zs cd
theorem MakeRelIs.exists (size ar : Int) (xs : List (List Int)) : ∃ x zs cd, MakeRelIs size ar xs x zs cd := RelAns.exists _ _ _ _
theorem MakeRelIs.small {size ar : Int} {xs : List (List Int)} {x : Int} {zs : List (List Int)} {cd : Int} (h : MakeRelIs size ar xs x zs cd) : (zs.map List.length).sum ≤ 1048576 := RelAns.small h fun _ h2 => rowsS_small _ _ _ (by have := h2.1.2; omega)
theorem make_rows {s r : Nat} {xs : List (List Int)} (h1 : 1 ≤ s) (h2 : s ≤ 4) (h3 : 1 ≤ r) (h4 : r ≤ 4) (h : ∀ j, j < xs.length → TupP s r (rowN xs j)) : rowsS s r (setOf s xs) 256 = rowsS s r (setOf s xs) (s ^ r) := by
  unfold rowsS
  rw [memb_cut (pow_lim h1 h2 h3 h4).1 fun j hj _ => ?_]
  cases hb : setOf s xs j with
  | false => rfl
  | true =>
    obtain ⟨x, hx, rfl⟩ := (setOf_iff j).1 hb
    obtain ⟨i, hi, rfl⟩ := mem_rowN.1 hx
    have := codeN_pow h1 (h i hi)
    omega


end Go.Proofs.Ytoojgaaggdnpiaa
