/-
  Readings of lists of equations that stand where memory stands.
-/
import Derived.Test.YtnbgpeoceejolaaStab2
import Derived.Test.YtnbgpeoceejolaaMade
import Derived.Test.YtnbgpeoceejolaaMarkSys
namespace Go.Proofs.Ytnbgpeoceejolaa
open Go.RowKit

theorem EqnAt.same {w w' : World} {b o : Nat} {ar : Int} {xs : List Int} (h : EqnAt w b o ar xs) (h2 : ∀ g, g < w.heap.size → w'.heap[g]? = w.heap[g]?) : EqnAt w' b o ar xs := by
  obtain ⟨h1, a, n, c, h3, h4⟩ := h
  exact ⟨cell_same h2 h1, a, n, c, cell_same h2 h3, SlAt.same h4 h2⟩
theorem stab_eqs {w : World} {v : Value} {rs : List (Int × List Int)} (h : EqsAt w v rs) : Stab 0 w.heap.size (fun w => EqsAt w v rs) w := stab_lives fun _ _ h2 => by
  obtain ⟨a, c, rfl, hn, h⟩ := h
  refine ⟨a, c, rfl, hn, fun h0 => ?_⟩
  obtain ⟨b, off, rfl, hc⟩ := h h0
  exact ⟨b, off, rfl, fun i hi => (hc i hi).same h2⟩
theorem ownEqs_le {T : TypeId} {w : World} {B E : Nat} {v : Value} {rs : List (Int × List Int)} (h : OwnEqs T w B E v rs) : E ≤ w.heap.size := by
  obtain ⟨V, h⟩ := h
  exact h.le
theorem two_eqs {w w1 : World} {C : List (Addr × Value)} {R : List (World → Prop)} {a b a' b' : Addr} {x y x' y' : Value}
    (h : w1.cell? a = some x ∧ w1.cell? a' = some x' ∧ w1.cell? b = some y ∧ w1.cell? b' = some y' ∧ Kept w C R w1) (i : Nat) {v : Value} {rs : List (Int × List Int)} (hi : R[i]? = some (fun w => EqsAt w v rs)) : EqsAt w1 v rs := h.2.2.2.2.reads i _ hi
theorem two_ownEqs {w w1 : World} {C : List (Addr × Value)} {R : List (World → Prop)} {a b a' b' : Addr} {x y x' y' : Value}
    (h : w1.cell? a = some x ∧ w1.cell? a' = some x' ∧ w1.cell? b = some y ∧ w1.cell? b' = some y' ∧ Kept w C R w1) (i : Nat) {T : TypeId} {B E : Nat} {v : Value} {rs : List (Int × List Int)} (hi : R[i]? = some (fun w => OwnEqs T w B E v rs)) : OwnEqs T w1 B E v rs := h.2.2.2.2.reads i _ hi
theorem sure_eqs (T : TypeId) (v : Value) (rs : List (Int × List Int)) : Sure fun w lo hi => OwnEqs T w lo hi v rs := fun _ _ _ _ h hs hg => h.same hs hg

end Go.Proofs.Ytnbgpeoceejolaa
