/-
  Readings of lists that stand where memory stands.
-/
import Derived.Test.YtnbgpeoceejolabOwnRels
import Derived.Test.YtnbgpeoceejolabPairs
namespace Go.Proofs.Ytnbgpeoceejolab
open Go.RowKit

theorem cell_same {w w' : World} (h2 : ∀ g, g < w.heap.size → w'.heap[g]? = w.heap[g]?) {a : Addr} {v : Value} (h : w.cell? a = some v) : w'.cell? a = some v := by
  rw [World.cell?_of_block (h2 a.block (cell_block_lt h))]; exact h
theorem RelAt.same {w w' : World} {b o : Nat} {ar : Int} {xss : List (List Int)} (h : RelAt w b o ar xss) (h2 : ∀ g, g < w.heap.size → w'.heap[g]? = w.heap[g]?) : RelAt w' b o ar xss := by
  obtain ⟨h1, a, n, c, h3, V, h4, h5⟩ := h
  exact ⟨cell_same h2 h1, a, n, c, cell_same h2 h3, V, h4.same h2, fun i hi => (h5 i hi).same h2⟩
theorem OpAt.same {w w' : World} {b o : Nat} {ar : Int} {xs : List Int} (h : OpAt w b o ar xs) (h2 : ∀ g, g < w.heap.size → w'.heap[g]? = w.heap[g]?) : OpAt w' b o ar xs := by
  obtain ⟨h1, a, n, c, h3, h4⟩ := h
  exact ⟨cell_same h2 h1, a, n, c, cell_same h2 h3, SlAt.same h4 h2⟩
theorem stab_rels {w : World} {v : Value} {rs : List (Int × List (List Int))} (h : RelsAt w v rs) : Stab 0 w.heap.size (fun w => RelsAt w v rs) w := stab_lives fun _ _ h2 => by
  obtain ⟨a, c, rfl, hn, h⟩ := h
  refine ⟨a, c, rfl, hn, fun h0 => ?_⟩
  obtain ⟨b, off, rfl, hc⟩ := h h0
  exact ⟨b, off, rfl, fun i hi => (hc i hi).same h2⟩
theorem stab_ops {w : World} {v : Value} {rs : List (Int × List Int)} (h : OpsAt w v rs) : Stab 0 w.heap.size (fun w => OpsAt w v rs) w := stab_lives fun _ _ h2 => by
  obtain ⟨a, c, rfl, hn, h⟩ := h
  refine ⟨a, c, rfl, hn, fun h0 => ?_⟩
  obtain ⟨b, off, rfl, hc⟩ := h h0
  exact ⟨b, off, rfl, fun i hi => (hc i hi).same h2⟩
theorem ownOps_le {T : TypeId} {w : World} {B E : Nat} {v : Value} {rs : List (Int × List Int)} (h : OwnOps T w B E v rs) : E ≤ w.heap.size := by
  obtain ⟨V, h⟩ := h
  exact h.le
theorem two_relsE {w w1 : World} {C : List (Addr × Value)} {R : List (World → Prop)} {a b a' b' : Addr} {x y x' y' : Value}
    (h : w1.cell? a = some x ∧ w1.cell? a' = some x' ∧ w1.cell? b = some y ∧ w1.cell? b' = some y' ∧ Kept w C R w1) (i : Nat) {v : Value} {rs : List (Int × List (List Int))} (hi : R[i]? = some (fun w => RelsAt w v rs)) : RelsAt w1 v rs := h.2.2.2.2.reads i _ hi
theorem two_ops {w w1 : World} {C : List (Addr × Value)} {R : List (World → Prop)} {a b a' b' : Addr} {x y x' y' : Value}
    (h : w1.cell? a = some x ∧ w1.cell? a' = some x' ∧ w1.cell? b = some y ∧ w1.cell? b' = some y' ∧ Kept w C R w1) (i : Nat) {v : Value} {rs : List (Int × List Int)} (hi : R[i]? = some (fun w => OpsAt w v rs)) : OpsAt w1 v rs := h.2.2.2.2.reads i _ hi
theorem two_ownRels {w w1 : World} {C : List (Addr × Value)} {R : List (World → Prop)} {a b a' b' : Addr} {x y x' y' : Value}
    (h : w1.cell? a = some x ∧ w1.cell? a' = some x' ∧ w1.cell? b = some y ∧ w1.cell? b' = some y' ∧ Kept w C R w1) (i : Nat) {B E : Nat} {v : Value} {rs : List (Int × List (List Int))} (hi : R[i]? = some (fun w => OwnRels w B E v rs)) : OwnRels w1 B E v rs := h.2.2.2.2.reads i _ hi
theorem two_ownOps {w w1 : World} {C : List (Addr × Value)} {R : List (World → Prop)} {a b a' b' : Addr} {x y x' y' : Value}
    (h : w1.cell? a = some x ∧ w1.cell? a' = some x' ∧ w1.cell? b = some y ∧ w1.cell? b' = some y' ∧ Kept w C R w1) (i : Nat) {T : TypeId} {B E : Nat} {v : Value} {rs : List (Int × List Int)} (hi : R[i]? = some (fun w => OwnOps T w B E v rs)) : OwnOps T w1 B E v rs := h.2.2.2.2.reads i _ hi

end Go.Proofs.Ytnbgpeoceejolab
