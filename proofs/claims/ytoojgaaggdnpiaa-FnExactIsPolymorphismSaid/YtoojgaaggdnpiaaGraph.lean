/-
  The graph of an operation: GraphOfOp of the model and of the program.
-/
import Derived.Test.YtoojgaaggdnpiaaDepends
import Derived.Deep.AppendLies
import Derived.Deep.RegionHeld3
namespace Go.Proofs.Ytoojgaaggdnpiaa
open Go.RowKit

/-- The rows of a graph. -/
def graphR (s r : Nat) (tab : List Int) (k : Nat) : List (List Int) := (List.range k).map fun n => digs s r n ++ [intN tab n]
theorem graphR_len (s r : Nat) (tab : List Int) (k : Nat) : (graphR s r tab k).length = k := by simp [graphR]
theorem graphR_at (s r : Nat) (tab : List Int) (k i : Nat) (h : i < k) : rowN (graphR s r tab k) i = digs s r i ++ [intN tab i] := by
  rw [rowN_at _ _ (by rw [graphR_len]; exact h)]
  simp [graphR]

/-- What GraphOfOp answers. -/
def GraphOfOpIs (size ar : Int) (tab : List Int) (x : Int) (zs : List (List Int)) (cd : Int) : Prop :=
  (¬ OpOk size ar tab ∧ x = 0 ∧ zs = [] ∧ cd = 1) ∨ (OpOk size ar tab ∧ x = ar + 1 ∧ zs = graphR size.toNat ar.toNat tab tab.length ∧ cd = 0)
theorem GraphOfOpIs.exists (size ar : Int) (tab : List Int) : ∃ x zs cd, GraphOfOpIs size ar tab x zs cd := by
  by_cases h : OpOk size ar tab
  · exact ⟨_, _, _, .inr ⟨h, rfl, rfl, rfl⟩⟩
  · exact ⟨_, _, _, .inl ⟨h, rfl, rfl, rfl⟩⟩

theorem four_below {w1 w2 : World} {a b c d : Addr} {x y z u : Value} (h : w1.cell? a = some x ∧ w1.cell? b = some y ∧ w1.cell? c = some z ∧ w1.cell? d = some u) (hb : Below w1.heap.size w1 w2) :
    w2.cell? a = some x ∧ w2.cell? b = some y ∧ w2.cell? c = some z ∧ w2.cell? d = some u := ⟨below_cell hb h.1, below_cell hb h.2.1, below_cell hb h.2.2.1, below_cell hb h.2.2.2⟩
theorem four_grown {w1 w2 : World} {row : Option Nat} {a b c d : Addr} {x y z u : Value} (h : w1.cell? a = some x ∧ w1.cell? b = some y ∧ w1.cell? c = some z ∧ w1.cell? d = some u) (hg : w1.grownBy w2 row)
    (ha : some a.block ≠ row) (hb : some b.block ≠ row) (hc : some c.block ≠ row) (hd : some d.block ≠ row) :
    w2.cell? a = some x ∧ w2.cell? b = some y ∧ w2.cell? c = some z ∧ w2.cell? d = some u :=
  ⟨(hg.cell_far a (cell_block_lt h.1) ha).trans h.1, (hg.cell_far b (cell_block_lt h.2.1) hb).trans h.2.1, (hg.cell_far c (cell_block_lt h.2.2.1) hc).trans h.2.2.1, (hg.cell_far d (cell_block_lt h.2.2.2) hd).trans h.2.2.2⟩

theorem own_dig {w : World} {B B' : Nat} {s r k : Nat} {v : Value} (h : OwnRow w B' v (digs s r k)) (hB : B ≤ B') : w.ownsRow B 2 1 v r ((digs s r k).map (Value.int .i64)) := by
  have := h.mono hB
  unfold OwnRow at this
  rwa [digs_len] at this
theorem own_far {w : World} {B e sz n : Nat} {v : Value} {xs : List Value} (h : w.ownsRow B e sz v n xs) (p : Nat) (hp : p < B) : some p ≠ v.ownBlock := fun e' => by have := (h.lt p e'.symm).1; omega
theorem news_below {w w' : World} {ad : Addr} {xs : List Value} (h : ∀ j u, xs[j]? = some u → w.cell? (ad.add j) = some u) (hb : Below w.heap.size w w') : ∀ j u, xs[j]? = some u → w'.cell? (ad.add j) = some u := fun j u hu => below_cell hb (h j u hu)

theorem three_below {w1 w2 : World} {b c d : Addr} {y z u : Value} (h : w1.cell? b = some y ∧ w1.cell? c = some z ∧ w1.cell? d = some u) (hb : Below w1.heap.size w1 w2) :
    w2.cell? b = some y ∧ w2.cell? c = some z ∧ w2.cell? d = some u := ⟨below_cell hb h.1, below_cell hb h.2.1, below_cell hb h.2.2⟩
theorem three_grown {w1 w2 : World} {row : Option Nat} {b c d : Addr} {y z u : Value} (h : w1.cell? b = some y ∧ w1.cell? c = some z ∧ w1.cell? d = some u) (hg : w1.grownBy w2 row)
    (hb : some b.block ≠ row) (hc : some c.block ≠ row) (hd : some d.block ≠ row) :
    w2.cell? b = some y ∧ w2.cell? c = some z ∧ w2.cell? d = some u :=
  ⟨(hg.cell_far b (cell_block_lt h.1) hb).trans h.1, (hg.cell_far c (cell_block_lt h.2.1) hc).trans h.2.1, (hg.cell_far d (cell_block_lt h.2.2) hd).trans h.2.2⟩
theorem three_set {w1 : World} {p b c d : Addr} {y z u v : Value} (h : w1.cell? b = some y ∧ w1.cell? c = some z ∧ w1.cell? d = some u)
    (hb : b.block ≠ p.block) (hc : c.block ≠ p.block) (hd : d.block ≠ p.block) :
    (w1.setCell p v).cell? b = some y ∧ (w1.setCell p v).cell? c = some z ∧ (w1.setCell p v).cell? d = some u :=
  ⟨(World.cell?_of_block (Below.heap_setCell _ _ _ _ hb)).trans h.1, (World.cell?_of_block (Below.heap_setCell _ _ _ _ hc)).trans h.2.1, (World.cell?_of_block (Below.heap_setCell _ _ _ _ hd)).trans h.2.2⟩

end Go.Proofs.Ytoojgaaggdnpiaa
