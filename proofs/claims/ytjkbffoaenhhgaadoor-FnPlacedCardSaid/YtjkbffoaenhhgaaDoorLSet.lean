/-
  The model's sets of tuples: l01Empty, l01Set.put, l01Set.rel.
-/
import Derived.Test.YtjkbffoaenhhgaaDoorGSet
import Derived.Test.YtjkbffoaenhhgaaDoorApplyOp
import Derived.Test.YtjkbffoaenhhgaaDoorGBase
import Derived.Deep.AppendLies
import Derived.Deep.RegionHeld3
namespace Go.Proofs.YtjkbffoaenhhgaaDoor
open Go.RowKit

theorem info_bool : (Tryd.prog.info? 4).map (fun i => (i.zero, i.size, i.bytes)) = some (some (.bool false), 1, 1) := by kernel_rfl

theorem two_set {w1 : World} {p b c : Addr} {y z v : Value} (h : w1.cell? b = some y ∧ w1.cell? c = some z) (hb : b.block ≠ p.block) (hc : c.block ≠ p.block) : (w1.setCell p v).cell? b = some y ∧ (w1.setCell p v).cell? c = some z :=
  ⟨(World.cell?_of_block (Below.heap_setCell _ _ _ _ hb)).trans h.1, (World.cell?_of_block (Below.heap_setCell _ _ _ _ hc)).trans h.2⟩
theorem two_bel {w1 w2 : World} {b c : Addr} {y z : Value} (h : w1.cell? b = some y ∧ w1.cell? c = some z) (hb : Below w1.heap.size w1 w2) : w2.cell? b = some y ∧ w2.cell? c = some z := ⟨below_cell hb h.1, below_cell hb h.2⟩
theorem two_gr {w1 w2 : World} {row : Option Nat} {b c : Addr} {y z : Value} (h : w1.cell? b = some y ∧ w1.cell? c = some z) (hg : w1.grownBy w2 row) (hb : some b.block ≠ row) (hc : some c.block ≠ row) : w2.cell? b = some y ∧ w2.cell? c = some z :=
  ⟨(hg.cell_far b (cell_block_lt h.1) hb).trans h.1, (hg.cell_far c (cell_block_lt h.2) hc).trans h.2⟩

end Go.Proofs.YtjkbffoaenhhgaaDoor
