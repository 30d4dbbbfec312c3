/-
  The model's sets of tuples: l01Empty, l01Set.put, l01Set.rel.
-/
import Derived.Test.YtoojgaaggdnpiaaGSet
import Derived.Test.YtoojgaaggdnpiaaApplyOp
import Derived.Test.YtoojgaaggdnpiaaGBase
import Derived.Deep.AppendLies
import Derived.Deep.RegionHeld3
namespace Go.Proofs.Ytoojgaaggdnpiaa
open Go.RowKit

theorem info_bool : (Try.prog.info? 4).map (fun i => (i.zero, i.size, i.bytes)) = some (some (.bool false), 1, 1) := by kernel_rfl

/-- A set of the model's behind a pointer: its struct in block p, its truth values in block g. -/
structure LSetAt (w : World) (B p g s ar : Nat) (S : Nat → Bool) : Prop where
  box : w.heap[p]? = some (.cells #[.int .i64 s, .int .i64 ar, .slice (some ⟨g, 0, none⟩) (s ^ ar) (s ^ ar)] 183 (0, 0))
  has : w.ownsRow B 4 1 (.slice (some ⟨g, 0, none⟩) (s ^ ar) (s ^ ar)) (s ^ ar) ((List.range (s ^ ar)).map fun i => .bool (S i))
  ne : p ≠ g
  le : B ≤ p

theorem LSetAt.c0 {w : World} {B p g s ar : Nat} {S : Nat → Bool} (h : LSetAt w B p g s ar S) : w.cell? ⟨p, 0, none⟩ = some (.int .i64 s) := by rw [cell_of_row w p 0 _ _ (0, 0) h.box]; rfl
theorem LSetAt.c1 {w : World} {B p g s ar : Nat} {S : Nat → Bool} (h : LSetAt w B p g s ar S) : w.cell? ⟨p, 1, none⟩ = some (.int .i64 ar) := by rw [cell_of_row w p 1 _ _ (0, 0) h.box]; rfl
theorem LSetAt.c2 {w : World} {B p g s ar : Nat} {S : Nat → Bool} (h : LSetAt w B p g s ar S) : w.cell? ⟨p, 2, none⟩ = some (.slice (some ⟨g, 0, none⟩) (s ^ ar) (s ^ ar)) := by rw [cell_of_row w p 2 _ _ (0, 0) h.box]; rfl
theorem LSetAt.lt {w : World} {B p g s ar : Nat} {S : Nat → Bool} (h : LSetAt w B p g s ar S) : p < w.heap.size := (Array.getElem?_eq_some_iff.1 h.box).1
theorem LSetAt.at {w : World} {B p g s ar : Nat} {S : Nat → Bool} (h : LSetAt w B p g s ar S) (i : Nat) (hi : i < s ^ ar) : w.cell? ⟨g, i, none⟩ = some (.bool (S i)) := by
  rw [h.has.cellAt i (by omega)]
  simp [hi]
theorem LSetAt.below {w w' : World} {B p g s ar : Nat} {S : Nat → Bool} (h : LSetAt w B p g s ar S) (hb : Below w.heap.size w w') : LSetAt w' B p g s ar S :=
  ⟨by rw [hb.block p h.lt]; exact h.box, ownsRow_below h.has hb, h.ne, h.le⟩

set_option maxHeartbeats 1000000 in
theorem l01Empty (s ar : Nat) (h1 : 1 ≤ s) (h2 : s ≤ 4) (h4 : ar ≤ 4) (w : World) :
    Calls Try.prog 161 #[.int .i64 s, .int .i64 ar] w fun e w' => ∃ p g, e = .returned (.pointer (some ⟨p, 0, none⟩)) ∧ LSetAt w' w.heap.size p g s ar (fun _ => false) ∧ Below w.heap.size w w' := by
  obtain ⟨i0, hi, hz0, hz1, hz2⟩ := info_parts info_bool
  have hlim := (pow_le4 h1 h2 ar h4).1
  obtain ⟨N, hN⟩ : ∃ N, s ^ ar = N := ⟨_, rfl⟩
  rw [hN] at hlim
  have HN := Lib.hid hN
  clear hN
  go_enter Try.func161, Try.ntmps161
  go_wp2_with fail
  refine (l01Power s ar h1 h2 h4 _).mono ?_
  rw [HN.out]
  rintro e w2 ⟨rfl, rfl⟩
  go_wp2_with (at_make; refine wpList_make_full _ rfl _ _ 181 rfl w.heap.size 4 i0 (.bool false) 1 Try.underlying181 hi hz0 hz1 .i64 .i64 _ _ N rfl rfl rfl rfl (by rw [hz2]; omega) (by unfold maxLen; omega) (Nat.le_refl _) ?_; intro w1 hown hgrow)
  have hown0 : w1.ownsRow w.heap.size 4 1 (.slice (some ⟨w.heap.size, 0, none⟩) N N) N ((List.range N).map fun _ => .bool false) := by
    have hu : ((List.range N).map fun _ => Value.bool false) = List.replicate N (.bool false) := by
      apply List.ext_getElem?
      intro j
      by_cases h : j < N <;> simp [h]
    rw [hu, ← toList_madeCells_one]
    simpa [Value.cells] using hown
  have hlt := (hown0.lt w.heap.size rfl).2
  have hb1 : Below w.heap.size w w1 := (Below.refl _ _).grown hgrow (Nat.le_refl _) (fun _ h => by simp at h)
  have HO := Lib.hid hown0
  have HB := Lib.hid hb1
  clear hown hgrow hown0 hb1
  go_ret
  refine ⟨w1.heap.size, w.heap.size, rfl, ⟨?_, ?_, by omega, by omega⟩, HB.out.alloc HB.out.size _⟩
  · rw [HN.out]
    exact heap_alloc_new w1 _
  · rw [HN.out]
    exact HO.out.alloc _

theorem two_set {w1 : World} {p b c : Addr} {y z v : Value} (h : w1.cell? b = some y ∧ w1.cell? c = some z) (hb : b.block ≠ p.block) (hc : c.block ≠ p.block) : (w1.setCell p v).cell? b = some y ∧ (w1.setCell p v).cell? c = some z :=
  ⟨(World.cell?_of_block (Below.heap_setCell _ _ _ _ hb)).trans h.1, (World.cell?_of_block (Below.heap_setCell _ _ _ _ hc)).trans h.2⟩
theorem two_bel {w1 w2 : World} {b c : Addr} {y z : Value} (h : w1.cell? b = some y ∧ w1.cell? c = some z) (hb : Below w1.heap.size w1 w2) : w2.cell? b = some y ∧ w2.cell? c = some z := ⟨below_cell hb h.1, below_cell hb h.2⟩
theorem two_gr {w1 w2 : World} {row : Option Nat} {b c : Addr} {y z : Value} (h : w1.cell? b = some y ∧ w1.cell? c = some z) (hg : w1.grownBy w2 row) (hb : some b.block ≠ row) (hc : some c.block ≠ row) : w2.cell? b = some y ∧ w2.cell? c = some z :=
  ⟨(hg.cell_far b (cell_block_lt h.1) hb).trans h.1, (hg.cell_far c (cell_block_lt h.2) hc).trans h.2⟩

theorem LSetAt.put {w : World} {B p g s ar : Nat} {S : Nat → Bool} (h : LSetAt w B p g s ar S) (m : Nat) : LSetAt (w.setCell ⟨g, m, none⟩ (.bool true)) B p g s ar (putS S m) := by
  refine ⟨by rw [Below.heap_setCell _ _ _ _ h.ne]; exact h.box, ?_, h.ne, h.le⟩
  have h2 := (h.has.stored m (.bool true)).1
  have he : ((List.range (s ^ ar)).map fun i => Value.bool (S i)).set m (.bool true) = (List.range (s ^ ar)).map fun i => Value.bool (putS S m i) := by
    apply List.ext_getElem?
    intro j
    rw [List.getElem?_set]
    by_cases hj : m = j
    · subst hj
      by_cases hl : m < s ^ ar <;> simp [hl, putS]
    · rw [if_neg hj]
      by_cases hl : j < s ^ ar
      · simp [hl, putS, Ne.symm hj]
      · simp [hl]
  rwa [he] at h2

end Go.Proofs.Ytoojgaaggdnpiaa
