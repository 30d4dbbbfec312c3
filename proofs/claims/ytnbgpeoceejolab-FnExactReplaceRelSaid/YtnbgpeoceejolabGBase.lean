/-  What a value reads as in a world: a slice by its cells, a row of integers, a grid of rows; how this is kept by later worlds. No program is named here. Memory that a call has made: rows of integers and grids of rows, each in a block of its own; what stores into some blocks leave. The laws' copies of an argument: toInt64S, toInt64SS, toRel: rows in memory of their own. The laws' measures of an argument: szInt64S, szInt64SS, szRel. The laws' comparisons: eqInt64S, eqInt64SS, eqRel; and szRel. What stands while a law goes on: nothing that was there before the call has turned; some cells hold what they held; some readings hold. The laws' marks: markInt64S, markInt64SS, markRel write numbers into memory of their own; heldInt64S, heldInt64SS, heldRel find them again. What stands while marks are written: readings that look at blocks of an interval alone, and cells outside of what is written. A relation that grows by appended rows, in a box; what calls answer that make a relation. The laws' calls over rows and grids in the same words: copies, comparisons, measures, marks. A law's statement that hands copies of two arguments to a function and keeps the relation that it answers in a new box: what holds behind it, whichever order was drawn. -/
import Derived.WalkKit
import Derived.ProofKit
import Derived.WalkSpells
import Derived.WalkLawsBesides
import Derived.OpenShut
import Derived.Deep.Slices
import Derived.Deep.Matrix
import Derived.Deep.QuietTactic
import Derived.BigQuiet
import Derived.Lib.SmallJoins
import Derived.Lib.Hide
import Derived.Maps.AppendAt
import Derived.Test.YtnbgpeoceejolabProg
import Derived.Deep.RegionHeld3
import Derived.RangeFuncBox
namespace Go.Proofs.Ytnbgpeoceejolab
open Go.RowKit

/-- v is a slice of n cells; the i-th holds V i. -/
def SlAt (w : World) (v : Value) (n : Nat) (V : Nat → Value) : Prop :=
  ∃ (a : Option Addr) (c : Nat), v = .slice a n c ∧ n ≤ 9223372036854775807 ∧ (0 < n → ∃ b off, a = some ⟨b, off, none⟩ ∧ ∀ i, i < n → w.cell? ⟨b, off + i, none⟩ = some (V i))

/-- the k-th integer of a list, the k-th row of a list of rows: names that the walk's simp does not look behind -/
def intN (xs : List Int) (k : Nat) : Int := xs.getD k 0
def rowN (xss : List (List Int)) (k : Nat) : List Int := xss.getD k []

theorem intN_at (xs : List Int) (k : Nat) (h : k < xs.length) : intN xs k = xs[k] := by simp [intN, List.getD, h]
theorem rowN_at (xss : List (List Int)) (k : Nat) (h : k < xss.length) : rowN xss k = xss[k] := by simp [rowN, List.getD, h]

/-- v is a slice of the integers xs. -/
def RowAt (w : World) (v : Value) (xs : List Int) : Prop := SlAt w v xs.length (fun i => .int .i64 (intN xs i))

/-- v is a slice of slices of integers. -/
def GridAt (w : World) (v : Value) (xss : List (List Int)) : Prop :=
  ∃ V : Nat → Value, SlAt w v xss.length V ∧ ∀ i, i < xss.length → RowAt w (V i) (rowN xss i)

theorem cell_block_lt {w : World} {a : Addr} {v : Value} (h : w.cell? a = some v) : a.block < w.heap.size := by
  unfold World.cell? at h
  by_cases hb : a.block < w.heap.size
  · exact hb
  · simp [Array.getElem?_eq_none (by omega : w.heap.size ≤ a.block)] at h

theorem below_cell {w w' : World} (hb : Below w.heap.size w w') {a : Addr} {v : Value} (h : w.cell? a = some v) : w'.cell? a = some v := by
  rw [hb.cell (cell_block_lt h)]; exact h

theorem SlAt.mono {w w' : World} {v : Value} {n : Nat} {V : Nat → Value} (h : SlAt w v n V) (k : ∀ a u, w.cell? a = some u → w'.cell? a = some u) : SlAt w' v n V := by
  obtain ⟨a, c, rfl, hn, h⟩ := h
  refine ⟨a, c, rfl, hn, fun h0 => ?_⟩
  obtain ⟨b, off, rfl, hc⟩ := h h0
  exact ⟨b, off, rfl, fun i hi => k _ _ (hc i hi)⟩

theorem SlAt.below {w w' : World} {v : Value} {n : Nat} {V : Nat → Value} (h : SlAt w v n V) (hb : Below w.heap.size w w') : SlAt w' v n V :=
  h.mono fun _ _ => below_cell hb

theorem RowAt.below {w w' : World} {v : Value} {xs : List Int} (h : RowAt w v xs) (hb : Below w.heap.size w w') : RowAt w' v xs := SlAt.below h hb

theorem GridAt.below {w w' : World} {v : Value} {xss : List (List Int)} (h : GridAt w v xss) (hb : Below w.heap.size w w') : GridAt w' v xss := by
  obtain ⟨V, h1, h2⟩ := h
  exact ⟨V, h1.below hb, fun i hi => (h2 i hi).below hb⟩

theorem bcell {W w1 : World} (hb : Below W.heap.size W w1) : (∀ b o, b < W.heap.size → w1.cell? ⟨b, o, none⟩ = W.cell? ⟨b, o, none⟩) ∧ (∀ b o, b < W.heap.size → w1.frozen? ⟨b, o, none⟩ = W.frozen? ⟨b, o, none⟩) :=
  ⟨fun b o h => hb.cell (p := ⟨b, o, none⟩) h, fun b o h => hb.frozen (p := ⟨b, o, none⟩) h⟩

theorem RowAt.nil (w : World) : RowAt w (.slice none 0 0) [] := ⟨none, 0, rfl, by simp, fun h => absurd h (by simp)⟩

theorem GridAt.nil (w : World) : GridAt w (.slice none 0 0) [] := ⟨fun _ => .slice none 0 0, ⟨none, 0, rfl, by simp, fun h => absurd h (by simp)⟩, fun i hi => absurd hi (by simp)⟩

/-- Nothing but draws lies between two worlds. -/
def QW (w w' : World) : Prop := ∃ n, w' = w.drewN n
theorem QW.refl (w : World) : QW w w := ⟨0, rfl⟩
theorem QW.trans {a b c : World} (h : QW a b) (k : QW b c) : QW a c := by
  obtain ⟨n, rfl⟩ := h
  obtain ⟨m, rfl⟩ := k
  exact ⟨n + m, World.drewN_drewN _ _ _⟩
theorem QW.drewN {a b : World} (h : QW a b) (n : Nat) : QW a (b.drewN n) := h.trans ⟨n, rfl⟩
theorem QW.drew {a b : World} (h : QW a b) : QW a b.drew := h.trans ⟨1, rfl⟩
theorem QW.below {a b : World} (h : QW a b) (B : Nat) : Below B a b := by
  obtain ⟨n, rfl⟩ := h
  exact ⟨rfl, rfl, rfl, Nat.le_refl _, fun _ _ => rfl⟩
theorem QW.cell {a b : World} (h : QW a b) {p : Addr} {v : Value} (hc : a.cell? p = some v) : b.cell? p = some v := by
  obtain ⟨n, rfl⟩ := h
  exact hc
theorem QW.row {a b : World} (h : QW a b) {v : Value} {xs : List Int} (hr : RowAt a v xs) : RowAt b v xs := hr.below (h.below _)
theorem QW.grid {a b : World} (h : QW a b) {v : Value} {xss : List (List Int)} (hr : GridAt a v xss) : GridAt b v xss := hr.below (h.below _)

/-- A contract of a call that only draws, as a region that draws wants it. -/
theorem QW.calls {P : Program} {f : FuncId} {args : Array Value} {w : World} {n : Nat} {v : Value}
    (h : Calls P f args (w.drewN n) fun e w' => e = .returned v ∧ QW (w.drewN n) w') : Calls P f args (w.drewN n) fun e w'' => e = .returned v ∧ ∃ m, w'' = w.drewN m :=
  h.mono fun _ _ ⟨he, m, hm⟩ => ⟨he, n + m, by rw [hm, World.drewN_drewN]⟩
theorem QW.calls_same {P : Program} {f : FuncId} {args : Array Value} {w : World} {n : Nat} {v : Value}
    (h : Calls P f args (w.drewN n) fun e w' => e = .returned v ∧ w.drewN n = w') : Calls P f args (w.drewN n) fun e w'' => e = .returned v ∧ ∃ m, w'' = w.drewN m :=
  h.mono fun _ _ ⟨he, hm⟩ => ⟨he, n, hm.symm⟩

theorem ret_int {k : IntKind} {a b : Int} (h : a = b) : Ending.returned (.int k a) = .returned (.int k b) := by rw [h]
theorem ret_bool {a b : Bool} (h : a = b) : Ending.returned (.bool a) = .returned (.bool b) := by rw [h]

end Go.Proofs.Ytnbgpeoceejolab

namespace Go.Proofs.Ytnbgpeoceejolab
open Go.RowKit

/-- v is a row of its own: the integers xs in a block from B on. -/
def OwnRow (w : World) (B : Nat) (v : Value) (xs : List Int) : Prop := w.ownsRow B 2 1 v xs.length (xs.map (Value.int .i64))

/-- Blocks outside S hold what they held. -/
structure Only (S : Nat → Prop) (w w' : World) : Prop where
  os : w'.os = w.os
  tape : w'.tape = w.tape
  output : w'.output = w.output
  size : w.heap.size ≤ w'.heap.size
  block : ∀ k, k < w.heap.size → ¬ S k → w'.heap[k]? = w.heap[k]?

theorem Only.refl (S : Nat → Prop) (w : World) : Only S w w := ⟨rfl, rfl, rfl, Nat.le_refl _, fun _ _ _ => rfl⟩
theorem Only.trans {S : Nat → Prop} {a b c : World} (h : Only S a b) (k : Only S b c) : Only S a c :=
  ⟨k.os.trans h.os, k.tape.trans h.tape, k.output.trans h.output, Nat.le_trans h.size k.size, fun i hi hs => (k.block i (Nat.lt_of_lt_of_le hi h.size) hs).trans (h.block i hi hs)⟩
theorem Only.mono {S T : Nat → Prop} {a b : World} (h : Only S a b) (hst : ∀ k, S k → T k) : Only T a b := ⟨h.os, h.tape, h.output, h.size, fun k hk ht => h.block k hk fun hs => ht (hst k hs)⟩
theorem Only.below {S : Nat → Prop} {w w' : World} (h : Only S w w') {B : Nat} (hB : B ≤ w.heap.size) (hS : ∀ k, S k → B ≤ k) : Below B w w' :=
  ⟨h.os, h.tape, h.output, h.size, fun k hk => h.block k (by omega) fun hs => by have := hS k hs; omega⟩
theorem Only.drewN {S : Nat → Prop} {w w' : World} (h : Only S w w') (n : Nat) : Only S w (w'.drewN n) := ⟨h.os, h.tape, h.output, h.size, h.block⟩
theorem Only.drew {S : Nat → Prop} {w w' : World} (h : Only S w w') : Only S w w'.drew := ⟨h.os, h.tape, h.output, h.size, h.block⟩
theorem Only.setCell {S : Nat → Prop} {a w : World} (h : Only S a w) {p : Addr} (hp : S p.block) (u : Value) : Only S a (w.setCell p u) :=
  h.trans ⟨rfl, rfl, rfl, by simp [World.setCell], fun k _ hk => Below.heap_setCell _ _ _ _ (fun e => hk (e ▸ hp))⟩
theorem Only.of_grownBy {w w' : World} {row : Option Nat} (h : w.grownBy w' row) : Only (fun k => some k = row) w w' := ⟨h.os, h.tape, h.output, h.size, fun k hk hs => h.block k hk hs⟩
theorem Only.heap_size {S : Nat → Prop} {w w' : World} (h : Only S w w') : w.heap.size ≤ w'.heap.size := h.size

theorem ownsRow_same {w w' : World} {B e s n : Nat} {v : Value} {xs : List Value} (h : w.ownsRow B e s v n xs) (hg : ∀ g, v.ownBlock = some g → w'.heap[g]? = w.heap[g]?) : w'.ownsRow B e s v n xs := by
  refine ⟨h.1, ?_⟩
  rcases h.2 with hn | ⟨g, cap, cur, rfl, hb, hgg, rest⟩
  · exact .inl hn
  · exact .inr ⟨g, cap, cur, rfl, hb, by rw [hg g rfl]; exact hgg, rest⟩

theorem ownsRow_mono {w : World} {B B' e s n : Nat} {v : Value} {xs : List Value} (h : w.ownsRow B e s v n xs) (hB : B' ≤ B) : w.ownsRow B' e s v n xs := by
  refine ⟨h.1, ?_⟩
  rcases h.2 with hn | ⟨g, cap, cur, rfl, hb, rest⟩
  · exact .inl hn
  · exact .inr ⟨g, cap, cur, rfl, by omega, rest⟩

theorem ownsRow_below {w w' : World} {B e s n : Nat} {v : Value} {xs : List Value} (h : w.ownsRow B e s v n xs) (hb : Below w.heap.size w w') : w'.ownsRow B e s v n xs :=
  ownsRow_same h fun g hg => hb.block g (h.lt g hg).2

theorem OwnRow.below {w w' : World} {B : Nat} {v : Value} {xs : List Int} (h : OwnRow w B v xs) (hb : Below w.heap.size w w') : OwnRow w' B v xs := ownsRow_below h hb
theorem OwnRow.mono {w : World} {B B' : Nat} {v : Value} {xs : List Int} (h : OwnRow w B v xs) (hB : B' ≤ B) : OwnRow w B' v xs := ownsRow_mono h hB
theorem OwnRow.lt {w : World} {B : Nat} {v : Value} {xs : List Int} (h : OwnRow w B v xs) : ∀ g, v.ownBlock = some g → B ≤ g ∧ g < w.heap.size := World.ownsRow.lt h
theorem OwnRow.only {S : Nat → Prop} {w w' : World} {B : Nat} {v : Value} {xs : List Int} (h : OwnRow w B v xs) (hs : Only S w w') (hn : ∀ g, v.ownBlock = some g → ¬ S g) : OwnRow w' B v xs :=
  ownsRow_same h fun g hg => hs.block g (h.lt g hg).2 (hn g hg)

/-- The parts of an owned row. -/
theorem ownsRow_parts {w : World} {B e n : Nat} {v : Value} {xs : List Value} (h : w.ownsRow B e 1 v n xs) :
    (v = .slice none 0 0 ∧ n = 0 ∧ xs = []) ∨ ∃ g c, v = .slice (some ⟨g, 0, none⟩) n c ∧ B ≤ g ∧ g < w.heap.size ∧ n ≤ c ∧ c ≤ maxLen ∧ xs.length = n ∧ ∀ i u, xs[i]? = some u → w.cell? ⟨g, i, none⟩ = some u := by
  have hl := h.1
  rcases h.2 with ⟨rfl, hn⟩ | ⟨g, c, cur, rfl, hb, hgg, h1, h2, h3, h4⟩
  · refine .inl ⟨rfl, hn, ?_⟩
    subst hn
    simpa using hl
  · refine .inr ⟨g, c, rfl, hb, (Array.getElem?_eq_some_iff.1 hgg).1, h1, h2, by omega, fun i u hu => ?_⟩
    have hi : i < n * 1 := by
      have := (List.getElem?_eq_some_iff.1 hu).1
      omega
    rw [h.cellAt i hi]
    exact hu

theorem OwnRow.rowAt {w : World} {B : Nat} {v : Value} {xs : List Int} (h : OwnRow w B v xs) : RowAt w v xs := by
  rcases ownsRow_parts h with ⟨rfl, hn, _⟩ | ⟨g, c, rfl, _, _, h1, h2, _, hc⟩
  · obtain rfl : xs = [] := by simpa using hn
    exact RowAt.nil w
  · refine ⟨some ⟨g, 0, none⟩, c, rfl, by unfold maxLen at h2; omega, fun _ => ⟨g, 0, rfl, fun i hi => ?_⟩⟩
    rw [Nat.zero_add]
    exact hc i _ (by simp [intN_at xs i hi, hi])

/-- v is a grid of its own: the rows xss, each in a block of its own in [B, E). -/
structure OwnGridV (w : World) (B E : Nat) (v : Value) (n : Nat) (V : Nat → Value) (xss : Nat → List Int) : Prop where
  outer : w.ownsRow B 45 1 v n ((List.range n).map V)
  le : E ≤ w.heap.size
  top : ∀ g, v.ownBlock = some g → g < E
  rows : ∀ i, i < n → OwnRow w B (V i) (xss i)
  hi : ∀ i, i < n → ∀ g, (V i).ownBlock = some g → g < E
  apart : ∀ i j, i < j → j < n → ∀ g, (V i).ownBlock = some g → (V j).ownBlock ≠ some g

def OwnGrid (w : World) (B E : Nat) (v : Value) (xss : List (List Int)) : Prop := ∃ V, OwnGridV w B E v xss.length V (rowN xss)

theorem range_map_at {V : Nat → Value} {n i : Nat} (h : i < n) : ((List.range n).map V)[i]? = some (V i) := by simp [h]

theorem OwnGrid.gridAt {w : World} {B E : Nat} {v : Value} {xss : List (List Int)} (h : OwnGrid w B E v xss) : GridAt w v xss := by
  obtain ⟨V, h⟩ := h
  refine ⟨V, ?_, fun i hi => (h.rows i hi).rowAt⟩
  rcases ownsRow_parts h.outer with ⟨rfl, hn, _⟩ | ⟨g, c, rfl, _, _, h1, h2, _, hc⟩
  · exact ⟨none, 0, by rw [hn], by omega, fun h0 => by omega⟩
  · refine ⟨some ⟨g, 0, none⟩, c, rfl, by unfold maxLen at h2; omega, fun _ => ⟨g, 0, rfl, fun i hi => ?_⟩⟩
    rw [Nat.zero_add]
    exact hc i _ (range_map_at hi)

/-- The block of the outer slice is none of its rows'. -/
theorem OwnGridV.top_ne {w : World} {B E n : Nat} {v : Value} {V : Nat → Value} {xss : Nat → List Int} (h : OwnGridV w B E v n V xss) (i : Nat) (hi : i < n) (g : Nat) (hg : v.ownBlock = some g) : (V i).ownBlock ≠ some g := by
  intro hV
  rcases h.outer.2 with ⟨rfl, _⟩ | ⟨g1, c, cur, rfl, _, hgg, _⟩
  · simp [Value.ownBlock] at hg
  · simp only [Value.ownBlock, Option.some.injEq] at hg
    subst hg
    rcases (h.rows i hi).2 with ⟨hv, _⟩ | ⟨g2, c2, cur2, hv, _, hgg2, _⟩
    · rw [hv] at hV
      simp [Value.ownBlock] at hV
    · rw [hv] at hV
      simp only [Value.ownBlock, Option.some.injEq] at hV
      subst hV
      rw [hgg] at hgg2
      simp at hgg2

theorem OwnGrid.below {w w' : World} {B E : Nat} {v : Value} {xss : List (List Int)} (h : OwnGrid w B E v xss) (hb : Below w.heap.size w w') : OwnGrid w' B E v xss := by
  obtain ⟨V, h⟩ := h
  exact ⟨V, ownsRow_below h.outer hb, Nat.le_trans h.le hb.size, h.top, fun i hi => (h.rows i hi).below hb, h.hi, h.apart⟩

theorem OwnGrid.only {S : Nat → Prop} {w w' : World} {B E : Nat} {v : Value} {xss : List (List Int)} (h : OwnGrid w B E v xss) (hs : Only S w w') (hn : ∀ k, B ≤ k → k < E → ¬ S k) : OwnGrid w' B E v xss := by
  obtain ⟨V, h⟩ := h
  exact ⟨V, ownsRow_same h.outer fun g hg => hs.block g (h.outer.lt g hg).2 (hn g (h.outer.lt g hg).1 (h.top g hg)), Nat.le_trans h.le hs.size, h.top,
    fun i hi => (h.rows i hi).only hs fun g hg => hn g ((h.rows i hi).lt g hg).1 (h.hi i hi g hg), h.hi, h.apart⟩

theorem OwnGrid.nil (w : World) (B E : Nat) (hE : E ≤ w.heap.size) : OwnGrid w B E (.slice none 0 0) [] :=
  ⟨fun _ => .slice none 0 0, World.ownsRow_nil w B _ 1, hE, fun g hg => by simp [Value.ownBlock] at hg, fun i hi => absurd hi (by simp), fun i hi => absurd hi (by simp), fun i j _ hj => absurd hj (by simp)⟩

/-- Of n cells the first k hold F, the others still z. -/
def upto (n k : Nat) (F : Nat → Value) (z : Value) : List Value := (List.range n).map fun i => if i < k then F i else z

theorem upto_zero (n : Nat) (F : Nat → Value) (z : Value) : upto n 0 F z = List.replicate n z := by
  apply List.ext_getElem?
  intro j
  by_cases h : j < n <;> simp [upto, h]
theorem upto_all (n : Nat) (F : Nat → Value) (z : Value) : upto n n F z = (List.range n).map F := by
  unfold upto
  exact List.map_congr_left fun i hi => by rw [if_pos (List.mem_range.1 hi)]
theorem upto_set (n k : Nat) (F : Nat → Value) (z : Value) (u : Value) (hu : u = F k) : (upto n k F z).set k u = upto n (k + 1) F z := by
  subst hu
  unfold upto
  apply List.ext_getElem?
  intro j
  rw [List.getElem?_set]
  by_cases hj : k = j
  · subst hj
    by_cases h : k < n <;> simp [h]
  · rw [if_neg hj]
    by_cases h : j < n
    · by_cases h1 : j < k
      · simp [h, h1, show j < k + 1 by omega]
      · simp [h, h1, show ¬ j < k + 1 by omega]
    · simp [h]
theorem upto_at (n k j : Nat) (F : Nat → Value) (z : Value) (h : j < n) : (upto n k F z)[j]? = some (if j < k then F j else z) := by simp [upto, h]
theorem upto_congr {n k : Nat} {F G : Nat → Value} {z : Value} (h : ∀ i, i < k → F i = G i) : upto n k F z = upto n k G z := by
  unfold upto
  refine List.map_congr_left fun i _ => ?_
  by_cases hi : i < k
  · rw [if_pos hi, if_pos hi, h i hi]
  · rw [if_neg hi, if_neg hi]
theorem ints_range (xs : List Int) : xs.map (Value.int .i64) = (List.range xs.length).map fun i => Value.int .i64 (intN xs i) := by
  apply List.ext_getElem?
  intro j
  by_cases h : j < xs.length
  · simp [h, intN_at xs j h]
  · simp [h]

theorem OwnRow.rowIn {w : World} {B : Nat} {v : Value} {xs : List Int} (h : OwnRow w B v xs) : v = .slice none 0 0 ∧ xs = [] ∨ ∃ g c, v = .slice (some ⟨g, 0, none⟩) xs.length c ∧ B ≤ g ∧ g < w.heap.size ∧ xs.length ≤ c ∧ c ≤ maxLen := by
  rcases ownsRow_parts h with ⟨rfl, hn, _⟩ | ⟨g, c, rfl, h0, h3, h1, h2, _, hc⟩
  · exact .inl ⟨rfl, by simpa using hn⟩
  · exact .inr ⟨g, c, rfl, h0, h3, h1, h2⟩

end Go.Proofs.Ytnbgpeoceejolab

namespace Go.Proofs.Ytnbgpeoceejolab
open Go.RowKit

theorem info_int : (Try.prog.info? 2).map (fun i => (i.zero, i.size, i.bytes)) = some (some (.int .i64 0), 1, 8) := by kernel_rfl
theorem info_row : (Try.prog.info? 45).map (fun i => (i.zero, i.size, i.bytes)) = some (some (.slice none 0 0), 1, 24) := by kernel_rfl

/-- A row of its own, made by the call; nothing that was there has turned. -/
def MadeRow (w : World) (xs : List Int) (e : Ending) (w' : World) : Prop := ∃ a n c, e = .returned (.slice a n c) ∧ OwnRow w' w.heap.size (.slice a n c) xs ∧ Below w.heap.size w w'

set_option maxHeartbeats 400000 in
theorem toRow (v : Value) (xs : List Int) (w : World) (h : RowAt w v xs) (hl : xs.length ≤ 1048576) :
    Calls Try.prog 18 #[v] w (MadeRow w xs) := by
  obtain ⟨a, c, rfl, hn, hc⟩ := h
  obtain ⟨i0, hi, hz0, hz1, hz2⟩ := info_parts info_int
  have HC := Lib.hid hc
  clear hc
  go_enter Try.func18, Try.ntmps18
  go_wp2_with (at_make; refine wpList_make_full _ rfl _ _ 45 rfl w.heap.size 2 i0 (.int .i64 0) 1 Try.underlying45 hi hz0 hz1 .i64 .i64 _ _ xs.length rfl rfl rfl rfl (by rw [hz2]; omega) (by unfold maxLen; omega) (Nat.le_refl _) ?_; intro w1 hown hgrow)
  have hu := upto_zero xs.length (fun i => .int .i64 (intN xs i)) (.int .i64 0)
  have hown0 : w1.ownsRow w.heap.size 2 1 (.slice (some ⟨w.heap.size, 0, none⟩) xs.length xs.length) xs.length (upto xs.length 0 (fun i => .int .i64 (intN xs i)) (.int .i64 0)) := by
    rw [hu, ← toList_madeCells_one]
    simpa [Value.cells] using hown
  have hb0 : Below w.heap.size w w1 := (Below.refl _ _).grown hgrow (Nat.le_refl _) (fun _ h => by simp at h)
  clear hu hown hgrow
  go_loopw [4] (fun i wr => ∃ k : Nat, k ≤ xs.length ∧ i = .int .i64 k ∧ wr.ownsRow w.heap.size 2 1 (.slice (some ⟨w.heap.size, 0, none⟩) xs.length xs.length) xs.length (upto xs.length k (fun i => .int .i64 (intN xs i)) (.int .i64 0)) ∧ Below w.heap.size w wr) (fun i _ => xs.length - (intOf i).toNat)
  case atStart => exact ⟨0, Nat.zero_le _, rfl, hown0, hb0⟩
  case round =>
    obtain ⟨k, hk, rfl, hown, hbel⟩ := hrel
    by_cases hlt : k < xs.length
    · obtain ⟨b, off, ha, hcell⟩ := HC.out (by omega)
      subst ha
      have hc1 := below_cell hbel (hcell k hlt)
      have hc2 := hown.cellAt k (by omega)
      rw [upto_at _ _ _ _ _ hlt, if_neg (by omega)] at hc2
      have hf2 := hown.frozenAt k
      have hst := Lib.hid (hown.stored k (.int .i64 (intN xs k)))
      have hbl := Lib.hid hbel
      clear hcell hown hbel hown0 hb0
      go_wp2
      go_roundw
      case rel => exact ⟨k + 1, by omega, by go_num, by have h := hst.out.1; rwa [upto_set _ _ _ _ _ rfl] at h, hbl.out.setCell (Nat.le_refl _) _⟩
      case measure => simp [intOf]; omega
    · obtain rfl : k = xs.length := by omega
      clear hown0 hb0
      rw [upto_all, ← ints_range] at hown
      have H := Lib.hid hown
      have HB := Lib.hid hbel
      clear hown hbel
      go_wp2
      go_ret
      exact ⟨_, _, _, rfl, H.out, HB.out⟩

/-- A grid of which k rows are made. -/
structure GridPart (w wr : World) (n k : Nat) (U : Nat → Value) (xss : List (List Int)) : Prop where
  outer : wr.ownsRow w.heap.size 45 1 (.slice (some ⟨w.heap.size, 0, none⟩) n n) n (upto n k U (.slice none 0 0))
  rows : ∀ i, i < k → OwnRow wr (w.heap.size + 1) (U i) (rowN xss i)
  apart : ∀ i j, i < j → j < k → ∀ g, (U i).ownBlock = some g → (U j).ownBlock ≠ some g
  below : Below w.heap.size w wr
  size : w.heap.size + 1 ≤ wr.heap.size

theorem GridPart.step {w wr w2 : World} {n k : Nat} {U : Nat → Value} {xss : List (List Int)} {v : Value} (h : GridPart w wr n k U xss)
    (ho : OwnRow w2 wr.heap.size v (rowN xss k)) (hb : Below wr.heap.size wr w2) :
    GridPart w (w2.setCell ⟨w.heap.size, k, none⟩ v) n (k + 1) (fun i => if i = k then v else U i) xss := by
  have hs := hb.size
  have h1 := (ownsRow_below h.outer hb).stored k v
  have hU : upto n k U (.slice none 0 0) = upto n k (fun i => if i = k then v else U i) (.slice none 0 0) := upto_congr fun i hi => by rw [if_neg (by omega)]
  refine ⟨?_, ?_, ?_, ?_, ?_⟩
  · have := h1.1
    rwa [hU, upto_set _ _ _ _ _ (by simp)] at this
  · intro i hi
    have hk : ∀ (u : Value) (B : Nat) (ys : List Int), OwnRow w2 B u ys → w.heap.size + 1 ≤ B → OwnRow (w2.setCell ⟨w.heap.size, k, none⟩ v) (w.heap.size + 1) u ys := by
      intro u B ys hu hB
      refine OwnRow.mono (ownsRow_same hu fun g hg => ?_) hB
      have := (hu.lt g hg).1
      exact Below.heap_setCell _ _ _ _ (by show g ≠ w.heap.size; omega)
    by_cases hik : i = k
    · subst hik
      simp only [if_true]
      exact hk _ _ _ ho h.size
    · simp only [if_neg hik]
      exact hk _ _ _ ((h.rows i (by omega)).below hb) (Nat.le_refl _)
  · intro i j hij hj g hg
    by_cases hjk : j = k
    · subst hjk
      simp only [show ¬ i = j by omega, if_false, if_true] at hg ⊢
      intro hg2
      have a1 := ((h.rows i hij).lt g hg).2
      have a2 := (ho.lt g hg2).1
      omega
    · simp only [show ¬ i = k by omega, hjk, if_false] at hg ⊢
      exact h.apart i j hij (by omega) g hg
  · exact (h.below.trans (hb.mono (by have := h.size; omega))).setCell (Nat.le_refl _) _
  · have := h.size
    simp [World.setCell]
    omega

theorem GridPart.grid {w wr : World} {U : Nat → Value} {xss : List (List Int)} (h : GridPart w wr xss.length xss.length U xss) :
    OwnGrid wr w.heap.size wr.heap.size (.slice (some ⟨w.heap.size, 0, none⟩) xss.length xss.length) xss := by
  have ho := h.outer
  rw [upto_all] at ho
  exact ⟨U, ho, Nat.le_refl _, fun g hg => (ho.lt g hg).2, fun i hi => (h.rows i hi).mono (by omega), fun i hi g hg => ((h.rows i hi).lt g hg).2, h.apart⟩

theorem row_len_le (xss : List (List Int)) (k : Nat) (h : k < xss.length) : xss.length + (rowN xss k).length ≤ xss.length + (xss.map List.length).sum := by
  rw [rowN_at xss k h]
  have h1 : xss.map List.length = (xss.map List.length).take k ++ xss[k].length :: (xss.map List.length).drop (k + 1) := by
    have := List.take_append_drop k (xss.map List.length)
    rw [List.drop_eq_getElem_cons (by simpa using h)] at this
    simpa using this.symm
  rw [h1, List.sum_append, List.sum_cons]
  omega

/-- A grid of its own, made by the call; nothing that was there has turned. -/
def MadeGrid (w : World) (xss : List (List Int)) (e : Ending) (w' : World) : Prop := ∃ a n c, e = .returned (.slice a n c) ∧ OwnGrid w' w.heap.size w'.heap.size (.slice a n c) xss ∧ Below w.heap.size w w'

set_option maxHeartbeats 400000 in
theorem toGrid (v : Value) (xss : List (List Int)) (w : World) (h : GridAt w v xss) (hl : xss.length + (xss.map List.length).sum ≤ 1048576) :
    Calls Try.prog 79 #[v] w (MadeGrid w xss) := by
  obtain ⟨V, ⟨a, c, rfl, hn, hc⟩, hV⟩ := h
  obtain ⟨i0, hi, hz0, hz1, hz2⟩ := info_parts info_row
  have HC := Lib.hid hc
  have HV := Lib.hid hV
  clear hc hV
  go_enter Try.func79, Try.ntmps79
  go_wp2_with (at_make; refine wpList_make_full _ rfl _ _ 79 rfl w.heap.size 45 i0 (.slice none 0 0) 1 Try.underlying79 hi hz0 hz1 .i64 .i64 _ _ xss.length rfl rfl rfl rfl (by rw [hz2]; omega) (by unfold maxLen; omega) (Nat.le_refl _) ?_; intro w1 hown hgrow)
  have hp0 : GridPart w w1 xss.length 0 (fun _ => .slice none 0 0) xss := by
    refine ⟨?_, fun i hi => absurd hi (by omega), fun i j _ hj => absurd hj (by omega), (Below.refl _ _).grown hgrow (Nat.le_refl _) (fun _ h => by simp at h), ?_⟩
    · rw [upto_zero, ← toList_madeCells_one]
      simpa [Value.cells] using hown
    · exact (hown.lt _ rfl).2
  clear hown hgrow
  go_loopw [4] (fun i wr => ∃ (k : Nat) (U : Nat → Value), k ≤ xss.length ∧ i = .int .i64 k ∧ GridPart w wr xss.length k U xss) (fun i _ => xss.length - (intOf i).toNat)
  case atStart => exact ⟨0, _, Nat.zero_le _, rfl, hp0⟩
  case round =>
    obtain ⟨k, U, hk, rfl, hp⟩ := hrel
    clear hp0
    by_cases hlt : k < xss.length
    · obtain ⟨b, off, ha, hcell⟩ := HC.out (by omega)
      subst ha
      have hc1 := below_cell hp.below (hcell k hlt)
      have hrow := Lib.hid ((HV.out k hlt).below hp.below)
      have hlen := row_len_le xss k hlt
      have HP := Lib.hid hp
      clear hcell hp
      go_wp2_with fail
      refine (toRow _ _ _ hrow.out (by omega)).mono ?_
      rintro e w2 ⟨a2, n2, c2, rfl, ho, hb2⟩
      have hst := HP.out.step ho hb2
      have hown := ownsRow_below HP.out.outer hb2
      have hc2 := hown.cellAt k (by omega)
      rw [upto_at _ _ _ _ _ hlt, if_neg (by omega)] at hc2
      have hf2 := hown.frozenAt k
      have HS := Lib.hid hst
      clear hown hst ho hb2
      go_wp2
      go_roundw
      case rel => exact ⟨k + 1, _, by omega, by go_num, HS.out⟩
      case measure => simp [intOf]; omega
    · obtain rfl : k = xss.length := by omega
      have HP := Lib.hid hp
      clear hp
      go_wp2
      go_ret
      exact ⟨_, _, _, rfl, HP.out.grid, HP.out.below⟩

theorem OwnGrid.mono {w : World} {B B' E : Nat} {v : Value} {xss : List (List Int)} (h : OwnGrid w B E v xss) (hB : B' ≤ B) : OwnGrid w B' E v xss := by
  obtain ⟨V, h⟩ := h
  exact ⟨V, ownsRow_mono h.outer hB, h.le, h.top, fun i hi => (h.rows i hi).mono hB, h.hi, h.apart⟩

theorem OwnGrid.block {w w' : World} {B E : Nat} {v : Value} {xss : List (List Int)} (h : OwnGrid w B E v xss) (hs : w.heap.size ≤ w'.heap.size) (hg : ∀ g, B ≤ g → w'.heap[g]? = w.heap[g]?) : OwnGrid w' B E v xss := by
  obtain ⟨V, h⟩ := h
  exact ⟨V, ownsRow_same h.outer fun g hv => hg g (h.outer.lt g hv).1, Nat.le_trans h.le hs, h.top, fun i hi => ownsRow_same (h.rows i hi) fun g hv => hg g ((h.rows i hi).lt g hv).1, h.hi, h.apart⟩

theorem OwnGrid.stored {w : World} {B E : Nat} {v : Value} {xss : List (List Int)} (h : OwnGrid w B E v xss) {p : Addr} (hp : p.block < B) (u : Value) : OwnGrid (w.setCell p u) B E v xss :=
  h.block (by simp [World.setCell]) fun _ hg => Below.heap_setCell _ _ _ _ (by omega)

theorem OwnGrid.full {w : World} {B E : Nat} {v : Value} {xss : List (List Int)} (h : OwnGrid w B E v xss) : OwnGrid w B w.heap.size v xss := by
  obtain ⟨V, h⟩ := h
  exact ⟨V, h.outer, Nat.le_refl _, fun g hg => (h.outer.lt g hg).2, h.rows, fun i hi g hg => ((h.rows i hi).lt g hg).2, h.apart⟩

/-- A relation of its own. -/
def MadeRel (w : World) (ar : Int) (xss : List (List Int)) (e : Ending) (w' : World) : Prop :=
  ∃ a n c, e = .returned (.agg #[.int .i64 ar, .slice a n c]) ∧ OwnGrid w' w.heap.size w'.heap.size (.slice a n c) xss ∧ Below w.heap.size w w'

set_option maxHeartbeats 400000 in
theorem toRel (ar : Int) (a : Option Addr) (n c : Nat) (xss : List (List Int)) (w : World) (h : GridAt w (.slice a n c) xss) (hl : xss.length + (xss.map List.length).sum ≤ 1048576) :
    Calls Try.prog 58 #[.agg #[.int .i64 ar, .slice a n c]] w (MadeRel w ar xss) := by
  have hH := Lib.hid h
  clear h
  go_enter Try.func58, Try.ntmps58
  go_wp2_with fail
  refine (toGrid _ _ _ (hH.out.below ((((Below.refl _ _).alloc (Nat.le_refl _) _).alloc (by simp) _).alloc (by simp; omega) _)) hl).mono ?_
  rintro e w2 ⟨a2, n2, c2, rfl, ho, hb2⟩
  obtain ⟨hc, hf⟩ := bcell hb2
  have hz : w.heap.size + 3 ≤ w2.heap.size := by have := hb2.size; simp at this; omega
  have HO := Lib.hid ho
  have HB := Lib.hid hb2
  clear ho hb2
  go_wp2
  refine bodyPost_ret (v := .agg #[.int .i64 ar, .slice a2 n2 c2]) (by simp [results, Try.results58, go_sem, hc]) rfl ⟨a2, n2, c2, rfl, ?_, ?_⟩
  · exact ((((HO.out.stored (by simp) _).stored (by simp) _).stored (by simp) _).mono (by simp; omega)).full
  · exact ((((((((Below.refl _ _).alloc (Nat.le_refl _) _).alloc (by simp) _).alloc (by simp; omega) _).trans (HB.out.mono (by simp; omega))).setCell (by simp; omega) _).setCell (by simp) _).setCell (by simp) _)

end Go.Proofs.Ytnbgpeoceejolab

namespace Go.Proofs.Ytnbgpeoceejolab
open Go.RowKit

/-- what the measures give: what is left of a bound, or -1 -/
def szF (total : Nat) (left : Int) : Int := if left < total then -1 else left - total
theorem szF_no {t : Nat} {l : Int} (h : l < t) : szF t l = -1 := by unfold szF; rw [if_pos h]
theorem szF_yes {t : Nat} {l : Int} (h : (t : Int) ≤ l) : szF t l = l - t := by unfold szF; rw [if_neg (by omega)]

def gridSize (xss : List (List Int)) : Nat := xss.length + (xss.map List.length).sum

def partSum (xss : List (List Int)) (k : Nat) : Nat := ((xss.take k).map List.length).sum

theorem partSum_zero (xss : List (List Int)) : partSum xss 0 = 0 := by simp [partSum]

theorem partSum_succ (xss : List (List Int)) (k : Nat) (h : k < xss.length) : partSum xss (k + 1) = partSum xss k + (rowN xss k).length := by
  unfold partSum
  rw [List.take_succ_eq_append_getElem h, rowN_at xss k h, List.map_append, List.sum_append]
  simp

theorem partSum_le (xss : List (List Int)) (k : Nat) : partSum xss k ≤ (xss.map List.length).sum := by
  unfold partSum
  have h : (xss.map List.length).sum = ((xss.take k).map List.length).sum + ((xss.drop k).map List.length).sum := by
    rw [← List.sum_append, ← List.map_append, List.take_append_drop]
  omega

theorem partSum_all (xss : List (List Int)) : partSum xss xss.length = (xss.map List.length).sum := by simp [partSum]

set_option maxHeartbeats 400000 in
theorem szRow (v : Value) (xs : List Int) (left : Int) (w : World) (h : RowAt w v xs) (h0 : 0 ≤ left) (h1 : left ≤ 1048576) :
    Calls Try.prog 78 #[v, .int .i64 left] w fun e w' => e = .returned (.int .i64 (szF xs.length left)) ∧ w = w' := by
  obtain ⟨a, c, rfl, hn, -⟩ := h
  by_cases hl : left < xs.length
  · have hf := Lib.hid (szF_no hl)
    have hl' : left - xs.length < 0 := by omega
    go_enter Try.func78, Try.ntmps78
    go_wp2
    go_ret
    exact ⟨ret_int hf.out.symm, rfl⟩
  · have hf := Lib.hid (szF_yes (t := xs.length) (l := left) (by omega))
    have hl' : ¬ left - xs.length < 0 := by omega
    go_enter Try.func78, Try.ntmps78
    go_wp2
    go_ret
    exact ⟨ret_int hf.out.symm, rfl⟩

set_option maxHeartbeats 400000 in
theorem szGrid (v : Value) (xss : List (List Int)) (left : Int) (w : World) (h : GridAt w v xss) (h0 : 0 ≤ left) (h1 : left ≤ 1048576) :
    Calls Try.prog 77 #[v, .int .i64 left] w fun e w' => e = .returned (.int .i64 (szF (gridSize xss) left)) ∧ w = w' := by
  obtain ⟨V, ⟨a, c, rfl, hn, hc⟩, hV⟩ := h
  by_cases hl : left < xss.length
  · have hf := Lib.hid (szF_no (t := gridSize xss) (l := left) (by unfold gridSize; omega))
    have hl' : left - xss.length < 0 := by omega
    clear hV hc
    go_enter Try.func77, Try.ntmps77
    go_wp2
    go_ret
    exact ⟨ret_int hf.out.symm, rfl⟩
  · have hl' : ¬ left - xss.length < 0 := by omega
    have HV := Lib.hid hV
    have HC := Lib.hid hc
    clear hV hc
    go_enter Try.func77, Try.ntmps77
    go_wp2
    go_loop [1, 5] (fun l i => ∃ k : Nat, k ≤ xss.length ∧ i = .int .i64 k ∧ (xss.length : Int) + partSum xss k ≤ left ∧ l = .int .i64 (left - xss.length - partSum xss k)) (fun _ i => xss.length - (intOf i).toNat)
    case atStart => exact ⟨0, Nat.zero_le _, rfl, by rw [partSum_zero]; omega, by rw [partSum_zero]; simp⟩
    case round =>
      obtain ⟨k, hk, rfl, hp, rfl⟩ := hrel
      by_cases hlt : k < xss.length
      · obtain ⟨b, off, ha, hcell⟩ := HC.out (by omega)
        subst ha
        have hk1 := hcell k hlt
        have hrow := Lib.hid (HV.out k hlt)
        have hs := Lib.hid (partSum_succ xss k hlt)
        have hle := partSum_le xss (k + 1)
        clear hcell
        by_cases hov : left - xss.length - partSum xss k < (rowN xss k).length
        · have hf := Lib.hid (szF_no (t := gridSize xss) (l := left) (by have := hs.out; unfold gridSize; omega))
          have hg := Lib.hid (szF_no (t := (rowN xss k).length) (l := left - xss.length - partSum xss k) hov)
          go_wp2_with (go_at_call 78; refine (szRow _ _ _ _ hrow.out (by omega) (by omega)).mono ?_; rw [hg.out]; rintro e w' ⟨rfl, rfl⟩)
          go_ret
          exact ⟨ret_int hf.out.symm, rfl⟩
        · have hg := Lib.hid (szF_yes (t := (rowN xss k).length) (l := left - xss.length - partSum xss k) (by omega))
          have hov' : ¬ left - xss.length - partSum xss k - (rowN xss k).length < 0 := by omega
          go_wp2_with (go_at_call 78; refine (szRow _ _ _ _ hrow.out (by omega) (by omega)).mono ?_; rw [hg.out]; rintro e w' ⟨rfl, rfl⟩)
          go_round
          case rel => exact ⟨k + 1, by omega, by go_num, by rw [hs.out]; omega, by rw [hs.out]; go_num⟩
          case measure => simp [intOf]; omega
      · obtain rfl : k = xss.length := by omega
        have hpa := partSum_all xss
        have hf := Lib.hid (szF_yes (t := gridSize xss) (l := left) (by unfold gridSize; omega))
        have hq : Hid (left - xss.length - partSum xss xss.length = left - gridSize xss) := Lib.hid (by unfold gridSize; omega)
        clear hpa
        go_wp2
        go_ret
        exact ⟨ret_int (by rw [hf.out, hq.out]), rfl⟩

end Go.Proofs.Ytnbgpeoceejolab

namespace Go.Proofs.Ytnbgpeoceejolab
open Go.RowKit

def eqB {α : Type} [DecidableEq α] (x y : α) : Bool := decide (x = y)
theorem eqB_yes {α : Type} [DecidableEq α] {x y : α} (h : x = y) : eqB x y = true := by simp [eqB, h]
theorem eqB_no {α : Type} [DecidableEq α] {x y : α} (h : x ≠ y) : eqB x y = false := by simp [eqB, h]
theorem eqB_true {α : Type} [DecidableEq α] {x y : α} (h : eqB x y = true) : x = y := by simpa [eqB] using h

theorem row_ext {xs ys : List Int} (hl : xs.length = ys.length) (h : ∀ i, i < xs.length → intN xs i = intN ys i) : xs = ys := by
  apply List.ext_getElem hl
  intro i h1 h2
  have := h i h1
  rwa [intN_at xs i h1, intN_at ys i h2] at this

theorem grid_ext {xs ys : List (List Int)} (hl : xs.length = ys.length) (h : ∀ i, i < xs.length → rowN xs i = rowN ys i) : xs = ys := by
  apply List.ext_getElem hl
  intro i h1 h2
  have := h i h1
  rwa [rowN_at xs i h1, rowN_at ys i h2] at this

set_option maxHeartbeats 400000 in
theorem eqRow (v1 v2 : Value) (xs ys : List Int) (w : World) (h1 : RowAt w v1 xs) (h2 : RowAt w v2 ys) :
    Calls Try.prog 20 #[v1, v2] w fun e w' => e = .returned (.bool (eqB xs ys)) ∧ QW w w' := by
  obtain ⟨a1, c1, rfl, hn1, hc1⟩ := h1
  obtain ⟨a2, c2, rfl, hn2, hc2⟩ := h2
  have HC1 := Lib.hid hc1
  have HC2 := Lib.hid hc2
  clear hc1 hc2
  by_cases hl : xs.length = ys.length
  · rw [← hl] at hn2 HC2 ⊢
    have HL := Lib.hid hl
    clear hl
    go_enter Try.func20, Try.ntmps20
    go_wp2
    go_loopw [5] (fun i wr => ∃ k : Nat, k ≤ xs.length ∧ i = .int .i64 k ∧ (∀ j, j < k → intN xs j = intN ys j) ∧ QW w wr) (fun i _ => xs.length - (intOf i).toNat)
    case atStart => exact ⟨0, Nat.zero_le _, rfl, fun j hj => absurd hj (Nat.not_lt_zero _), QW.refl _⟩
    case round =>
      obtain ⟨k, hk, rfl, hall, hq⟩ := hrel
      have HA := Lib.hid hall
      have HQ := Lib.hid hq
      clear hall hq
      by_cases hlt : k < xs.length
      · obtain ⟨b1, off1, ha1, hcell1⟩ := HC1.out (by omega)
        subst ha1
        obtain ⟨b2, off2, ha2, hcell2⟩ := HC2.out (by omega)
        subst ha2
        have hx1 := HQ.out.cell (hcell1 k hlt)
        have hx2 := HQ.out.cell (hcell2 k hlt)
        have hlt' : (k : Int) < (xs.length : Int) := by omega
        clear hcell1 hcell2
        by_cases he : intN xs k = intN ys k
        · have HE := Lib.hid he
          rw [← he] at hx2
          clear he
          go_wp2
          go_quiet (fail)
          go_wp2
          go_roundw
          case rel =>
            refine ⟨k + 1, by omega, by go_num, fun j hj => ?_, HQ.out.drewN _⟩
            by_cases hjk : j = k
            · subst hjk; exact HE.out
            · exact HA.out j (by omega)
          case measure => simp [intOf]; omega
        · have HF := Lib.hid (eqB_no (x := xs) (y := ys) (fun e => he (by rw [e])))
          have hne : (intN xs k == intN ys k) = false := by simpa using he
          go_wp2
          go_quiet (fail)
          go_wp2
          go_ret
          exact ⟨ret_bool HF.out.symm, HQ.out.drewN _⟩
      · obtain rfl : k = xs.length := by omega
        have HF := Lib.hid (eqB_yes (row_ext HL.out HA.out))
        go_wp2
        go_ret
        exact ⟨ret_bool HF.out.symm, HQ.out⟩
  · have HF := Lib.hid (eqB_no (x := xs) (y := ys) (fun e => hl (by rw [e])))
    have hlb : ((xs.length : Int) == ys.length) = false := beq_eq_false_iff_ne.2 (by omega)
    go_enter Try.func20, Try.ntmps20
    go_wp2
    go_ret
    exact ⟨ret_bool HF.out.symm, QW.refl _⟩

theorem eqRow' (v1 v2 : Value) (xs ys : List Int) (b : Bool) (w : World) (h1 : RowAt w v1 xs) (h2 : RowAt w v2 ys) (hb : eqB xs ys = b) :
    Calls Try.prog 20 #[v1, v2] w fun e w' => e = .returned (.bool b) ∧ QW w w' := hb ▸ eqRow v1 v2 xs ys w h1 h2

set_option maxHeartbeats 400000 in
theorem eqGrid (v1 v2 : Value) (xs ys : List (List Int)) (w : World) (h1 : GridAt w v1 xs) (h2 : GridAt w v2 ys) :
    Calls Try.prog 82 #[v1, v2] w fun e w' => e = .returned (.bool (eqB xs ys)) ∧ QW w w' := by
  obtain ⟨V1, ⟨a1, c1, rfl, hn1, hc1⟩, hV1⟩ := h1
  obtain ⟨V2, ⟨a2, c2, rfl, hn2, hc2⟩, hV2⟩ := h2
  have HC1 := Lib.hid hc1
  have HC2 := Lib.hid hc2
  have HV1 := Lib.hid hV1
  have HV2 := Lib.hid hV2
  clear hc1 hc2 hV1 hV2
  by_cases hl : xs.length = ys.length
  · rw [← hl] at hn2 HC2 HV2 ⊢
    have HL := Lib.hid hl
    clear hl
    go_enter Try.func82, Try.ntmps82
    go_wp2
    go_loopw [5] (fun i wr => ∃ k : Nat, k ≤ xs.length ∧ i = .int .i64 k ∧ (∀ j, j < k → rowN xs j = rowN ys j) ∧ QW w wr) (fun i _ => xs.length - (intOf i).toNat)
    case atStart => exact ⟨0, Nat.zero_le _, rfl, fun j hj => absurd hj (Nat.not_lt_zero _), QW.refl _⟩
    case round =>
      obtain ⟨k, hk, rfl, hall, hq⟩ := hrel
      have HA := Lib.hid hall
      have HQ := Lib.hid hq
      clear hall hq
      by_cases hlt : k < xs.length
      · obtain ⟨b1, off1, ha1, hcell1⟩ := HC1.out (by omega)
        subst ha1
        obtain ⟨b2, off2, ha2, hcell2⟩ := HC2.out (by omega)
        subst ha2
        have hx1 := HQ.out.cell (hcell1 k hlt)
        have hx2 := HQ.out.cell (hcell2 k hlt)
        have hlt' : (k : Int) < (xs.length : Int) := by omega
        clear hcell1 hcell2
        by_cases he : rowN xs k = rowN ys k
        · have HE := Lib.hid he
          have HB := Lib.hid (eqB_yes he)
          clear he
          go_wp2
          go_quiet ((go_at_call 20; exact QW.calls (eqRow' _ _ _ _ _ _ ((HQ.out.drewN _).row (HV1.out k hlt)) ((HQ.out.drewN _).row (HV2.out k hlt)) HB.out)))
          go_wp2
          go_roundw
          case rel =>
            refine ⟨k + 1, by omega, by go_num, fun j hj => ?_, HQ.out.drewN _⟩
            by_cases hjk : j = k
            · subst hjk; exact HE.out
            · exact HA.out j (by omega)
          case measure => simp [intOf]; omega
        · have HF := Lib.hid (eqB_no (x := xs) (y := ys) (fun e => he (by rw [e])))
          have HB := Lib.hid (eqB_no he)
          clear he
          go_wp2
          go_quiet ((go_at_call 20; exact QW.calls (eqRow' _ _ _ _ _ _ ((HQ.out.drewN _).row (HV1.out k hlt)) ((HQ.out.drewN _).row (HV2.out k hlt)) HB.out)))
          go_wp2
          go_ret
          exact ⟨ret_bool HF.out.symm, HQ.out.drewN _⟩
      · obtain rfl : k = xs.length := by omega
        have HF := Lib.hid (eqB_yes (grid_ext HL.out HA.out))
        go_wp2
        go_ret
        exact ⟨ret_bool HF.out.symm, HQ.out⟩
  · have HF := Lib.hid (eqB_no (x := xs) (y := ys) (fun e => hl (by rw [e])))
    have hlb : ((xs.length : Int) == ys.length) = false := beq_eq_false_iff_ne.2 (by omega)
    go_enter Try.func82, Try.ntmps82
    go_wp2
    go_ret
    exact ⟨ret_bool HF.out.symm, QW.refl _⟩

theorem eqGrid' (v1 v2 : Value) (xs ys : List (List Int)) (b : Bool) (w : World) (h1 : GridAt w v1 xs) (h2 : GridAt w v2 ys) (hb : eqB xs ys = b) :
    Calls Try.prog 82 #[v1, v2] w fun e w' => e = .returned (.bool b) ∧ QW w w' := hb ▸ eqGrid v1 v2 xs ys w h1 h2

/-- what a relation is compared by -/
def eqR (a : Int) (xs : List (List Int)) (b : Int) (ys : List (List Int)) : Bool := eqB a b && eqB xs ys

set_option maxHeartbeats 400000 in
theorem eqRel (x : Int) (a1 : Option Addr) (n1 c1 : Nat) (xs : List (List Int)) (y : Int) (a2 : Option Addr) (n2 c2 : Nat) (ys : List (List Int)) (w : World) (h1 : GridAt w (.slice a1 n1 c1) xs) (h2 : GridAt w (.slice a2 n2 c2) ys) :
    Calls Try.prog 67 #[.agg #[.int .i64 x, .slice a1 n1 c1], .agg #[.int .i64 y, .slice a2 n2 c2]] w fun e w' => e = .returned (.bool (eqR x xs y ys)) ∧ Below w.heap.size w w' := by
  have H1 := Lib.hid h1
  have H2 := Lib.hid h2
  clear h1 h2
  by_cases hxy : x = y
  · subst hxy
    have HF : Hid (eqR x xs x ys = eqB xs ys) := by simp [Hid, eqR, eqB]
    cases hb : eqB xs ys with
    | true =>
      have HB := Lib.hid hb
      clear hb
      go_enter Try.func67, Try.ntmps67
      go_wp2_with fail
      have hbw := ((Below.refl w.heap.size w).alloc (Nat.le_refl _) (.cells #[.int .i64 x, .slice a1 n1 c1] 81)).alloc (by simp) (.cells #[.int .i64 x, .slice a2 n2 c2] 81)
      refine (eqGrid' _ _ _ _ _ _ (H1.out.below hbw) (H2.out.below hbw) HB.out).mono ?_
      rintro e w2 ⟨rfl, hq⟩
      have HQ := Lib.hid (hbw.trans (hq.below _))
      clear hq hbw
      go_wp2
      go_ret
      exact ⟨ret_bool (by rw [HF.out, HB.out]), HQ.out⟩
    | false =>
      have HB := Lib.hid hb
      clear hb
      go_enter Try.func67, Try.ntmps67
      go_wp2_with fail
      have hbw := ((Below.refl w.heap.size w).alloc (Nat.le_refl _) (.cells #[.int .i64 x, .slice a1 n1 c1] 81)).alloc (by simp) (.cells #[.int .i64 x, .slice a2 n2 c2] 81)
      refine (eqGrid' _ _ _ _ _ _ (H1.out.below hbw) (H2.out.below hbw) HB.out).mono ?_
      rintro e w2 ⟨rfl, hq⟩
      have HQ := Lib.hid (hbw.trans (hq.below _))
      clear hq hbw
      go_wp2
      go_ret
      exact ⟨ret_bool (by rw [HF.out, HB.out]), HQ.out⟩
  · have HF : Hid (eqR x xs y ys = false) := by simp [Hid, eqR, eqB, hxy]
    have hne : (x == y) = false := beq_eq_false_iff_ne.2 hxy
    go_enter Try.func67, Try.ntmps67
    go_wp2
    go_ret
    exact ⟨ret_bool HF.out.symm, ((Below.refl _ _).alloc (Nat.le_refl _) _).alloc (by simp) _⟩

theorem eqRel' (x : Int) (a1 : Option Addr) (n1 c1 : Nat) (xs : List (List Int)) (y : Int) (a2 : Option Addr) (n2 c2 : Nat) (ys : List (List Int)) (b : Bool) (w : World) (h1 : GridAt w (.slice a1 n1 c1) xs) (h2 : GridAt w (.slice a2 n2 c2) ys) (hb : eqR x xs y ys = b) :
    Calls Try.prog 67 #[.agg #[.int .i64 x, .slice a1 n1 c1], .agg #[.int .i64 y, .slice a2 n2 c2]] w fun e w' => e = .returned (.bool b) ∧ Below w.heap.size w w' := hb ▸ eqRel x a1 n1 c1 xs y a2 n2 c2 ys w h1 h2

theorem eqR_same (x : Int) (xs : List (List Int)) : eqR x xs x xs = true := by simp [eqR, eqB]

set_option maxHeartbeats 400000 in
theorem szRel (x : Int) (a : Option Addr) (n c : Nat) (xs : List (List Int)) (left : Int) (w : World) (h : GridAt w (.slice a n c) xs) (h0 : 0 ≤ left) (h1 : left ≤ 1048576) :
    Calls Try.prog 55 #[.agg #[.int .i64 x, .slice a n c], .int .i64 left] w fun e w' => e = .returned (.int .i64 (szF (gridSize xs) left)) ∧ Below w.heap.size w w' := by
  have H := Lib.hid h
  clear h
  by_cases hl : left < gridSize xs
  · have HF := Lib.hid (szF_no hl)
    go_enter Try.func55, Try.ntmps55
    go_wp2_with fail
    have hbw := (Below.refl w.heap.size w).alloc (Nat.le_refl _) (.cells #[.int .i64 x, .slice a n c] 88)
    refine (szGrid _ _ _ _ (H.out.below hbw) h0 h1).mono ?_
    rw [HF.out]
    rintro e w2 ⟨rfl, rfl⟩
    have HQ := Lib.hid hbw
    clear hbw
    go_wp2
    go_ret
    exact ⟨ret_int HF.out.symm, HQ.out⟩
  · have HF := Lib.hid (szF_yes (t := gridSize xs) (l := left) (by omega))
    have hl' : ¬ left - gridSize xs < 0 := by omega
    go_enter Try.func55, Try.ntmps55
    go_wp2_with fail
    have hbw := (Below.refl w.heap.size w).alloc (Nat.le_refl _) (.cells #[.int .i64 x, .slice a n c] 88)
    refine (szGrid _ _ _ _ (H.out.below hbw) h0 h1).mono ?_
    rw [HF.out]
    rintro e w2 ⟨rfl, rfl⟩
    have HQ := Lib.hid hbw
    clear hbw
    go_wp2
    go_ret
    exact ⟨ret_int HF.out.symm, HQ.out⟩

end Go.Proofs.Ytnbgpeoceejolab

namespace Go.Proofs.Ytnbgpeoceejolab
open Go.RowKit

/-- A reading that lives on where nothing that is there turns. -/
def Lives (p : World → Prop) : Prop := ∀ w w' : World, Below w.heap.size w w' → p w → p w'

theorem lives_grid (v : Value) (xss : List (List Int)) : Lives (fun w => GridAt w v xss) := fun _ _ hb h => h.below hb
theorem lives_row (v : Value) (xs : List Int) : Lives (fun w => RowAt w v xs) := fun _ _ hb h => h.below hb
theorem lives_own (B E : Nat) (v : Value) (xss : List (List Int)) : Lives (fun w => OwnGrid w B E v xss) := fun _ _ hb h => h.below hb

structure Kept (w : World) (C : List (Addr × Value)) (R : List (World → Prop)) (w' : World) : Prop where
  bel : Below w.heap.size w w'
  cells : ∀ (i : Nat) (x : Addr × Value), C[i]? = some x → w'.cell? x.1 = some x.2
  lives : ∀ (i : Nat) (p : World → Prop), R[i]? = some p → Lives p
  reads : ∀ (i : Nat) (p : World → Prop), R[i]? = some p → p w'

theorem Kept.start (w : World) : Kept w [] [] w := ⟨Below.refl _ _, fun i x h => by simp at h, fun i p h => by simp at h, fun i p h => by simp at h⟩

theorem Kept.below {w w1 w2 : World} {C : List (Addr × Value)} {R : List (World → Prop)} (h : Kept w C R w1) (hb : Below w1.heap.size w1 w2) : Kept w C R w2 :=
  ⟨h.bel.trans (hb.mono h.bel.size), fun i x hx => below_cell hb (h.cells i x hx), h.lives, fun i p hp => h.lives i p hp _ _ hb (h.reads i p hp)⟩

theorem Kept.drew {w w1 : World} {C : List (Addr × Value)} {R : List (World → Prop)} (h : Kept w C R w1) : Kept w C R w1.drew := h.below ((QW.refl _).drew.below _)
theorem Kept.drewN {w w1 : World} {C : List (Addr × Value)} {R : List (World → Prop)} (h : Kept w C R w1) (n : Nat) : Kept w C R (w1.drewN n) := h.below ((QW.refl _).drewN n |>.below _)

theorem QW.bel {a b : World} (h : QW a b) : Below a.heap.size a b := h.below _

/-- A struct of two cells is boxed. -/
theorem Kept.box {w w1 : World} {C : List (Addr × Value)} {R : List (World → Prop)} (h : Kept w C R w1) (B : Nat) (hB : B = w1.heap.size) (x y : Value) (t : TypeId) :
    Kept w ((⟨B, 0, none⟩, x) :: (⟨B, 1, none⟩, y) :: C) R (w1.alloc (.cells #[x, y] t)) := by
  subst hB
  have hb : Below w1.heap.size w1 (w1.alloc (.cells #[x, y] t)) := (Below.refl _ _).alloc (Nat.le_refl _) _
  have h' := h.below hb
  refine ⟨h'.bel, fun i u hu => ?_, h'.lives, h'.reads⟩
  match i with
  | 0 => obtain rfl := Option.some.inj hu; simp
  | 1 => obtain rfl := Option.some.inj hu; simp
  | i + 2 => exact h'.cells i u (by simpa using hu)

theorem Kept.read {w w1 : World} {C : List (Addr × Value)} {R : List (World → Prop)} (h : Kept w C R w1) {p : World → Prop} (hl : Lives p) (hp : p w1) : Kept w C (p :: R) w1 := by
  refine ⟨h.bel, h.cells, fun i q hq => ?_, fun i q hq => ?_⟩
  · match i with
    | 0 => obtain rfl := Option.some.inj hq; exact hl
    | i + 1 => exact h.lives i q (by simpa using hq)
  · match i with
    | 0 => obtain rfl := Option.some.inj hq; exact hp
    | i + 1 => exact h.reads i q (by simpa using hq)

theorem Kept.cell {w w1 : World} {C : List (Addr × Value)} {R : List (World → Prop)} (h : Kept w C R w1) {a : Addr} {v : Value} (hc : w1.cell? a = some v) : Kept w ((a, v) :: C) R w1 := by
  refine ⟨h.bel, fun i u hu => ?_, h.lives, h.reads⟩
  match i with
  | 0 => obtain rfl := Option.some.inj hu; exact hc
  | i + 1 => exact h.cells i u (by simpa using hu)
theorem Kept.own {w w1 : World} {C : List (Addr × Value)} {R : List (World → Prop)} (h : Kept w C R w1) (i : Nat) {B E : Nat} {v : Value} {xss : List (List Int)} (hi : R[i]? = some (fun w => OwnGrid w B E v xss)) : OwnGrid w1 B E v xss := h.reads i _ hi
theorem Kept.c {w w1 : World} {C : List (Addr × Value)} {R : List (World → Prop)} (h : Kept w C R w1) (i : Nat) {a : Addr} {v : Value} (hi : C[i]? = some (a, v)) : w1.cell? a = some v := h.cells i _ hi
theorem Kept.grid {w w1 : World} {C : List (Addr × Value)} {R : List (World → Prop)} (h : Kept w C R w1) (i : Nat) {v : Value} {xss : List (List Int)} (hi : R[i]? = some (fun w => GridAt w v xss)) : GridAt w1 v xss := h.reads i _ hi
theorem Kept.row {w w1 : World} {C : List (Addr × Value)} {R : List (World → Prop)} (h : Kept w C R w1) (i : Nat) {v : Value} {xs : List Int} (hi : R[i]? = some (fun w => RowAt w v xs)) : RowAt w1 v xs := h.reads i _ hi

/-- Two boxes held beside all that is kept: what a region that draws its order is told. -/
theorem Kept.two {w w1 : World} {C : List (Addr × Value)} {R : List (World → Prop)} (h : Kept w C R w1) (i j : Nat) {a b a' b' : Addr} {x y x' y' : Value}
    (h1 : C[i]? = some (a, x)) (h2 : C[i + 1]? = some (a', x')) (h3 : C[j]? = some (b, y)) (h4 : C[j + 1]? = some (b', y')) :
    w1.cell? a = some x ∧ w1.cell? a' = some x' ∧ w1.cell? b = some y ∧ w1.cell? b' = some y' ∧ Kept w C R w1 := ⟨h.c i h1, h.c (i + 1) h2, h.c j h3, h.c (j + 1) h4, h⟩
theorem two_kept {w w1 : World} {C : List (Addr × Value)} {R : List (World → Prop)} {a b a' b' : Addr} {x y x' y' : Value}
    (h : w1.cell? a = some x ∧ w1.cell? a' = some x' ∧ w1.cell? b = some y ∧ w1.cell? b' = some y' ∧ Kept w C R w1) : Kept w C R w1 := h.2.2.2.2
theorem two_grid {w w1 : World} {C : List (Addr × Value)} {R : List (World → Prop)} {a b a' b' : Addr} {x y x' y' : Value}
    (h : w1.cell? a = some x ∧ w1.cell? a' = some x' ∧ w1.cell? b = some y ∧ w1.cell? b' = some y' ∧ Kept w C R w1) (i : Nat) {v : Value} {xss : List (List Int)} (hi : R[i]? = some (fun w => GridAt w v xss)) : GridAt w1 v xss := h.2.2.2.2.grid i hi
theorem two_below {w w1 w2 : World} {C : List (Addr × Value)} {R : List (World → Prop)} {a b a' b' : Addr} {x y x' y' : Value}
    (h : w1.cell? a = some x ∧ w1.cell? a' = some x' ∧ w1.cell? b = some y ∧ w1.cell? b' = some y' ∧ Kept w C R w1) (hb : Below w1.heap.size w1 w2) :
    w2.cell? a = some x ∧ w2.cell? a' = some x' ∧ w2.cell? b = some y ∧ w2.cell? b' = some y' ∧ Kept w C R w2 :=
  ⟨below_cell hb h.1, below_cell hb h.2.1, below_cell hb h.2.2.1, below_cell hb h.2.2.2.1, h.2.2.2.2.below hb⟩

end Go.Proofs.Ytnbgpeoceejolab

namespace Go.Proofs.Ytnbgpeoceejolab
open Go.RowKit

/-- Of n cells the first k hold F, the others Z. -/
def mix (n k : Nat) (F Z : Nat → Value) : List Value := (List.range n).map fun i => if i < k then F i else Z i
theorem mix_zero (n : Nat) (F Z : Nat → Value) : mix n 0 F Z = (List.range n).map Z := by unfold mix; exact List.map_congr_left fun i _ => by simp
theorem mix_all (n : Nat) (F Z : Nat → Value) : mix n n F Z = (List.range n).map F := by unfold mix; exact List.map_congr_left fun i hi => by rw [if_pos (List.mem_range.1 hi)]
theorem mix_set (n k : Nat) (F Z : Nat → Value) (u : Value) (hu : u = F k) : (mix n k F Z).set k u = mix n (k + 1) F Z := by
  subst hu
  unfold mix
  apply List.ext_getElem?
  intro j
  rw [List.getElem?_set]
  by_cases hj : k = j
  · subst hj
    by_cases h : k < n <;> simp [h]
  · rw [if_neg hj]
    by_cases h : j < n
    · by_cases h1 : j < k
      · simp [h, h1, show j < k + 1 by omega]
      · simp [h, h1, show ¬ j < k + 1 by omega]
    · simp [h]
theorem mix_at (n k j : Nat) (F Z : Nat → Value) (h : j < n) : (mix n k F Z)[j]? = some (if j < k then F j else Z j) := by simp [mix, h]

/-- n numbers from k on. -/
def marks (k : Int) (n : Nat) : List Int := (List.range n).map fun (i : Nat) => k + (i : Int)
theorem marks_length (k : Int) (n : Nat) : (marks k n).length = n := by simp [marks]
theorem marks_at (k : Int) (n i : Nat) (h : i < n) : intN (marks k n) i = k + i := by
  rw [intN_at _ _ (by rw [marks_length]; exact h)]
  simp [marks]

theorem OwnRow.cellAt {w : World} {B : Nat} {g c : Nat} {xs : List Int} (h : OwnRow w B (.slice (some ⟨g, 0, none⟩) xs.length c) xs) (i : Nat) (hi : i < xs.length) : w.cell? ⟨g, i, none⟩ = some (.int .i64 (intN xs i)) := by
  have := World.ownsRow.cellAt h i (by omega)
  rw [this, ints_range]
  simp [hi]

set_option maxHeartbeats 1000000 in
theorem markRow (B : Nat) (v : Value) (xs : List Int) (k0 : Int) (w : World) (h : OwnRow w B v xs) (hk0 : 0 ≤ k0) (hk1 : k0 + xs.length ≤ 1000000000000) :
    Calls Try.prog 21 #[v, .int .i64 k0] w fun e w' => e = .returned (.int .i64 (k0 + xs.length)) ∧ OwnRow w' B v (marks k0 xs.length) ∧ Only (fun g => v.ownBlock = some g) w w' := by
  rcases h.rowIn with ⟨rfl, rfl⟩ | ⟨g, c, rfl, hB, hg, hc, hm⟩
  · have HO : Hid (OwnRow w B (.slice none 0 0) (marks k0 ([] : List Int).length)) := h
    have hz : (([] : List Int).length : Int) = 0 := rfl
    rw [hz]
    clear h hk1
    go_enter Try.func21, Try.ntmps21
    go_wp2
    go_loopw [1, 5] (fun m i wr => i = .int .i64 0 ∧ m = .int .i64 k0 ∧ wr = w) (fun _ _ _ => 0)
    case atStart => exact ⟨rfl, rfl, rfl⟩
    case round =>
      obtain ⟨rfl, rfl, rfl⟩ := hrel
      go_wp2
      go_ret
      exact ⟨ret_int (by omega), HO.out, Only.refl _ _⟩
  · have hown : w.ownsRow B 2 1 (.slice (some ⟨g, 0, none⟩) xs.length c) xs.length (mix xs.length 0 (fun i => .int .i64 (k0 + (i : Int))) (fun i => .int .i64 (intN xs i))) := by
      rw [mix_zero, ← ints_range]
      exact h
    have HO := Lib.hid hown
    have hn : xs.length ≤ 9223372036854775807 := by omega
    clear h hown
    go_enter Try.func21, Try.ntmps21
    go_wp2
    go_loopw [1, 5] (fun m i wr => ∃ k : Nat, k ≤ xs.length ∧ i = .int .i64 k ∧ m = .int .i64 (k0 + k) ∧ wr.ownsRow B 2 1 (.slice (some ⟨g, 0, none⟩) xs.length c) xs.length (mix xs.length k (fun i => .int .i64 (k0 + (i : Int))) (fun i => .int .i64 (intN xs i))) ∧ Only (fun g' => g' = g) w wr) (fun _ i _ => xs.length - (intOf i).toNat)
    case atStart => exact ⟨0, Nat.zero_le _, rfl, by simp, HO.out, Only.refl _ _⟩
    case round =>
      obtain ⟨k, hk, rfl, rfl, hown, hon⟩ := hrel
      by_cases hlt : k < xs.length
      · have hc2 := hown.cellAt k (by omega)
        rw [mix_at _ _ _ _ _ hlt, if_neg (by omega)] at hc2
        have hf2 := hown.frozenAt k
        have hst := Lib.hid (hown.stored k (.int .i64 (k0 + (k : Int))))
        have hlt' : (k : Int) < (xs.length : Int) := by omega
        have HN := Lib.hid hon
        clear hown hon
        go_wp2
        go_roundw
        case rel => exact ⟨k + 1, by omega, by go_num, by go_num, by have h := hst.out.1; rwa [mix_set _ _ _ _ _ rfl] at h, HN.out.setCell (p := ⟨g, k, none⟩) rfl _⟩
        case measure => simp [intOf]; omega
      · obtain rfl : k = xs.length := by omega
        have HE : Hid (OwnRow wr B (.slice (some ⟨g, 0, none⟩) xs.length c) (marks k0 xs.length)) := by
          rw [mix_all] at hown
          show wr.ownsRow B _ 1 _ _ _
          rw [marks_length]
          unfold marks
          rw [List.map_map]
          exact hown
        have HN := Lib.hid (hon.mono (T := fun g' => (Value.slice (some ⟨g, 0, none⟩) xs.length c).ownBlock = some g') fun k hk => by rw [hk]; rfl)
        clear hown hon
        go_wp2
        go_ret
        exact ⟨rfl, HE.out, HN.out⟩

set_option maxHeartbeats 1000000 in
theorem heldRow (v : Value) (n : Nat) (k0 : Int) (w : World) (h : RowAt w v (marks k0 n)) (hk0 : 0 ≤ k0) (hk1 : k0 + n ≤ 1000000000000) :
    Calls Try.prog 69 #[v, .int .i64 k0] w fun e w' => e = .returned (.int .i64 (k0 + n)) ∧ w = w' := by
  obtain ⟨a, c, rfl, hn, hc⟩ := h
  rw [marks_length] at hn hc ⊢
  have HC := Lib.hid hc
  clear hc
  go_enter Try.func69, Try.ntmps69
  go_wp2
  go_loop [1, 5] (fun m i => ∃ k : Nat, k ≤ n ∧ i = .int .i64 k ∧ m = .int .i64 (k0 + k)) (fun _ i => n - (intOf i).toNat)
  case atStart => exact ⟨0, Nat.zero_le _, rfl, by simp⟩
  case round =>
    obtain ⟨k, hk, rfl, rfl⟩ := hrel
    by_cases hlt : k < n
    · obtain ⟨b1, off1, ha1, hcell1⟩ := HC.out (by omega)
      subst ha1
      have hx1 := hcell1 k hlt
      rw [marks_at k0 n k hlt] at hx1
      have hlt' : (k : Int) < (n : Int) := by omega
      clear hcell1
      go_wp2
      go_round
      case rel => exact ⟨k + 1, by omega, by go_num, by go_num⟩
      case measure => simp [intOf]; omega
    · obtain rfl : k = n := by omega
      go_wp2
      go_ret
      exact ⟨rfl, rfl⟩

/-- One row of an owned grid is written. -/
theorem OwnGridV.step {w w2 : World} {B E n k : Nat} {v : Value} {V : Nat → Value} {f : Nat → List Int} {ys : List Int} (h : OwnGridV w B E v n V f) (hk : k < n) (ho : OwnRow w2 B (V k) ys) (hn : Only (fun g => (V k).ownBlock = some g) w w2) :
    OwnGridV w2 B E v n V (fun i => if i = k then ys else f i) := by
  refine ⟨ownsRow_same h.outer fun g hg => hn.block g (h.outer.lt g hg).2 fun e => h.top_ne k hk g hg e, Nat.le_trans h.le hn.size, h.top, fun i hi => ?_, h.hi, h.apart⟩
  by_cases hik : i = k
  · subst hik
    simpa using ho
  · simp only [hik, if_false]
    refine (h.rows i hi).only hn fun g hg e => ?_
    rcases Nat.lt_or_gt_of_ne hik with h1 | h1
    · exact h.apart i k h1 hk g hg e
    · exact h.apart k i h1 hi g e hg

theorem OwnGridV.congr {w : World} {B E n : Nat} {v : Value} {V : Nat → Value} {f f' : Nat → List Int} (h : OwnGridV w B E v n V f) (hf : ∀ i, i < n → f i = f' i) : OwnGridV w B E v n V f' :=
  ⟨h.outer, h.le, h.top, fun i hi => hf i hi ▸ h.rows i hi, h.hi, h.apart⟩

/-- The marks of a grid's rows. -/
def marksG (k0 : Int) (xss : List (List Int)) : List (List Int) := (List.range xss.length).map fun (i : Nat) => marks (k0 + (partSum xss i : Int)) (rowN xss i).length
theorem marksG_length (k0 : Int) (xss : List (List Int)) : (marksG k0 xss).length = xss.length := by simp [marksG]
theorem marksG_at (k0 : Int) (xss : List (List Int)) (i : Nat) (h : i < xss.length) : rowN (marksG k0 xss) i = marks (k0 + (partSum xss i : Int)) (rowN xss i).length := by
  rw [rowN_at _ _ (by rw [marksG_length]; exact h)]
  simp [marksG]

theorem OwnGridV.cellAt {w : World} {B E n c g : Nat} {V : Nat → Value} {f : Nat → List Int} (h : OwnGridV w B E (.slice (some ⟨g, 0, none⟩) n c) n V f) (i : Nat) (hi : i < n) : w.cell? ⟨g, i, none⟩ = some (V i) := by
  rw [h.outer.cellAt i (by omega)]
  exact range_map_at hi

set_option maxHeartbeats 1000000 in
theorem markGrid (B E : Nat) (v : Value) (xss : List (List Int)) (k0 : Int) (w : World) (h : OwnGrid w B E v xss) (hk0 : 0 ≤ k0) (hk1 : k0 + (xss.map List.length).sum ≤ 1000000000000) :
    Calls Try.prog 68 #[v, .int .i64 k0] w fun e w' => e = .returned (.int .i64 (k0 + (xss.map List.length).sum)) ∧ OwnGrid w' B E v (marksG k0 xss) ∧ Only (fun g => B ≤ g ∧ g < E) w w' := by
  obtain ⟨V, h⟩ := h
  have hall := partSum_all xss
  rcases ownsRow_parts h.outer with ⟨rfl, hn, _⟩ | ⟨g, c, rfl, hB, hg, hc, hm, _, _⟩
  · obtain rfl : xss = [] := by simpa using hn
    have HO : Hid (OwnGrid w B E (.slice none 0 0) (marksG k0 ([] : List (List Int)))) := OwnGrid.nil w B E h.le
    clear h
    go_enter Try.func68, Try.ntmps68
    go_wp2
    go_loopw [1, 5] (fun m i wr => i = .int .i64 0 ∧ m = .int .i64 k0 ∧ wr = w) (fun _ _ _ => 0)
    case atStart => exact ⟨rfl, rfl, rfl⟩
    case round =>
      obtain ⟨rfl, rfl, rfl⟩ := hrel
      go_wp2
      go_ret
      exact ⟨by simp, HO.out, Only.refl _ _⟩
  · have HO := Lib.hid h
    have hn : xss.length ≤ 9223372036854775807 := by unfold maxLen at hm; omega
    clear h
    go_enter Try.func68, Try.ntmps68
    go_wp2
    go_loopw [1, 5] (fun m i wr => ∃ k : Nat, k ≤ xss.length ∧ i = .int .i64 k ∧ m = .int .i64 (k0 + (partSum xss k : Int)) ∧ OwnGridV wr B E (.slice (some ⟨g, 0, none⟩) xss.length c) xss.length V (fun i => if i < k then marks (k0 + (partSum xss i : Int)) (rowN xss i).length else rowN xss i) ∧ Only (fun g => B ≤ g ∧ g < E) w wr) (fun _ i _ => xss.length - (intOf i).toNat)
    case atStart => exact ⟨0, Nat.zero_le _, rfl, by rw [partSum_zero]; simp, HO.out.congr fun i _ => by simp, Only.refl _ _⟩
    case round =>
      obtain ⟨k, hk, rfl, rfl, hown, hon⟩ := hrel
      by_cases hlt : k < xss.length
      · have hc2 := hown.cellAt k hlt
        have hr := hown.rows k hlt
        simp only [Nat.lt_irrefl, if_false] at hr
        have HR := Lib.hid hr
        have hs := Lib.hid (partSum_succ xss k hlt)
        have hle := partSum_le xss (k + 1)
        have hle2 : k0 + (partSum xss k : Int) + ((rowN xss k).length : Int) ≤ 1000000000000 := by have := hs.out; omega
        have hlt' : (k : Int) < (xss.length : Int) := by omega
        have HW := Lib.hid hown
        have HN := Lib.hid hon
        clear hown hon hr
        go_wp2_with fail
        refine (markRow B _ _ _ _ HR.out (by omega) hle2).mono ?_
        rintro e w2 ⟨rfl, ho2, hn2⟩
        have HS := Lib.hid (HW.out.step hlt ho2 hn2)
        have HN2 := Lib.hid (HN.out.trans (hn2.mono fun g' hg' => ⟨((HW.out.rows k hlt).lt g' hg').1, HW.out.hi k hlt g' hg'⟩))
        clear ho2 hn2
        go_wp2
        go_roundw
        case rel =>
          refine ⟨k + 1, by omega, by go_num, by rw [hs.out]; go_num, HS.out.congr fun i hi => ?_, HN2.out⟩
          by_cases hik : i = k
          · subst hik; simp
          · by_cases h1 : i < k
            · simp [hik, h1, show i < k + 1 by omega]
            · simp [hik, h1, show ¬ i < k + 1 by omega]
        case measure => simp [intOf]; omega
      · obtain rfl : k = xss.length := by omega
        have HE : Hid (OwnGrid wr B E (.slice (some ⟨g, 0, none⟩) xss.length c) (marksG k0 xss)) := by
          refine ⟨V, ?_⟩
          rw [marksG_length]
          exact hown.congr fun i hi => by rw [if_pos hi, marksG_at k0 xss i hi]
        have HN := Lib.hid hon
        clear hown hon
        go_wp2
        go_ret
        exact ⟨ret_int (by rw [hall]), HE.out, HN.out⟩

end Go.Proofs.Ytnbgpeoceejolab

namespace Go.Proofs.Ytnbgpeoceejolab
open Go.RowKit

/-- A reading that stands in each later world with the same blocks in [lo, hi). -/
def Stab (lo hi : Nat) (p : World → Prop) (w : World) : Prop := ∀ w' : World, w.heap.size ≤ w'.heap.size → (∀ g, lo ≤ g → g < hi → w'.heap[g]? = w.heap[g]?) → p w'
theorem Stab.now {lo hi : Nat} {p : World → Prop} {w : World} (h : Stab lo hi p w) : p w := h w (Nat.le_refl _) fun _ _ _ => rfl
theorem Stab.go {lo hi : Nat} {p : World → Prop} {w w2 : World} (h : Stab lo hi p w) (hs : w.heap.size ≤ w2.heap.size) (hg : ∀ g, lo ≤ g → g < hi → w2.heap[g]? = w.heap[g]?) : Stab lo hi p w2 :=
  fun w' h1 h2 => h w' (Nat.le_trans hs h1) fun g a b => (h2 g a b).trans (hg g a b)
theorem stab_own {w : World} {B E : Nat} {v : Value} {xss : List (List Int)} (h : OwnGrid w B E v xss) : Stab B E (fun w => OwnGrid w B E v xss) w := fun w' h1 h2 => by
  obtain ⟨V, h⟩ := h
  exact ⟨V, ownsRow_same h.outer fun g hv => h2 g (h.outer.lt g hv).1 (h.top g hv), Nat.le_trans h.le h1, h.top, fun i hi => ownsRow_same (h.rows i hi) fun g hv => h2 g ((h.rows i hi).lt g hv).1 (h.hi i hi g hv), h.hi, h.apart⟩
theorem stab_lives {w : World} {p : World → Prop} (hl : ∀ w', w.heap.size ≤ w'.heap.size → (∀ g, g < w.heap.size → w'.heap[g]? = w.heap[g]?) → p w') : Stab 0 w.heap.size p w := fun w' h1 h2 => hl w' h1 fun g hg => h2 g (Nat.zero_le _) hg

theorem two_own {w w1 : World} {C : List (Addr × Value)} {R : List (World → Prop)} {a b a' b' : Addr} {x y x' y' : Value}
    (h : w1.cell? a = some x ∧ w1.cell? a' = some x' ∧ w1.cell? b = some y ∧ w1.cell? b' = some y' ∧ Kept w C R w1) (i : Nat) {B E : Nat} {v : Value} {xss : List (List Int)} (hi : R[i]? = some (fun w => OwnGrid w B E v xss)) : OwnGrid w1 B E v xss := h.2.2.2.2.own i hi
theorem lives_ownRow (B : Nat) (v : Value) (xs : List Int) : Lives (fun w => OwnRow w B v xs) := fun _ _ hb h => h.below hb
theorem ownGrid_le {w : World} {B E : Nat} {v : Value} {xss : List (List Int)} (h : OwnGrid w B E v xss) : E ≤ w.heap.size := by obtain ⟨V, h⟩ := h; exact h.le

/-- What a value reads as turns on the cells of blocks that are there. -/
theorem SlAt.same {w w' : World} {v : Value} {n : Nat} {V : Nat → Value} (h : SlAt w v n V) (hg : ∀ g, g < w.heap.size → w'.heap[g]? = w.heap[g]?) : SlAt w' v n V :=
  h.mono fun a _ hc => (World.cell?_of_block (w := w) (hg a.block (cell_block_lt hc))).trans hc
theorem stab_grid {w : World} {v : Value} {xss : List (List Int)} (h : GridAt w v xss) : Stab 0 w.heap.size (fun w => GridAt w v xss) w := stab_lives fun _ _ h2 => by
  obtain ⟨V, h1, h3⟩ := h
  exact ⟨V, h1.same h2, fun i hi => (h3 i hi).same h2⟩
theorem stab_row {w : World} {v : Value} {xs : List Int} (h : RowAt w v xs) : Stab 0 w.heap.size (fun w => RowAt w v xs) w := stab_lives fun _ _ h2 => SlAt.same h h2
theorem stab_ownRow {w : World} {B E : Nat} {v : Value} {xs : List Int} (h : OwnRow w B v xs) (hE : ∀ g, v.ownBlock = some g → g < E) : Stab B E (fun w => OwnRow w B v xs) w := fun _ _ h2 =>
  ownsRow_same h fun g hg => h2 g (h.lt g hg).1 (hE g hg)

/-- The readings, each with its interval; the cells. -/
structure KeptS (w : World) (C : List (Addr × Value)) (R : List (Nat × Nat × (World → Prop))) (w' : World) : Prop where
  bel : Below w.heap.size w w'
  cells : ∀ (i : Nat) (x : Addr × Value), C[i]? = some x → w'.cell? x.1 = some x.2
  hi : ∀ (i : Nat) (x : Nat × Nat × (World → Prop)), R[i]? = some x → x.2.1 ≤ w'.heap.size
  reads : ∀ (i : Nat) (x : Nat × Nat × (World → Prop)), R[i]? = some x → Stab x.1 x.2.1 x.2.2 w'

theorem KeptS.start {w w' : World} {C : List (Addr × Value)} {R : List (World → Prop)} (h : Kept w C R w') : KeptS w C [] w' := ⟨h.bel, h.cells, fun i x hx => by simp at hx, fun i x hx => by simp at hx⟩
theorem KeptS.cons {w w' : World} {C : List (Addr × Value)} {R : List (Nat × Nat × (World → Prop))} (h : KeptS w C R w') {lo hi : Nat} {p : World → Prop} (hs : Stab lo hi p w') (hh : hi ≤ w'.heap.size) : KeptS w C ((lo, hi, p) :: R) w' := by
  refine ⟨h.bel, h.cells, fun i x hx => ?_, fun i x hx => ?_⟩
  · match i with
    | 0 => obtain rfl := Option.some.inj hx; exact hh
    | i + 1 => exact h.hi i x (by simpa using hx)
  · match i with
    | 0 => obtain rfl := Option.some.inj hx; exact hs
    | i + 1 => exact h.reads i x (by simpa using hx)
theorem KeptS.below {w w1 w2 : World} {C : List (Addr × Value)} {R : List (Nat × Nat × (World → Prop))} (h : KeptS w C R w1) (hb : Below w1.heap.size w1 w2) : KeptS w C R w2 :=
  ⟨h.bel.trans (hb.mono h.bel.size), fun i x hx => below_cell hb (h.cells i x hx), fun i x hx => Nat.le_trans (h.hi i x hx) hb.size,
    fun i x hx => (h.reads i x hx).go hb.size fun g _ hg => hb.block g (Nat.lt_of_lt_of_le hg (h.hi i x hx))⟩
theorem KeptS.only {w w1 w2 : World} {C : List (Addr × Value)} {R : List (Nat × Nat × (World → Prop))} (h : KeptS w C R w1) {B E : Nat} (hn : Only (fun g => B ≤ g ∧ g < E) w1 w2) (hw : w.heap.size ≤ B)
    (hc : ∀ x, x ∈ C → x.1.block < B ∨ E ≤ x.1.block) (hr : ∀ x, x ∈ R → x.2.1 ≤ B ∨ E ≤ x.1) : KeptS w C R w2 := by
  refine ⟨h.bel.trans (hn.below h.bel.size fun k hk => by omega), fun i x hx => ?_, fun i x hx => Nat.le_trans (h.hi i x hx) hn.size, fun i x hx => (h.reads i x hx).go hn.size fun g h1 h2 => ?_⟩
  · have h0 := h.cells i x hx
    refine (World.cell?_of_block (w := w1) (hn.block x.1.block (cell_block_lt h0) ?_)).trans h0
    have := hc x (List.mem_of_getElem? hx)
    omega
  · refine hn.block g (Nat.lt_of_lt_of_le h2 (h.hi i x hx)) ?_
    have := hr x (List.mem_of_getElem? hx)
    omega
theorem KeptS.c {w w1 : World} {C : List (Addr × Value)} {R : List (Nat × Nat × (World → Prop))} (h : KeptS w C R w1) (i : Nat) {a : Addr} {v : Value} (hi : C[i]? = some (a, v)) : w1.cell? a = some v := h.cells i _ hi
theorem KeptS.r {w w1 : World} {C : List (Addr × Value)} {R : List (Nat × Nat × (World → Prop))} (h : KeptS w C R w1) (i : Nat) {lo hi : Nat} {p : World → Prop} (hi : R[i]? = some (lo, hi, p)) : p w1 := (h.reads i _ hi).now
theorem KeptS.end {w w1 : World} {C : List (Addr × Value)} {R : List (Nat × Nat × (World → Prop))} (h : KeptS w C R w1) : Kept w C [] w1 := ⟨h.bel, h.cells, fun i x hx => by simp at hx, fun i x hx => by simp at hx⟩
/-- Marks were written into an interval: the reading of it is another one. -/
theorem KeptS.drop {w w1 : World} {C : List (Addr × Value)} {R : List (Nat × Nat × (World → Prop))} {x : Nat × Nat × (World → Prop)} (h : KeptS w C (x :: R) w1) : KeptS w C R w1 :=
  ⟨h.bel, h.cells, fun i y hy => h.hi (i + 1) y (by simpa using hy), fun i y hy => h.reads (i + 1) y (by simpa using hy)⟩

/-- A row of its own, in a block of [B, E). -/
structure OwnRowE (w : World) (B E : Nat) (v : Value) (xs : List Int) : Prop where
  row : OwnRow w B v xs
  le : E ≤ w.heap.size
  hi : ∀ g, v.ownBlock = some g → g < E
theorem OwnRow.full {w : World} {B : Nat} {v : Value} {xs : List Int} (h : OwnRow w B v xs) : OwnRowE w B w.heap.size v xs := ⟨h, Nat.le_refl _, fun g hg => (h.lt g hg).2⟩
theorem OwnRowE.at {w : World} {B E : Nat} {v : Value} {xs : List Int} (h : OwnRowE w B E v xs) : RowAt w v xs := h.row.rowAt
theorem OwnRowE.mono {w : World} {B B' E : Nat} {v : Value} {xs : List Int} (h : OwnRowE w B E v xs) (hB : B' ≤ B) : OwnRowE w B' E v xs := ⟨h.row.mono hB, h.le, h.hi⟩
theorem OwnRowE.below {w w' : World} {B E : Nat} {v : Value} {xs : List Int} (h : OwnRowE w B E v xs) (hb : Below w.heap.size w w') : OwnRowE w' B E v xs := ⟨h.row.below hb, Nat.le_trans h.le hb.size, h.hi⟩
theorem OwnRowE.nil (w : World) (B E : Nat) (hE : E ≤ w.heap.size) : OwnRowE w B E (.slice none 0 0) [] := ⟨World.ownsRow_nil w B _ 1, hE, fun g hg => by simp [Value.ownBlock] at hg⟩
theorem lives_rowE (B E : Nat) (v : Value) (xs : List Int) : Lives (fun w => OwnRowE w B E v xs) := fun _ _ hb h => h.below hb
theorem stab_rowE {w : World} {B E : Nat} {v : Value} {xs : List Int} (h : OwnRowE w B E v xs) : Stab B E (fun w => OwnRowE w B E v xs) w := fun _ h1 h2 =>
  ⟨ownsRow_same h.row fun g hg => h2 g (h.row.lt g hg).1 (h.hi g hg), Nat.le_trans h.le h1, h.hi⟩
theorem ownRowE_le {w : World} {B E : Nat} {v : Value} {xs : List Int} (h : OwnRowE w B E v xs) : E ≤ w.heap.size := h.le
theorem Only.rowE {w w' : World} {B E : Nat} {v : Value} {xs ys : List Int} (h : OwnRowE w B E v xs) (hn : Only (fun g => v.ownBlock = some g) w w') (ho : OwnRow w' B v ys) : OwnRowE w' B E v ys ∧ Only (fun g => B ≤ g ∧ g < E) w w' :=
  ⟨⟨ho, Nat.le_trans h.le hn.size, h.hi⟩, hn.mono fun g hg => ⟨(h.row.lt g hg).1, h.hi g hg⟩⟩

/-- The reading of a kept list, by its index. -/
theorem Kept.r {w w1 : World} {C : List (Addr × Value)} {R : List (World → Prop)} (h : Kept w C R w1) (i : Nat) {p : World → Prop} (hi : R[i]? = some p) : p w1 := h.reads i _ hi
theorem two_row {w w1 : World} {C : List (Addr × Value)} {R : List (World → Prop)} {a b a' b' : Addr} {x y x' y' : Value}
    (h : w1.cell? a = some x ∧ w1.cell? a' = some x' ∧ w1.cell? b = some y ∧ w1.cell? b' = some y' ∧ Kept w C R w1) (i : Nat)  {v : Value} {xs : List Int} (hi : R[i]? = some (fun w => RowAt w v xs)) : RowAt w1 v xs := h.2.2.2.2.reads i _ hi
theorem two_rowE {w w1 : World} {C : List (Addr × Value)} {R : List (World → Prop)} {a b a' b' : Addr} {x y x' y' : Value}
    (h : w1.cell? a = some x ∧ w1.cell? a' = some x' ∧ w1.cell? b = some y ∧ w1.cell? b' = some y' ∧ Kept w C R w1) (i : Nat) {B E : Nat} {v : Value} {xs : List Int} (hi : R[i]? = some (fun w => OwnRowE w B E v xs)) : OwnRowE w1 B E v xs := h.2.2.2.2.reads i _ hi

end Go.Proofs.Ytnbgpeoceejolab

namespace Go.Proofs.Ytnbgpeoceejolab
open Go.RowKit

/-- A relation's box: its arity and its slice. -/
def RelBox (w : World) (p : Nat) (x v : Value) : Prop := w.heap[p]? = some (.cells #[x, v] 81 (0, 0))
theorem RelBox.c0 {w : World} {p : Nat} {x v : Value} (h : RelBox w p x v) : w.cell? ⟨p, 0, none⟩ = some x := by rw [cell_of_row w p 0 _ _ (0, 0) h]; rfl
theorem RelBox.c1 {w : World} {p : Nat} {x v : Value} (h : RelBox w p x v) : w.cell? ⟨p, 1, none⟩ = some v := by rw [cell_of_row w p 1 _ _ (0, 0) h]; rfl
theorem RelBox.free {w : World} {p : Nat} {x v : Value} (h : RelBox w p x v) (q : Nat) : w.frozen? ⟨p, q, none⟩ = false := frozen_of_row w p q _ _ h
theorem RelBox.lt {w : World} {p : Nat} {x v : Value} (h : RelBox w p x v) : p < w.heap.size := (Array.getElem?_eq_some_iff.1 h).1
theorem RelBox.new (w : World) (x v : Value) : RelBox (w.alloc (.cells #[x, v] 81)) w.heap.size x v := heap_alloc_new w _
theorem RelBox.same {w w' : World} {p : Nat} {x v : Value} (h : RelBox w p x v) (hs : w'.heap[p]? = w.heap[p]?) : RelBox w' p x v := by unfold RelBox; rw [hs]; exact h
theorem RelBox.below {w w' : World} {p : Nat} {x v : Value} (h : RelBox w p x v) (hb : Below w.heap.size w w') : RelBox w' p x v := h.same (hb.block p h.lt)
theorem RelBox.alloc {w : World} {p : Nat} {x v : Value} (h : RelBox w p x v) (o : Obj) : RelBox (w.alloc o) p x v := h.below ((Below.refl _ _).alloc (Nat.le_refl _) _)
theorem RelBox.other {w : World} {p : Nat} {x v : Value} (h : RelBox w p x v) {a : Addr} (ha : p ≠ a.block) (u : Value) : RelBox (w.setCell a u) p x v := h.same (heap_setCell_other w a p u ha)
theorem RelBox.set1 {w : World} {p : Nat} {x v : Value} (h : RelBox w p x v) (u : Value) : RelBox (w.setCell ⟨p, 1, none⟩ u) p x u := by unfold RelBox; rw [heap_setCell_same w p 1 _ _ _ h]; rfl
theorem RelBox.set0 {w : World} {p : Nat} {x v : Value} (h : RelBox w p x v) (u : Value) : RelBox (w.setCell ⟨p, 0, none⟩ u) p u v := by unfold RelBox; rw [heap_setCell_same w p 0 _ _ _ h]; rfl

theorem RelBox.grown {w w' : World} {p : Nat} {x v : Value} {row : Option Nat} (h : RelBox w p x v) (hg : w.grownBy w' row) (hne : row ≠ some p) : RelBox w' p x v := h.same (hg.block p h.lt fun e => hne e.symm)

theorem OwnGridV.far {w : World} {B E n : Nat} {v : Value} {V : Nat → Value} {f : Nat → List Int} (h : OwnGridV w B E v n V f) (p : Nat) (hp : p < B) : v.ownBlock ≠ some p := fun e => by have := (h.outer.lt p e).1; omega

theorem OwnGridV.same {w w' : World} {B E n : Nat} {v : Value} {V : Nat → Value} {f : Nat → List Int} (h : OwnGridV w B E v n V f) (hs : w.heap.size ≤ w'.heap.size) (hg : ∀ g, B ≤ g → g < w.heap.size → w'.heap[g]? = w.heap[g]?) : OwnGridV w' B E v n V f :=
  ⟨ownsRow_same h.outer fun g hv => hg g (h.outer.lt g hv).1 (h.outer.lt g hv).2, Nat.le_trans h.le hs, h.top, fun i hi => ownsRow_same (h.rows i hi) fun g hv => hg g ((h.rows i hi).lt g hv).1 ((h.rows i hi).lt g hv).2, h.hi, h.apart⟩

theorem OwnGridV.full {w : World} {B E n : Nat} {v : Value} {V : Nat → Value} {f : Nat → List Int} (h : OwnGridV w B E v n V f) : OwnGridV w B w.heap.size v n V f :=
  ⟨h.outer, Nat.le_refl _, fun g hg => (h.outer.lt g hg).2, h.rows, fun i hi g hg => ((h.rows i hi).lt g hg).2, h.apart⟩

/-- Nothing is there yet. -/
theorem OwnGridV.none (w : World) (B : Nat) (V : Nat → Value) (f : Nat → List Int) : OwnGridV w B w.heap.size (.slice .none 0 0) 0 V f :=
  ⟨World.ownsRow_nil w B _ 1, Nat.le_refl _, fun g hg => by simp [Value.ownBlock] at hg, fun i hi => absurd hi (by omega), fun i hi => absurd hi (by omega), fun i j _ hj => absurd hj (by omega)⟩

/-- A row is appended. -/
theorem OwnGridV.grow {w w2 w3 : World} {B n : Nat} {v v' r : Value} {V : Nat → Value} {f : Nat → List Int} {ys : List Int} (h : OwnGridV w B w.heap.size v n V f) (hb : Below w.heap.size w w2) (hr : OwnRow w2 w.heap.size r ys) (hB : B ≤ w.heap.size)
    (ho : w3.ownsRow B 45 1 v' (n + 1) ((List.range n).map V ++ [r])) (hg : w2.grownBy w3 v.ownBlock) :
    OwnGridV w3 B w3.heap.size v' (n + 1) (fun i => if i = n then r else V i) (fun i => if i = n then ys else f i) := by
  have hlist : (List.range n).map V ++ [r] = (List.range (n + 1)).map (fun i => if i = n then r else V i) := by
    rw [List.range_succ, List.map_append, List.map_singleton, if_pos rfl]
    congr 1
    exact List.map_congr_left fun i hi => by rw [if_neg (by have := List.mem_range.1 hi; omega)]
  have hold : ∀ i, i < n → OwnRow w3 B (V i) (f i) := fun i hi => by
    refine World.ownsRow.kept ((h.rows i hi).below hb) hg ?_
    cases hv : v.ownBlock with
    | none =>
      cases hv2 : (V i).ownBlock with
      | none => exact .inl rfl
      | some g => exact .inr (by simp)
    | some g => exact .inr fun e => h.top_ne i hi g hv e
  have hnew : OwnRow w3 B r ys := by
    refine OwnRow.mono (World.ownsRow.kept hr hg ?_) hB
    cases hv2 : r.ownBlock with
    | none => exact .inl rfl
    | some g =>
      refine .inr fun e => ?_
      have h1 := (h.outer.lt g e.symm).2
      have h2 := (hr.lt g hv2).1
      omega
  refine ⟨hlist ▸ ho, Nat.le_refl _, fun g hg => (ho.lt g hg).2, fun i hi => ?_, fun i hi g hg => ?_, fun i j hij hj g hg => ?_⟩
  · by_cases hin : i = n
    · simp only [hin, if_true]; exact hnew
    · simp only [hin, if_false]; exact hold i (by omega)
  · by_cases hin : i = n
    · simp only [hin, if_true] at hg; exact (hnew.lt g hg).2
    · simp only [hin, if_false] at hg; exact ((hold i (by omega)).lt g hg).2
  · simp only [show ¬ i = n by omega, if_false] at hg
    by_cases hjn : j = n
    · simp only [hjn, if_true]
      intro e
      have h1 := ((h.rows i (by omega)).lt g hg).2
      have h2 := (hr.lt g e).1
      omega
    · simp only [hjn, if_false]
      exact h.apart i j hij (by omega) g hg

/-- What is kept where marks are written into what a call has made: what was kept before the call, and the box of what it made. -/
theorem Kept.marked {w wA w2 w3 w4 : World} {C : List (Addr × Value)} {R : List (World → Prop)} {x y : Value} {p : World → Prop} (h : Kept w C R wA) (hA : Below wA.heap.size wA w2) (h2 : Below w2.heap.size w2 w3)
    (hn : Only (fun g => wA.heap.size ≤ g ∧ g < w2.heap.size) w3 w4) (c0 : w3.cell? ⟨w2.heap.size, 0, none⟩ = some x) (c1 : w3.cell? ⟨w2.heap.size, 1, none⟩ = some y) (hl : Lives p) (hp : p w4) :
    Kept w ((⟨w2.heap.size, 0, none⟩, x) :: (⟨w2.heap.size, 1, none⟩, y) :: C) (p :: R) w4 := by
  have hb : Below wA.heap.size wA w4 := (hA.trans (h2.mono hA.size)).trans (hn.below (Nat.le_trans hA.size h2.size) fun k hk => hk.1)
  have g : ∀ q, w4.cell? ⟨w2.heap.size, q, none⟩ = w3.cell? ⟨w2.heap.size, q, none⟩ := fun q => World.cell?_of_block (w := w3) (hn.block w2.heap.size (cell_block_lt c0) (by omega))
  exact (((h.below hb).read hl hp).cell ((g 1).trans c1)).cell ((g 0).trans c0)

/-- A relation of its own, and a code. -/
def MadeRel2 (w : World) (ar : Int) (xss : List (List Int)) (cd : Int) (e : Ending) (w' : World) : Prop :=
  ∃ a n c, e = .returned (.tuple #[.agg #[.int .i64 ar, .slice a n c], .int .i64 cd]) ∧ OwnGrid w' w.heap.size w'.heap.size (.slice a n c) xss ∧ Below w.heap.size w w'

theorem ownRow_lit (w : World) (B : Nat) (xs : List Int) (hB : B ≤ w.heap.size) (hl : xs.length ≤ 1000000) :
    OwnRow (w.alloc (.cells (xs.map (Value.int .i64)).toArray 2)) B (.slice (some ⟨w.heap.size, 0, none⟩) xs.length xs.length) xs := by
  have := World.ownsRow_lit (e := 2) (size := 1) w (xs.map (Value.int .i64)).toArray xs.length hB (by unfold maxLen; omega) (by simp)
  exact this

end Go.Proofs.Ytnbgpeoceejolab

namespace Go.Proofs.Ytnbgpeoceejolab
open Go.RowKit

/-- The rows' and grids' calls in the same words. -/
theorem markRowE (B E : Nat) (v : Value) (xs : List Int) (k0 : Int) (w : World) (h : OwnRowE w B E v xs) (hk0 : 0 ≤ k0) (hk1 : k0 + xs.length ≤ 1000000000000) :
    Calls Try.prog 21 #[v, .int .i64 k0] w fun e w' => e = .returned (.int .i64 (k0 + xs.length)) ∧ OwnRowE w' B E v (marks k0 xs.length) ∧ Only (fun g => B ≤ g ∧ g < E) w w' :=
  (markRow B v xs k0 w h.row hk0 hk1).mono fun _ _ ⟨he, ho, hn⟩ => ⟨he, Only.rowE h hn ho⟩

theorem heldRowB (v : Value) (n : Nat) (k0 : Int) (w : World) (h : RowAt w v (marks k0 n)) (hk0 : 0 ≤ k0) (hk1 : k0 + n ≤ 1000000000000) :
    Calls Try.prog 69 #[v, .int .i64 k0] w fun e w' => e = .returned (.int .i64 (k0 + n)) ∧ Below w.heap.size w w' :=
  (heldRow v n k0 w h hk0 hk1).mono fun _ _ ⟨he, hw⟩ => ⟨he, hw ▸ Below.refl _ _⟩

theorem eqRowB (v1 v2 : Value) (xs ys : List Int) (b : Bool) (w : World) (h1 : RowAt w v1 xs) (h2 : RowAt w v2 ys) (hb : eqB xs ys = b) :
    Calls Try.prog 20 #[v1, v2] w fun e w' => e = .returned (.bool b) ∧ Below w.heap.size w w' :=
  (eqRow' v1 v2 xs ys b w h1 h2 hb).mono fun _ _ ⟨he, hq⟩ => ⟨he, hq.below _⟩

theorem eqGridB (v1 v2 : Value) (xs ys : List (List Int)) (b : Bool) (w : World) (h1 : GridAt w v1 xs) (h2 : GridAt w v2 ys) (hb : eqB xs ys = b) :
    Calls Try.prog 82 #[v1, v2] w fun e w' => e = .returned (.bool b) ∧ Below w.heap.size w w' :=
  (eqGrid' v1 v2 xs ys b w h1 h2 hb).mono fun _ _ ⟨he, hq⟩ => ⟨he, hq.below _⟩

theorem szGridB (v : Value) (xss : List (List Int)) (left : Int) (w : World) (h : GridAt w v xss) (h0 : 0 ≤ left) (h1 : left ≤ 1048576) :
    Calls Try.prog 77 #[v, .int .i64 left] w fun e w' => e = .returned (.int .i64 (szF (gridSize xss) left)) ∧ Below w.heap.size w w' :=
  (szGrid v xss left w h h0 h1).mono fun _ _ ⟨he, hw⟩ => ⟨he, hw ▸ Below.refl _ _⟩

theorem toRowE (v : Value) (xs : List Int) (w : World) (h : RowAt w v xs) (hl : xs.length ≤ 1048576) :
    Calls Try.prog 18 #[v] w fun e w' => ∃ a n c, e = .returned (.slice a n c) ∧ OwnRowE w' w.heap.size w'.heap.size (.slice a n c) xs ∧ Below w.heap.size w w' :=
  (toRow v xs w h hl).mono fun _ _ ⟨a, n, c, he, ho, hb⟩ => ⟨a, n, c, he, ho.full, hb⟩

end Go.Proofs.Ytnbgpeoceejolab

namespace Go.Proofs.Ytnbgpeoceejolab
open Go.RowKit

def TwoMade (w : World) (C : List (Addr × Value)) (R : List (World → Prop)) (lo : Nat) (x : Int) (zs : List (List Int)) (cd : Int) (v8 v9 : Value) (wc : World) : Prop :=
  ∃ (bk b0 e0 : Nat) (a : Option Addr) (n c : Nat), v8 = .pointer (some ⟨bk, 0, none⟩) ∧ v9 = .int .i64 cd ∧ Kept w C R wc ∧ RelBox wc bk (.int .i64 x) (.slice a n c) ∧ OwnGrid wc b0 e0 (.slice a n c) zs ∧ lo ≤ bk ∧ lo ≤ b0 ∧ (bk < b0 ∨ e0 ≤ bk)

theorem OwnGrid.away {w : World} {B E : Nat} {v : Value} {xss : List (List Int)} (h : OwnGrid w B E v xss) {p : Addr} (hp : p.block < B ∨ E ≤ p.block) (u : Value) : OwnGrid (w.setCell p u) B E v xss :=
  h.only ((Only.refl (fun k => k = p.block) w).setCell rfl u) fun k h1 h2 e => by omega

/-- The box was made before the call. -/
theorem TwoMade.early {w X wm : World} {C : List (Addr × Value)} {R : List (World → Prop)} {lo : Nat} {x : Int} {zs : List (List Int)} {cd : Int} {b0 e0 : Nat} {a : Option Addr} {n c : Nat} {z0 z1 : Value}
    (hK : Kept w C R X) (hx : Below X.heap.size X wm) (hbox : RelBox wm X.heap.size z0 z1) (ho : OwnGrid wm b0 e0 (.slice a n c) zs) (hlo : lo ≤ X.heap.size) (hb : X.heap.size < b0) :
    TwoMade w C R lo x zs cd (.pointer (some ⟨X.heap.size, 0, none⟩)) (.int .i64 cd) ((wm.setCell ⟨X.heap.size, 0, none⟩ (.int .i64 x)).setCell ⟨X.heap.size, 1, none⟩ (.slice a n c)) :=
  ⟨_, b0, e0, a, n, c, rfl, rfl, hK.below ((hx.setCell (by show X.heap.size ≤ X.heap.size; omega) _).setCell (by show X.heap.size ≤ X.heap.size; omega) _), (hbox.set0 _).set1 _,
    (ho.away (.inl hb) _).away (.inl hb) _, hlo, by omega, .inl hb⟩
/-- It was made behind it. -/
theorem TwoMade.late {w wm : World} {C : List (Addr × Value)} {R : List (World → Prop)} {lo : Nat} {x : Int} {zs : List (List Int)} {cd : Int} {b0 : Nat} {a : Option Addr} {n c : Nat}
    (hK : Kept w C R wm) (ho : OwnGrid wm b0 wm.heap.size (.slice a n c) zs) (hlo : lo ≤ b0) (hb : b0 ≤ wm.heap.size) :
    TwoMade w C R lo x zs cd (.pointer (some ⟨wm.heap.size, 0, none⟩)) (.int .i64 cd) (wm.alloc (.cells #[.int .i64 x, .slice a n c] 81)) :=
  ⟨_, b0, wm.heap.size, a, n, c, rfl, rfl, hK.below ((Below.refl _ _).alloc (Nat.le_refl _) _), RelBox.new _ _ _, ho.below ((Below.refl _ _).alloc (Nat.le_refl _) _), by omega, hlo, .inr (Nat.le_refl _)⟩

end Go.Proofs.Ytnbgpeoceejolab
