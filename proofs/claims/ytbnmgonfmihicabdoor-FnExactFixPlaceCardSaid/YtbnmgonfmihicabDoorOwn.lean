/-
  Memory that a call has made: rows of integers and grids of rows, each in a block of its own; what stores into some blocks leave.
-/
import Derived.Test.YtbnmgonfmihicabDoorMem
import Derived.Maps.AppendAt
namespace Go.Proofs.YtbnmgonfmihicabDoor
open Go.RowKit

/-- v is a row of its own: the integers xs in a block from B on. -/
def OwnRow (w : World) (B : Nat) (v : Value) (xs : List Int) : Prop := w.ownsRow B 2 1 v xs.length (xs.map (Value.int .i64))

/-- Blocks outside S hold what they held. -/
structure Only (S : Nat → Prop) (w w' : World) : Prop where
  os : w'.os = w.os
  tape : w'.tape = w.tape
  output : w'.output = w.output
  size : w.heap.size ≤ w'.heap.size
  block : ∀ k, k < w.heap.size → ¬ S k → w'.heap[k]? = w.heap[k]?

theorem Only.refl (S : Nat → Prop) (w : World) : Only S w w := ⟨rfl, rfl, rfl, Nat.le_refl _, fun _ _ _ => rfl⟩
theorem Only.trans {S : Nat → Prop} {a b c : World} (h : Only S a b) (k : Only S b c) : Only S a c :=
  ⟨k.os.trans h.os, k.tape.trans h.tape, k.output.trans h.output, Nat.le_trans h.size k.size, fun i hi hs => (k.block i (Nat.lt_of_lt_of_le hi h.size) hs).trans (h.block i hi hs)⟩
theorem Only.mono {S T : Nat → Prop} {a b : World} (h : Only S a b) (hst : ∀ k, S k → T k) : Only T a b := ⟨h.os, h.tape, h.output, h.size, fun k hk ht => h.block k hk fun hs => ht (hst k hs)⟩
theorem Only.below {S : Nat → Prop} {w w' : World} (h : Only S w w') {B : Nat} (hB : B ≤ w.heap.size) (hS : ∀ k, S k → B ≤ k) : Below B w w' :=
  ⟨h.os, h.tape, h.output, h.size, fun k hk => h.block k (by omega) fun hs => by have := hS k hs; omega⟩
theorem Only.drewN {S : Nat → Prop} {w w' : World} (h : Only S w w') (n : Nat) : Only S w (w'.drewN n) := ⟨h.os, h.tape, h.output, h.size, h.block⟩
theorem Only.drew {S : Nat → Prop} {w w' : World} (h : Only S w w') : Only S w w'.drew := ⟨h.os, h.tape, h.output, h.size, h.block⟩
theorem Only.setCell {S : Nat → Prop} {a w : World} (h : Only S a w) {p : Addr} (hp : S p.block) (u : Value) : Only S a (w.setCell p u) :=
  h.trans ⟨rfl, rfl, rfl, by simp [World.setCell], fun k _ hk => Below.heap_setCell _ _ _ _ (fun e => hk (e ▸ hp))⟩
theorem Only.of_grownBy {w w' : World} {row : Option Nat} (h : w.grownBy w' row) : Only (fun k => some k = row) w w' := ⟨h.os, h.tape, h.output, h.size, fun k hk hs => h.block k hk hs⟩
theorem Only.heap_size {S : Nat → Prop} {w w' : World} (h : Only S w w') : w.heap.size ≤ w'.heap.size := h.size

theorem ownsRow_same {w w' : World} {B e s n : Nat} {v : Value} {xs : List Value} (h : w.ownsRow B e s v n xs) (hg : ∀ g, v.ownBlock = some g → w'.heap[g]? = w.heap[g]?) : w'.ownsRow B e s v n xs := by
  refine ⟨h.1, ?_⟩
  rcases h.2 with hn | ⟨g, cap, cur, rfl, hb, hgg, rest⟩
  · exact .inl hn
  · exact .inr ⟨g, cap, cur, rfl, hb, by rw [hg g rfl]; exact hgg, rest⟩

theorem ownsRow_mono {w : World} {B B' e s n : Nat} {v : Value} {xs : List Value} (h : w.ownsRow B e s v n xs) (hB : B' ≤ B) : w.ownsRow B' e s v n xs := by
  refine ⟨h.1, ?_⟩
  rcases h.2 with hn | ⟨g, cap, cur, rfl, hb, rest⟩
  · exact .inl hn
  · exact .inr ⟨g, cap, cur, rfl, by omega, rest⟩

theorem ownsRow_below {w w' : World} {B e s n : Nat} {v : Value} {xs : List Value} (h : w.ownsRow B e s v n xs) (hb : Below w.heap.size w w') : w'.ownsRow B e s v n xs :=
  ownsRow_same h fun g hg => hb.block g (h.lt g hg).2

theorem OwnRow.below {w w' : World} {B : Nat} {v : Value} {xs : List Int} (h : OwnRow w B v xs) (hb : Below w.heap.size w w') : OwnRow w' B v xs := ownsRow_below h hb
theorem OwnRow.mono {w : World} {B B' : Nat} {v : Value} {xs : List Int} (h : OwnRow w B v xs) (hB : B' ≤ B) : OwnRow w B' v xs := ownsRow_mono h hB
theorem OwnRow.lt {w : World} {B : Nat} {v : Value} {xs : List Int} (h : OwnRow w B v xs) : ∀ g, v.ownBlock = some g → B ≤ g ∧ g < w.heap.size := World.ownsRow.lt h
theorem OwnRow.only {S : Nat → Prop} {w w' : World} {B : Nat} {v : Value} {xs : List Int} (h : OwnRow w B v xs) (hs : Only S w w') (hn : ∀ g, v.ownBlock = some g → ¬ S g) : OwnRow w' B v xs :=
  ownsRow_same h fun g hg => hs.block g (h.lt g hg).2 (hn g hg)

/-- The parts of an owned row. -/
theorem ownsRow_parts {w : World} {B e n : Nat} {v : Value} {xs : List Value} (h : w.ownsRow B e 1 v n xs) :
    (v = .slice none 0 0 ∧ n = 0 ∧ xs = []) ∨ ∃ g c, v = .slice (some ⟨g, 0, none⟩) n c ∧ B ≤ g ∧ g < w.heap.size ∧ n ≤ c ∧ c ≤ maxLen ∧ xs.length = n ∧ ∀ i u, xs[i]? = some u → w.cell? ⟨g, i, none⟩ = some u := by
  have hl := h.1
  rcases h.2 with ⟨rfl, hn⟩ | ⟨g, c, cur, rfl, hb, hgg, h1, h2, h3, h4⟩
  · refine .inl ⟨rfl, hn, ?_⟩
    subst hn
    simpa using hl
  · refine .inr ⟨g, c, rfl, hb, (Array.getElem?_eq_some_iff.1 hgg).1, h1, h2, by omega, fun i u hu => ?_⟩
    have hi : i < n * 1 := by
      have := (List.getElem?_eq_some_iff.1 hu).1
      omega
    rw [h.cellAt i hi]
    exact hu

theorem OwnRow.rowAt {w : World} {B : Nat} {v : Value} {xs : List Int} (h : OwnRow w B v xs) : RowAt w v xs := by
  rcases ownsRow_parts h with ⟨rfl, hn, _⟩ | ⟨g, c, rfl, _, _, h1, h2, _, hc⟩
  · obtain rfl : xs = [] := by simpa using hn
    exact RowAt.nil w
  · refine ⟨some ⟨g, 0, none⟩, c, rfl, by unfold maxLen at h2; omega, fun _ => ⟨g, 0, rfl, fun i hi => ?_⟩⟩
    rw [Nat.zero_add]
    exact hc i _ (by simp [intN_at xs i hi, hi])

/-- v is a grid of its own: the rows xss, each in a block of its own in [B, E). -/
structure OwnGridV (w : World) (B E : Nat) (v : Value) (n : Nat) (V : Nat → Value) (xss : Nat → List Int) : Prop where
  outer : w.ownsRow B 25 1 v n ((List.range n).map V)
  le : E ≤ w.heap.size
  top : ∀ g, v.ownBlock = some g → g < E
  rows : ∀ i, i < n → OwnRow w B (V i) (xss i)
  hi : ∀ i, i < n → ∀ g, (V i).ownBlock = some g → g < E
  apart : ∀ i j, i < j → j < n → ∀ g, (V i).ownBlock = some g → (V j).ownBlock ≠ some g

def OwnGrid (w : World) (B E : Nat) (v : Value) (xss : List (List Int)) : Prop := ∃ V, OwnGridV w B E v xss.length V (rowN xss)

theorem range_map_at {V : Nat → Value} {n i : Nat} (h : i < n) : ((List.range n).map V)[i]? = some (V i) := by simp [h]

theorem OwnGrid.gridAt {w : World} {B E : Nat} {v : Value} {xss : List (List Int)} (h : OwnGrid w B E v xss) : GridAt w v xss := by
  obtain ⟨V, h⟩ := h
  refine ⟨V, ?_, fun i hi => (h.rows i hi).rowAt⟩
  rcases ownsRow_parts h.outer with ⟨rfl, hn, _⟩ | ⟨g, c, rfl, _, _, h1, h2, _, hc⟩
  · exact ⟨none, 0, by rw [hn], by omega, fun h0 => by omega⟩
  · refine ⟨some ⟨g, 0, none⟩, c, rfl, by unfold maxLen at h2; omega, fun _ => ⟨g, 0, rfl, fun i hi => ?_⟩⟩
    rw [Nat.zero_add]
    exact hc i _ (range_map_at hi)

/-- The block of the outer slice is none of its rows'. -/
theorem OwnGridV.top_ne {w : World} {B E n : Nat} {v : Value} {V : Nat → Value} {xss : Nat → List Int} (h : OwnGridV w B E v n V xss) (i : Nat) (hi : i < n) (g : Nat) (hg : v.ownBlock = some g) : (V i).ownBlock ≠ some g := by
  intro hV
  rcases h.outer.2 with ⟨rfl, _⟩ | ⟨g1, c, cur, rfl, _, hgg, _⟩
  · simp [Value.ownBlock] at hg
  · simp only [Value.ownBlock, Option.some.injEq] at hg
    subst hg
    rcases (h.rows i hi).2 with ⟨hv, _⟩ | ⟨g2, c2, cur2, hv, _, hgg2, _⟩
    · rw [hv] at hV
      simp [Value.ownBlock] at hV
    · rw [hv] at hV
      simp only [Value.ownBlock, Option.some.injEq] at hV
      subst hV
      rw [hgg] at hgg2
      simp at hgg2

theorem OwnGrid.below {w w' : World} {B E : Nat} {v : Value} {xss : List (List Int)} (h : OwnGrid w B E v xss) (hb : Below w.heap.size w w') : OwnGrid w' B E v xss := by
  obtain ⟨V, h⟩ := h
  exact ⟨V, ownsRow_below h.outer hb, Nat.le_trans h.le hb.size, h.top, fun i hi => (h.rows i hi).below hb, h.hi, h.apart⟩

theorem OwnGrid.only {S : Nat → Prop} {w w' : World} {B E : Nat} {v : Value} {xss : List (List Int)} (h : OwnGrid w B E v xss) (hs : Only S w w') (hn : ∀ k, B ≤ k → k < E → ¬ S k) : OwnGrid w' B E v xss := by
  obtain ⟨V, h⟩ := h
  exact ⟨V, ownsRow_same h.outer fun g hg => hs.block g (h.outer.lt g hg).2 (hn g (h.outer.lt g hg).1 (h.top g hg)), Nat.le_trans h.le hs.size, h.top,
    fun i hi => (h.rows i hi).only hs fun g hg => hn g ((h.rows i hi).lt g hg).1 (h.hi i hi g hg), h.hi, h.apart⟩

theorem OwnGrid.nil (w : World) (B E : Nat) (hE : E ≤ w.heap.size) : OwnGrid w B E (.slice none 0 0) [] :=
  ⟨fun _ => .slice none 0 0, World.ownsRow_nil w B _ 1, hE, fun g hg => by simp [Value.ownBlock] at hg, fun i hi => absurd hi (by simp), fun i hi => absurd hi (by simp), fun i j _ hj => absurd hj (by simp)⟩

/-- Of n cells the first k hold F, the others still z. -/
def upto (n k : Nat) (F : Nat → Value) (z : Value) : List Value := (List.range n).map fun i => if i < k then F i else z

theorem upto_zero (n : Nat) (F : Nat → Value) (z : Value) : upto n 0 F z = List.replicate n z := by
  apply List.ext_getElem?
  intro j
  by_cases h : j < n <;> simp [upto, h]
theorem upto_all (n : Nat) (F : Nat → Value) (z : Value) : upto n n F z = (List.range n).map F := by
  unfold upto
  exact List.map_congr_left fun i hi => by rw [if_pos (List.mem_range.1 hi)]
theorem upto_set (n k : Nat) (F : Nat → Value) (z : Value) (u : Value) (hu : u = F k) : (upto n k F z).set k u = upto n (k + 1) F z := by
  subst hu
  unfold upto
  apply List.ext_getElem?
  intro j
  rw [List.getElem?_set]
  by_cases hj : k = j
  · subst hj
    by_cases h : k < n <;> simp [h]
  · rw [if_neg hj]
    by_cases h : j < n
    · by_cases h1 : j < k
      · simp [h, h1, show j < k + 1 by omega]
      · simp [h, h1, show ¬ j < k + 1 by omega]
    · simp [h]
theorem upto_at (n k j : Nat) (F : Nat → Value) (z : Value) (h : j < n) : (upto n k F z)[j]? = some (if j < k then F j else z) := by simp [upto, h]
theorem upto_congr {n k : Nat} {F G : Nat → Value} {z : Value} (h : ∀ i, i < k → F i = G i) : upto n k F z = upto n k G z := by
  unfold upto
  refine List.map_congr_left fun i _ => ?_
  by_cases hi : i < k
  · rw [if_pos hi, if_pos hi, h i hi]
  · rw [if_neg hi, if_neg hi]
theorem ints_range (xs : List Int) : xs.map (Value.int .i64) = (List.range xs.length).map fun i => Value.int .i64 (intN xs i) := by
  apply List.ext_getElem?
  intro j
  by_cases h : j < xs.length
  · simp [h, intN_at xs j h]
  · simp [h]

theorem OwnRow.rowIn {w : World} {B : Nat} {v : Value} {xs : List Int} (h : OwnRow w B v xs) : v = .slice none 0 0 ∧ xs = [] ∨ ∃ g c, v = .slice (some ⟨g, 0, none⟩) xs.length c ∧ B ≤ g ∧ g < w.heap.size ∧ xs.length ≤ c ∧ c ≤ maxLen := by
  rcases ownsRow_parts h with ⟨rfl, hn, _⟩ | ⟨g, c, rfl, h0, h3, h1, h2, _, hc⟩
  · exact .inl ⟨rfl, by simpa using hn⟩
  · exact .inr ⟨g, c, rfl, h0, h3, h1, h2⟩

end Go.Proofs.YtbnmgonfmihicabDoor
