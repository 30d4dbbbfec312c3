/-
  Lists of what has three numbers: n of them, as one list of 3 n numbers.
-/
import Derived.Test.YtclhcnfgpkhplaaPairs
import Derived.Test.YtclhcnfgpkhplaaBox
namespace Go.Proofs.Ytclhcnfgpkhplaa
open Go.RowKit

def TripAt (w : World) (v : Value) (n : Nat) (xs : List Int) : Prop :=
  ∃ (a : Option Addr) (c : Nat), v = .slice a n c ∧ xs.length = n * 3 ∧ n ≤ 9223372036854775807 ∧ (0 < n → ∃ b off, a = some ⟨b, off, none⟩ ∧ ∀ i, i < n * 3 → w.cell? ⟨b, off + i, none⟩ = some (.int .i64 (intN xs i)))
theorem TripAt.below {w w' : World} {v : Value} {n : Nat} {xs : List Int} (h : TripAt w v n xs) (hb : Below w.heap.size w w') : TripAt w' v n xs := by
  obtain ⟨a, c, rfl, hl, hn, h⟩ := h
  refine ⟨a, c, rfl, hl, hn, fun h0 => ?_⟩
  obtain ⟨b, off, rfl, hc⟩ := h h0
  exact ⟨b, off, rfl, fun i hi => below_cell hb (hc i hi)⟩
theorem lives_trip (v : Value) (n : Nat) (xs : List Int) : Lives (fun w => TripAt w v n xs) := fun _ _ hb h => h.below hb

/-- A list of its own. -/
def OwnTrip (T : TypeId) (w : World) (B E : Nat) (v : Value) (n : Nat) (xs : List Int) : Prop := w.ownsRow B T 3 v n (xs.map (Value.int .i64)) ∧ E ≤ w.heap.size ∧ ∀ g, v.ownBlock = some g → g < E
theorem OwnTrip.at {T : TypeId} {w : World} {B E : Nat} {v : Value} {n : Nat} {xs : List Int} (h : OwnTrip T w B E v n xs) : TripAt w v n xs := by
  have hl : xs.length = n * 3 := by have := h.1.1; simpa using this
  have hh := h.1
  rcases h.1.2 with ⟨rfl, hn⟩ | ⟨g, c, cur, rfl, hb, hgg, h1, h2, h3, h4⟩
  · subst hn
    exact ⟨none, 0, rfl, hl, by omega, fun h => absurd h (by simp)⟩
  · refine ⟨_, c, rfl, hl, by unfold maxLen at h2; omega, fun _ => ⟨g, 0, rfl, fun i hi => ?_⟩⟩
    rw [Nat.zero_add, hh.cellAt i hi, List.getElem?_map, List.getElem?_eq_getElem (by omega), intN_at _ _ (by omega)]
    rfl
theorem OwnTrip.same {T : TypeId} {w w' : World} {B E : Nat} {v : Value} {n : Nat} {xs : List Int} (h : OwnTrip T w B E v n xs) (hs : E ≤ w'.heap.size) (hg : ∀ g, B ≤ g → g < E → w'.heap[g]? = w.heap[g]?) : OwnTrip T w' B E v n xs :=
  ⟨ownsRow_same h.1 fun g hv => hg g (h.1.lt g hv).1 (h.2.2 g hv), hs, h.2.2⟩
theorem OwnTrip.below {T : TypeId} {w w' : World} {B E : Nat} {v : Value} {n : Nat} {xs : List Int} (h : OwnTrip T w B E v n xs) (hb : Below w.heap.size w w') : OwnTrip T w' B E v n xs :=
  h.same (Nat.le_trans h.2.1 hb.size) fun g _ h2 => hb.block g (Nat.lt_of_lt_of_le h2 h.2.1)
theorem OwnTrip.stored {T : TypeId} {w : World} {B E : Nat} {v : Value} {n : Nat} {xs : List Int} (h : OwnTrip T w B E v n xs) {p : Addr} (hp : p.block < B) (u : Value) : OwnTrip T (w.setCell p u) B E v n xs :=
  h.same (by have := h.2.1; simp [World.setCell]; omega) fun g h1 _ => Below.heap_setCell _ _ _ _ (by omega)
theorem OwnTrip.full {T : TypeId} {w : World} {B E : Nat} {v : Value} {n : Nat} {xs : List Int} (h : OwnTrip T w B E v n xs) : OwnTrip T w B w.heap.size v n xs := ⟨h.1, Nat.le_refl _, fun g hg => Nat.lt_of_lt_of_le (h.2.2 g hg) h.2.1⟩
theorem OwnTrip.mono {T : TypeId} {w : World} {B B' E : Nat} {v : Value} {n : Nat} {xs : List Int} (h : OwnTrip T w B E v n xs) (hB : B' ≤ B) : OwnTrip T w B' E v n xs := ⟨ownsRow_mono h.1 hB, h.2⟩
/-- A list of its own, made by the call. -/
def MadeTrip (T : TypeId) (w : World) (n : Nat) (xs : List Int) (e : Ending) (w' : World) : Prop := ∃ a m c, e = .returned (.slice a m c) ∧ OwnTrip T w' w.heap.size w'.heap.size (.slice a m c) n xs ∧ Below w.heap.size w w'

/-- A list of which k are made. -/
structure TripPart (T : TypeId) (w wr : World) (n k : Nat) (xs : List Int) : Prop where
  outer : ∃ ys, wr.ownsRow w.heap.size T 3 (.slice (some ⟨w.heap.size, 0, none⟩) n n) n ys ∧ ∀ i, i < k * 3 → ys[i]? = some (.int .i64 (intN xs i))
  below : Below w.heap.size w wr
theorem TripPart.step {T : TypeId} {w wr w2 : World} {n k : Nat} {xs : List Int} (h : TripPart T w wr n k xs) (hk : k < n) (hb : Below wr.heap.size wr w2) :
    TripPart T w (((w2.setCell ⟨w.heap.size, k * 3, none⟩ (.int .i64 (intN xs (k * 3)))).setCell ⟨w.heap.size, k * 3 + 1, none⟩ (.int .i64 (intN xs (k * 3 + 1)))).setCell ⟨w.heap.size, k * 3 + 2, none⟩ (.int .i64 (intN xs (k * 3 + 2)))) n (k + 1) xs := by
  obtain ⟨ys, h1, h2⟩ := h.outer
  have hl := ownsRow_len h1
  have h3 := (((ownsRow_below h1 hb).stored (k * 3) (.int .i64 (intN xs (k * 3)))).1.stored (k * 3 + 1) (.int .i64 (intN xs (k * 3 + 1)))).1.stored (k * 3 + 2) (.int .i64 (intN xs (k * 3 + 2)))
  refine ⟨⟨_, h3.1, fun i hi => ?_⟩, ((((h.below.trans (hb.mono h.below.size)).setCell (Nat.le_refl _) _).setCell (Nat.le_refl _) _).setCell (Nat.le_refl _) _)⟩
  by_cases e2 : i = k * 3 + 2
  · subst e2; rw [List.getElem?_set_self (by simp [hl]; omega)]
  rw [List.getElem?_set_ne (by omega)]
  by_cases e1 : i = k * 3 + 1
  · subst e1; rw [List.getElem?_set_self (by simp [hl]; omega)]
  rw [List.getElem?_set_ne (by omega)]
  by_cases e0 : i = k * 3
  · subst e0; rw [List.getElem?_set_self (by simp [hl]; omega)]
  rw [List.getElem?_set_ne (by omega)]
  exact h2 i (by omega)
theorem TripPart.own {T : TypeId} {w wr : World} {n : Nat} {xs : List Int} (h : TripPart T w wr n n xs) (hl : xs.length = n * 3) : OwnTrip T wr w.heap.size wr.heap.size (.slice (some ⟨w.heap.size, 0, none⟩) n n) n xs := by
  obtain ⟨ys, h1, h2⟩ := h.outer
  have hy := ownsRow_len h1
  have e : ys = xs.map (Value.int .i64) := by
    apply List.ext_getElem?
    intro i
    by_cases hi : i < n * 3
    · rw [h2 i hi, List.getElem?_map, List.getElem?_eq_getElem (by omega), intN_at _ _ (by omega)]
      rfl
    · rw [List.getElem?_eq_none (by omega), List.getElem?_eq_none (by simp; omega)]
  subst e
  exact ⟨h1, Nat.le_refl _, fun g hg => (h1.lt g hg).2⟩
theorem trip_ext {n m : Nat} {xs ys : List Int} (hx : xs.length = n * 3) (hy : ys.length = m * 3) (hn : n = m) (h : ∀ k, k < n → intN xs (k * 3) = intN ys (k * 3) ∧ intN xs (k * 3 + 1) = intN ys (k * 3 + 1) ∧ intN xs (k * 3 + 2) = intN ys (k * 3 + 2)) : xs = ys := by
  subst hn
  apply List.ext_getElem (by omega)
  intro i h1 h2
  obtain ⟨e0, e1, e2⟩ := h (i / 3) (by omega)
  rw [← intN_at _ _ h1, ← intN_at _ _ h2]
  have hi : i = i / 3 * 3 ∨ i = i / 3 * 3 + 1 ∨ i = i / 3 * 3 + 2 := by omega
  rcases hi with hi | hi | hi
  · rw [hi]; exact e0
  · rw [hi]; exact e1
  · rw [hi]; exact e2
end Go.Proofs.Ytclhcnfgpkhplaa
