/-
  What a value reads as in a world: a slice by its cells, a row of integers, a grid of rows; how this is kept by later worlds. No program is named here.
-/
import Derived.WalkKit
import Derived.ProofKit
import Derived.WalkSpells
import Derived.WalkLawsBesides
import Derived.OpenShut
import Derived.Deep.Slices
import Derived.Deep.Matrix
import Derived.Deep.QuietTactic
import Derived.BigQuiet
import Derived.Lib.SmallJoins
import Derived.Lib.Hide
namespace Go.Proofs.YtbnmgonfmihicabDoor
open Go.RowKit

/-- v is a slice of n cells; the i-th holds V i. -/
def SlAt (w : World) (v : Value) (n : Nat) (V : Nat → Value) : Prop :=
  ∃ (a : Option Addr) (c : Nat), v = .slice a n c ∧ n ≤ 9223372036854775807 ∧ (0 < n → ∃ b off, a = some ⟨b, off, none⟩ ∧ ∀ i, i < n → w.cell? ⟨b, off + i, none⟩ = some (V i))

/-- the k-th integer of a list, the k-th row of a list of rows: names that the walk's simp does not look behind -/
def intN (xs : List Int) (k : Nat) : Int := xs.getD k 0
def rowN (xss : List (List Int)) (k : Nat) : List Int := xss.getD k []

theorem intN_at (xs : List Int) (k : Nat) (h : k < xs.length) : intN xs k = xs[k] := by simp [intN, List.getD, h]
theorem rowN_at (xss : List (List Int)) (k : Nat) (h : k < xss.length) : rowN xss k = xss[k] := by simp [rowN, List.getD, h]

/-- v is a slice of the integers xs. -/
def RowAt (w : World) (v : Value) (xs : List Int) : Prop := SlAt w v xs.length (fun i => .int .i64 (intN xs i))

/-- v is a slice of slices of integers. -/
def GridAt (w : World) (v : Value) (xss : List (List Int)) : Prop :=
  ∃ V : Nat → Value, SlAt w v xss.length V ∧ ∀ i, i < xss.length → RowAt w (V i) (rowN xss i)

theorem cell_block_lt {w : World} {a : Addr} {v : Value} (h : w.cell? a = some v) : a.block < w.heap.size := by
  unfold World.cell? at h
  by_cases hb : a.block < w.heap.size
  · exact hb
  · simp [Array.getElem?_eq_none (by omega : w.heap.size ≤ a.block)] at h

theorem below_cell {w w' : World} (hb : Below w.heap.size w w') {a : Addr} {v : Value} (h : w.cell? a = some v) : w'.cell? a = some v := by
  rw [hb.cell (cell_block_lt h)]; exact h

theorem SlAt.mono {w w' : World} {v : Value} {n : Nat} {V : Nat → Value} (h : SlAt w v n V) (k : ∀ a u, w.cell? a = some u → w'.cell? a = some u) : SlAt w' v n V := by
  obtain ⟨a, c, rfl, hn, h⟩ := h
  refine ⟨a, c, rfl, hn, fun h0 => ?_⟩
  obtain ⟨b, off, rfl, hc⟩ := h h0
  exact ⟨b, off, rfl, fun i hi => k _ _ (hc i hi)⟩

theorem SlAt.below {w w' : World} {v : Value} {n : Nat} {V : Nat → Value} (h : SlAt w v n V) (hb : Below w.heap.size w w') : SlAt w' v n V :=
  h.mono fun _ _ => below_cell hb

theorem RowAt.below {w w' : World} {v : Value} {xs : List Int} (h : RowAt w v xs) (hb : Below w.heap.size w w') : RowAt w' v xs := SlAt.below h hb

theorem GridAt.below {w w' : World} {v : Value} {xss : List (List Int)} (h : GridAt w v xss) (hb : Below w.heap.size w w') : GridAt w' v xss := by
  obtain ⟨V, h1, h2⟩ := h
  exact ⟨V, h1.below hb, fun i hi => (h2 i hi).below hb⟩

theorem bcell {W w1 : World} (hb : Below W.heap.size W w1) : (∀ b o, b < W.heap.size → w1.cell? ⟨b, o, none⟩ = W.cell? ⟨b, o, none⟩) ∧ (∀ b o, b < W.heap.size → w1.frozen? ⟨b, o, none⟩ = W.frozen? ⟨b, o, none⟩) :=
  ⟨fun b o h => hb.cell (p := ⟨b, o, none⟩) h, fun b o h => hb.frozen (p := ⟨b, o, none⟩) h⟩

theorem RowAt.nil (w : World) : RowAt w (.slice none 0 0) [] := ⟨none, 0, rfl, by simp, fun h => absurd h (by simp)⟩

theorem GridAt.nil (w : World) : GridAt w (.slice none 0 0) [] := ⟨fun _ => .slice none 0 0, ⟨none, 0, rfl, by simp, fun h => absurd h (by simp)⟩, fun i hi => absurd hi (by simp)⟩

/-- Nothing but draws lies between two worlds. -/
def QW (w w' : World) : Prop := ∃ n, w' = w.drewN n
theorem QW.refl (w : World) : QW w w := ⟨0, rfl⟩
theorem QW.trans {a b c : World} (h : QW a b) (k : QW b c) : QW a c := by
  obtain ⟨n, rfl⟩ := h
  obtain ⟨m, rfl⟩ := k
  exact ⟨n + m, World.drewN_drewN _ _ _⟩
theorem QW.drewN {a b : World} (h : QW a b) (n : Nat) : QW a (b.drewN n) := h.trans ⟨n, rfl⟩
theorem QW.drew {a b : World} (h : QW a b) : QW a b.drew := h.trans ⟨1, rfl⟩
theorem QW.below {a b : World} (h : QW a b) (B : Nat) : Below B a b := by
  obtain ⟨n, rfl⟩ := h
  exact ⟨rfl, rfl, rfl, Nat.le_refl _, fun _ _ => rfl⟩
theorem QW.cell {a b : World} (h : QW a b) {p : Addr} {v : Value} (hc : a.cell? p = some v) : b.cell? p = some v := by
  obtain ⟨n, rfl⟩ := h
  exact hc
theorem QW.row {a b : World} (h : QW a b) {v : Value} {xs : List Int} (hr : RowAt a v xs) : RowAt b v xs := hr.below (h.below _)
theorem QW.grid {a b : World} (h : QW a b) {v : Value} {xss : List (List Int)} (hr : GridAt a v xss) : GridAt b v xss := hr.below (h.below _)

/-- A contract of a call that only draws, as a region that draws wants it. -/
theorem QW.calls {P : Program} {f : FuncId} {args : Array Value} {w : World} {n : Nat} {v : Value}
    (h : Calls P f args (w.drewN n) fun e w' => e = .returned v ∧ QW (w.drewN n) w') : Calls P f args (w.drewN n) fun e w'' => e = .returned v ∧ ∃ m, w'' = w.drewN m :=
  h.mono fun _ _ ⟨he, m, hm⟩ => ⟨he, n + m, by rw [hm, World.drewN_drewN]⟩
theorem QW.calls_same {P : Program} {f : FuncId} {args : Array Value} {w : World} {n : Nat} {v : Value}
    (h : Calls P f args (w.drewN n) fun e w' => e = .returned v ∧ w.drewN n = w') : Calls P f args (w.drewN n) fun e w'' => e = .returned v ∧ ∃ m, w'' = w.drewN m :=
  h.mono fun _ _ ⟨he, hm⟩ => ⟨he, n, hm.symm⟩

theorem ret_int {k : IntKind} {a b : Int} (h : a = b) : Ending.returned (.int k a) = .returned (.int k b) := by rw [h]
theorem ret_bool {a b : Bool} (h : a = b) : Ending.returned (.bool a) = .returned (.bool b) := by rw [h]

end Go.Proofs.YtbnmgonfmihicabDoor
