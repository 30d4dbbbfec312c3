/-
  The laws' calls over rows and grids in the same words: copies, comparisons, measures, marks.
-/
import Derived.Test.YtbnmgonfmihicabDoorStab
import Derived.Test.YtbnmgonfmihicabDoorMark
namespace Go.Proofs.YtbnmgonfmihicabDoor
open Go.RowKit

/-- The rows' and grids' calls in the same words. -/
theorem markRowE (B E : Nat) (v : Value) (xs : List Int) (k0 : Int) (w : World) (h : OwnRowE w B E v xs) (hk0 : 0 ≤ k0) (hk1 : k0 + xs.length ≤ 1000000000000) :
    Calls Tryd.prog 16 #[v, .int .i64 k0] w fun e w' => e = .returned (.int .i64 (k0 + xs.length)) ∧ OwnRowE w' B E v (marks k0 xs.length) ∧ Only (fun g => B ≤ g ∧ g < E) w w' :=
  (markRow B v xs k0 w h.row hk0 hk1).mono fun _ _ ⟨he, ho, hn⟩ => ⟨he, Only.rowE h hn ho⟩

theorem heldRowB (v : Value) (n : Nat) (k0 : Int) (w : World) (h : RowAt w v (marks k0 n)) (hk0 : 0 ≤ k0) (hk1 : k0 + n ≤ 1000000000000) :
    Calls Tryd.prog 66 #[v, .int .i64 k0] w fun e w' => e = .returned (.int .i64 (k0 + n)) ∧ Below w.heap.size w w' :=
  (heldRow v n k0 w h hk0 hk1).mono fun _ _ ⟨he, hw⟩ => ⟨he, hw ▸ Below.refl _ _⟩

theorem heldGridB (v : Value) (xss : List (List Int)) (k0 : Int) (w : World) (h : GridAt w v (marksG k0 xss)) (hk0 : 0 ≤ k0) (hk1 : k0 + (xss.map List.length).sum ≤ 1000000000000) :
    Calls Tryd.prog 44 #[v, .int .i64 k0] w fun e w' => e = .returned (.int .i64 (k0 + (xss.map List.length).sum)) ∧ Below w.heap.size w w' :=
  (heldGrid v xss k0 w h hk0 hk1).mono fun _ _ ⟨he, hw⟩ => ⟨he, hw ▸ Below.refl _ _⟩

theorem eqRowB (v1 v2 : Value) (xs ys : List Int) (b : Bool) (w : World) (h1 : RowAt w v1 xs) (h2 : RowAt w v2 ys) (hb : eqB xs ys = b) :
    Calls Tryd.prog 14 #[v1, v2] w fun e w' => e = .returned (.bool b) ∧ Below w.heap.size w w' :=
  (eqRow' v1 v2 xs ys b w h1 h2 hb).mono fun _ _ ⟨he, hq⟩ => ⟨he, hq.below _⟩

theorem eqGridB (v1 v2 : Value) (xs ys : List (List Int)) (b : Bool) (w : World) (h1 : GridAt w v1 xs) (h2 : GridAt w v2 ys) (hb : eqB xs ys = b) :
    Calls Tryd.prog 42 #[v1, v2] w fun e w' => e = .returned (.bool b) ∧ Below w.heap.size w w' :=
  (eqGrid' v1 v2 xs ys b w h1 h2 hb).mono fun _ _ ⟨he, hq⟩ => ⟨he, hq.below _⟩

theorem szGridB (v : Value) (xss : List (List Int)) (left : Int) (w : World) (h : GridAt w v xss) (h0 : 0 ≤ left) (h1 : left ≤ 1048576) :
    Calls Tryd.prog 26 #[v, .int .i64 left] w fun e w' => e = .returned (.int .i64 (szF (gridSize xss) left)) ∧ Below w.heap.size w w' :=
  (szGrid v xss left w h h0 h1).mono fun _ _ ⟨he, hw⟩ => ⟨he, hw ▸ Below.refl _ _⟩

theorem toRowE (v : Value) (xs : List Int) (w : World) (h : RowAt w v xs) (hl : xs.length ≤ 1048576) :
    Calls Tryd.prog 11 #[v] w fun e w' => ∃ a n c, e = .returned (.slice a n c) ∧ OwnRowE w' w.heap.size w'.heap.size (.slice a n c) xs ∧ Below w.heap.size w w' :=
  (toRow v xs w h hl).mono fun _ _ ⟨a, n, c, he, ho, hb⟩ => ⟨a, n, c, he, ho.full, hb⟩

end Go.Proofs.YtbnmgonfmihicabDoor
