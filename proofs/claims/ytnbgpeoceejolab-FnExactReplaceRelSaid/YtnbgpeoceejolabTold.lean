/-
  l03Told of the model: a formula, if it isn't too large.
-/
import Derived.Test.YtnbgpeoceejolabBox
import Derived.Test.YtnbgpeoceejolabFormula
namespace Go.Proofs.Ytnbgpeoceejolab
open Go.RowKit

set_option linter.unusedSimpArgs false in
set_option maxHeartbeats 800000 in
theorem l03Told_ok (x y : Int) (a : Option Addr) (n c : Nat) (w : World) (hy : y ≤ 8) (hn : n ≤ 16) :
    Calls Try.prog 30 #[.agg #[.int .i64 x, .int .i64 y, .slice a n c]] w fun e w' => e = .returned (.tuple #[.agg #[.int .i64 x, .int .i64 y, .slice a n c], .int .i64 0]) ∧ Below w.heap.size w w' := by
  have hB : Box 32 ((w.alloc (.cells #[.int .i64 x, .int .i64 y, .slice a n c] 32)).alloc (.cells #[.int .i64 0, .int .i64 0, .slice none 0 0] 32)) w.heap.size #[.int .i64 x, .int .i64 y, .slice a n c] := (Box.new 32 w _).below ((Below.refl _ _).alloc (Nat.le_refl _) _)
  have hR : Box 32 ((w.alloc (.cells #[.int .i64 x, .int .i64 y, .slice a n c] 32)).alloc (.cells #[.int .i64 0, .int .i64 0, .slice none 0 0] 32)) (w.heap.size + 1) #[.int .i64 0, .int .i64 0, .slice none 0 0] := by
    have h := Box.new 32 (w.alloc (.cells #[.int .i64 x, .int .i64 y, .slice a n c] 32)) #[.int .i64 0, .int .i64 0, .slice none 0 0]
    simp only [World.size_alloc] at h
    exact h
  have hW : Below w.heap.size w ((w.alloc (.cells #[.int .i64 x, .int .i64 y, .slice a n c] 32)).alloc (.cells #[.int .i64 0, .int .i64 0, .slice none 0 0] 32)) := ((Below.refl _ _).alloc (Nat.le_refl _) _).alloc (by simp [go_sem] <;> omega) _
  have HW := Lib.hid hW
  have b0 := hB.c 0 rfl
  have b1 := hB.c 1 rfl
  have b2 := hB.c 2 rfl
  have d0 := hR.c 0 rfl
  have d1 := hR.c 1 rfl
  have d2 := hR.c 2 rfl
  have f0 := hR.free 0
  have f1 := hR.free 1
  have f2 := hR.free 2
  clear hW
  have h8 : decide (y > 8) = false := by simp; omega
  have h16 : decide ((n : Int) > 16) = false := by simp; omega
  go_enter Try.func30, Try.ntmps30
  go_wp2
  refine bodyPost_ret (v := .tuple #[.agg #[.int .i64 x, .int .i64 y, .slice a n c], .int .i64 0]) (by simp [results, Try.results30, go_sem, d0, d1, d2]) rfl ⟨rfl, ?_⟩
  exact ((Below.refl _ _).alloc (Nat.le_refl _) _).alloc (by simp [go_sem] <;> omega) _

set_option linter.unusedSimpArgs false in
set_option maxHeartbeats 800000 in
theorem l03Told_told1 (x y : Int) (a : Option Addr) (n c : Nat) (w : World) (hy : 8 < y) :
    Calls Try.prog 30 #[.agg #[.int .i64 x, .int .i64 y, .slice a n c]] w fun e w' => e = .returned (.tuple #[.agg #[.int .i64 0, .int .i64 0, .slice none 0 0], .int .i64 3]) ∧ Below w.heap.size w w' := by
  have hB : Box 32 ((w.alloc (.cells #[.int .i64 x, .int .i64 y, .slice a n c] 32)).alloc (.cells #[.int .i64 0, .int .i64 0, .slice none 0 0] 32)) w.heap.size #[.int .i64 x, .int .i64 y, .slice a n c] := (Box.new 32 w _).below ((Below.refl _ _).alloc (Nat.le_refl _) _)
  have hR : Box 32 ((w.alloc (.cells #[.int .i64 x, .int .i64 y, .slice a n c] 32)).alloc (.cells #[.int .i64 0, .int .i64 0, .slice none 0 0] 32)) (w.heap.size + 1) #[.int .i64 0, .int .i64 0, .slice none 0 0] := by
    have h := Box.new 32 (w.alloc (.cells #[.int .i64 x, .int .i64 y, .slice a n c] 32)) #[.int .i64 0, .int .i64 0, .slice none 0 0]
    simp only [World.size_alloc] at h
    exact h
  have hW : Below w.heap.size w ((w.alloc (.cells #[.int .i64 x, .int .i64 y, .slice a n c] 32)).alloc (.cells #[.int .i64 0, .int .i64 0, .slice none 0 0] 32)) := ((Below.refl _ _).alloc (Nat.le_refl _) _).alloc (by simp [go_sem] <;> omega) _
  have HW := Lib.hid hW
  have b0 := hB.c 0 rfl
  have b1 := hB.c 1 rfl
  have b2 := hB.c 2 rfl
  have d0 := hR.c 0 rfl
  have d1 := hR.c 1 rfl
  have d2 := hR.c 2 rfl
  have f0 := hR.free 0
  have f1 := hR.free 1
  have f2 := hR.free 2
  clear hW
  have h8 : decide (y > 8) = true := by simp; omega
  go_enter Try.func30, Try.ntmps30
  go_wp2
  refine bodyPost_ret (v := .tuple #[.agg #[.int .i64 0, .int .i64 0, .slice none 0 0], .int .i64 3]) (by simp [results, Try.results30, go_sem, d0, d1, d2]) rfl ⟨rfl, ?_⟩
  exact ((Below.refl _ _).alloc (Nat.le_refl _) _).alloc (by simp [go_sem] <;> omega) _

set_option linter.unusedSimpArgs false in
set_option maxHeartbeats 800000 in
theorem l03Told_told2 (x y : Int) (a : Option Addr) (n c : Nat) (w : World) (hy : y ≤ 8) (hn : 16 < n) :
    Calls Try.prog 30 #[.agg #[.int .i64 x, .int .i64 y, .slice a n c]] w fun e w' => e = .returned (.tuple #[.agg #[.int .i64 0, .int .i64 0, .slice none 0 0], .int .i64 3]) ∧ Below w.heap.size w w' := by
  have hB : Box 32 ((w.alloc (.cells #[.int .i64 x, .int .i64 y, .slice a n c] 32)).alloc (.cells #[.int .i64 0, .int .i64 0, .slice none 0 0] 32)) w.heap.size #[.int .i64 x, .int .i64 y, .slice a n c] := (Box.new 32 w _).below ((Below.refl _ _).alloc (Nat.le_refl _) _)
  have hR : Box 32 ((w.alloc (.cells #[.int .i64 x, .int .i64 y, .slice a n c] 32)).alloc (.cells #[.int .i64 0, .int .i64 0, .slice none 0 0] 32)) (w.heap.size + 1) #[.int .i64 0, .int .i64 0, .slice none 0 0] := by
    have h := Box.new 32 (w.alloc (.cells #[.int .i64 x, .int .i64 y, .slice a n c] 32)) #[.int .i64 0, .int .i64 0, .slice none 0 0]
    simp only [World.size_alloc] at h
    exact h
  have hW : Below w.heap.size w ((w.alloc (.cells #[.int .i64 x, .int .i64 y, .slice a n c] 32)).alloc (.cells #[.int .i64 0, .int .i64 0, .slice none 0 0] 32)) := ((Below.refl _ _).alloc (Nat.le_refl _) _).alloc (by simp [go_sem] <;> omega) _
  have HW := Lib.hid hW
  have b0 := hB.c 0 rfl
  have b1 := hB.c 1 rfl
  have b2 := hB.c 2 rfl
  have d0 := hR.c 0 rfl
  have d1 := hR.c 1 rfl
  have d2 := hR.c 2 rfl
  have f0 := hR.free 0
  have f1 := hR.free 1
  have f2 := hR.free 2
  clear hW
  have h8 : decide (y > 8) = false := by simp; omega
  have h16 : decide ((n : Int) > 16) = true := by simp; omega
  go_enter Try.func30, Try.ntmps30
  go_wp2
  refine bodyPost_ret (v := .tuple #[.agg #[.int .i64 0, .int .i64 0, .slice none 0 0], .int .i64 3]) (by simp [results, Try.results30, go_sem, d0, d1, d2]) rfl ⟨rfl, ?_⟩
  exact ((Below.refl _ _).alloc (Nat.le_refl _) _).alloc (by simp [go_sem] <;> omega) _

end Go.Proofs.Ytnbgpeoceejolab
