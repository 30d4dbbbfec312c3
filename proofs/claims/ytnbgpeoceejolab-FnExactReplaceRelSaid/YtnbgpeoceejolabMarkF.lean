/-
  The laws' marks of formulas.
-/
import Derived.Test.YtnbgpeoceejolabMarkAtom
namespace Go.Proofs.Ytnbgpeoceejolab
open Go.RowKit

set_option maxHeartbeats 1000000 in
theorem markFormula (B E : Nat) (x y : Int) (a : Option Addr) (n c : Nat) (rs : List (Int × List Int)) (k0 : Int) (w : World) (h : (OwnOps 83) w B E (.slice a n c) rs) (hk0 : 0 ≤ k0) (hk1 : k0 + opsSize rs ≤ 1000000000000) :
    Calls Try.prog 15 #[.agg #[.int .i64 x, .int .i64 y, .slice a n c], .int .i64 k0] w fun e w' => e = .returned (.int .i64 (k0 + opsSize rs)) ∧ (OwnOps 83) w' B E (.slice a n c) (marksO k0 rs) ∧ Only (fun g => B ≤ g ∧ g < E) w w' := by
  have hbw : Below w.heap.size w (w.alloc (.cells #[.int .i64 x, .int .i64 y, .slice a n c] 32)) := (Below.refl _ _).alloc (Nat.le_refl _) _
  have H := Lib.hid (h.below hbw)
  have HN : Hid (Only (fun g => B ≤ g ∧ g < E) w (w.alloc (.cells #[.int .i64 x, .int .i64 y, .slice a n c] 32))) := ⟨rfl, rfl, rfl, by simp, fun k hk _ => Below.heap_alloc _ _ _ hk⟩
  clear h hbw
  go_enter Try.func15, Try.ntmps15
  go_wp2_with fail
  refine (markAtomS B E _ _ _ _ H.out hk0 hk1).mono ?_
  rintro e w2 ⟨rfl, ho2, hn2⟩
  have HO := Lib.hid ho2
  have HN2 := Lib.hid (HN.out.trans hn2)
  clear ho2 hn2
  go_wp2
  go_ret
  exact ⟨rfl, HO.out, HN2.out⟩

set_option maxHeartbeats 1000000 in
theorem heldFormula (x y : Int) (a : Option Addr) (n c : Nat) (rs : List (Int × List Int)) (k0 : Int) (w : World) (h : OpsAt w (.slice a n c) (marksO k0 rs)) (hk0 : 0 ≤ k0) (hk1 : k0 + opsSize rs ≤ 1000000000000) :
    Calls Try.prog 16 #[.agg #[.int .i64 x, .int .i64 y, .slice a n c], .int .i64 k0] w fun e w' => e = .returned (.int .i64 (k0 + opsSize rs)) ∧ Below w.heap.size w w' := by
  have hbw : Below w.heap.size w (w.alloc (.cells #[.int .i64 x, .int .i64 y, .slice a n c] 32)) := (Below.refl _ _).alloc (Nat.le_refl _) _
  have H := Lib.hid (h.below hbw)
  have HW := Lib.hid hbw
  have hpos : ¬ (k0 + (opsSize rs : Int) < 0) := by omega
  clear h hbw
  go_enter Try.func16, Try.ntmps16
  go_wp2_with fail
  refine (heldAtomS _ _ _ _ H.out hk0 hk1).mono ?_
  rintro e w2 ⟨rfl, rfl⟩
  go_wp2
  go_ret
  exact ⟨rfl, HW.out⟩

end Go.Proofs.Ytnbgpeoceejolab
