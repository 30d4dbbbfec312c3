/-
  FnExactValidOp: the walk over the law.
-/
import Derived.Test.YtpkmdieaifggoaaOpOk
import Derived.Test.YtpkmdieaifggoaaWrap
import Derived.Deep.RegionHeld3
namespace Go.Proofs.Ytpkmdieaifggoaa
open Go.RowKit

set_option maxHeartbeats 4000000 in
set_option maxRecDepth 100000 in
theorem lawValidOp (size : Int) (x1 : Int) (a1 : Option Addr) (n1 c1 : Nat) (t1 : List Int) (w : World) (h1 : RowAt w (.slice a1 n1 c1) t1) :
    Calls Try.prog 3 #[.int .i64 size, .agg #[.int .i64 x1, .slice a1 n1 c1]] w fun e w' => e = .returned (.bool true) ∧ Below w.heap.size w w' := by
  have K0 := Lib.hid (((Kept.start w).read (lives_row _ _) h1).box (w.heap.size) rfl (.int .i64 x1) (.slice a1 n1 c1) 24)
  clear h1
  by_cases hz1 : (1048576 : Int) < t1.length
  · have HF := Lib.hid (szF_no hz1)
    clear hz1
    go_enter Try.func3, Try.ntmps3
    go_wp2_with fail
    refine (szOp _ _ _ _ _ _ _ (K0.out.r 0 rfl :) (by omega) (by omega)).mono ?_
    rw [HF.out]
    rintro e w1 ⟨rfl, hb1⟩
    have KE := Lib.hid (K0.out.below hb1).bel
    clear hb1
    go_wp2
    go_ret
    exact ⟨rfl, KE.out⟩
  have HF1 := Lib.hid (szF_yes (t := t1.length) (l := 1048576) (by omega))
  have hp1 : ¬ (1048576 - (t1.length : Int) < 0) := by omega
  have hp1' : (1048576 - (t1.length : Int)) ≤ 1048576 := by omega
  have HL1 : Hid (t1.length ≤ 1048576) := by
    show _ ≤ _
    omega
  obtain ⟨b, hi⟩ := ValidOpIs.exists size x1 t1
  have HI := Lib.hid hi
  clear hi hz1
  go_enter Try.func3, Try.ntmps3
  go_wp2_with fail
  refine (szOp _ _ _ _ _ _ _ (K0.out.r 0 rfl :) (by omega) (by omega)).mono ?_
  rw [HF1.out]
  rintro e w1 ⟨rfl, hb1⟩
  have K1 := Lib.hid (K0.out.below hb1)
  clear hb1
  have cc0 := K1.out.c 0 rfl
  have cc1 := K1.out.c 1 rfl
  go_wp2_with fail
  -- the model's answer
  refine (toOp _ _ _ _ _ _ (K1.out.r 0 rfl :) HL1.out).mono ?_
  rintro e w2 ⟨a2, n2, c2, rfl, ho2, hb2⟩
  have K2 := Lib.hid ((K1.out.below hb2).read (lives_row _ _) (OwnRowE.at ho2))
  clear hb2 ho2
  clear cc0 cc1
  go_wp2_with fail
  refine (specValidOp _ _ _ _ _ _ b _ (K2.out.r 0 rfl :) HI.out).mono ?_
  rintro e w3 ⟨rfl, hb3⟩
  have K3 := Lib.hid (K2.out.below hb3)
  clear hb3
  have cd0 := K3.out.c 0 rfl
  have cd1 := K3.out.c 1 rfl
  go_wp2_with fail
  refine (toOp _ _ _ _ _ _ (K3.out.r 1 rfl :) HL1.out).mono ?_
  rintro e w4 ⟨a4, n4, c4, rfl, ho4, hb4⟩
  have K4 := Lib.hid ((K3.out.below hb4).read (lives_rowE _ _ _ _) (ho4.mono (B' := w3.heap.size) (by simp)))
  clear cd0 cd1
  have K4b := Lib.hid (K4.out.box w4.heap.size rfl (.int .i64 x1) (.slice a4 n4 c4) 27)
  clear hb4 ho4
  -- the program's answer
  have cd2 := K4b.out.c 0 rfl
  have cd3 := K4b.out.c 1 rfl
  go_wp2_with fail
  refine (implValidOp _ _ _ _ _ _ b _ (OwnRowE.at (K4b.out.r 0 rfl :)) HI.out).mono ?_
  rintro e w5 ⟨rfl, hb5⟩
  have K5 := Lib.hid (K4b.out.below hb5)
  clear cd2 cd3
  clear hb5
  -- the copies are as they were
  go_wp2_with fail
  go_region_held3 (fun w' => w'.cell? ⟨w4.heap.size, 0, none⟩ = some (.int .i64 x1) ∧ w'.cell? ⟨w4.heap.size, 1, none⟩ = some (.slice a4 n4 c4) ∧ w'.cell? ⟨w.heap.size, 0, none⟩ = some (.int .i64 x1) ∧ w'.cell? ⟨w.heap.size, 1, none⟩ = some (.slice a1 n1 c1) ∧ Kept w [(⟨w4.heap.size, 0, none⟩, .int .i64 x1), (⟨w4.heap.size, 1, none⟩, .slice a4 n4 c4), (⟨w.heap.size, 0, none⟩, .int .i64 x1), (⟨w.heap.size, 1, none⟩, .slice a1 n1 c1)] [fun w => OwnRowE w (w3.heap.size) w4.heap.size (.slice a4 n4 c4) t1, fun w => RowAt w (.slice a2 n2 c2) t1, fun w => RowAt w (.slice a1 n1 c1) t1] w')
    (first | exact two_below (by assumption) hb6 | exact two_below (by assumption) hb7 | exact K5.out.drew.two 0 2 rfl rfl rfl rfl)
    (first
      | (go_at_call 15; refine (toOp _ _ _ _ _ _ (two_row (by assumption) 2 (by rfl)) HL1.out).mono ?_; rintro e w6 ⟨a6, n6, c6, rfl, ho6, hb6⟩; have G6 := Lib.hid (OwnRowE.at ho6); clear ho6)
      | (go_at_call 17; refine (eqOp' _ _ _ _ _ _ _ _ _ _ true _ (OwnRowE.at (two_rowE (by assumption) 0 (by rfl))) G6.out (eqO_same _ _)).mono ?_; rintro e w7 ⟨rfl, hb7⟩))
  have K7 := Lib.hid ((K5.out.drew.below hb6).below hb7)
  clear hb6 hb7 G6
  go_wp2
  go_ret
  exact ⟨rfl, K7.out.bel⟩

end Go.Proofs.Ytpkmdieaifggoaa
