/-
  FnExactApplyOp: the walk over the law.
-/
import Derived.Test.YtpkmdieaifggoaaApplyOp
import Derived.Test.YtpkmdieaifggoaaWrap
import Derived.Deep.RegionHeld3
namespace Go.Proofs.Ytpkmdieaifggoaa
open Go.RowKit

set_option maxHeartbeats 4000000 in
set_option maxRecDepth 100000 in
theorem lawApplyOp (size : Int) (xP1 : Int) (aP1 : Option Addr) (nP1 cP1 : Nat) (tP1 : List Int) (aP2 : Option Addr) (nP2 cP2 : Nat) (tP2 : List Int) (w : World) (hP1 : RowAt w (.slice aP1 nP1 cP1) tP1) (hP2 : RowAt w (.slice aP2 nP2 cP2) tP2) :
    Calls Try.prog 7 #[.int .i64 size, .agg #[.int .i64 xP1, .slice aP1 nP1 cP1], .slice aP2 nP2 cP2] w fun e w' => e = .returned (.bool true) ∧ Below w.heap.size w w' := by
  obtain rfl : nP2 = tP2.length := by obtain ⟨_, _, hv, _⟩ := hP2; simp only [Value.slice.injEq] at hv; exact hv.2.1
  have hnP2 : tP2.length ≤ 9223372036854775807 := by obtain ⟨_, _, _, hn, _⟩ := hP2; exact hn
  have K0 := Lib.hid ((((Kept.start w).read (lives_row _ _) hP1).read (lives_row _ _) hP2).box (w.heap.size) rfl (.int .i64 xP1) (.slice aP1 nP1 cP1) 24)
  clear hP1 hP2
  by_cases hlP2 : (1048576 : Int) < tP2.length
  · go_enter Try.func7, Try.ntmps7
    go_wp2
    go_ret
    exact ⟨rfl, K0.out.bel⟩
  by_cases hzP1 : (1048576 : Int) < tP1.length
  · have HF := Lib.hid (szF_no hzP1)
    clear hzP1
    go_enter Try.func7, Try.ntmps7
    go_wp2_with fail
    refine (szOp _ _ _ _ _ _ _ (K0.out.r 1 rfl :) (by omega) (by omega)).mono ?_
    rw [HF.out]
    rintro e w1 ⟨rfl, hb1⟩
    have KE := Lib.hid (K0.out.below hb1).bel
    clear hb1
    go_wp2
    go_ret
    exact ⟨rfl, KE.out⟩
  have HF1 := Lib.hid (szF_yes (t := tP1.length) (l := 1048576) (by omega))
  have hp1 : ¬ (1048576 - (tP1.length : Int) < 0) := by omega
  have hp1' : (1048576 - (tP1.length : Int)) ≤ 1048576 := by omega
  have HLP1 : Hid (tP1.length ≤ 1048576) := by
    show _ ≤ _
    omega
  have HLP2 : Hid (tP2.length ≤ 1048576) := by show _ ≤ _; omega
  obtain ⟨v, cd, hi⟩ := ApplyOpIs.exists size xP1 tP1 tP2
  have HI := Lib.hid hi
  clear hi hzP1
  go_enter Try.func7, Try.ntmps7
  go_wp2_with fail
  refine (szOp _ _ _ _ _ _ _ (K0.out.r 1 rfl :) (by omega) (by omega)).mono ?_
  rw [HF1.out]
  rintro e w1 ⟨rfl, hb1⟩
  have K1 := Lib.hid (K0.out.below hb1)
  clear hb1
  have cc0 := K1.out.c 0 rfl
  have cc1 := K1.out.c 1 rfl
  go_wp2_with fail
  -- the model's answer
  refine (toOp _ _ _ _ _ _ (K1.out.r 1 rfl :) HLP1.out).mono ?_
  rintro e w2 ⟨a2, n2, c2, rfl, ho2, hb2⟩
  have K2 := Lib.hid ((K1.out.below hb2).read (lives_row _ _) (OwnRowE.at ho2))
  clear hb2 ho2
  clear cc0 cc1
  go_wp2_with fail
  refine (toRowE _ _ _ (K2.out.r 1 rfl :) HLP2.out).mono ?_
  rintro e w3 ⟨a3, n3, c3, rfl, ho3, hb3⟩
  have K3 := Lib.hid ((K2.out.below hb3).read (lives_row _ _) (OwnRowE.at ho3))
  clear hb3 ho3
  go_wp2_with fail
  refine (specApplyOp _ _ _ _ _ _ _ _ v cd _ (K3.out.r 1 rfl :) (K3.out.r 0 rfl :) HI.out).mono ?_
  rintro e w4 ⟨rfl, hb4⟩
  have K4 := Lib.hid (K3.out.below hb4)
  clear hb4
  have cd0 := K4.out.c 0 rfl
  have cd1 := K4.out.c 1 rfl
  go_wp2_with fail
  refine (toOp _ _ _ _ _ _ (K4.out.r 3 rfl :) HLP1.out).mono ?_
  rintro e w5 ⟨a5, n5, c5, rfl, ho5, hb5⟩
  have K5 := Lib.hid ((K4.out.below hb5).read (lives_rowE _ _ _ _) (ho5.mono (B' := w4.heap.size) (by simp)))
  clear cd0 cd1
  have K5b := Lib.hid (K5.out.box w5.heap.size rfl (.int .i64 xP1) (.slice a5 n5 c5) 27)
  clear hb5 ho5
  go_wp2_with fail
  refine (toRowE _ _ _ (K5b.out.r 3 rfl :) HLP2.out).mono ?_
  rintro e w6 ⟨a6, n6, c6, rfl, ho6, hb6⟩
  have K6 := Lib.hid ((K5b.out.below hb6).read (lives_rowE _ _ _ _) (ho6.mono (B' := w5.heap.size + 1) (by simp)))
  clear hb6 ho6
  -- the program's answer
  have cd2 := K6.out.c 0 rfl
  have cd3 := K6.out.c 1 rfl
  go_wp2_with fail
  refine (implApplyOp _ _ _ _ _ _ _ _ v cd _ (OwnRowE.at (K6.out.r 1 rfl :)) (OwnRowE.at (K6.out.r 0 rfl :)) HI.out).mono ?_
  rintro e w7 ⟨rfl, hb7⟩
  have K7 := Lib.hid (K6.out.below hb7)
  clear cd2 cd3
  clear hb7
  -- the copies are as they were
  go_wp2_with fail
  go_region_held3 (fun w' => w'.cell? ⟨w5.heap.size, 0, none⟩ = some (.int .i64 xP1) ∧ w'.cell? ⟨w5.heap.size, 1, none⟩ = some (.slice a5 n5 c5) ∧ w'.cell? ⟨w.heap.size, 0, none⟩ = some (.int .i64 xP1) ∧ w'.cell? ⟨w.heap.size, 1, none⟩ = some (.slice aP1 nP1 cP1) ∧ Kept w [(⟨w5.heap.size, 0, none⟩, .int .i64 xP1), (⟨w5.heap.size, 1, none⟩, .slice a5 n5 c5), (⟨w.heap.size, 0, none⟩, .int .i64 xP1), (⟨w.heap.size, 1, none⟩, .slice aP1 nP1 cP1)] [fun w => OwnRowE w (w5.heap.size + 1) w6.heap.size (.slice a6 n6 c6) tP2, fun w => OwnRowE w (w4.heap.size) w5.heap.size (.slice a5 n5 c5) tP1, fun w => RowAt w (.slice a3 n3 c3) tP2, fun w => RowAt w (.slice a2 n2 c2) tP1, fun w => RowAt w (.slice aP2 tP2.length cP2) tP2, fun w => RowAt w (.slice aP1 nP1 cP1) tP1] w')
    (first | exact two_below (by assumption) hb8 | exact two_below (by assumption) hb9 | exact K7.out.drew.two 0 2 rfl rfl rfl rfl)
    (first
      | (go_at_call 15; refine (toOp _ _ _ _ _ _ (two_row (by assumption) 5 (by rfl)) HLP1.out).mono ?_; rintro e w8 ⟨a8, n8, c8, rfl, ho8, hb8⟩; have G8 := Lib.hid (OwnRowE.at ho8); clear ho8)
      | (go_at_call 17; refine (eqOp' _ _ _ _ _ _ _ _ _ _ true _ (OwnRowE.at (two_rowE (by assumption) 1 (by rfl))) G8.out (eqO_same _ _)).mono ?_; rintro e w9 ⟨rfl, hb9⟩))
  have K9 := Lib.hid ((K7.out.drew.below hb8).below hb9)
  clear hb8 hb9 G8
  go_wp2_with fail
  refine (toRowE _ _ _ (K9.out.r 4 rfl :) HLP2.out).mono ?_
  rintro e w10 ⟨a10, n10, c10, rfl, ho10, hb10⟩
  have K10 := Lib.hid ((K9.out.below hb10).read (lives_row _ _) (OwnRowE.at ho10))
  clear hb10 ho10
  go_wp2_with fail
  refine (eqRowB _ _ _ _ true _ (OwnRowE.at (K10.out.r 1 rfl :)) (K10.out.r 0 rfl :) (eqB_yes rfl)).mono ?_
  rintro e w11 ⟨rfl, hb11⟩
  have K11 := Lib.hid (K10.out.below hb11)
  clear hb11
  go_wp2
  go_ret
  exact ⟨rfl, K11.out.bel⟩

end Go.Proofs.Ytpkmdieaifggoaa
