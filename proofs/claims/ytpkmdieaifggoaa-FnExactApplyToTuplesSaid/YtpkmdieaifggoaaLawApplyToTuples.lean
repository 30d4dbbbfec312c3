/-
  FnExactApplyToTuples: the walk over the law.
-/
import Derived.Test.YtpkmdieaifggoaaApplyT
import Derived.Test.YtpkmdieaifggoaaWrap
import Derived.Deep.RegionHeld3
namespace Go.Proofs.Ytpkmdieaifggoaa
open Go.RowKit

set_option maxHeartbeats 4000000 in
set_option maxRecDepth 100000 in
theorem lawApplyToTuples (size : Int) (xP1 : Int) (aP1 : Option Addr) (nP1 cP1 : Nat) (tP1 : List Int) (aP2 : Option Addr) (nP2 cP2 : Nat) (tP2 : List (List Int)) (w : World) (hP1 : RowAt w (.slice aP1 nP1 cP1) tP1) (hP2 : GridAt w (.slice aP2 nP2 cP2) tP2) :
    Calls Try.prog 11 #[.int .i64 size, .agg #[.int .i64 xP1, .slice aP1 nP1 cP1], .slice aP2 nP2 cP2] w fun e w' => e = .returned (.bool true) ∧ Below w.heap.size w w' := by
  have HAP1 := Lib.hid (stab_row hP1)
  have HAP2 := Lib.hid (stab_grid hP2)
  have K0 := Lib.hid ((((Kept.start w).read (lives_row _ _) hP1).read (lives_grid _ _) hP2).box (w.heap.size) rfl (.int .i64 xP1) (.slice aP1 nP1 cP1) 24)
  clear hP1 hP2
  by_cases hzP1 : (1048576 : Int) < tP1.length
  · have HF := Lib.hid (szF_no hzP1)
    clear hzP1
    go_enter Try.func11, Try.ntmps11
    go_wp2_with fail
    refine (szOp _ _ _ _ _ _ _ (K0.out.r 1 rfl :) (by omega) (by omega)).mono ?_
    rw [HF.out]
    rintro e w1 ⟨rfl, hb1⟩
    have KE := Lib.hid (K0.out.below hb1).bel
    clear hb1
    go_wp2
    go_ret
    exact ⟨rfl, KE.out⟩
  have HF1 := Lib.hid (szF_yes (t := tP1.length) (l := 1048576) (by omega))
  have hp1 : ¬ (1048576 - (tP1.length : Int) < 0) := by omega
  have hp1' : (1048576 - (tP1.length : Int)) ≤ 1048576 := by omega
  by_cases hzP2 : (1048576 - (tP1.length : Int) : Int) < gridSize tP2
  · have HF := Lib.hid (szF_no hzP2)
    clear hzP2
    go_enter Try.func11, Try.ntmps11
    go_wp2_with fail
    refine (szOp _ _ _ _ _ _ _ (K0.out.r 1 rfl :) (by omega) (by omega)).mono ?_
    rw [HF1.out]
    rintro e w1 ⟨rfl, hb1⟩
    have K1 := Lib.hid (K0.out.below hb1)
    clear hb1
    have cc0 := K1.out.c 0 rfl
    have cc1 := K1.out.c 1 rfl
    go_wp2_with fail
    refine (szGridB _ _ _ _ (K1.out.r 0 rfl :) (by omega) (by omega)).mono ?_
    rw [HF.out]
    rintro e w2 ⟨rfl, hb2⟩
    have KE := Lib.hid (K1.out.below hb2).bel
    clear hb2
    go_wp2
    go_ret
    exact ⟨rfl, KE.out⟩
  have HF2 := Lib.hid (szF_yes (t := gridSize tP2) (l := 1048576 - (tP1.length : Int)) (by omega))
  have hp2 : ¬ (1048576 - (tP1.length : Int) - (gridSize tP2 : Int) < 0) := by omega
  have hp2' : (1048576 - (tP1.length : Int) - (gridSize tP2 : Int)) ≤ 1048576 := by omega
  have HLP1 : Hid (tP1.length ≤ 1048576) := by
    show _ ≤ _
    omega
  have HLP2 : Hid (tP2.length + (tP2.map List.length).sum ≤ 1048576) := by
    show _ ≤ _
    unfold gridSize at hzP2
    omega
  obtain ⟨tR0, cd, hi⟩ := ApplyToTuplesIs.exists size xP1 tP1 tP2 HLP2.out
  have HI := Lib.hid hi
  have HS := Lib.hid hi.small
  clear hi hzP1 hzP2
  go_enter Try.func11, Try.ntmps11
  go_wp2_with fail
  refine (szOp _ _ _ _ _ _ _ (K0.out.r 1 rfl :) (by omega) (by omega)).mono ?_
  rw [HF1.out]
  rintro e w1 ⟨rfl, hb1⟩
  have K1 := Lib.hid (K0.out.below hb1)
  clear hb1
  have cc0 := K1.out.c 0 rfl
  have cc1 := K1.out.c 1 rfl
  go_wp2_with fail
  refine (szGridB _ _ _ _ (K1.out.r 0 rfl :) (by omega) (by omega)).mono ?_
  rw [HF2.out]
  rintro e w2 ⟨rfl, hb2⟩
  have K2 := Lib.hid (K1.out.below hb2)
  clear hb2 cc0 cc1
  have cc0 := K2.out.c 0 rfl
  have cc1 := K2.out.c 1 rfl
  go_wp2_with fail
  -- the model's answer
  refine (toOp _ _ _ _ _ _ (K2.out.r 1 rfl :) HLP1.out).mono ?_
  rintro e w3 ⟨a3, n3, c3, rfl, ho3, hb3⟩
  have K3 := Lib.hid ((K2.out.below hb3).read (lives_row _ _) (OwnRowE.at ho3))
  clear hb3 ho3
  clear cc0 cc1
  go_wp2_with fail
  refine (toGrid _ _ _ (K3.out.r 1 rfl :) HLP2.out).mono ?_
  rintro e w4 ⟨a4, n4, c4, rfl, ho4, hb4⟩
  have K4 := Lib.hid ((K3.out.below hb4).read (lives_grid _ _) (OwnGrid.gridAt ho4))
  clear hb4 ho4
  go_wp2_with fail
  refine (specApplyToTuples _ _ _ _ _ _ _ _ tR0 cd _ (K4.out.r 1 rfl :) (K4.out.r 0 rfl :) HI.out).mono ?_
  rintro e w5 ⟨a5, n5, c5, rfl, ho5, hb5⟩
  have K5 := Lib.hid (K4.out.below hb5)
  obtain ⟨b0, hb0o⟩ : ∃ b0, OwnRowE w5 b0 w5.heap.size (.slice a5 n5 c5) tR0 := ⟨_, ho5⟩
  have HZ0 : Hid (w.heap.size + 1 ≤ w5.heap.size) := Lib.hid (cell_block_lt (K5.out.c 0 rfl))
  have K5b := Lib.hid (K5.out.read (lives_rowE _ _ _ _) hb0o)
  clear ho5 hb5 hb0o
  have cd0 := K5b.out.c 0 rfl
  have cd1 := K5b.out.c 1 rfl
  go_wp2_with fail
  refine (toOp _ _ _ _ _ _ (K5b.out.r 4 rfl :) HLP1.out).mono ?_
  rintro e w6 ⟨a6, n6, c6, rfl, ho6, hb6⟩
  have Z6 : Hid (w5.heap.size ≤ w6.heap.size) := Lib.hid (by have := hb6.size; simpa using this)
  have K6 := Lib.hid ((K5b.out.below hb6).read (lives_rowE _ _ _ _) (ho6.mono (B' := w5.heap.size) (by simp)))
  clear cd0 cd1
  have K6b := Lib.hid (K6.out.box w6.heap.size rfl (.int .i64 xP1) (.slice a6 n6 c6) 27)
  clear hb6 ho6
  go_wp2_with fail
  refine (toGrid _ _ _ (K6b.out.r 4 rfl :) HLP2.out).mono ?_
  rintro e w7 ⟨a7, n7, c7, rfl, ho7, hb7⟩
  have Z7 : Hid (w6.heap.size + 1 ≤ w7.heap.size) := Lib.hid (by have := hb7.size; simpa using this)
  have K7 := Lib.hid ((K6b.out.below hb7).read (lives_own _ _ _ _) (ho7.mono (B' := w6.heap.size + 1) (by simp)))
  clear hb7 ho7
  -- the program's answer
  have cd2 := K7.out.c 0 rfl
  have cd3 := K7.out.c 1 rfl
  go_wp2_with fail
  refine (implApplyToTuples _ _ _ _ _ _ _ _ tR0 cd _ (OwnRowE.at (K7.out.r 1 rfl :)) (OwnGrid.gridAt (K7.out.r 0 rfl :)) HI.out).mono ?_
  rintro e w8 ⟨a8, n8, c8, rfl, ho8, hb8⟩
  have Z8 : Hid (w7.heap.size ≤ w8.heap.size) := Lib.hid (by have := hb8.size; simpa using this)
  have K8 := Lib.hid ((K7.out.below hb8).read (lives_rowE _ _ _ _) (ho8.mono (B' := w7.heap.size) (by simp)))
  clear cd2 cd3
  clear hb8 ho8
  go_wp2_with fail
  refine (eqRowB _ _ _ _ true _ (OwnRowE.at (K8.out.r 0 rfl :)) (OwnRowE.at (K8.out.r 3 rfl :)) (eqB_yes rfl)).mono ?_
  rintro e w9 ⟨rfl, hb9⟩
  have K9 := Lib.hid (K8.out.below hb9)
  clear hb9
  -- the copies are as they were
  go_wp2_with fail
  go_region_held3 (fun w' => w'.cell? ⟨w6.heap.size, 0, none⟩ = some (.int .i64 xP1) ∧ w'.cell? ⟨w6.heap.size, 1, none⟩ = some (.slice a6 n6 c6) ∧ w'.cell? ⟨w.heap.size, 0, none⟩ = some (.int .i64 xP1) ∧ w'.cell? ⟨w.heap.size, 1, none⟩ = some (.slice aP1 nP1 cP1) ∧ Kept w [(⟨w6.heap.size, 0, none⟩, .int .i64 xP1), (⟨w6.heap.size, 1, none⟩, .slice a6 n6 c6), (⟨w.heap.size, 0, none⟩, .int .i64 xP1), (⟨w.heap.size, 1, none⟩, .slice aP1 nP1 cP1)] [fun w => OwnRowE w (w7.heap.size) w8.heap.size (.slice a8 n8 c8) tR0, fun w => OwnGrid w (w6.heap.size + 1) w7.heap.size (.slice a7 n7 c7) tP2, fun w => OwnRowE w (w5.heap.size) w6.heap.size (.slice a6 n6 c6) tP1, fun w => OwnRowE w b0 w5.heap.size (.slice a5 n5 c5) tR0, fun w => GridAt w (.slice a4 n4 c4) tP2, fun w => RowAt w (.slice a3 n3 c3) tP1, fun w => GridAt w (.slice aP2 nP2 cP2) tP2, fun w => RowAt w (.slice aP1 nP1 cP1) tP1] w')
    (first | exact two_below (by assumption) hb10 | exact two_below (by assumption) hb11 | exact K9.out.drew.two 0 2 rfl rfl rfl rfl)
    (first
      | (go_at_call 15; refine (toOp _ _ _ _ _ _ (two_row (by assumption) 7 (by rfl)) HLP1.out).mono ?_; rintro e w10 ⟨a10, n10, c10, rfl, ho10, hb10⟩; have G10 := Lib.hid (OwnRowE.at ho10); clear ho10)
      | (go_at_call 17; refine (eqOp' _ _ _ _ _ _ _ _ _ _ true _ (OwnRowE.at (two_rowE (by assumption) 2 (by rfl))) G10.out (eqO_same _ _)).mono ?_; rintro e w11 ⟨rfl, hb11⟩))
  have K11 := Lib.hid ((K9.out.drew.below hb10).below hb11)
  clear hb10 hb11 G10
  go_wp2_with fail
  refine (toGrid _ _ _ (K11.out.r 6 rfl :) HLP2.out).mono ?_
  rintro e w12 ⟨a12, n12, c12, rfl, ho12, hb12⟩
  have K12 := Lib.hid ((K11.out.below hb12).read (lives_grid _ _) (OwnGrid.gridAt ho12))
  clear hb12 ho12
  go_wp2_with fail
  refine (eqGridB _ _ _ _ true _ (OwnGrid.gridAt (K12.out.r 2 rfl :)) (K12.out.r 0 rfl :) (eqB_yes rfl)).mono ?_
  rintro e w13 ⟨rfl, hb13⟩
  have K13 := Lib.hid (K12.out.below hb13)
  clear hb13
  -- marks
  have S0 := Lib.hid (((((((KeptS.start K13.out).cons (HAP1.out.go K13.out.bel.size fun g _ hg => K13.out.bel.block g hg) K13.out.bel.size).cons (HAP2.out.go K13.out.bel.size fun g _ hg => K13.out.bel.block g hg) K13.out.bel.size).cons (stab_rowE (K13.out.r 4 rfl :)) (ownRowE_le (K13.out.r 4 rfl :))).cons (stab_rowE (K13.out.r 1 rfl :)) (ownRowE_le (K13.out.r 1 rfl :))).cons (stab_own (K13.out.r 2 rfl :)) (ownGrid_le (K13.out.r 2 rfl :))).cons (stab_rowE (K13.out.r 3 rfl :)) (ownRowE_le (K13.out.r 3 rfl :)))
  have cd4 := S0.out.c 0 rfl
  have cd5 := S0.out.c 1 rfl
  go_wp2_with fail
  refine (markOp _ _ _ _ _ _ _ _ _ (S0.out.r 0 rfl :) (by omega) (by have yP1 := HLP1.out; have yP2 := HLP2.out; omega)).mono ?_
  rintro e w14 ⟨rfl, ho14, hn14⟩
  have S1 := Lib.hid (S0.out.drop.only hn14 (by have y1 := HZ0.out; have zZ6 := Z6.out; have zZ7 := Z7.out; have zZ8 := Z8.out; omega) (by have y1 := HZ0.out; have zZ6 := Z6.out; have zZ7 := Z7.out; have zZ8 := Z8.out; intro x hx; simp only [List.mem_cons, List.not_mem_nil, or_false] at hx; rcases hx with rfl | rfl | rfl | rfl <;> (dsimp only; omega)) (by have y1 := HZ0.out; have zZ6 := Z6.out; have zZ7 := Z7.out; have zZ8 := Z8.out; intro x hx; simp only [List.mem_cons, List.not_mem_nil, or_false] at hx; rcases hx with rfl | rfl | rfl | rfl | rfl <;> (dsimp only; omega)))
  clear ho14 hn14
  clear cd4 cd5
  go_wp2_with fail
  refine (markGrid _ _ _ _ _ _ (S1.out.r 0 rfl :) (by omega) (by have yP1 := HLP1.out; have yP2 := HLP2.out; omega)).mono ?_
  rintro e w15 ⟨rfl, ho15, hn15⟩
  have S2 := Lib.hid (S1.out.drop.only hn15 (by have y1 := HZ0.out; have zZ6 := Z6.out; have zZ7 := Z7.out; have zZ8 := Z8.out; omega) (by have y1 := HZ0.out; have zZ6 := Z6.out; have zZ7 := Z7.out; have zZ8 := Z8.out; intro x hx; simp only [List.mem_cons, List.not_mem_nil, or_false] at hx; rcases hx with rfl | rfl | rfl | rfl <;> (dsimp only; omega)) (by have y1 := HZ0.out; have zZ6 := Z6.out; have zZ7 := Z7.out; have zZ8 := Z8.out; intro x hx; simp only [List.mem_cons, List.not_mem_nil, or_false] at hx; rcases hx with rfl | rfl | rfl | rfl <;> (dsimp only; omega)))
  clear ho15 hn15
  have hpos : ¬ (1 + (tP1.length : Int) + ((tP2.map List.length).sum : Int) < 0) := by omega
  go_wp2_with fail
  refine (eqRowB _ _ _ _ true _ (OwnRowE.at (S2.out.r 0 rfl :)) (OwnRowE.at (S2.out.r 1 rfl :)) (eqB_yes rfl)).mono ?_
  rintro e w16 ⟨rfl, hb16⟩
  have S3 := Lib.hid (S2.out.below hb16)
  clear hb16
  go_wp2_with fail
  refine (markRowE _ _ _ _ _ _ (S3.out.r 0 rfl :) (by omega) (by have := HS.out; omega)).mono ?_
  rintro e w17 ⟨rfl, ho17, hn17⟩
  have S4 := Lib.hid ((S3.out.drop.only hn17 (by have y1 := HZ0.out; have zZ6 := Z6.out; have zZ7 := Z7.out; have zZ8 := Z8.out; omega) (by have y1 := HZ0.out; have zZ6 := Z6.out; have zZ7 := Z7.out; have zZ8 := Z8.out; intro x hx; simp only [List.mem_cons, List.not_mem_nil, or_false] at hx; rcases hx with rfl | rfl | rfl | rfl <;> (dsimp only; omega)) (by have y1 := HZ0.out; have zZ6 := Z6.out; have zZ7 := Z7.out; have zZ8 := Z8.out; intro x hx; simp only [List.mem_cons, List.not_mem_nil, or_false] at hx; rcases hx with rfl | rfl | rfl <;> (dsimp only; omega))).cons (stab_rowE ho17) (ownRowE_le ho17))
  clear ho17 hn17
  have K18 := Lib.hid ((((S4.out.end.read (lives_grid _ _) (S4.out.r 2 rfl :)).read (lives_row _ _) (S4.out.r 3 rfl :)).read (lives_rowE _ _ _ _) (S4.out.r 1 rfl :)).read (lives_rowE _ _ _ _) (S4.out.r 0 rfl :))
  go_wp2_with fail
  refine (heldRowB _ _ _ _ (OwnRowE.at (K18.out.r 0 rfl :)) (by omega) (by have := HS.out; omega)).mono ?_
  rintro e w19 ⟨rfl, hb19⟩
  have K19 := Lib.hid (K18.out.below hb19)
  clear hb19
  have hposz : ¬ (1 + (tR0.length : Int) < 0) := by omega
  -- the program's answer again
  have cd6 := K19.out.c 2 rfl
  have cd7 := K19.out.c 3 rfl
  go_wp2_with fail
  refine (toOp _ _ _ _ _ _ (K19.out.r 2 rfl :) HLP1.out).mono ?_
  rintro e w20 ⟨a20, n20, c20, rfl, ho20, hb20⟩
  have K20 := Lib.hid ((K19.out.below hb20).read (lives_row _ _) (OwnRowE.at ho20))
  clear hb20 ho20
  clear cd6 cd7
  go_wp2_with fail
  refine (toGrid _ _ _ (K20.out.r 4 rfl :) HLP2.out).mono ?_
  rintro e w21 ⟨a21, n21, c21, rfl, ho21, hb21⟩
  have K21 := Lib.hid ((K20.out.below hb21).read (lives_grid _ _) (OwnGrid.gridAt ho21))
  clear hb21 ho21
  go_wp2_with fail
  refine (implApplyToTuples _ _ _ _ _ _ _ _ tR0 cd _ (K21.out.r 1 rfl :) (K21.out.r 0 rfl :) HI.out).mono ?_
  rintro e w22 ⟨a22, n22, c22, rfl, ho22, hb22⟩
  have K22 := Lib.hid (K21.out.below hb22)
  have K22h := Lib.hid (K22.out.read (lives_rowE _ _ _ _) ho22)
  clear ho22 hb22
  go_wp2_with fail
  refine (eqRowB _ _ _ _ true _ (OwnRowE.at (K22h.out.r 0 rfl :)) (OwnRowE.at (K22h.out.r 4 rfl :)) (eqB_yes rfl)).mono ?_
  rintro e w23 ⟨rfl, hb23⟩
  have K23 := Lib.hid (K22h.out.below hb23)
  clear hb23
  go_wp2_with fail
  refine (heldRowB _ _ _ _ (OwnRowE.at (K23.out.r 3 rfl :)) (by omega) (by have := HS.out; omega)).mono ?_
  rintro e w24 ⟨rfl, hb24⟩
  have K24 := Lib.hid (K23.out.below hb24)
  clear hb24
  go_wp2
  go_ret
  exact ⟨rfl, K24.out.bel⟩

end Go.Proofs.Ytpkmdieaifggoaa
