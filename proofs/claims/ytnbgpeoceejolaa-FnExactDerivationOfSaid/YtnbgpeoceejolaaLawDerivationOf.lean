/-
  FnExactDerivationOf: the walk over the law.
-/
import Derived.Test.YtnbgpeoceejolaaGDer
import Derived.Test.YtnbgpeoceejolaaStabE
import Derived.Test.YtnbgpeoceejolaaGBase
import Derived.Test.YtnbgpeoceejolaaReg
import Derived.Test.YtnbgpeoceejolaaKept3
import Derived.Test.YtnbgpeoceejolaaStab2
import Derived.Test.YtnbgpeoceejolaaMade
import Derived.Deep.CutRange
import Derived.Deep.RegionHeld3
namespace Go.Proofs.Ytnbgpeoceejolaa
open Go.RowKit

set_option linter.unusedSimpArgs false in
set_option maxHeartbeats 4000000 in
set_option maxRecDepth 100000 in
theorem lawDerivationOf (xP1 : Int) (yP1 : Int) (aP1 : Option Addr) (nP1 cP1 : Nat) (tP1 : List (Int × List Int)) (xP2 : Int) (aP2 : Option Addr) (nP2 cP2 : Nat) (tP2 : List Int) (w : World) (hP1 : EqsAt w (.slice aP1 nP1 cP1) tP1) (hP2 : RowAt w (.slice aP2 nP2 cP2) tP2) :
    Calls Try.prog 8 #[.agg #[.int .i64 xP1, .int .i64 yP1, .slice aP1 nP1 cP1], .agg #[.slice aP2 nP2 cP2, .int .i64 xP2]] w fun e w' => e = .returned (.bool true) ∧ Below w.heap.size w w' := by
  have HAP1 := Lib.hid (stab_eqs hP1)
  have HAP2 := Lib.hid (stab_row hP2)
  have K0 := Lib.hid (((((Kept.start w).read (lives_eqs _ _) hP1).read (lives_row _ _) hP2).box3 (w.heap.size) rfl (.int .i64 xP1) (.int .i64 yP1) (.slice aP1 nP1 cP1) 24).box (w.heap.size + 1) (by simp) (.slice aP2 nP2 cP2) (.int .i64 xP2) 43)
  clear hP1 hP2
  by_cases hzP1 : (1048576 : Int) < opsSize tP1
  · have HF := Lib.hid (szF_no hzP1)
    clear hzP1
    go_enter Try.func8, Try.ntmps8
    go_wp2_with fail
    refine (szSystem _ _ _ _ _ _ _ _ (K0.out.r 1 rfl :) (by omega) (by omega)).mono ?_
    rw [HF.out]
    rintro e w1 ⟨rfl, hb1⟩
    have KE := Lib.hid (K0.out.below hb1).bel
    clear hb1
    go_wp2
    go_ret
    exact ⟨rfl, KE.out⟩
  have HF1 := Lib.hid (szF_yes (t := opsSize tP1) (l := 1048576) (by omega))
  have hp1 : ¬ (1048576 - (opsSize tP1 : Int) < 0) := by omega
  have hp1' : (1048576 - (opsSize tP1 : Int)) ≤ 1048576 := by omega
  by_cases hzP2 : (1048576 - (opsSize tP1 : Int) : Int) < tP2.length
  · have HF := Lib.hid (szF_no hzP2)
    clear hzP2
    go_enter Try.func8, Try.ntmps8
    go_wp2_with fail
    refine (szSystem _ _ _ _ _ _ _ _ (K0.out.r 1 rfl :) (by omega) (by omega)).mono ?_
    rw [HF1.out]
    rintro e w1 ⟨rfl, hb1⟩
    have K1 := Lib.hid (K0.out.below hb1)
    clear hb1
    have cc0 := K1.out.c 0 rfl
    have cc1 := K1.out.c 1 rfl
    have cc2 := K1.out.c 2 rfl
    have cc3 := K1.out.c 3 rfl
    have cc4 := K1.out.c 4 rfl
    go_wp2_with fail
    refine (szEquation _ _ _ _ _ _ _ (K1.out.r 0 rfl :) (by omega) (by omega)).mono ?_
    rw [HF.out]
    rintro e w2 ⟨rfl, hb2⟩
    have KE := Lib.hid (K1.out.below hb2).bel
    clear hb2
    go_wp2
    go_ret
    exact ⟨rfl, KE.out⟩
  have HF2 := Lib.hid (szF_yes (t := tP2.length) (l := 1048576 - (opsSize tP1 : Int)) (by omega))
  have hp2 : ¬ (1048576 - (opsSize tP1 : Int) - (tP2.length : Int) < 0) := by omega
  have hp2' : (1048576 - (opsSize tP1 : Int) - (tP2.length : Int)) ≤ 1048576 := by omega
  have HLP1 : Hid (opsSize tP1 ≤ 1048576) := by
    show _ ≤ _
    omega
  have HLP2 : Hid (tP2.length ≤ 1048576) := by
    show _ ≤ _
    omega
  obtain ⟨tR0, cd, hi⟩ := DerivationOfIs.exists xP1 yP1 tP1 tP2 xP2
  have HI := Lib.hid hi
  have HS := Lib.hid hi.small
  clear hi hzP1 hzP2
  go_enter Try.func8, Try.ntmps8
  go_wp2_with fail
  refine (szSystem _ _ _ _ _ _ _ _ (K0.out.r 1 rfl :) (by omega) (by omega)).mono ?_
  rw [HF1.out]
  rintro e w1 ⟨rfl, hb1⟩
  have K1 := Lib.hid (K0.out.below hb1)
  clear hb1
  have cc0 := K1.out.c 0 rfl
  have cc1 := K1.out.c 1 rfl
  have cc2 := K1.out.c 2 rfl
  have cc3 := K1.out.c 3 rfl
  have cc4 := K1.out.c 4 rfl
  go_wp2_with fail
  refine (szEquation _ _ _ _ _ _ _ (K1.out.r 0 rfl :) (by omega) (by omega)).mono ?_
  rw [HF2.out]
  rintro e w2 ⟨rfl, hb2⟩
  have K2 := Lib.hid (K1.out.below hb2)
  clear hb2 cc0 cc1 cc2 cc3 cc4
  have cc0 := K2.out.c 0 rfl
  have cc1 := K2.out.c 1 rfl
  have cc2 := K2.out.c 2 rfl
  have cc3 := K2.out.c 3 rfl
  have cc4 := K2.out.c 4 rfl
  go_wp2_with fail
  -- the model's answer
  refine wp_region_noPanic ?_
  refine wp_region_late (S := (fun w' => w'.cell? ⟨w.heap.size, 0, none⟩ = some (.int .i64 xP1) ∧ w'.cell? ⟨w.heap.size, 1, none⟩ = some (.int .i64 yP1) ∧ w'.cell? ⟨w.heap.size, 2, none⟩ = some (.slice aP1 nP1 cP1) ∧ w'.cell? ⟨w.heap.size + 1, 0, none⟩ = some (.slice aP2 nP2 cP2) ∧ w'.cell? ⟨w.heap.size + 1, 1, none⟩ = some (.int .i64 xP2) ∧ Kept w [(⟨w.heap.size + 1, 0, none⟩, .slice aP2 nP2 cP2), (⟨w.heap.size + 1, 1, none⟩, .int .i64 xP2), (⟨w.heap.size, 0, none⟩, .int .i64 xP1), (⟨w.heap.size, 1, none⟩, .int .i64 yP1), (⟨w.heap.size, 2, none⟩, .slice aP1 nP1 cP1)] [fun w => RowAt w (.slice aP2 nP2 cP2) tP2, fun w => EqsAt w (.slice aP1 nP1 cP1) tP1] w')) [] (by kernel_rfl) ?_ (fun hHeld => ?_)
  · exact ⟨K2.out.drew.c 2 rfl, K2.out.drew.c 3 rfl, K2.out.drew.c 4 rfl, K2.out.drew.c 0 rfl, K2.out.drew.c 1 rfl, K2.out.drew⟩
  refine wpAnyL_take (i := 0) (v := ?_) (some 28) rfl rfl (by kernel_rfl) (by kernel_rfl) (by kernel_rfl) (by kernel_rfl) (by kernel_rfl) (fun _ _ _ h => h) (Or.inl ⟨by rfl, ?_⟩) (by assumption) ?_
  rotate_left
  · intro wS hSw
    try dsimp only at hSw
    go_simp
    try with_reducible rfl
  try simp only [Act.put, List.setIfInBounds_toArray, List.set_cons_zero, List.set_cons_succ]
  refine wpAnyL_take (i := 2) (v := ?_) (some 30) rfl rfl (by kernel_rfl) (by kernel_rfl) (by kernel_rfl) (by kernel_rfl) (by kernel_rfl) (fun _ _ _ h => h) (Or.inl ⟨by rfl, ?_⟩) (by assumption) ?_
  rotate_left
  · intro wS hSw
    try dsimp only at hSw
    go_simp
    try with_reducible rfl
  try simp only [Act.put, List.setIfInBounds_toArray, List.set_cons_zero, List.set_cons_succ]
  refine wpAnyL_ready (rs := [1]) (by kernel_rfl) (by simp) ?_
  refine AllReadyL.cons rfl (fun K hK => ?_) AllReadyL.nil
  go_simp; go_at_call 17; refine (toSystem _ _ _ _ _ _ _ (hHeld.2.2.2.2.2.r 1 rfl :) HLP1.out).mono ?_; rintro e w3 ⟨a3, n3, c3, rfl, ho3, hb3⟩; have G3 := Lib.hid (OwnEqs.at ho3); clear ho3
  refine hK.out _ _ ?_ (fun hHeld => ?_)
  · exact ⟨below_cell hb3 hHeld.1, below_cell hb3 hHeld.2.1, below_cell hb3 hHeld.2.2.1, below_cell hb3 hHeld.2.2.2.1, below_cell hb3 hHeld.2.2.2.2.1, hHeld.2.2.2.2.2.below hb3⟩
  clear hK K
  try simp only [Act.put, List.setIfInBounds_toArray, List.set_cons_zero, List.set_cons_succ]
  refine wpAnyL_ready (rs := [3]) (by kernel_rfl) (by simp) ?_
  refine AllReadyL.cons rfl (fun K hK => ?_) AllReadyL.nil
  go_simp; go_at_call 35; refine (toEquation _ _ _ _ _ _ (hHeld.2.2.2.2.2.r 0 rfl :) HLP2.out).mono ?_; rintro e w4 ⟨a4, n4, c4, rfl, ho4, hb4⟩; have G4 := Lib.hid (OwnRowE.at ho4); clear ho4
  have G3 := Lib.hid (G3.out.below hb4)
  refine hK.out _ _ ?_ (fun hHeld => ?_)
  · exact ⟨below_cell hb4 hHeld.1, below_cell hb4 hHeld.2.1, below_cell hb4 hHeld.2.2.1, below_cell hb4 hHeld.2.2.2.1, below_cell hb4 hHeld.2.2.2.2.1, hHeld.2.2.2.2.2.below hb4⟩
  clear hK K
  try simp only [Act.put, List.setIfInBounds_toArray, List.set_cons_zero, List.set_cons_succ]
  refine wpAnyL_ready (rs := [4]) (by kernel_rfl) (by simp) ?_
  refine AllReadyL.cons rfl (fun K hK => ?_) AllReadyL.nil
  go_simp; go_at_call 34; refine (specDerivationOf _ _ _ _ _ _ _ _ _ _ _ tR0 cd _ G3.out G4.out HI.out).mono ?_; rintro e w5 ⟨a5, n5, c5, rfl, ho5, hb5⟩
  refine hK.out _ _ ?_ (fun hHeld => ?_)
  · exact ⟨below_cell hb5 hHeld.1, below_cell hb5 hHeld.2.1, below_cell hb5 hHeld.2.2.1, below_cell hb5 hHeld.2.2.2.1, below_cell hb5 hHeld.2.2.2.2.1, hHeld.2.2.2.2.2.below hb5⟩
  clear hK K
  try simp only [Act.put, List.setIfInBounds_toArray, List.set_cons_zero, List.set_cons_succ]
  refine wpAnyL_free (i := 5) (v := ?_) (some 27) rfl rfl (by kernel_rfl) (by kernel_rfl) (by kernel_rfl) (by decide) (fun _ _ _ h => h) (Or.inl ⟨by rfl, ?_⟩) (fun h0 => by assumption) ?_
  rotate_left
  · intro wS
    go_simp
    try with_reducible rfl
  try simp only [Act.put, List.setIfInBounds_toArray, List.set_cons_zero, List.set_cons_succ]
  refine wpAnyL_free (i := 6) (v := ?_) (some 33) rfl rfl (by kernel_rfl) (by kernel_rfl) (by kernel_rfl) (by decide) (fun _ _ _ h => h) (Or.inl ⟨by rfl, ?_⟩) (fun h0 => by assumption) ?_
  rotate_left
  · intro wS
    go_simp
    try with_reducible rfl
  try simp only [Act.put, List.setIfInBounds_toArray, List.set_cons_zero, List.set_cons_succ]
  refine wpAnyL_free (i := 7) (v := ?_) (some 34) rfl rfl (by kernel_rfl) (by kernel_rfl) (by kernel_rfl) (by decide) (fun _ _ _ h => h) (Or.inl ⟨by rfl, ?_⟩) (fun h0 => by assumption) ?_
  rotate_left
  · intro wS
    go_simp
    try with_reducible rfl
  try simp only [Act.put, List.setIfInBounds_toArray, List.set_cons_zero, List.set_cons_succ]
  refine wpAnyL_free (i := 8) (v := ?_) (some 6) rfl rfl (by kernel_rfl) (by kernel_rfl) (by kernel_rfl) (by decide) (fun _ _ _ h => h) (Or.inl ⟨by rfl, ?_⟩) (fun h0 => by assumption) ?_
  rotate_left
  · intro wS
    go_simp
    try with_reducible rfl
  try simp only [Act.put, List.setIfInBounds_toArray, List.set_cons_zero, List.set_cons_succ]
  refine wpAnyL_free (i := 9) (v := ?_) (some 7) rfl rfl (by kernel_rfl) (by kernel_rfl) (by kernel_rfl) (by decide) (fun _ _ _ h => h) (Or.inl ⟨by rfl, ?_⟩) (fun h0 => by assumption) ?_
  rotate_left
  · intro wS
    go_simp
    try with_reducible rfl
  try simp only [Act.put, List.setIfInBounds_toArray, List.set_cons_zero, List.set_cons_succ]
  refine wpAnyL_done (by kernel_rfl) ?_ _
  refine NoPanic.normal ?_
  have K5 := Lib.hid (hHeld.2.2.2.2.2 : Kept w _ _ w5)
  clear hHeld hb3 hb4 G3 G4
  clear cc0 cc1 cc2 cc3 cc4
  obtain ⟨b0, hb0o⟩ : ∃ b0, OwnRowE w5 b0 w5.heap.size (.slice a5 n5 c5) tR0 := ⟨_, ho5⟩
  have HZ0 : Hid (w.heap.size + 2 ≤ w5.heap.size) := Lib.hid (cell_block_lt (K5.out.c 0 rfl))
  have K5b := Lib.hid (K5.out.read (lives_rowE _ _ _ _) hb0o)
  clear ho5 hb5 hb0o
  have cd0 := K5b.out.c 2 rfl
  have cd1 := K5b.out.c 3 rfl
  have cd2 := K5b.out.c 4 rfl
  go_wp2_with fail
  refine (toSystem _ _ _ _ _ _ _ (K5b.out.r 2 rfl :) HLP1.out).mono ?_
  rintro e w6 ⟨a6, n6, c6, rfl, ho6, hb6⟩
  have Z6 : Hid (w5.heap.size ≤ w6.heap.size) := Lib.hid (by have := hb6.size; simpa using this)
  have K6 := Lib.hid ((K5b.out.below hb6).read (lives_ownEqs _ _ _ _ _) (ho6.mono (B' := w5.heap.size) (by simp)))
  clear cd0 cd1 cd2
  have K6b := Lib.hid (K6.out.box3 w6.heap.size rfl (.int .i64 xP1) (.int .i64 yP1) (.slice a6 n6 c6) 30)
  clear hb6 ho6
  have cd3 := K6b.out.c 3 rfl
  have cd4 := K6b.out.c 4 rfl
  go_wp2_with fail
  refine (toEquation _ _ _ _ _ _ (K6b.out.r 2 rfl :) HLP2.out).mono ?_
  rintro e w7 ⟨a7, n7, c7, rfl, ho7, hb7⟩
  have Z7 : Hid (w6.heap.size + 1 ≤ w7.heap.size) := Lib.hid (by have := hb7.size; simpa using this)
  have K7 := Lib.hid ((K6b.out.below hb7).read (lives_rowE _ _ _ _) (ho7.mono (B' := w6.heap.size + 1) (by simp)))
  clear cd3 cd4
  have K7b := Lib.hid (K7.out.box w7.heap.size rfl (.slice a7 n7 c7) (.int .i64 xP2) 46)
  clear hb7 ho7
  -- the program's answer
  have cd5 := K7b.out.c 2 rfl
  have cd6 := K7b.out.c 3 rfl
  have cd7 := K7b.out.c 4 rfl
  have cd8 := K7b.out.c 0 rfl
  have cd9 := K7b.out.c 1 rfl
  go_wp2_with fail
  refine (implDerivationOf _ _ _ _ _ _ _ _ _ _ _ tR0 cd _ (OwnEqs.at (K7b.out.r 1 rfl :)) (OwnRowE.at (K7b.out.r 0 rfl :)) HI.out).mono ?_
  rintro e w8 ⟨a8, n8, c8, rfl, ho8, hb8⟩
  have Z8 : Hid (w7.heap.size + 1 ≤ w8.heap.size) := Lib.hid (by have := hb8.size; simpa using this)
  have K8 := Lib.hid ((K7b.out.below hb8).read (lives_rowE _ _ _ _) (ho8.mono (B' := w7.heap.size + 1) (by simp)))
  clear cd5 cd6 cd7 cd8 cd9
  clear hb8 ho8
  go_wp2_with fail
  refine (eqRowB _ _ _ _ true _ (OwnRowE.at (K8.out.r 0 rfl :)) (OwnRowE.at (K8.out.r 3 rfl :)) (eqB_yes rfl)).mono ?_
  rintro e w9 ⟨rfl, hb9⟩
  have K9 := Lib.hid (K8.out.below hb9)
  clear hb9
  -- the copies are as they were
  go_wp2_with fail
  refine wp_region_noPanic ?_
  refine wp_region_late (S := (fun w' => w'.cell? ⟨w6.heap.size, 0, none⟩ = some (.int .i64 xP1) ∧ w'.cell? ⟨w6.heap.size, 1, none⟩ = some (.int .i64 yP1) ∧ w'.cell? ⟨w6.heap.size, 2, none⟩ = some (.slice a6 n6 c6) ∧ w'.cell? ⟨w.heap.size, 0, none⟩ = some (.int .i64 xP1) ∧ w'.cell? ⟨w.heap.size, 1, none⟩ = some (.int .i64 yP1) ∧ w'.cell? ⟨w.heap.size, 2, none⟩ = some (.slice aP1 nP1 cP1) ∧ Kept w [(⟨w7.heap.size, 0, none⟩, .slice a7 n7 c7), (⟨w7.heap.size, 1, none⟩, .int .i64 xP2), (⟨w6.heap.size, 0, none⟩, .int .i64 xP1), (⟨w6.heap.size, 1, none⟩, .int .i64 yP1), (⟨w6.heap.size, 2, none⟩, .slice a6 n6 c6), (⟨w.heap.size + 1, 0, none⟩, .slice aP2 nP2 cP2), (⟨w.heap.size + 1, 1, none⟩, .int .i64 xP2), (⟨w.heap.size, 0, none⟩, .int .i64 xP1), (⟨w.heap.size, 1, none⟩, .int .i64 yP1), (⟨w.heap.size, 2, none⟩, .slice aP1 nP1 cP1)] [fun w => OwnRowE w (w7.heap.size + 1) w8.heap.size (.slice a8 n8 c8) tR0, fun w => OwnRowE w (w6.heap.size + 1) w7.heap.size (.slice a7 n7 c7) tP2, fun w => (OwnEqs 46) w (w5.heap.size) w6.heap.size (.slice a6 n6 c6) tP1, fun w => OwnRowE w b0 w5.heap.size (.slice a5 n5 c5) tR0, fun w => RowAt w (.slice aP2 nP2 cP2) tP2, fun w => EqsAt w (.slice aP1 nP1 cP1) tP1] w')) [] (by kernel_rfl) ?_ (fun hHeld => ?_)
  · exact ⟨K9.out.drew.c 2 rfl, K9.out.drew.c 3 rfl, K9.out.drew.c 4 rfl, K9.out.drew.c 7 rfl, K9.out.drew.c 8 rfl, K9.out.drew.c 9 rfl, K9.out.drew⟩
  refine wpAnyL_take (i := 0) (v := ?_) (some 54) rfl rfl (by kernel_rfl) (by kernel_rfl) (by kernel_rfl) (by kernel_rfl) (by kernel_rfl) (fun _ _ _ h => h) (Or.inl ⟨by rfl, ?_⟩) (by assumption) ?_
  rotate_left
  · intro wS hSw
    try dsimp only at hSw
    go_simp
    try with_reducible rfl
  try simp only [Act.put, List.setIfInBounds_toArray, List.set_cons_zero, List.set_cons_succ]
  refine wpAnyL_take (i := 1) (v := ?_) (some 55) rfl rfl (by kernel_rfl) (by kernel_rfl) (by kernel_rfl) (by kernel_rfl) (by kernel_rfl) (fun _ _ _ h => h) (Or.inl ⟨by rfl, ?_⟩) (by assumption) ?_
  rotate_left
  · intro wS hSw
    try dsimp only at hSw
    go_simp
    try with_reducible rfl
  try simp only [Act.put, List.setIfInBounds_toArray, List.set_cons_zero, List.set_cons_succ]
  refine wpAnyL_ready (rs := [2]) (by kernel_rfl) (by simp) ?_
  refine AllReadyL.cons rfl (fun K hK => ?_) AllReadyL.nil
  go_simp; go_at_call 17; refine (toSystem _ _ _ _ _ _ _ (hHeld.2.2.2.2.2.2.r 5 rfl :) HLP1.out).mono ?_; rintro e w10 ⟨a10, n10, c10, rfl, ho10, hb10⟩; have G10 := Lib.hid (OwnEqs.at ho10); clear ho10
  refine hK.out _ _ ?_ (fun hHeld => ?_)
  · exact ⟨below_cell hb10 hHeld.1, below_cell hb10 hHeld.2.1, below_cell hb10 hHeld.2.2.1, below_cell hb10 hHeld.2.2.2.1, below_cell hb10 hHeld.2.2.2.2.1, below_cell hb10 hHeld.2.2.2.2.2.1, hHeld.2.2.2.2.2.2.below hb10⟩
  clear hK K
  try simp only [Act.put, List.setIfInBounds_toArray, List.set_cons_zero, List.set_cons_succ]
  refine wpAnyL_ready (rs := [3]) (by kernel_rfl) (by simp) ?_
  refine AllReadyL.cons rfl (fun K hK => ?_) AllReadyL.nil
  go_simp; go_at_call 19; refine (eqSystem' _ _ _ _ _ _ _ _ _ _ _ _ true _ (OwnEqs.at (hHeld.2.2.2.2.2.2.r 2 rfl :)) G10.out (eqS_same _ _ _)).mono ?_; rintro e w11 ⟨rfl, hb11⟩
  refine hK.out _ _ ?_ (fun hHeld => ?_)
  · exact ⟨below_cell hb11 hHeld.1, below_cell hb11 hHeld.2.1, below_cell hb11 hHeld.2.2.1, below_cell hb11 hHeld.2.2.2.1, below_cell hb11 hHeld.2.2.2.2.1, below_cell hb11 hHeld.2.2.2.2.2.1, hHeld.2.2.2.2.2.2.below hb11⟩
  clear hK K
  try simp only [Act.put, List.setIfInBounds_toArray, List.set_cons_zero, List.set_cons_succ]
  refine wpAnyL_free (i := 4) (v := ?_) (some 58) rfl rfl (by kernel_rfl) (by kernel_rfl) (by kernel_rfl) (by decide) (fun _ _ _ h => h) (Or.inl ⟨by rfl, ?_⟩) (fun h0 => by assumption) ?_
  rotate_left
  · intro wS
    go_simp
    try with_reducible rfl
  try simp only [Act.put, List.setIfInBounds_toArray, List.set_cons_zero, List.set_cons_succ]
  refine wpAnyL_done (by kernel_rfl) ?_ _
  refine NoPanic.normal ?_
  have K11 := Lib.hid (hHeld.2.2.2.2.2.2 : Kept w _ _ w11)
  clear hHeld
  clear hb10 hb11 G10
  go_wp2_with fail
  refine wp_region_noPanic ?_
  refine wp_region_late (S := (fun w' => w'.cell? ⟨w7.heap.size, 0, none⟩ = some (.slice a7 n7 c7) ∧ w'.cell? ⟨w7.heap.size, 1, none⟩ = some (.int .i64 xP2) ∧ w'.cell? ⟨w.heap.size + 1, 0, none⟩ = some (.slice aP2 nP2 cP2) ∧ w'.cell? ⟨w.heap.size + 1, 1, none⟩ = some (.int .i64 xP2) ∧ Kept w [(⟨w7.heap.size, 0, none⟩, .slice a7 n7 c7), (⟨w7.heap.size, 1, none⟩, .int .i64 xP2), (⟨w6.heap.size, 0, none⟩, .int .i64 xP1), (⟨w6.heap.size, 1, none⟩, .int .i64 yP1), (⟨w6.heap.size, 2, none⟩, .slice a6 n6 c6), (⟨w.heap.size + 1, 0, none⟩, .slice aP2 nP2 cP2), (⟨w.heap.size + 1, 1, none⟩, .int .i64 xP2), (⟨w.heap.size, 0, none⟩, .int .i64 xP1), (⟨w.heap.size, 1, none⟩, .int .i64 yP1), (⟨w.heap.size, 2, none⟩, .slice aP1 nP1 cP1)] [fun w => OwnRowE w (w7.heap.size + 1) w8.heap.size (.slice a8 n8 c8) tR0, fun w => OwnRowE w (w6.heap.size + 1) w7.heap.size (.slice a7 n7 c7) tP2, fun w => (OwnEqs 46) w (w5.heap.size) w6.heap.size (.slice a6 n6 c6) tP1, fun w => OwnRowE w b0 w5.heap.size (.slice a5 n5 c5) tR0, fun w => RowAt w (.slice aP2 nP2 cP2) tP2, fun w => EqsAt w (.slice aP1 nP1 cP1) tP1] w')) [] (by kernel_rfl) ?_ (fun hHeld => ?_)
  · exact ⟨K11.out.drew.c 0 rfl, K11.out.drew.c 1 rfl, K11.out.drew.c 5 rfl, K11.out.drew.c 6 rfl, K11.out.drew⟩
  refine wpAnyL_take (i := 0) (v := ?_) (some 59) rfl rfl (by kernel_rfl) (by kernel_rfl) (by kernel_rfl) (by kernel_rfl) (by kernel_rfl) (fun _ _ _ h => h) (Or.inl ⟨by rfl, ?_⟩) (by assumption) ?_
  rotate_left
  · intro wS hSw
    try dsimp only at hSw
    go_simp
    try with_reducible rfl
  try simp only [Act.put, List.setIfInBounds_toArray, List.set_cons_zero, List.set_cons_succ]
  refine wpAnyL_take (i := 1) (v := ?_) (some 60) rfl rfl (by kernel_rfl) (by kernel_rfl) (by kernel_rfl) (by kernel_rfl) (by kernel_rfl) (fun _ _ _ h => h) (Or.inl ⟨by rfl, ?_⟩) (by assumption) ?_
  rotate_left
  · intro wS hSw
    try dsimp only at hSw
    go_simp
    try with_reducible rfl
  try simp only [Act.put, List.setIfInBounds_toArray, List.set_cons_zero, List.set_cons_succ]
  refine wpAnyL_ready (rs := [2]) (by kernel_rfl) (by simp) ?_
  refine AllReadyL.cons rfl (fun K hK => ?_) AllReadyL.nil
  go_simp; go_at_call 35; refine (toEquation _ _ _ _ _ _ (hHeld.2.2.2.2.r 4 rfl :) HLP2.out).mono ?_; rintro e w12 ⟨a12, n12, c12, rfl, ho12, hb12⟩; have G12 := Lib.hid (OwnRowE.at ho12); clear ho12
  refine hK.out _ _ ?_ (fun hHeld => ?_)
  · exact ⟨below_cell hb12 hHeld.1, below_cell hb12 hHeld.2.1, below_cell hb12 hHeld.2.2.1, below_cell hb12 hHeld.2.2.2.1, hHeld.2.2.2.2.below hb12⟩
  clear hK K
  try simp only [Act.put, List.setIfInBounds_toArray, List.set_cons_zero, List.set_cons_succ]
  refine wpAnyL_ready (rs := [3]) (by kernel_rfl) (by simp) ?_
  refine AllReadyL.cons rfl (fun K hK => ?_) AllReadyL.nil
  go_simp; go_at_call 37; refine (eqEquation' _ _ _ _ _ _ _ _ _ _ true _ (OwnRowE.at (hHeld.2.2.2.2.r 1 rfl :)) G12.out (eqO_same _ _)).mono ?_; rintro e w13 ⟨rfl, hb13⟩
  refine hK.out _ _ ?_ (fun hHeld => ?_)
  · exact ⟨below_cell hb13 hHeld.1, below_cell hb13 hHeld.2.1, below_cell hb13 hHeld.2.2.1, below_cell hb13 hHeld.2.2.2.1, hHeld.2.2.2.2.below hb13⟩
  clear hK K
  try simp only [Act.put, List.setIfInBounds_toArray, List.set_cons_zero, List.set_cons_succ]
  refine wpAnyL_free (i := 4) (v := ?_) (some 63) rfl rfl (by kernel_rfl) (by kernel_rfl) (by kernel_rfl) (by decide) (fun _ _ _ h => h) (Or.inl ⟨by rfl, ?_⟩) (fun h0 => by assumption) ?_
  rotate_left
  · intro wS
    go_simp
    try with_reducible rfl
  try simp only [Act.put, List.setIfInBounds_toArray, List.set_cons_zero, List.set_cons_succ]
  refine wpAnyL_done (by kernel_rfl) ?_ _
  refine NoPanic.normal ?_
  have K13 := Lib.hid (hHeld.2.2.2.2 : Kept w _ _ w13)
  clear hHeld
  clear hb12 hb13 G12
  -- marks
  have S0 := Lib.hid (((((((KeptS.start K13.out).cons (HAP1.out.go K13.out.bel.size fun g _ hg => K13.out.bel.block g hg) K13.out.bel.size).cons (HAP2.out.go K13.out.bel.size fun g _ hg => K13.out.bel.block g hg) K13.out.bel.size).cons (stab_rowE (K13.out.r 3 rfl :)) (ownRowE_le (K13.out.r 3 rfl :))).cons (stab_rowE (K13.out.r 0 rfl :)) (ownRowE_le (K13.out.r 0 rfl :))).cons (stab_rowE (K13.out.r 1 rfl :)) (ownRowE_le (K13.out.r 1 rfl :))).cons (stab_ownEqs (K13.out.r 2 rfl :)) (ownEqs_le (K13.out.r 2 rfl :)))
  have cd10 := S0.out.c 2 rfl
  have cd11 := S0.out.c 3 rfl
  have cd12 := S0.out.c 4 rfl
  go_wp2_with fail
  refine (markSystem _ _ _ _ _ _ _ _ _ _ (S0.out.r 0 rfl :) (by omega) (by have yP1 := HLP1.out; have yP2 := HLP2.out; omega)).mono ?_
  rintro e w14 ⟨rfl, ho14, hn14⟩
  have S1 := Lib.hid (S0.out.drop.only hn14 (by have y1 := HZ0.out; have zZ6 := Z6.out; have zZ7 := Z7.out; have zZ8 := Z8.out; omega) (by have y1 := HZ0.out; have zZ6 := Z6.out; have zZ7 := Z7.out; have zZ8 := Z8.out; intro x hx; simp only [List.mem_cons, List.not_mem_nil, or_false] at hx; rcases hx with rfl | rfl | rfl | rfl | rfl | rfl | rfl | rfl | rfl | rfl <;> (dsimp only; omega)) (by have y1 := HZ0.out; have zZ6 := Z6.out; have zZ7 := Z7.out; have zZ8 := Z8.out; intro x hx; simp only [List.mem_cons, List.not_mem_nil, or_false] at hx; rcases hx with rfl | rfl | rfl | rfl | rfl <;> (dsimp only; omega)))
  clear ho14 hn14
  clear cd10 cd11 cd12
  have cd13 := S1.out.c 0 rfl
  have cd14 := S1.out.c 1 rfl
  go_wp2_with fail
  refine (markEquation _ _ _ _ _ _ _ _ _ (S1.out.r 0 rfl :) (by omega) (by have yP1 := HLP1.out; have yP2 := HLP2.out; omega)).mono ?_
  rintro e w15 ⟨rfl, ho15, hn15⟩
  have S2 := Lib.hid (S1.out.drop.only hn15 (by have y1 := HZ0.out; have zZ6 := Z6.out; have zZ7 := Z7.out; have zZ8 := Z8.out; omega) (by have y1 := HZ0.out; have zZ6 := Z6.out; have zZ7 := Z7.out; have zZ8 := Z8.out; intro x hx; simp only [List.mem_cons, List.not_mem_nil, or_false] at hx; rcases hx with rfl | rfl | rfl | rfl | rfl | rfl | rfl | rfl | rfl | rfl <;> (dsimp only; omega)) (by have y1 := HZ0.out; have zZ6 := Z6.out; have zZ7 := Z7.out; have zZ8 := Z8.out; intro x hx; simp only [List.mem_cons, List.not_mem_nil, or_false] at hx; rcases hx with rfl | rfl | rfl | rfl <;> (dsimp only; omega)))
  clear ho15 hn15
  clear cd13 cd14
  have hpos : ¬ (1 + (opsSize tP1 : Int) + (tP2.length : Int) < 0) := by omega
  go_wp2_with fail
  refine (eqRowB _ _ _ _ true _ (OwnRowE.at (S2.out.r 0 rfl :)) (OwnRowE.at (S2.out.r 1 rfl :)) (eqB_yes rfl)).mono ?_
  rintro e w16 ⟨rfl, hb16⟩
  have S3 := Lib.hid (S2.out.below hb16)
  clear hb16
  go_wp2_with fail
  refine (markRowE _ _ _ _ _ _ (S3.out.r 0 rfl :) (by omega) (by have := HS.out; omega)).mono ?_
  rintro e w17 ⟨rfl, ho17, hn17⟩
  have S4 := Lib.hid ((S3.out.drop.only hn17 (by have y1 := HZ0.out; have zZ6 := Z6.out; have zZ7 := Z7.out; have zZ8 := Z8.out; omega) (by have y1 := HZ0.out; have zZ6 := Z6.out; have zZ7 := Z7.out; have zZ8 := Z8.out; intro x hx; simp only [List.mem_cons, List.not_mem_nil, or_false] at hx; rcases hx with rfl | rfl | rfl | rfl | rfl | rfl | rfl | rfl | rfl | rfl <;> (dsimp only; omega)) (by have y1 := HZ0.out; have zZ6 := Z6.out; have zZ7 := Z7.out; have zZ8 := Z8.out; intro x hx; simp only [List.mem_cons, List.not_mem_nil, or_false] at hx; rcases hx with rfl | rfl | rfl <;> (dsimp only; omega))).cons (stab_rowE ho17) (ownRowE_le ho17))
  clear ho17 hn17
  have K18 := Lib.hid ((((S4.out.end.read (lives_row _ _) (S4.out.r 2 rfl :)).read (lives_eqs _ _) (S4.out.r 3 rfl :)).read (lives_rowE _ _ _ _) (S4.out.r 1 rfl :)).read (lives_rowE _ _ _ _) (S4.out.r 0 rfl :))
  go_wp2_with fail
  refine (heldRowB _ _ _ _ (OwnRowE.at (K18.out.r 0 rfl :)) (by omega) (by have := HS.out; omega)).mono ?_
  rintro e w19 ⟨rfl, hb19⟩
  have K19 := Lib.hid (K18.out.below hb19)
  clear hb19
  have hposz : ¬ (1 + (tR0.length : Int) < 0) := by omega
  -- the program's answer again
  have cd15 := K19.out.c 7 rfl
  have cd16 := K19.out.c 8 rfl
  have cd17 := K19.out.c 9 rfl
  have cd18 := K19.out.c 5 rfl
  have cd19 := K19.out.c 6 rfl
  go_wp2_with fail
  refine wp_region_noPanic ?_
  refine wp_region_late (S := (fun w' => w'.cell? ⟨w.heap.size, 0, none⟩ = some (.int .i64 xP1) ∧ w'.cell? ⟨w.heap.size, 1, none⟩ = some (.int .i64 yP1) ∧ w'.cell? ⟨w.heap.size, 2, none⟩ = some (.slice aP1 nP1 cP1) ∧ w'.cell? ⟨w.heap.size + 1, 0, none⟩ = some (.slice aP2 nP2 cP2) ∧ w'.cell? ⟨w.heap.size + 1, 1, none⟩ = some (.int .i64 xP2) ∧ Kept w [(⟨w7.heap.size, 0, none⟩, .slice a7 n7 c7), (⟨w7.heap.size, 1, none⟩, .int .i64 xP2), (⟨w6.heap.size, 0, none⟩, .int .i64 xP1), (⟨w6.heap.size, 1, none⟩, .int .i64 yP1), (⟨w6.heap.size, 2, none⟩, .slice a6 n6 c6), (⟨w.heap.size + 1, 0, none⟩, .slice aP2 nP2 cP2), (⟨w.heap.size + 1, 1, none⟩, .int .i64 xP2), (⟨w.heap.size, 0, none⟩, .int .i64 xP1), (⟨w.heap.size, 1, none⟩, .int .i64 yP1), (⟨w.heap.size, 2, none⟩, .slice aP1 nP1 cP1)] [fun w => OwnRowE w (w7.heap.size + 1) w8.heap.size (.slice a8 n8 c8) (marks 1 tR0.length), fun w => OwnRowE w b0 w5.heap.size (.slice a5 n5 c5) tR0, fun w => EqsAt w (.slice aP1 nP1 cP1) tP1, fun w => RowAt w (.slice aP2 nP2 cP2) tP2] w')) [] (by kernel_rfl) ?_ (fun hHeld => ?_)
  · exact ⟨K19.out.drew.c 7 rfl, K19.out.drew.c 8 rfl, K19.out.drew.c 9 rfl, K19.out.drew.c 5 rfl, K19.out.drew.c 6 rfl, K19.out.drew⟩
  refine wpAnyL_take (i := 0) (v := ?_) (some 95) rfl rfl (by kernel_rfl) (by kernel_rfl) (by kernel_rfl) (by kernel_rfl) (by kernel_rfl) (fun _ _ _ h => h) (Or.inl ⟨by rfl, ?_⟩) (by assumption) ?_
  rotate_left
  · intro wS hSw
    try dsimp only at hSw
    go_simp
    try with_reducible rfl
  try simp only [Act.put, List.setIfInBounds_toArray, List.set_cons_zero, List.set_cons_succ]
  refine wpAnyL_take (i := 2) (v := ?_) (some 97) rfl rfl (by kernel_rfl) (by kernel_rfl) (by kernel_rfl) (by kernel_rfl) (by kernel_rfl) (fun _ _ _ h => h) (Or.inl ⟨by rfl, ?_⟩) (by assumption) ?_
  rotate_left
  · intro wS hSw
    try dsimp only at hSw
    go_simp
    try with_reducible rfl
  try simp only [Act.put, List.setIfInBounds_toArray, List.set_cons_zero, List.set_cons_succ]
  refine wpAnyL_ready (rs := [1]) (by kernel_rfl) (by simp) ?_
  refine AllReadyL.cons rfl (fun K hK => ?_) AllReadyL.nil
  go_simp; go_at_call 17; refine (toSystem _ _ _ _ _ _ _ (hHeld.2.2.2.2.2.r 2 rfl :) HLP1.out).mono ?_; rintro e w20 ⟨a20, n20, c20, rfl, ho20, hb20⟩; have G20 := Lib.hid (OwnEqs.at ho20); clear ho20
  refine hK.out _ _ ?_ (fun hHeld => ?_)
  · exact ⟨below_cell hb20 hHeld.1, below_cell hb20 hHeld.2.1, below_cell hb20 hHeld.2.2.1, below_cell hb20 hHeld.2.2.2.1, below_cell hb20 hHeld.2.2.2.2.1, hHeld.2.2.2.2.2.below hb20⟩
  clear hK K
  try simp only [Act.put, List.setIfInBounds_toArray, List.set_cons_zero, List.set_cons_succ]
  refine wpAnyL_ready (rs := [3]) (by kernel_rfl) (by simp) ?_
  refine AllReadyL.cons rfl (fun K hK => ?_) AllReadyL.nil
  go_simp; go_at_call 35; refine (toEquation _ _ _ _ _ _ (hHeld.2.2.2.2.2.r 3 rfl :) HLP2.out).mono ?_; rintro e w21 ⟨a21, n21, c21, rfl, ho21, hb21⟩; have G21 := Lib.hid (OwnRowE.at ho21); clear ho21
  have G20 := Lib.hid (G20.out.below hb21)
  refine hK.out _ _ ?_ (fun hHeld => ?_)
  · exact ⟨below_cell hb21 hHeld.1, below_cell hb21 hHeld.2.1, below_cell hb21 hHeld.2.2.1, below_cell hb21 hHeld.2.2.2.1, below_cell hb21 hHeld.2.2.2.2.1, hHeld.2.2.2.2.2.below hb21⟩
  clear hK K
  try simp only [Act.put, List.setIfInBounds_toArray, List.set_cons_zero, List.set_cons_succ]
  refine wpAnyL_ready (rs := [4]) (by kernel_rfl) (by simp) ?_
  refine AllReadyL.cons rfl (fun K hK => ?_) AllReadyL.nil
  go_simp; go_at_call 36; refine (implDerivationOf _ _ _ _ _ _ _ _ _ _ _ tR0 cd _ G20.out G21.out HI.out).mono ?_; rintro e w22 ⟨a22, n22, c22, rfl, ho22, hb22⟩
  refine hK.out _ _ ?_ (fun hHeld => ?_)
  · exact ⟨below_cell hb22 hHeld.1, below_cell hb22 hHeld.2.1, below_cell hb22 hHeld.2.2.1, below_cell hb22 hHeld.2.2.2.1, below_cell hb22 hHeld.2.2.2.2.1, hHeld.2.2.2.2.2.below hb22⟩
  clear hK K
  try simp only [Act.put, List.setIfInBounds_toArray, List.set_cons_zero, List.set_cons_succ]
  refine wpAnyL_free (i := 5) (v := ?_) (some 94) rfl rfl (by kernel_rfl) (by kernel_rfl) (by kernel_rfl) (by decide) (fun _ _ _ h => h) (Or.inl ⟨by rfl, ?_⟩) (fun h0 => by assumption) ?_
  rotate_left
  · intro wS
    go_simp
    try with_reducible rfl
  try simp only [Act.put, List.setIfInBounds_toArray, List.set_cons_zero, List.set_cons_succ]
  refine wpAnyL_free (i := 6) (v := ?_) (some 100) rfl rfl (by kernel_rfl) (by kernel_rfl) (by kernel_rfl) (by decide) (fun _ _ _ h => h) (Or.inl ⟨by rfl, ?_⟩) (fun h0 => by assumption) ?_
  rotate_left
  · intro wS
    go_simp
    try with_reducible rfl
  try simp only [Act.put, List.setIfInBounds_toArray, List.set_cons_zero, List.set_cons_succ]
  refine wpAnyL_free (i := 7) (v := ?_) (some 101) rfl rfl (by kernel_rfl) (by kernel_rfl) (by kernel_rfl) (by decide) (fun _ _ _ h => h) (Or.inl ⟨by rfl, ?_⟩) (fun h0 => by assumption) ?_
  rotate_left
  · intro wS
    go_simp
    try with_reducible rfl
  try simp only [Act.put, List.setIfInBounds_toArray, List.set_cons_zero, List.set_cons_succ]
  refine wpAnyL_free (i := 8) (v := ?_) (some 15) rfl rfl (by kernel_rfl) (by kernel_rfl) (by kernel_rfl) (by decide) (fun _ _ _ h => h) (Or.inl ⟨by rfl, ?_⟩) (fun h0 => by assumption) ?_
  rotate_left
  · intro wS
    go_simp
    try with_reducible rfl
  try simp only [Act.put, List.setIfInBounds_toArray, List.set_cons_zero, List.set_cons_succ]
  refine wpAnyL_free (i := 9) (v := ?_) (some 16) rfl rfl (by kernel_rfl) (by kernel_rfl) (by kernel_rfl) (by decide) (fun _ _ _ h => h) (Or.inl ⟨by rfl, ?_⟩) (fun h0 => by assumption) ?_
  rotate_left
  · intro wS
    go_simp
    try with_reducible rfl
  try simp only [Act.put, List.setIfInBounds_toArray, List.set_cons_zero, List.set_cons_succ]
  refine wpAnyL_done (by kernel_rfl) ?_ _
  refine NoPanic.normal ?_
  have K22 := Lib.hid (hHeld.2.2.2.2.2 : Kept w _ _ w22)
  clear hHeld hb20 hb21 G20 G21
  clear cd15 cd16 cd17 cd18 cd19
  have K22h := Lib.hid (K22.out.read (lives_rowE _ _ _ _) ho22)
  clear ho22 hb22
  go_wp2_with fail
  refine (eqRowB _ _ _ _ true _ (OwnRowE.at (K22h.out.r 0 rfl :)) (OwnRowE.at (K22h.out.r 2 rfl :)) (eqB_yes rfl)).mono ?_
  rintro e w23 ⟨rfl, hb23⟩
  have K23 := Lib.hid (K22h.out.below hb23)
  clear hb23
  go_wp2_with fail
  refine (heldRowB _ _ _ _ (OwnRowE.at (K23.out.r 1 rfl :)) (by omega) (by have := HS.out; omega)).mono ?_
  rintro e w24 ⟨rfl, hb24⟩
  have K24 := Lib.hid (K23.out.below hb24)
  clear hb24
  go_wp2
  go_ret
  exact ⟨rfl, K24.out.bel⟩

end Go.Proofs.Ytnbgpeoceejolaa
