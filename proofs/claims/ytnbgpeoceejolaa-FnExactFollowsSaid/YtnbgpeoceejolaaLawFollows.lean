/-
  FnExactFollows: the walk over the law.
-/
import Derived.Test.YtnbgpeoceejolaaGDer
import Derived.Test.YtnbgpeoceejolaaGBase
import Derived.Test.YtnbgpeoceejolaaReg
import Derived.Test.YtnbgpeoceejolaaKept3
import Derived.Deep.CutRange
import Derived.Deep.RegionHeld3
namespace Go.Proofs.Ytnbgpeoceejolaa
open Go.RowKit

set_option linter.unusedSimpArgs false in
set_option maxHeartbeats 4000000 in
set_option maxRecDepth 100000 in
theorem lawFollows (xP1 : Int) (yP1 : Int) (aP1 : Option Addr) (nP1 cP1 : Nat) (tP1 : List (Int × List Int)) (xP2 : Int) (aP2 : Option Addr) (nP2 cP2 : Nat) (tP2 : List Int) (w : World) (hP1 : EqsAt w (.slice aP1 nP1 cP1) tP1) (hP2 : RowAt w (.slice aP2 nP2 cP2) tP2) :
    Calls Try.prog 9 #[.agg #[.int .i64 xP1, .int .i64 yP1, .slice aP1 nP1 cP1], .agg #[.slice aP2 nP2 cP2, .int .i64 xP2]] w fun e w' => e = .returned (.bool true) ∧ Below w.heap.size w w' := by
  have K0 := Lib.hid (((((Kept.start w).read (lives_eqs _ _) hP1).read (lives_row _ _) hP2).box3 (w.heap.size) rfl (.int .i64 xP1) (.int .i64 yP1) (.slice aP1 nP1 cP1) 24).box (w.heap.size + 1) (by simp) (.slice aP2 nP2 cP2) (.int .i64 xP2) 43)
  clear hP1 hP2
  by_cases hzP1 : (1048576 : Int) < opsSize tP1
  · have HF := Lib.hid (szF_no hzP1)
    clear hzP1
    go_enter Try.func9, Try.ntmps9
    go_wp2_with fail
    refine (szSystem _ _ _ _ _ _ _ _ (K0.out.r 1 rfl :) (by omega) (by omega)).mono ?_
    rw [HF.out]
    rintro e w1 ⟨rfl, hb1⟩
    have KE := Lib.hid (K0.out.below hb1).bel
    clear hb1
    go_wp2
    go_ret
    exact ⟨rfl, KE.out⟩
  have HF1 := Lib.hid (szF_yes (t := opsSize tP1) (l := 1048576) (by omega))
  have hp1 : ¬ (1048576 - (opsSize tP1 : Int) < 0) := by omega
  have hp1' : (1048576 - (opsSize tP1 : Int)) ≤ 1048576 := by omega
  by_cases hzP2 : (1048576 - (opsSize tP1 : Int) : Int) < tP2.length
  · have HF := Lib.hid (szF_no hzP2)
    clear hzP2
    go_enter Try.func9, Try.ntmps9
    go_wp2_with fail
    refine (szSystem _ _ _ _ _ _ _ _ (K0.out.r 1 rfl :) (by omega) (by omega)).mono ?_
    rw [HF1.out]
    rintro e w1 ⟨rfl, hb1⟩
    have K1 := Lib.hid (K0.out.below hb1)
    clear hb1
    have cc0 := K1.out.c 2 rfl
    have cc1 := K1.out.c 3 rfl
    have cc2 := K1.out.c 4 rfl
    have cc3 := K1.out.c 0 rfl
    have cc4 := K1.out.c 1 rfl
    go_wp2_with fail
    refine (szEquation _ _ _ _ _ _ _ (K1.out.r 0 rfl :) (by omega) (by omega)).mono ?_
    rw [HF.out]
    rintro e w2 ⟨rfl, hb2⟩
    have KE := Lib.hid (K1.out.below hb2).bel
    clear hb2
    go_wp2
    go_ret
    exact ⟨rfl, KE.out⟩
  have HF2 := Lib.hid (szF_yes (t := tP2.length) (l := 1048576 - (opsSize tP1 : Int)) (by omega))
  have hp2 : ¬ (1048576 - (opsSize tP1 : Int) - (tP2.length : Int) < 0) := by omega
  have hp2' : (1048576 - (opsSize tP1 : Int) - (tP2.length : Int)) ≤ 1048576 := by omega
  have HLP1 : Hid (opsSize tP1 ≤ 1048576) := by
    show _ ≤ _
    omega
  have HLP2 : Hid (tP2.length ≤ 1048576) := by
    show _ ≤ _
    omega
  obtain ⟨b, cd, hi⟩ := FollowsIs.exists xP1 yP1 tP1 tP2 xP2
  have HI := Lib.hid hi
  clear hi hzP1 hzP2
  go_enter Try.func9, Try.ntmps9
  go_wp2_with fail
  refine (szSystem _ _ _ _ _ _ _ _ (K0.out.r 1 rfl :) (by omega) (by omega)).mono ?_
  rw [HF1.out]
  rintro e w1 ⟨rfl, hb1⟩
  have K1 := Lib.hid (K0.out.below hb1)
  clear hb1
  have cc0 := K1.out.c 2 rfl
  have cc1 := K1.out.c 3 rfl
  have cc2 := K1.out.c 4 rfl
  have cc3 := K1.out.c 0 rfl
  have cc4 := K1.out.c 1 rfl
  go_wp2_with fail
  refine (szEquation _ _ _ _ _ _ _ (K1.out.r 0 rfl :) (by omega) (by omega)).mono ?_
  rw [HF2.out]
  rintro e w2 ⟨rfl, hb2⟩
  have K2 := Lib.hid (K1.out.below hb2)
  clear hb2 cc0 cc1 cc2 cc3 cc4
  go_wp2_with fail
  -- the model's answer
  refine wp_region_noPanic ?_
  refine wp_region_late (S := (fun w' => w'.cell? ⟨w.heap.size, 0, none⟩ = some (.int .i64 xP1) ∧ w'.cell? ⟨w.heap.size, 1, none⟩ = some (.int .i64 yP1) ∧ w'.cell? ⟨w.heap.size, 2, none⟩ = some (.slice aP1 nP1 cP1) ∧ w'.cell? ⟨w.heap.size + 1, 0, none⟩ = some (.slice aP2 nP2 cP2) ∧ w'.cell? ⟨w.heap.size + 1, 1, none⟩ = some (.int .i64 xP2) ∧ Kept w [(⟨w.heap.size + 1, 0, none⟩, .slice aP2 nP2 cP2), (⟨w.heap.size + 1, 1, none⟩, .int .i64 xP2), (⟨w.heap.size, 0, none⟩, .int .i64 xP1), (⟨w.heap.size, 1, none⟩, .int .i64 yP1), (⟨w.heap.size, 2, none⟩, .slice aP1 nP1 cP1)] [fun w => RowAt w (.slice aP2 nP2 cP2) tP2, fun w => EqsAt w (.slice aP1 nP1 cP1) tP1] w')) [] (by kernel_rfl) ?_ (fun hHeld => ?_)
  · exact ⟨K2.out.drew.c 2 rfl, K2.out.drew.c 3 rfl, K2.out.drew.c 4 rfl, K2.out.drew.c 0 rfl, K2.out.drew.c 1 rfl, K2.out.drew⟩
  refine wpAnyL_take (i := 0) (v := ?_) (some 23) rfl rfl (by kernel_rfl) (by kernel_rfl) (by kernel_rfl) (by kernel_rfl) (by kernel_rfl) (fun _ _ _ h => h) (Or.inl ⟨by rfl, ?_⟩) (by assumption) ?_
  rotate_left
  · intro wS hSw
    try dsimp only at hSw
    go_simp
    try with_reducible rfl
  try simp only [Act.put, List.setIfInBounds_toArray, List.set_cons_zero, List.set_cons_succ]
  refine wpAnyL_take (i := 2) (v := ?_) (some 25) rfl rfl (by kernel_rfl) (by kernel_rfl) (by kernel_rfl) (by kernel_rfl) (by kernel_rfl) (fun _ _ _ h => h) (Or.inl ⟨by rfl, ?_⟩) (by assumption) ?_
  rotate_left
  · intro wS hSw
    try dsimp only at hSw
    go_simp
    try with_reducible rfl
  try simp only [Act.put, List.setIfInBounds_toArray, List.set_cons_zero, List.set_cons_succ]
  refine wpAnyL_ready (rs := [1]) (by kernel_rfl) (by simp) ?_
  refine AllReadyL.cons rfl (fun K hK => ?_) AllReadyL.nil
  go_simp; go_at_call 17; refine (toSystem _ _ _ _ _ _ _ (hHeld.2.2.2.2.2.r 1 rfl :) HLP1.out).mono ?_; rintro e w3 ⟨a3, n3, c3, rfl, ho3, hb3⟩; have G3 := Lib.hid (OwnEqs.at ho3); clear ho3
  refine hK.out _ _ ?_ (fun hHeld => ?_)
  · exact ⟨below_cell hb3 hHeld.1, below_cell hb3 hHeld.2.1, below_cell hb3 hHeld.2.2.1, below_cell hb3 hHeld.2.2.2.1, below_cell hb3 hHeld.2.2.2.2.1, hHeld.2.2.2.2.2.below hb3⟩
  clear hK K
  try simp only [Act.put, List.setIfInBounds_toArray, List.set_cons_zero, List.set_cons_succ]
  refine wpAnyL_ready (rs := [3]) (by kernel_rfl) (by simp) ?_
  refine AllReadyL.cons rfl (fun K hK => ?_) AllReadyL.nil
  go_simp; go_at_call 35; refine (toEquation _ _ _ _ _ _ (hHeld.2.2.2.2.2.r 0 rfl :) HLP2.out).mono ?_; rintro e w4 ⟨a4, n4, c4, rfl, ho4, hb4⟩; have G4 := Lib.hid (OwnRowE.at ho4); clear ho4
  have G3 := Lib.hid (G3.out.below hb4)
  refine hK.out _ _ ?_ (fun hHeld => ?_)
  · exact ⟨below_cell hb4 hHeld.1, below_cell hb4 hHeld.2.1, below_cell hb4 hHeld.2.2.1, below_cell hb4 hHeld.2.2.2.1, below_cell hb4 hHeld.2.2.2.2.1, hHeld.2.2.2.2.2.below hb4⟩
  clear hK K
  try simp only [Act.put, List.setIfInBounds_toArray, List.set_cons_zero, List.set_cons_succ]
  refine wpAnyL_ready (rs := [4]) (by kernel_rfl) (by simp) ?_
  refine AllReadyL.cons rfl (fun K hK => ?_) AllReadyL.nil
  go_simp; go_at_call 39; refine (specFollows _ _ _ _ _ _ _ _ _ _ _ b cd _ G3.out G4.out HI.out).mono ?_; rintro e w5 ⟨rfl, hb5⟩
  refine hK.out _ _ ?_ (fun hHeld => ?_)
  · exact ⟨below_cell hb5 hHeld.1, below_cell hb5 hHeld.2.1, below_cell hb5 hHeld.2.2.1, below_cell hb5 hHeld.2.2.2.1, below_cell hb5 hHeld.2.2.2.2.1, hHeld.2.2.2.2.2.below hb5⟩
  clear hK K
  try simp only [Act.put, List.setIfInBounds_toArray, List.set_cons_zero, List.set_cons_succ]
  refine wpAnyL_free (i := 5) (v := ?_) (some 22) rfl rfl (by kernel_rfl) (by kernel_rfl) (by kernel_rfl) (by decide) (fun _ _ _ h => h) (Or.inl ⟨by rfl, ?_⟩) (fun h0 => by assumption) ?_
  rotate_left
  · intro wS
    go_simp
    try with_reducible rfl
  try simp only [Act.put, List.setIfInBounds_toArray, List.set_cons_zero, List.set_cons_succ]
  refine wpAnyL_free (i := 6) (v := ?_) (some 28) rfl rfl (by kernel_rfl) (by kernel_rfl) (by kernel_rfl) (by decide) (fun _ _ _ h => h) (Or.inl ⟨by rfl, ?_⟩) (fun h0 => by assumption) ?_
  rotate_left
  · intro wS
    go_simp
    try with_reducible rfl
  try simp only [Act.put, List.setIfInBounds_toArray, List.set_cons_zero, List.set_cons_succ]
  refine wpAnyL_free (i := 7) (v := ?_) (some 29) rfl rfl (by kernel_rfl) (by kernel_rfl) (by kernel_rfl) (by decide) (fun _ _ _ h => h) (Or.inl ⟨by rfl, ?_⟩) (fun h0 => by assumption) ?_
  rotate_left
  · intro wS
    go_simp
    try with_reducible rfl
  try simp only [Act.put, List.setIfInBounds_toArray, List.set_cons_zero, List.set_cons_succ]
  refine wpAnyL_free (i := 8) (v := ?_) (some 6) rfl rfl (by kernel_rfl) (by kernel_rfl) (by kernel_rfl) (by decide) (fun _ _ _ h => h) (Or.inl ⟨by rfl, ?_⟩) (fun h0 => by assumption) ?_
  rotate_left
  · intro wS
    go_simp
    try with_reducible rfl
  try simp only [Act.put, List.setIfInBounds_toArray, List.set_cons_zero, List.set_cons_succ]
  refine wpAnyL_free (i := 9) (v := ?_) (some 7) rfl rfl (by kernel_rfl) (by kernel_rfl) (by kernel_rfl) (by decide) (fun _ _ _ h => h) (Or.inl ⟨by rfl, ?_⟩) (fun h0 => by assumption) ?_
  rotate_left
  · intro wS
    go_simp
    try with_reducible rfl
  try simp only [Act.put, List.setIfInBounds_toArray, List.set_cons_zero, List.set_cons_succ]
  refine wpAnyL_done (by kernel_rfl) ?_ _
  refine NoPanic.normal ?_
  have K5 := Lib.hid (hHeld.2.2.2.2.2 : Kept w _ _ w5)
  clear hHeld hb3 hb4 hb5 G3 G4
  -- copies
  have cd100 := K5.out.c 2 rfl
  have cd101 := K5.out.c 3 rfl
  have cd102 := K5.out.c 4 rfl
  go_wp2_with fail
  refine (toSystem _ _ _ _ _ _ _ (K5.out.r 1 rfl :) HLP1.out).mono ?_
  rintro e w6 ⟨a6, n6, c6, rfl, ho6, hb6⟩
  have K6 := Lib.hid ((K5.out.below hb6).read (lives_eqs _ _) (OwnEqs.at ho6))
  clear cd100 cd101 cd102
  have K6b := Lib.hid (K6.out.box3 (w6.heap.size) rfl (.int .i64 xP1) (.int .i64 yP1) (.slice a6 n6 c6) 30)
  clear hb6 ho6
  have cd103 := K6b.out.c 3 rfl
  have cd104 := K6b.out.c 4 rfl
  go_wp2_with fail
  refine (toEquation _ _ _ _ _ _ (K6b.out.r 1 rfl :) HLP2.out).mono ?_
  rintro e w7 ⟨a7, n7, c7, rfl, ho7, hb7⟩
  have K7 := Lib.hid ((K6b.out.below hb7).read (lives_row _ _) (OwnRowE.at ho7))
  clear cd103 cd104
  have K7b := Lib.hid (K7.out.box (w7.heap.size) rfl (.slice a7 n7 c7) (.int .i64 xP2) 46)
  clear hb7 ho7
  -- the program's answer
  have cd105 := K7b.out.c 2 rfl
  have cd106 := K7b.out.c 3 rfl
  have cd107 := K7b.out.c 4 rfl
  have cd108 := K7b.out.c 0 rfl
  have cd109 := K7b.out.c 1 rfl
  go_wp2_with fail
  refine (implFollows _ _ _ _ _ _ _ _ _ _ _ b cd _ (K7b.out.r 1 rfl :) (K7b.out.r 0 rfl :) HI.out).mono ?_
  rintro e w8 ⟨rfl, hb8⟩
  have K8 := Lib.hid (K7b.out.below hb8)
  clear cd105 cd106 cd107 cd108 cd109
  clear hb8
  -- the copies are as they were
  go_wp2_with fail
  refine wp_region_noPanic ?_
  refine wp_region_late (S := (fun w' => w'.cell? ⟨w6.heap.size, 0, none⟩ = some (.int .i64 xP1) ∧ w'.cell? ⟨w6.heap.size, 1, none⟩ = some (.int .i64 yP1) ∧ w'.cell? ⟨w6.heap.size, 2, none⟩ = some (.slice a6 n6 c6) ∧ w'.cell? ⟨w.heap.size, 0, none⟩ = some (.int .i64 xP1) ∧ w'.cell? ⟨w.heap.size, 1, none⟩ = some (.int .i64 yP1) ∧ w'.cell? ⟨w.heap.size, 2, none⟩ = some (.slice aP1 nP1 cP1) ∧ Kept w [(⟨w7.heap.size, 0, none⟩, .slice a7 n7 c7), (⟨w7.heap.size, 1, none⟩, .int .i64 xP2), (⟨w6.heap.size, 0, none⟩, .int .i64 xP1), (⟨w6.heap.size, 1, none⟩, .int .i64 yP1), (⟨w6.heap.size, 2, none⟩, .slice a6 n6 c6), (⟨w.heap.size + 1, 0, none⟩, .slice aP2 nP2 cP2), (⟨w.heap.size + 1, 1, none⟩, .int .i64 xP2), (⟨w.heap.size, 0, none⟩, .int .i64 xP1), (⟨w.heap.size, 1, none⟩, .int .i64 yP1), (⟨w.heap.size, 2, none⟩, .slice aP1 nP1 cP1)] [fun w => RowAt w (.slice a7 n7 c7) tP2, fun w => EqsAt w (.slice a6 n6 c6) tP1, fun w => RowAt w (.slice aP2 nP2 cP2) tP2, fun w => EqsAt w (.slice aP1 nP1 cP1) tP1] w')) [] (by kernel_rfl) ?_ (fun hHeld => ?_)
  · exact ⟨K8.out.drew.c 2 rfl, K8.out.drew.c 3 rfl, K8.out.drew.c 4 rfl, K8.out.drew.c 7 rfl, K8.out.drew.c 8 rfl, K8.out.drew.c 9 rfl, K8.out.drew⟩
  refine wpAnyL_take (i := 0) (v := ?_) (some 48) rfl rfl (by kernel_rfl) (by kernel_rfl) (by kernel_rfl) (by kernel_rfl) (by kernel_rfl) (fun _ _ _ h => h) (Or.inl ⟨by rfl, ?_⟩) (by assumption) ?_
  rotate_left
  · intro wS hSw
    try dsimp only at hSw
    go_simp
    try with_reducible rfl
  try simp only [Act.put, List.setIfInBounds_toArray, List.set_cons_zero, List.set_cons_succ]
  refine wpAnyL_take (i := 1) (v := ?_) (some 49) rfl rfl (by kernel_rfl) (by kernel_rfl) (by kernel_rfl) (by kernel_rfl) (by kernel_rfl) (fun _ _ _ h => h) (Or.inl ⟨by rfl, ?_⟩) (by assumption) ?_
  rotate_left
  · intro wS hSw
    try dsimp only at hSw
    go_simp
    try with_reducible rfl
  try simp only [Act.put, List.setIfInBounds_toArray, List.set_cons_zero, List.set_cons_succ]
  refine wpAnyL_ready (rs := [2]) (by kernel_rfl) (by simp) ?_
  refine AllReadyL.cons rfl (fun K hK => ?_) AllReadyL.nil
  go_simp; go_at_call 17; refine (toSystem _ _ _ _ _ _ _ (hHeld.2.2.2.2.2.2.r 3 rfl :) HLP1.out).mono ?_; rintro e w9 ⟨a9, n9, c9, rfl, ho9, hb9⟩; have G9 := Lib.hid (OwnEqs.at ho9); clear ho9
  refine hK.out _ _ ?_ (fun hHeld => ?_)
  · exact ⟨below_cell hb9 hHeld.1, below_cell hb9 hHeld.2.1, below_cell hb9 hHeld.2.2.1, below_cell hb9 hHeld.2.2.2.1, below_cell hb9 hHeld.2.2.2.2.1, below_cell hb9 hHeld.2.2.2.2.2.1, hHeld.2.2.2.2.2.2.below hb9⟩
  clear hK K
  try simp only [Act.put, List.setIfInBounds_toArray, List.set_cons_zero, List.set_cons_succ]
  refine wpAnyL_ready (rs := [3]) (by kernel_rfl) (by simp) ?_
  refine AllReadyL.cons rfl (fun K hK => ?_) AllReadyL.nil
  go_simp; go_at_call 19; refine (eqSystem' _ _ _ _ _ _ _ _ _ _ _ _ true _ (hHeld.2.2.2.2.2.2.r 1 rfl :) G9.out (eqS_same _ _ _)).mono ?_; rintro e w10 ⟨rfl, hb10⟩
  refine hK.out _ _ ?_ (fun hHeld => ?_)
  · exact ⟨below_cell hb10 hHeld.1, below_cell hb10 hHeld.2.1, below_cell hb10 hHeld.2.2.1, below_cell hb10 hHeld.2.2.2.1, below_cell hb10 hHeld.2.2.2.2.1, below_cell hb10 hHeld.2.2.2.2.2.1, hHeld.2.2.2.2.2.2.below hb10⟩
  clear hK K
  try simp only [Act.put, List.setIfInBounds_toArray, List.set_cons_zero, List.set_cons_succ]
  refine wpAnyL_free (i := 4) (v := ?_) (some 52) rfl rfl (by kernel_rfl) (by kernel_rfl) (by kernel_rfl) (by decide) (fun _ _ _ h => h) (Or.inl ⟨by rfl, ?_⟩) (fun h0 => by assumption) ?_
  rotate_left
  · intro wS
    go_simp
    try with_reducible rfl
  try simp only [Act.put, List.setIfInBounds_toArray, List.set_cons_zero, List.set_cons_succ]
  refine wpAnyL_done (by kernel_rfl) ?_ _
  refine NoPanic.normal ?_
  have K10 := Lib.hid (hHeld.2.2.2.2.2.2 : Kept w _ _ w10)
  clear hHeld hb9 hb10 G9
  go_wp2_with fail
  refine wp_region_noPanic ?_
  refine wp_region_late (S := (fun w' => w'.cell? ⟨w7.heap.size, 0, none⟩ = some (.slice a7 n7 c7) ∧ w'.cell? ⟨w7.heap.size, 1, none⟩ = some (.int .i64 xP2) ∧ w'.cell? ⟨w.heap.size + 1, 0, none⟩ = some (.slice aP2 nP2 cP2) ∧ w'.cell? ⟨w.heap.size + 1, 1, none⟩ = some (.int .i64 xP2) ∧ Kept w [(⟨w7.heap.size, 0, none⟩, .slice a7 n7 c7), (⟨w7.heap.size, 1, none⟩, .int .i64 xP2), (⟨w6.heap.size, 0, none⟩, .int .i64 xP1), (⟨w6.heap.size, 1, none⟩, .int .i64 yP1), (⟨w6.heap.size, 2, none⟩, .slice a6 n6 c6), (⟨w.heap.size + 1, 0, none⟩, .slice aP2 nP2 cP2), (⟨w.heap.size + 1, 1, none⟩, .int .i64 xP2), (⟨w.heap.size, 0, none⟩, .int .i64 xP1), (⟨w.heap.size, 1, none⟩, .int .i64 yP1), (⟨w.heap.size, 2, none⟩, .slice aP1 nP1 cP1)] [fun w => RowAt w (.slice a7 n7 c7) tP2, fun w => EqsAt w (.slice a6 n6 c6) tP1, fun w => RowAt w (.slice aP2 nP2 cP2) tP2, fun w => EqsAt w (.slice aP1 nP1 cP1) tP1] w')) [] (by kernel_rfl) ?_ (fun hHeld => ?_)
  · exact ⟨K10.out.drew.c 0 rfl, K10.out.drew.c 1 rfl, K10.out.drew.c 5 rfl, K10.out.drew.c 6 rfl, K10.out.drew⟩
  refine wpAnyL_take (i := 0) (v := ?_) (some 53) rfl rfl (by kernel_rfl) (by kernel_rfl) (by kernel_rfl) (by kernel_rfl) (by kernel_rfl) (fun _ _ _ h => h) (Or.inl ⟨by rfl, ?_⟩) (by assumption) ?_
  rotate_left
  · intro wS hSw
    try dsimp only at hSw
    go_simp
    try with_reducible rfl
  try simp only [Act.put, List.setIfInBounds_toArray, List.set_cons_zero, List.set_cons_succ]
  refine wpAnyL_take (i := 1) (v := ?_) (some 54) rfl rfl (by kernel_rfl) (by kernel_rfl) (by kernel_rfl) (by kernel_rfl) (by kernel_rfl) (fun _ _ _ h => h) (Or.inl ⟨by rfl, ?_⟩) (by assumption) ?_
  rotate_left
  · intro wS hSw
    try dsimp only at hSw
    go_simp
    try with_reducible rfl
  try simp only [Act.put, List.setIfInBounds_toArray, List.set_cons_zero, List.set_cons_succ]
  refine wpAnyL_ready (rs := [2]) (by kernel_rfl) (by simp) ?_
  refine AllReadyL.cons rfl (fun K hK => ?_) AllReadyL.nil
  go_simp; go_at_call 35; refine (toEquation _ _ _ _ _ _ (hHeld.2.2.2.2.r 2 rfl :) HLP2.out).mono ?_; rintro e w11 ⟨a11, n11, c11, rfl, ho11, hb11⟩; have G11 := Lib.hid (OwnRowE.at ho11); clear ho11
  refine hK.out _ _ ?_ (fun hHeld => ?_)
  · exact ⟨below_cell hb11 hHeld.1, below_cell hb11 hHeld.2.1, below_cell hb11 hHeld.2.2.1, below_cell hb11 hHeld.2.2.2.1, hHeld.2.2.2.2.below hb11⟩
  clear hK K
  try simp only [Act.put, List.setIfInBounds_toArray, List.set_cons_zero, List.set_cons_succ]
  refine wpAnyL_ready (rs := [3]) (by kernel_rfl) (by simp) ?_
  refine AllReadyL.cons rfl (fun K hK => ?_) AllReadyL.nil
  go_simp; go_at_call 37; refine (eqEquation' _ _ _ _ _ _ _ _ _ _ true _ (hHeld.2.2.2.2.r 0 rfl :) G11.out (eqO_same _ _)).mono ?_; rintro e w12 ⟨rfl, hb12⟩
  refine hK.out _ _ ?_ (fun hHeld => ?_)
  · exact ⟨below_cell hb12 hHeld.1, below_cell hb12 hHeld.2.1, below_cell hb12 hHeld.2.2.1, below_cell hb12 hHeld.2.2.2.1, hHeld.2.2.2.2.below hb12⟩
  clear hK K
  try simp only [Act.put, List.setIfInBounds_toArray, List.set_cons_zero, List.set_cons_succ]
  refine wpAnyL_free (i := 4) (v := ?_) (some 57) rfl rfl (by kernel_rfl) (by kernel_rfl) (by kernel_rfl) (by decide) (fun _ _ _ h => h) (Or.inl ⟨by rfl, ?_⟩) (fun h0 => by assumption) ?_
  rotate_left
  · intro wS
    go_simp
    try with_reducible rfl
  try simp only [Act.put, List.setIfInBounds_toArray, List.set_cons_zero, List.set_cons_succ]
  refine wpAnyL_done (by kernel_rfl) ?_ _
  refine NoPanic.normal ?_
  have K12 := Lib.hid (hHeld.2.2.2.2 : Kept w _ _ w12)
  clear hHeld hb11 hb12 G11
  go_wp2
  go_ret
  exact ⟨rfl, K12.out.bel⟩

end Go.Proofs.Ytnbgpeoceejolaa
