/-
  FnExactRankOfSystem: the walk over the law.
-/
import Derived.Test.YtnbgpeoceejolaaRankQ
import Derived.Test.YtnbgpeoceejolaaGBase
import Derived.Test.YtnbgpeoceejolaaReg
import Derived.Test.YtnbgpeoceejolaaKept3
import Derived.Deep.CutRange
import Derived.Deep.RegionHeld3
namespace Go.Proofs.Ytnbgpeoceejolaa
open Go.RowKit

set_option linter.unusedSimpArgs false in
set_option maxHeartbeats 4000000 in
set_option maxRecDepth 100000 in
theorem lawRankOfSystem (xP1 : Int) (yP1 : Int) (aP1 : Option Addr) (nP1 cP1 : Nat) (tP1 : List (Int × List Int)) (w : World) (hP1 : EqsAt w (.slice aP1 nP1 cP1) tP1) :
    Calls Try.prog 3 #[.agg #[.int .i64 xP1, .int .i64 yP1, .slice aP1 nP1 cP1]] w fun e w' => e = .returned (.bool true) ∧ Below w.heap.size w w' := by
  have K0 := Lib.hid (((Kept.start w).read (lives_eqs _ _) hP1).box3 (w.heap.size) rfl (.int .i64 xP1) (.int .i64 yP1) (.slice aP1 nP1 cP1) 24)
  clear hP1
  by_cases hzP1 : (1048576 : Int) < opsSize tP1
  · have HF := Lib.hid (szF_no hzP1)
    clear hzP1
    go_enter Try.func3, Try.ntmps3
    go_wp2_with fail
    refine (szSystem _ _ _ _ _ _ _ _ (K0.out.r 0 rfl :) (by omega) (by omega)).mono ?_
    rw [HF.out]
    rintro e w1 ⟨rfl, hb1⟩
    have KE := Lib.hid (K0.out.below hb1).bel
    clear hb1
    go_wp2
    go_ret
    exact ⟨rfl, KE.out⟩
  have HF1 := Lib.hid (szF_yes (t := opsSize tP1) (l := 1048576) (by omega))
  have hp1 : ¬ (1048576 - (opsSize tP1 : Int) < 0) := by omega
  have hp1' : (1048576 - (opsSize tP1 : Int)) ≤ 1048576 := by omega
  have HLP1 : Hid (opsSize tP1 ≤ 1048576) := by
    show _ ≤ _
    omega
  obtain ⟨r, cd, hi⟩ := RankOfSystemIs.exists xP1 yP1 tP1
  have HI := Lib.hid hi
  clear hi hzP1
  go_enter Try.func3, Try.ntmps3
  go_wp2_with fail
  refine (szSystem _ _ _ _ _ _ _ _ (K0.out.r 0 rfl :) (by omega) (by omega)).mono ?_
  rw [HF1.out]
  rintro e w1 ⟨rfl, hb1⟩
  have K1 := Lib.hid (K0.out.below hb1)
  clear hb1
  have cc0 := K1.out.c 0 rfl
  have cc1 := K1.out.c 1 rfl
  have cc2 := K1.out.c 2 rfl
  go_wp2_with fail
  -- the model's answer
  refine (toSystem _ _ _ _ _ _ _ (K1.out.r 0 rfl :) HLP1.out).mono ?_
  rintro e w2 ⟨a2, n2, c2, rfl, ho2, hb2⟩
  have K2 := Lib.hid ((K1.out.below hb2).read (lives_eqs _ _) (OwnEqs.at ho2))
  clear hb2 ho2
  clear cc0 cc1 cc2
  go_wp2_with fail
  refine (specRankOfSystem _ _ _ _ _ _ r cd _ (K2.out.r 0 rfl :) HI.out).mono ?_
  rintro e w3 ⟨rfl, hb3⟩
  have K3 := Lib.hid (K2.out.below hb3)
  clear hb3
  -- copies
  have cd100 := K3.out.c 0 rfl
  have cd101 := K3.out.c 1 rfl
  have cd102 := K3.out.c 2 rfl
  go_wp2_with fail
  refine (toSystem _ _ _ _ _ _ _ (K3.out.r 1 rfl :) HLP1.out).mono ?_
  rintro e w4 ⟨a4, n4, c4, rfl, ho4, hb4⟩
  have K4 := Lib.hid ((K3.out.below hb4).read (lives_eqs _ _) (OwnEqs.at ho4))
  clear cd100 cd101 cd102
  have K4b := Lib.hid (K4.out.box3 (w4.heap.size) rfl (.int .i64 xP1) (.int .i64 yP1) (.slice a4 n4 c4) 30)
  clear hb4 ho4
  -- the program's answer
  have cd103 := K4b.out.c 0 rfl
  have cd104 := K4b.out.c 1 rfl
  have cd105 := K4b.out.c 2 rfl
  go_wp2_with fail
  refine (implRankOfSystem _ _ _ _ _ _ r cd _ (K4b.out.r 0 rfl :) HI.out).mono ?_
  rintro e w5 ⟨rfl, hb5⟩
  have K5 := Lib.hid (K4b.out.below hb5)
  clear cd103 cd104 cd105
  clear hb5
  -- the copies are as they were
  go_wp2_with fail
  refine wp_region_noPanic ?_
  refine wp_region_late (S := (fun w' => w'.cell? ⟨w4.heap.size, 0, none⟩ = some (.int .i64 xP1) ∧ w'.cell? ⟨w4.heap.size, 1, none⟩ = some (.int .i64 yP1) ∧ w'.cell? ⟨w4.heap.size, 2, none⟩ = some (.slice a4 n4 c4) ∧ w'.cell? ⟨w.heap.size, 0, none⟩ = some (.int .i64 xP1) ∧ w'.cell? ⟨w.heap.size, 1, none⟩ = some (.int .i64 yP1) ∧ w'.cell? ⟨w.heap.size, 2, none⟩ = some (.slice aP1 nP1 cP1) ∧ Kept w [(⟨w4.heap.size, 0, none⟩, .int .i64 xP1), (⟨w4.heap.size, 1, none⟩, .int .i64 yP1), (⟨w4.heap.size, 2, none⟩, .slice a4 n4 c4), (⟨w.heap.size, 0, none⟩, .int .i64 xP1), (⟨w.heap.size, 1, none⟩, .int .i64 yP1), (⟨w.heap.size, 2, none⟩, .slice aP1 nP1 cP1)] [fun w => EqsAt w (.slice a4 n4 c4) tP1, fun w => EqsAt w (.slice a2 n2 c2) tP1, fun w => EqsAt w (.slice aP1 nP1 cP1) tP1] w')) [] (by kernel_rfl) ?_ (fun hHeld => ?_)
  · exact ⟨K5.out.drew.c 0 rfl, K5.out.drew.c 1 rfl, K5.out.drew.c 2 rfl, K5.out.drew.c 3 rfl, K5.out.drew.c 4 rfl, K5.out.drew.c 5 rfl, K5.out.drew⟩
  refine wpAnyL_take (i := 0) (v := ?_) (some 35) rfl rfl (by kernel_rfl) (by kernel_rfl) (by kernel_rfl) (by kernel_rfl) (by kernel_rfl) (fun _ _ _ h => h) (Or.inl ⟨by rfl, ?_⟩) (by assumption) ?_
  rotate_left
  · intro wS hSw
    try dsimp only at hSw
    go_simp
    try with_reducible rfl
  try simp only [Act.put, List.setIfInBounds_toArray, List.set_cons_zero, List.set_cons_succ]
  refine wpAnyL_take (i := 1) (v := ?_) (some 36) rfl rfl (by kernel_rfl) (by kernel_rfl) (by kernel_rfl) (by kernel_rfl) (by kernel_rfl) (fun _ _ _ h => h) (Or.inl ⟨by rfl, ?_⟩) (by assumption) ?_
  rotate_left
  · intro wS hSw
    try dsimp only at hSw
    go_simp
    try with_reducible rfl
  try simp only [Act.put, List.setIfInBounds_toArray, List.set_cons_zero, List.set_cons_succ]
  refine wpAnyL_ready (rs := [2]) (by kernel_rfl) (by simp) ?_
  refine AllReadyL.cons rfl (fun K hK => ?_) AllReadyL.nil
  go_simp; go_at_call 17; refine (toSystem _ _ _ _ _ _ _ (hHeld.2.2.2.2.2.2.r 2 rfl :) HLP1.out).mono ?_; rintro e w6 ⟨a6, n6, c6, rfl, ho6, hb6⟩; have G6 := Lib.hid (OwnEqs.at ho6); clear ho6
  refine hK.out _ _ ?_ (fun hHeld => ?_)
  · exact ⟨below_cell hb6 hHeld.1, below_cell hb6 hHeld.2.1, below_cell hb6 hHeld.2.2.1, below_cell hb6 hHeld.2.2.2.1, below_cell hb6 hHeld.2.2.2.2.1, below_cell hb6 hHeld.2.2.2.2.2.1, hHeld.2.2.2.2.2.2.below hb6⟩
  clear hK K
  try simp only [Act.put, List.setIfInBounds_toArray, List.set_cons_zero, List.set_cons_succ]
  refine wpAnyL_ready (rs := [3]) (by kernel_rfl) (by simp) ?_
  refine AllReadyL.cons rfl (fun K hK => ?_) AllReadyL.nil
  go_simp; go_at_call 19; refine (eqSystem' _ _ _ _ _ _ _ _ _ _ _ _ true _ (hHeld.2.2.2.2.2.2.r 0 rfl :) G6.out (eqS_same _ _ _)).mono ?_; rintro e w7 ⟨rfl, hb7⟩
  refine hK.out _ _ ?_ (fun hHeld => ?_)
  · exact ⟨below_cell hb7 hHeld.1, below_cell hb7 hHeld.2.1, below_cell hb7 hHeld.2.2.1, below_cell hb7 hHeld.2.2.2.1, below_cell hb7 hHeld.2.2.2.2.1, below_cell hb7 hHeld.2.2.2.2.2.1, hHeld.2.2.2.2.2.2.below hb7⟩
  clear hK K
  try simp only [Act.put, List.setIfInBounds_toArray, List.set_cons_zero, List.set_cons_succ]
  refine wpAnyL_free (i := 4) (v := ?_) (some 39) rfl rfl (by kernel_rfl) (by kernel_rfl) (by kernel_rfl) (by decide) (fun _ _ _ h => h) (Or.inl ⟨by rfl, ?_⟩) (fun h0 => by assumption) ?_
  rotate_left
  · intro wS
    go_simp
    try with_reducible rfl
  try simp only [Act.put, List.setIfInBounds_toArray, List.set_cons_zero, List.set_cons_succ]
  refine wpAnyL_done (by kernel_rfl) ?_ _
  refine NoPanic.normal ?_
  have K7 := Lib.hid (hHeld.2.2.2.2.2.2 : Kept w _ _ w7)
  clear hHeld hb6 hb7 G6
  go_wp2
  go_ret
  exact ⟨rfl, K7.out.bel⟩

end Go.Proofs.Ytnbgpeoceejolaa
