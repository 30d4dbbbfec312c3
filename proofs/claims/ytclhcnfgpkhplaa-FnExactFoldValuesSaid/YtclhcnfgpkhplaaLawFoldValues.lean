/-
  FnExactFoldValues: the walk over the law.
-/
import Derived.Test.YtclhcnfgpkhplaaFoldV
import Derived.Test.YtclhcnfgpkhplaaOwnRels
import Derived.Test.YtclhcnfgpkhplaaGBase
import Derived.Test.YtclhcnfgpkhplaaReg
import Derived.Test.YtclhcnfgpkhplaaKept3
import Derived.Deep.CutRange
import Derived.Deep.RegionHeld3
namespace Go.Proofs.Ytclhcnfgpkhplaa
open Go.RowKit

set_option linter.unusedSimpArgs false in
set_option maxHeartbeats 4000000 in
set_option maxRecDepth 100000 in
theorem lawFoldValues (xP1 : Int) (aP1 : Option Addr) (nP1 cP1 : Nat) (tP1 : List (Int × List (List Int))) (xP2 : Int) (aP2 : Option Addr) (nP2 cP2 : Nat) (tP2 : List Int) (aP3 : Option Addr) (nP3 cP3 : Nat) (tP3 : List Int) (w : World) (hP1 : RelsAt w (.slice aP1 nP1 cP1) tP1) (hP2 : RowAt w (.slice aP2 nP2 cP2) tP2) (hP3 : RowAt w (.slice aP3 nP3 cP3) tP3) :
    Calls Try.prog 7 #[.agg #[.int .i64 xP1, .slice aP1 nP1 cP1], .agg #[.int .i64 xP2, .slice aP2 nP2 cP2], .slice aP3 nP3 cP3] w fun e w' => e = .returned (.bool true) ∧ Below w.heap.size w w' := by
  obtain rfl : nP3 = tP3.length := by obtain ⟨_, _, hv, _⟩ := hP3; simp only [Value.slice.injEq] at hv; exact hv.2.1
  have hnP3 : tP3.length ≤ 9223372036854775807 := by obtain ⟨_, _, _, hn, _⟩ := hP3; exact hn
  have K0 := Lib.hid ((((((Kept.start w).read (lives_rels _ _) hP1).read (lives_row _ _) hP2).read (lives_row _ _) hP3).box (w.heap.size) rfl (.int .i64 xP1) (.slice aP1 nP1 cP1) 54).box (w.heap.size + 1) (by simp) (.int .i64 xP2) (.slice aP2 nP2 cP2) 24)
  clear hP1 hP2 hP3
  by_cases hlP3 : (1048576 : Int) < tP3.length
  · go_enter Try.func7, Try.ntmps7
    go_wp2
    go_ret
    exact ⟨rfl, K0.out.bel⟩
  by_cases hzP1 : (1048576 : Int) < relsSize tP1
  · have HF := Lib.hid (szF_no hzP1)
    clear hzP1
    go_enter Try.func7, Try.ntmps7
    go_wp2_with fail
    refine (szTemplate _ _ _ _ _ _ _ (K0.out.r 2 rfl :) (by omega) (by omega)).mono ?_
    rw [HF.out]
    rintro e w1 ⟨rfl, hb1⟩
    have KE := Lib.hid (K0.out.below hb1).bel
    clear hb1
    go_wp2
    go_ret
    exact ⟨rfl, KE.out⟩
  have HF1 := Lib.hid (szF_yes (t := relsSize tP1) (l := 1048576) (by omega))
  have hp1 : ¬ (1048576 - (relsSize tP1 : Int) < 0) := by omega
  have hp1' : (1048576 - (relsSize tP1 : Int)) ≤ 1048576 := by omega
  by_cases hzP2 : (1048576 - (relsSize tP1 : Int) : Int) < tP2.length
  · have HF := Lib.hid (szF_no hzP2)
    clear hzP2
    go_enter Try.func7, Try.ntmps7
    go_wp2_with fail
    refine (szTemplate _ _ _ _ _ _ _ (K0.out.r 2 rfl :) (by omega) (by omega)).mono ?_
    rw [HF1.out]
    rintro e w1 ⟨rfl, hb1⟩
    have K1 := Lib.hid (K0.out.below hb1)
    clear hb1
    have cc0 := K1.out.c 2 rfl
    have cc1 := K1.out.c 3 rfl
    have cc2 := K1.out.c 0 rfl
    have cc3 := K1.out.c 1 rfl
    go_wp2_with fail
    refine (szOp _ _ _ _ _ _ _ (K1.out.r 1 rfl :) (by omega) (by omega)).mono ?_
    rw [HF.out]
    rintro e w2 ⟨rfl, hb2⟩
    have KE := Lib.hid (K1.out.below hb2).bel
    clear hb2
    go_wp2
    go_ret
    exact ⟨rfl, KE.out⟩
  have HF2 := Lib.hid (szF_yes (t := tP2.length) (l := 1048576 - (relsSize tP1 : Int)) (by omega))
  have hp2 : ¬ (1048576 - (relsSize tP1 : Int) - (tP2.length : Int) < 0) := by omega
  have hp2' : (1048576 - (relsSize tP1 : Int) - (tP2.length : Int)) ≤ 1048576 := by omega
  have HLP1 : Hid (relsSize tP1 ≤ 1048576) := by
    show _ ≤ _
    omega
  have HLP2 : Hid (tP2.length ≤ 1048576) := by
    show _ ≤ _
    omega
  have HLP3 : Hid (tP3.length ≤ 1048576) := by show _ ≤ _; omega
  obtain ⟨v, cd, hi⟩ := FoldValuesIs.exists xP1 tP1 xP2 tP2 tP3
  have HI := Lib.hid hi
  clear hi hzP1 hzP2
  go_enter Try.func7, Try.ntmps7
  go_wp2_with fail
  refine (szTemplate _ _ _ _ _ _ _ (K0.out.r 2 rfl :) (by omega) (by omega)).mono ?_
  rw [HF1.out]
  rintro e w1 ⟨rfl, hb1⟩
  have K1 := Lib.hid (K0.out.below hb1)
  clear hb1
  have cc0 := K1.out.c 2 rfl
  have cc1 := K1.out.c 3 rfl
  have cc2 := K1.out.c 0 rfl
  have cc3 := K1.out.c 1 rfl
  go_wp2_with fail
  refine (szOp _ _ _ _ _ _ _ (K1.out.r 1 rfl :) (by omega) (by omega)).mono ?_
  rw [HF2.out]
  rintro e w2 ⟨rfl, hb2⟩
  have K2 := Lib.hid (K1.out.below hb2)
  clear hb2 cc0 cc1 cc2 cc3
  go_wp2_with fail
  -- the model's answer
  refine wp_region_noPanic ?_
  refine wp_region_late (S := (fun w' => w'.cell? ⟨w.heap.size, 0, none⟩ = some (.int .i64 xP1) ∧ w'.cell? ⟨w.heap.size, 1, none⟩ = some (.slice aP1 nP1 cP1) ∧ w'.cell? ⟨w.heap.size + 1, 0, none⟩ = some (.int .i64 xP2) ∧ w'.cell? ⟨w.heap.size + 1, 1, none⟩ = some (.slice aP2 nP2 cP2) ∧ Kept w [(⟨w.heap.size + 1, 0, none⟩, .int .i64 xP2), (⟨w.heap.size + 1, 1, none⟩, .slice aP2 nP2 cP2), (⟨w.heap.size, 0, none⟩, .int .i64 xP1), (⟨w.heap.size, 1, none⟩, .slice aP1 nP1 cP1)] [fun w => RowAt w (.slice aP3 tP3.length cP3) tP3, fun w => RowAt w (.slice aP2 nP2 cP2) tP2, fun w => RelsAt w (.slice aP1 nP1 cP1) tP1] w')) [] (by kernel_rfl) ?_ (fun hHeld => ?_)
  · exact ⟨K2.out.drew.c 2 rfl, K2.out.drew.c 3 rfl, K2.out.drew.c 0 rfl, K2.out.drew.c 1 rfl, K2.out.drew⟩
  refine wpAnyL_take (i := 0) (v := ?_) (some 29) rfl rfl (by kernel_rfl) (by kernel_rfl) (by kernel_rfl) (by kernel_rfl) (by kernel_rfl) (fun _ _ _ h => h) (Or.inl ⟨by rfl, ?_⟩) (by assumption) ?_
  rotate_left
  · intro wS hSw
    try dsimp only at hSw
    go_simp
    try with_reducible rfl
  try simp only [Act.put, List.setIfInBounds_toArray, List.set_cons_zero, List.set_cons_succ]
  refine wpAnyL_take (i := 2) (v := ?_) (some 31) rfl rfl (by kernel_rfl) (by kernel_rfl) (by kernel_rfl) (by kernel_rfl) (by kernel_rfl) (fun _ _ _ h => h) (Or.inl ⟨by rfl, ?_⟩) (by assumption) ?_
  rotate_left
  · intro wS hSw
    try dsimp only at hSw
    go_simp
    try with_reducible rfl
  try simp only [Act.put, List.setIfInBounds_toArray, List.set_cons_zero, List.set_cons_succ]
  refine wpAnyL_free (i := 4) (v := ?_) (some 33) rfl rfl (by kernel_rfl) (by kernel_rfl) (by kernel_rfl) (by decide) (fun _ _ _ h => h) (Or.inl ⟨by rfl, ?_⟩) (fun h0 => by assumption) ?_
  rotate_left
  · intro wS
    go_simp
    try with_reducible rfl
  try simp only [Act.put, List.setIfInBounds_toArray, List.set_cons_zero, List.set_cons_succ]
  refine wpAnyL_ready (rs := [1]) (by kernel_rfl) (by simp) ?_
  refine AllReadyL.cons rfl (fun K hK => ?_) AllReadyL.nil
  go_simp; go_at_call 36; refine (toTemplate _ _ _ _ _ _ (hHeld.2.2.2.2.r 2 rfl :) HLP1.out).mono ?_; rintro e w3 ⟨a3, n3, c3, rfl, ho3, hb3⟩; have G3 := Lib.hid (RelsOwn.at ho3); clear ho3
  refine hK.out _ _ ?_ (fun hHeld => ?_)
  · exact ⟨below_cell hb3 hHeld.1, below_cell hb3 hHeld.2.1, below_cell hb3 hHeld.2.2.1, below_cell hb3 hHeld.2.2.2.1, hHeld.2.2.2.2.below hb3⟩
  clear hK K
  try simp only [Act.put, List.setIfInBounds_toArray, List.set_cons_zero, List.set_cons_succ]
  refine wpAnyL_ready (rs := [3]) (by kernel_rfl) (by simp) ?_
  refine AllReadyL.cons rfl (fun K hK => ?_) AllReadyL.nil
  go_simp; go_at_call 17; refine (toOp _ _ _ _ _ _ (hHeld.2.2.2.2.r 1 rfl :) HLP2.out).mono ?_; rintro e w4 ⟨a4, n4, c4, rfl, ho4, hb4⟩; have G4 := Lib.hid (OwnRowE.at ho4); clear ho4
  have G3 := Lib.hid (G3.out.below hb4)
  refine hK.out _ _ ?_ (fun hHeld => ?_)
  · exact ⟨below_cell hb4 hHeld.1, below_cell hb4 hHeld.2.1, below_cell hb4 hHeld.2.2.1, below_cell hb4 hHeld.2.2.2.1, hHeld.2.2.2.2.below hb4⟩
  clear hK K
  try simp only [Act.put, List.setIfInBounds_toArray, List.set_cons_zero, List.set_cons_succ]
  refine wpAnyL_ready (rs := [5]) (by kernel_rfl) (by simp) ?_
  refine AllReadyL.cons rfl (fun K hK => ?_) AllReadyL.nil
  go_simp; go_at_call 37; refine (toRowE _ _ _ (hHeld.2.2.2.2.r 0 rfl :) HLP3.out).mono ?_; rintro e w5 ⟨a5, n5, c5, rfl, ho5, hb5⟩; have G5 := Lib.hid (OwnRowE.at ho5); clear ho5
  have G3 := Lib.hid (G3.out.below hb5)
  have G4 := Lib.hid (G4.out.below hb5)
  refine hK.out _ _ ?_ (fun hHeld => ?_)
  · exact ⟨below_cell hb5 hHeld.1, below_cell hb5 hHeld.2.1, below_cell hb5 hHeld.2.2.1, below_cell hb5 hHeld.2.2.2.1, hHeld.2.2.2.2.below hb5⟩
  clear hK K
  try simp only [Act.put, List.setIfInBounds_toArray, List.set_cons_zero, List.set_cons_succ]
  refine wpAnyL_ready (rs := [6]) (by kernel_rfl) (by simp) ?_
  refine AllReadyL.cons rfl (fun K hK => ?_) AllReadyL.nil
  go_simp; go_at_call 35; refine (specFoldValues _ _ _ _ _ _ _ _ _ _ _ _ v cd _ G3.out G4.out G5.out HI.out).mono ?_; rintro e w6 ⟨rfl, hb6⟩
  refine hK.out _ _ ?_ (fun hHeld => ?_)
  · exact ⟨below_cell hb6 hHeld.1, below_cell hb6 hHeld.2.1, below_cell hb6 hHeld.2.2.1, below_cell hb6 hHeld.2.2.2.1, hHeld.2.2.2.2.below hb6⟩
  clear hK K
  try simp only [Act.put, List.setIfInBounds_toArray, List.set_cons_zero, List.set_cons_succ]
  refine wpAnyL_free (i := 7) (v := ?_) (some 28) rfl rfl (by kernel_rfl) (by kernel_rfl) (by kernel_rfl) (by decide) (fun _ _ _ h => h) (Or.inl ⟨by rfl, ?_⟩) (fun h0 => by assumption) ?_
  rotate_left
  · intro wS
    go_simp
    try with_reducible rfl
  try simp only [Act.put, List.setIfInBounds_toArray, List.set_cons_zero, List.set_cons_succ]
  refine wpAnyL_free (i := 8) (v := ?_) (some 36) rfl rfl (by kernel_rfl) (by kernel_rfl) (by kernel_rfl) (by decide) (fun _ _ _ h => h) (Or.inl ⟨by rfl, ?_⟩) (fun h0 => by assumption) ?_
  rotate_left
  · intro wS
    go_simp
    try with_reducible rfl
  try simp only [Act.put, List.setIfInBounds_toArray, List.set_cons_zero, List.set_cons_succ]
  refine wpAnyL_free (i := 9) (v := ?_) (some 37) rfl rfl (by kernel_rfl) (by kernel_rfl) (by kernel_rfl) (by decide) (fun _ _ _ h => h) (Or.inl ⟨by rfl, ?_⟩) (fun h0 => by assumption) ?_
  rotate_left
  · intro wS
    go_simp
    try with_reducible rfl
  try simp only [Act.put, List.setIfInBounds_toArray, List.set_cons_zero, List.set_cons_succ]
  refine wpAnyL_free (i := 10) (v := ?_) (some 8) rfl rfl (by kernel_rfl) (by kernel_rfl) (by kernel_rfl) (by decide) (fun _ _ _ h => h) (Or.inl ⟨by rfl, ?_⟩) (fun h0 => by assumption) ?_
  rotate_left
  · intro wS
    go_simp
    try with_reducible rfl
  try simp only [Act.put, List.setIfInBounds_toArray, List.set_cons_zero, List.set_cons_succ]
  refine wpAnyL_free (i := 11) (v := ?_) (some 9) rfl rfl (by kernel_rfl) (by kernel_rfl) (by kernel_rfl) (by decide) (fun _ _ _ h => h) (Or.inl ⟨by rfl, ?_⟩) (fun h0 => by assumption) ?_
  rotate_left
  · intro wS
    go_simp
    try with_reducible rfl
  try simp only [Act.put, List.setIfInBounds_toArray, List.set_cons_zero, List.set_cons_succ]
  refine wpAnyL_done (by kernel_rfl) ?_ _
  refine NoPanic.normal ?_
  have K6 := Lib.hid (hHeld.2.2.2.2 : Kept w _ _ w6)
  clear hHeld hb3 hb4 hb5 hb6 G3 G4 G5
  -- copies
  have cd100 := K6.out.c 2 rfl
  have cd101 := K6.out.c 3 rfl
  go_wp2_with fail
  refine (toTemplate _ _ _ _ _ _ (K6.out.r 2 rfl :) HLP1.out).mono ?_
  rintro e w7 ⟨a7, n7, c7, rfl, ho7, hb7⟩
  have K7 := Lib.hid ((K6.out.below hb7).read (lives_rels _ _) (RelsOwn.at ho7))
  clear cd100 cd101
  have K7b := Lib.hid (K7.out.box (w7.heap.size) rfl (.int .i64 xP1) (.slice a7 n7 c7) 60)
  clear hb7 ho7
  have cd102 := K7b.out.c 2 rfl
  have cd103 := K7b.out.c 3 rfl
  go_wp2_with fail
  refine (toOp _ _ _ _ _ _ (K7b.out.r 2 rfl :) HLP2.out).mono ?_
  rintro e w8 ⟨a8, n8, c8, rfl, ho8, hb8⟩
  have K8 := Lib.hid ((K7b.out.below hb8).read (lives_row _ _) (OwnRowE.at ho8))
  clear cd102 cd103
  have K8b := Lib.hid (K8.out.box (w8.heap.size) rfl (.int .i64 xP2) (.slice a8 n8 c8) 28)
  clear hb8 ho8
  go_wp2_with fail
  refine (toRowE _ _ _ (K8b.out.r 2 rfl :) HLP3.out).mono ?_
  rintro e w9 ⟨a9, n9, c9, rfl, ho9, hb9⟩
  have K9 := Lib.hid ((K8b.out.below hb9).read (lives_rowC _ _) (OwnRowE.rowC ho9))
  clear hb9 ho9
  -- the program's answer
  have cd104 := K9.out.c 2 rfl
  have cd105 := K9.out.c 3 rfl
  have cd106 := K9.out.c 0 rfl
  have cd107 := K9.out.c 1 rfl
  go_wp2_with fail
  refine (implFoldValues _ _ _ _ _ _ _ _ _ _ _ _ v cd _ (K9.out.r 2 rfl :) (K9.out.r 1 rfl :) (K9.out.r 0 rfl :) HI.out).mono ?_
  rintro e w10 ⟨rfl, hb10⟩
  have K10 := Lib.hid (K9.out.below hb10)
  clear cd104 cd105 cd106 cd107
  clear hb10
  -- the copies are as they were
  go_wp2_with fail
  refine wp_region_noPanic ?_
  refine wp_region_late (S := (fun w' => w'.cell? ⟨w7.heap.size, 0, none⟩ = some (.int .i64 xP1) ∧ w'.cell? ⟨w7.heap.size, 1, none⟩ = some (.slice a7 n7 c7) ∧ w'.cell? ⟨w.heap.size, 0, none⟩ = some (.int .i64 xP1) ∧ w'.cell? ⟨w.heap.size, 1, none⟩ = some (.slice aP1 nP1 cP1) ∧ Kept w [(⟨w8.heap.size, 0, none⟩, .int .i64 xP2), (⟨w8.heap.size, 1, none⟩, .slice a8 n8 c8), (⟨w7.heap.size, 0, none⟩, .int .i64 xP1), (⟨w7.heap.size, 1, none⟩, .slice a7 n7 c7), (⟨w.heap.size + 1, 0, none⟩, .int .i64 xP2), (⟨w.heap.size + 1, 1, none⟩, .slice aP2 nP2 cP2), (⟨w.heap.size, 0, none⟩, .int .i64 xP1), (⟨w.heap.size, 1, none⟩, .slice aP1 nP1 cP1)] [fun w => RowC w (.slice a9 n9 c9) tP3, fun w => RowAt w (.slice a8 n8 c8) tP2, fun w => RelsAt w (.slice a7 n7 c7) tP1, fun w => RowAt w (.slice aP3 tP3.length cP3) tP3, fun w => RowAt w (.slice aP2 nP2 cP2) tP2, fun w => RelsAt w (.slice aP1 nP1 cP1) tP1] w')) [] (by kernel_rfl) ?_ (fun hHeld => ?_)
  · exact ⟨K10.out.drew.c 2 rfl, K10.out.drew.c 3 rfl, K10.out.drew.c 6 rfl, K10.out.drew.c 7 rfl, K10.out.drew⟩
  refine wpAnyL_take (i := 0) (v := ?_) (some 59) rfl rfl (by kernel_rfl) (by kernel_rfl) (by kernel_rfl) (by kernel_rfl) (by kernel_rfl) (fun _ _ _ h => h) (Or.inl ⟨by rfl, ?_⟩) (by assumption) ?_
  rotate_left
  · intro wS hSw
    try dsimp only at hSw
    go_simp
    try with_reducible rfl
  try simp only [Act.put, List.setIfInBounds_toArray, List.set_cons_zero, List.set_cons_succ]
  refine wpAnyL_take (i := 1) (v := ?_) (some 60) rfl rfl (by kernel_rfl) (by kernel_rfl) (by kernel_rfl) (by kernel_rfl) (by kernel_rfl) (fun _ _ _ h => h) (Or.inl ⟨by rfl, ?_⟩) (by assumption) ?_
  rotate_left
  · intro wS hSw
    try dsimp only at hSw
    go_simp
    try with_reducible rfl
  try simp only [Act.put, List.setIfInBounds_toArray, List.set_cons_zero, List.set_cons_succ]
  refine wpAnyL_ready (rs := [2]) (by kernel_rfl) (by simp) ?_
  refine AllReadyL.cons rfl (fun K hK => ?_) AllReadyL.nil
  go_simp; go_at_call 36; refine (toTemplate _ _ _ _ _ _ (hHeld.2.2.2.2.r 5 rfl :) HLP1.out).mono ?_; rintro e w11 ⟨a11, n11, c11, rfl, ho11, hb11⟩; have G11 := Lib.hid (RelsOwn.at ho11); clear ho11
  refine hK.out _ _ ?_ (fun hHeld => ?_)
  · exact ⟨below_cell hb11 hHeld.1, below_cell hb11 hHeld.2.1, below_cell hb11 hHeld.2.2.1, below_cell hb11 hHeld.2.2.2.1, hHeld.2.2.2.2.below hb11⟩
  clear hK K
  try simp only [Act.put, List.setIfInBounds_toArray, List.set_cons_zero, List.set_cons_succ]
  refine wpAnyL_ready (rs := [3]) (by kernel_rfl) (by simp) ?_
  refine AllReadyL.cons rfl (fun K hK => ?_) AllReadyL.nil
  go_simp; go_at_call 39; refine (eqTemplate' _ _ _ _ _ _ _ _ _ _ true _ (hHeld.2.2.2.2.r 2 rfl :) G11.out (eqT_same _ _)).mono ?_; rintro e w12 ⟨rfl, hb12⟩
  refine hK.out _ _ ?_ (fun hHeld => ?_)
  · exact ⟨below_cell hb12 hHeld.1, below_cell hb12 hHeld.2.1, below_cell hb12 hHeld.2.2.1, below_cell hb12 hHeld.2.2.2.1, hHeld.2.2.2.2.below hb12⟩
  clear hK K
  try simp only [Act.put, List.setIfInBounds_toArray, List.set_cons_zero, List.set_cons_succ]
  refine wpAnyL_free (i := 4) (v := ?_) (some 63) rfl rfl (by kernel_rfl) (by kernel_rfl) (by kernel_rfl) (by decide) (fun _ _ _ h => h) (Or.inl ⟨by rfl, ?_⟩) (fun h0 => by assumption) ?_
  rotate_left
  · intro wS
    go_simp
    try with_reducible rfl
  try simp only [Act.put, List.setIfInBounds_toArray, List.set_cons_zero, List.set_cons_succ]
  refine wpAnyL_done (by kernel_rfl) ?_ _
  refine NoPanic.normal ?_
  have K12 := Lib.hid (hHeld.2.2.2.2 : Kept w _ _ w12)
  clear hHeld hb11 hb12 G11
  go_wp2_with fail
  refine wp_region_noPanic ?_
  refine wp_region_late (S := (fun w' => w'.cell? ⟨w8.heap.size, 0, none⟩ = some (.int .i64 xP2) ∧ w'.cell? ⟨w8.heap.size, 1, none⟩ = some (.slice a8 n8 c8) ∧ w'.cell? ⟨w.heap.size + 1, 0, none⟩ = some (.int .i64 xP2) ∧ w'.cell? ⟨w.heap.size + 1, 1, none⟩ = some (.slice aP2 nP2 cP2) ∧ Kept w [(⟨w8.heap.size, 0, none⟩, .int .i64 xP2), (⟨w8.heap.size, 1, none⟩, .slice a8 n8 c8), (⟨w7.heap.size, 0, none⟩, .int .i64 xP1), (⟨w7.heap.size, 1, none⟩, .slice a7 n7 c7), (⟨w.heap.size + 1, 0, none⟩, .int .i64 xP2), (⟨w.heap.size + 1, 1, none⟩, .slice aP2 nP2 cP2), (⟨w.heap.size, 0, none⟩, .int .i64 xP1), (⟨w.heap.size, 1, none⟩, .slice aP1 nP1 cP1)] [fun w => RowC w (.slice a9 n9 c9) tP3, fun w => RowAt w (.slice a8 n8 c8) tP2, fun w => RelsAt w (.slice a7 n7 c7) tP1, fun w => RowAt w (.slice aP3 tP3.length cP3) tP3, fun w => RowAt w (.slice aP2 nP2 cP2) tP2, fun w => RelsAt w (.slice aP1 nP1 cP1) tP1] w')) [] (by kernel_rfl) ?_ (fun hHeld => ?_)
  · exact ⟨K12.out.drew.c 0 rfl, K12.out.drew.c 1 rfl, K12.out.drew.c 4 rfl, K12.out.drew.c 5 rfl, K12.out.drew⟩
  refine wpAnyL_take (i := 0) (v := ?_) (some 64) rfl rfl (by kernel_rfl) (by kernel_rfl) (by kernel_rfl) (by kernel_rfl) (by kernel_rfl) (fun _ _ _ h => h) (Or.inl ⟨by rfl, ?_⟩) (by assumption) ?_
  rotate_left
  · intro wS hSw
    try dsimp only at hSw
    go_simp
    try with_reducible rfl
  try simp only [Act.put, List.setIfInBounds_toArray, List.set_cons_zero, List.set_cons_succ]
  refine wpAnyL_take (i := 1) (v := ?_) (some 65) rfl rfl (by kernel_rfl) (by kernel_rfl) (by kernel_rfl) (by kernel_rfl) (by kernel_rfl) (fun _ _ _ h => h) (Or.inl ⟨by rfl, ?_⟩) (by assumption) ?_
  rotate_left
  · intro wS hSw
    try dsimp only at hSw
    go_simp
    try with_reducible rfl
  try simp only [Act.put, List.setIfInBounds_toArray, List.set_cons_zero, List.set_cons_succ]
  refine wpAnyL_ready (rs := [2]) (by kernel_rfl) (by simp) ?_
  refine AllReadyL.cons rfl (fun K hK => ?_) AllReadyL.nil
  go_simp; go_at_call 17; refine (toOp _ _ _ _ _ _ (hHeld.2.2.2.2.r 4 rfl :) HLP2.out).mono ?_; rintro e w13 ⟨a13, n13, c13, rfl, ho13, hb13⟩; have G13 := Lib.hid (OwnRowE.at ho13); clear ho13
  refine hK.out _ _ ?_ (fun hHeld => ?_)
  · exact ⟨below_cell hb13 hHeld.1, below_cell hb13 hHeld.2.1, below_cell hb13 hHeld.2.2.1, below_cell hb13 hHeld.2.2.2.1, hHeld.2.2.2.2.below hb13⟩
  clear hK K
  try simp only [Act.put, List.setIfInBounds_toArray, List.set_cons_zero, List.set_cons_succ]
  refine wpAnyL_ready (rs := [3]) (by kernel_rfl) (by simp) ?_
  refine AllReadyL.cons rfl (fun K hK => ?_) AllReadyL.nil
  go_simp; go_at_call 19; refine (eqOp' _ _ _ _ _ _ _ _ _ _ true _ (hHeld.2.2.2.2.r 1 rfl :) G13.out (eqO_same _ _)).mono ?_; rintro e w14 ⟨rfl, hb14⟩
  refine hK.out _ _ ?_ (fun hHeld => ?_)
  · exact ⟨below_cell hb14 hHeld.1, below_cell hb14 hHeld.2.1, below_cell hb14 hHeld.2.2.1, below_cell hb14 hHeld.2.2.2.1, hHeld.2.2.2.2.below hb14⟩
  clear hK K
  try simp only [Act.put, List.setIfInBounds_toArray, List.set_cons_zero, List.set_cons_succ]
  refine wpAnyL_free (i := 4) (v := ?_) (some 68) rfl rfl (by kernel_rfl) (by kernel_rfl) (by kernel_rfl) (by decide) (fun _ _ _ h => h) (Or.inl ⟨by rfl, ?_⟩) (fun h0 => by assumption) ?_
  rotate_left
  · intro wS
    go_simp
    try with_reducible rfl
  try simp only [Act.put, List.setIfInBounds_toArray, List.set_cons_zero, List.set_cons_succ]
  refine wpAnyL_done (by kernel_rfl) ?_ _
  refine NoPanic.normal ?_
  have K14 := Lib.hid (hHeld.2.2.2.2 : Kept w _ _ w14)
  clear hHeld hb13 hb14 G13
  go_wp2_with fail
  refine (toRowE _ _ _ (K14.out.r 3 rfl :) HLP3.out).mono ?_
  rintro e w15 ⟨a15, n15, c15, rfl, ho15, hb15⟩
  have K15 := Lib.hid ((K14.out.below hb15).read (lives_row _ _) (OwnRowE.at ho15))
  clear hb15 ho15
  go_wp2_with fail
  refine (eqRowB _ _ _ _ true _ (RowC.row (K15.out.r 1 rfl :)) (K15.out.r 0 rfl :) (eqB_yes rfl)).mono ?_
  rintro e w16 ⟨rfl, hb16⟩
  have K16 := Lib.hid (K15.out.below hb16)
  clear hb16
  go_wp2
  go_ret
  exact ⟨rfl, K16.out.bel⟩

end Go.Proofs.Ytclhcnfgpkhplaa
