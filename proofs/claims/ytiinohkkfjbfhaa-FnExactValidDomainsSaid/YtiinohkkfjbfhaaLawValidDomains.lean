/-
  FnExactValidDomains: the walk over the law.
-/
import Derived.Test.YtiinohkkfjbfhaaValidDom
import Derived.Test.YtiinohkkfjbfhaaOwnRels
import Derived.Test.YtiinohkkfjbfhaaGBase
import Derived.Test.YtiinohkkfjbfhaaReg
import Derived.Test.YtiinohkkfjbfhaaKept3
import Derived.Deep.CutRange
import Derived.Deep.RegionHeld3
namespace Go.Proofs.Ytiinohkkfjbfhaa
open Go.RowKit

set_option linter.unusedSimpArgs false in
set_option maxHeartbeats 4000000 in
set_option maxRecDepth 100000 in
theorem lawValidDomains (xP1 : Int) (aP1 : Option Addr) (nP1 cP1 : Nat) (tP1 : List (Int × List (List Int))) (xP2 : Int) (aP2 : Option Addr) (nP2 cP2 : Nat) (tP2 : List (Int × List Int)) (aP3 : Option Addr) (nP3 cP3 : Nat) (tP3 : List (List Int)) (w : World) (hP1 : RelsAt w (.slice aP1 nP1 cP1) tP1) (hP2 : OpsAt w (.slice aP2 nP2 cP2) tP2) (hP3 : GridAt w (.slice aP3 nP3 cP3) tP3) :
    Calls Try.prog 7 #[.agg #[.int .i64 xP1, .slice aP1 nP1 cP1], .agg #[.int .i64 xP2, .slice aP2 nP2 cP2], .slice aP3 nP3 cP3] w fun e w' => e = .returned (.bool true) ∧ Below w.heap.size w w' := by
  have K0 := Lib.hid ((((((Kept.start w).read (lives_rels _ _) hP1).read (lives_ops _ _) hP2).read (lives_grid _ _) hP3).box (w.heap.size) rfl (.int .i64 xP1) (.slice aP1 nP1 cP1) 24).box (w.heap.size + 1) (by simp) (.int .i64 xP2) (.slice aP2 nP2 cP2) 27)
  clear hP1 hP2 hP3
  by_cases hzP1 : (1048576 : Int) < relsSize tP1
  · have HF := Lib.hid (szF_no hzP1)
    clear hzP1
    go_enter Try.func7, Try.ntmps7
    go_wp2_with fail
    refine (szTemplate _ _ _ _ _ _ _ (K0.out.r 2 rfl :) (by omega) (by omega)).mono ?_
    rw [HF.out]
    rintro e w1 ⟨rfl, hb1⟩
    have KE := Lib.hid (K0.out.below hb1).bel
    clear hb1
    go_wp2
    go_ret
    exact ⟨rfl, KE.out⟩
  have HF1 := Lib.hid (szF_yes (t := relsSize tP1) (l := 1048576) (by omega))
  have hp1 : ¬ (1048576 - (relsSize tP1 : Int) < 0) := by omega
  have hp1' : (1048576 - (relsSize tP1 : Int)) ≤ 1048576 := by omega
  by_cases hzP2 : (1048576 - (relsSize tP1 : Int) : Int) < opsSize tP2
  · have HF := Lib.hid (szF_no hzP2)
    clear hzP2
    go_enter Try.func7, Try.ntmps7
    go_wp2_with fail
    refine (szTemplate _ _ _ _ _ _ _ (K0.out.r 2 rfl :) (by omega) (by omega)).mono ?_
    rw [HF1.out]
    rintro e w1 ⟨rfl, hb1⟩
    have K1 := Lib.hid (K0.out.below hb1)
    clear hb1
    have cc0 := K1.out.c 2 rfl
    have cc1 := K1.out.c 3 rfl
    have cc2 := K1.out.c 0 rfl
    have cc3 := K1.out.c 1 rfl
    go_wp2_with fail
    refine (szInstance _ _ _ _ _ _ _ (K1.out.r 1 rfl :) (by omega) (by omega)).mono ?_
    rw [HF.out]
    rintro e w2 ⟨rfl, hb2⟩
    have KE := Lib.hid (K1.out.below hb2).bel
    clear hb2
    go_wp2
    go_ret
    exact ⟨rfl, KE.out⟩
  have HF2 := Lib.hid (szF_yes (t := opsSize tP2) (l := 1048576 - (relsSize tP1 : Int)) (by omega))
  have hp2 : ¬ (1048576 - (relsSize tP1 : Int) - (opsSize tP2 : Int) < 0) := by omega
  have hp2' : (1048576 - (relsSize tP1 : Int) - (opsSize tP2 : Int)) ≤ 1048576 := by omega
  by_cases hzP3 : (1048576 - (relsSize tP1 : Int) - (opsSize tP2 : Int) : Int) < gridSize tP3
  · have HF := Lib.hid (szF_no hzP3)
    clear hzP3
    go_enter Try.func7, Try.ntmps7
    go_wp2_with fail
    refine (szTemplate _ _ _ _ _ _ _ (K0.out.r 2 rfl :) (by omega) (by omega)).mono ?_
    rw [HF1.out]
    rintro e w1 ⟨rfl, hb1⟩
    have K1 := Lib.hid (K0.out.below hb1)
    clear hb1
    have cc0 := K1.out.c 2 rfl
    have cc1 := K1.out.c 3 rfl
    have cc2 := K1.out.c 0 rfl
    have cc3 := K1.out.c 1 rfl
    go_wp2_with fail
    refine (szInstance _ _ _ _ _ _ _ (K1.out.r 1 rfl :) (by omega) (by omega)).mono ?_
    rw [HF2.out]
    rintro e w2 ⟨rfl, hb2⟩
    have K2 := Lib.hid (K1.out.below hb2)
    clear hb2 cc0 cc1 cc2 cc3
    have cc0 := K2.out.c 2 rfl
    have cc1 := K2.out.c 3 rfl
    have cc2 := K2.out.c 0 rfl
    have cc3 := K2.out.c 1 rfl
    go_wp2_with fail
    refine (szGridB _ _ _ _ (K2.out.r 0 rfl :) (by omega) (by omega)).mono ?_
    rw [HF.out]
    rintro e w3 ⟨rfl, hb3⟩
    have KE := Lib.hid (K2.out.below hb3).bel
    clear hb3
    go_wp2
    go_ret
    exact ⟨rfl, KE.out⟩
  have HF3 := Lib.hid (szF_yes (t := gridSize tP3) (l := 1048576 - (relsSize tP1 : Int) - (opsSize tP2 : Int)) (by omega))
  have hp3 : ¬ (1048576 - (relsSize tP1 : Int) - (opsSize tP2 : Int) - (gridSize tP3 : Int) < 0) := by omega
  have hp3' : (1048576 - (relsSize tP1 : Int) - (opsSize tP2 : Int) - (gridSize tP3 : Int)) ≤ 1048576 := by omega
  have HLP1 : Hid (relsSize tP1 ≤ 1048576) := by
    show _ ≤ _
    omega
  have HLP2 : Hid (opsSize tP2 ≤ 1048576) := by
    show _ ≤ _
    omega
  have HLP3 : Hid (tP3.length + (tP3.map List.length).sum ≤ 1048576) := by
    show _ ≤ _
    unfold gridSize at hzP3
    omega
  obtain ⟨b, hi⟩ := ValidDomainsIs.exists xP1 tP1 xP2 tP2 tP3
  have HI := Lib.hid hi
  clear hi hzP1 hzP2 hzP3
  go_enter Try.func7, Try.ntmps7
  go_wp2_with fail
  refine (szTemplate _ _ _ _ _ _ _ (K0.out.r 2 rfl :) (by omega) (by omega)).mono ?_
  rw [HF1.out]
  rintro e w1 ⟨rfl, hb1⟩
  have K1 := Lib.hid (K0.out.below hb1)
  clear hb1
  have cc0 := K1.out.c 2 rfl
  have cc1 := K1.out.c 3 rfl
  have cc2 := K1.out.c 0 rfl
  have cc3 := K1.out.c 1 rfl
  go_wp2_with fail
  refine (szInstance _ _ _ _ _ _ _ (K1.out.r 1 rfl :) (by omega) (by omega)).mono ?_
  rw [HF2.out]
  rintro e w2 ⟨rfl, hb2⟩
  have K2 := Lib.hid (K1.out.below hb2)
  clear hb2 cc0 cc1 cc2 cc3
  have cc0 := K2.out.c 2 rfl
  have cc1 := K2.out.c 3 rfl
  have cc2 := K2.out.c 0 rfl
  have cc3 := K2.out.c 1 rfl
  go_wp2_with fail
  refine (szGridB _ _ _ _ (K2.out.r 0 rfl :) (by omega) (by omega)).mono ?_
  rw [HF3.out]
  rintro e w3 ⟨rfl, hb3⟩
  have K3 := Lib.hid (K2.out.below hb3)
  clear hb3 cc0 cc1 cc2 cc3
  go_wp2_with fail
  -- the model's answer
  refine wp_region_noPanic ?_
  refine wp_region_late (S := (fun w' => w'.cell? ⟨w.heap.size, 0, none⟩ = some (.int .i64 xP1) ∧ w'.cell? ⟨w.heap.size, 1, none⟩ = some (.slice aP1 nP1 cP1) ∧ w'.cell? ⟨w.heap.size + 1, 0, none⟩ = some (.int .i64 xP2) ∧ w'.cell? ⟨w.heap.size + 1, 1, none⟩ = some (.slice aP2 nP2 cP2) ∧ Kept w [(⟨w.heap.size + 1, 0, none⟩, .int .i64 xP2), (⟨w.heap.size + 1, 1, none⟩, .slice aP2 nP2 cP2), (⟨w.heap.size, 0, none⟩, .int .i64 xP1), (⟨w.heap.size, 1, none⟩, .slice aP1 nP1 cP1)] [fun w => GridAt w (.slice aP3 nP3 cP3) tP3, fun w => OpsAt w (.slice aP2 nP2 cP2) tP2, fun w => RelsAt w (.slice aP1 nP1 cP1) tP1] w')) [] (by kernel_rfl) ?_ (fun hHeld => ?_)
  · exact ⟨K3.out.drew.c 2 rfl, K3.out.drew.c 3 rfl, K3.out.drew.c 0 rfl, K3.out.drew.c 1 rfl, K3.out.drew⟩
  refine wpAnyL_take (i := 0) (v := ?_) (some 28) rfl rfl (by kernel_rfl) (by kernel_rfl) (by kernel_rfl) (by kernel_rfl) (by kernel_rfl) (fun _ _ _ h => h) (Or.inl ⟨by rfl, ?_⟩) (by assumption) ?_
  rotate_left
  · intro wS hSw
    try dsimp only at hSw
    go_simp
    try with_reducible rfl
  try simp only [Act.put, List.setIfInBounds_toArray, List.set_cons_zero, List.set_cons_succ]
  refine wpAnyL_take (i := 2) (v := ?_) (some 30) rfl rfl (by kernel_rfl) (by kernel_rfl) (by kernel_rfl) (by kernel_rfl) (by kernel_rfl) (fun _ _ _ h => h) (Or.inl ⟨by rfl, ?_⟩) (by assumption) ?_
  rotate_left
  · intro wS hSw
    try dsimp only at hSw
    go_simp
    try with_reducible rfl
  try simp only [Act.put, List.setIfInBounds_toArray, List.set_cons_zero, List.set_cons_succ]
  refine wpAnyL_free (i := 4) (v := ?_) (some 32) rfl rfl (by kernel_rfl) (by kernel_rfl) (by kernel_rfl) (by decide) (fun _ _ _ h => h) (Or.inl ⟨by rfl, ?_⟩) (fun h0 => by assumption) ?_
  rotate_left
  · intro wS
    go_simp
    try with_reducible rfl
  try simp only [Act.put, List.setIfInBounds_toArray, List.set_cons_zero, List.set_cons_succ]
  refine wpAnyL_ready (rs := [1]) (by kernel_rfl) (by simp) ?_
  refine AllReadyL.cons rfl (fun K hK => ?_) AllReadyL.nil
  go_simp; go_at_call 18; refine (toTemplate _ _ _ _ _ _ (hHeld.2.2.2.2.r 2 rfl :) HLP1.out).mono ?_; rintro e w4 ⟨a4, n4, c4, rfl, ho4, hb4⟩; have G4 := Lib.hid (RelsOwn.at ho4); clear ho4
  refine hK.out _ _ ?_ (fun hHeld => ?_)
  · exact ⟨below_cell hb4 hHeld.1, below_cell hb4 hHeld.2.1, below_cell hb4 hHeld.2.2.1, below_cell hb4 hHeld.2.2.2.1, hHeld.2.2.2.2.below hb4⟩
  clear hK K
  try simp only [Act.put, List.setIfInBounds_toArray, List.set_cons_zero, List.set_cons_succ]
  refine wpAnyL_ready (rs := [3]) (by kernel_rfl) (by simp) ?_
  refine AllReadyL.cons rfl (fun K hK => ?_) AllReadyL.nil
  go_simp; go_at_call 19; refine (toInstance _ _ _ _ _ _ (hHeld.2.2.2.2.r 1 rfl :) HLP2.out).mono ?_; rintro e w5 ⟨a5, n5, c5, rfl, ho5, hb5⟩; have G5 := Lib.hid (OwnOps.at ho5); clear ho5
  have G4 := Lib.hid (G4.out.below hb5)
  refine hK.out _ _ ?_ (fun hHeld => ?_)
  · exact ⟨below_cell hb5 hHeld.1, below_cell hb5 hHeld.2.1, below_cell hb5 hHeld.2.2.1, below_cell hb5 hHeld.2.2.2.1, hHeld.2.2.2.2.below hb5⟩
  clear hK K
  try simp only [Act.put, List.setIfInBounds_toArray, List.set_cons_zero, List.set_cons_succ]
  refine wpAnyL_ready (rs := [5]) (by kernel_rfl) (by simp) ?_
  refine AllReadyL.cons rfl (fun K hK => ?_) AllReadyL.nil
  go_simp; go_at_call 36; refine (toGrid _ _ _ (hHeld.2.2.2.2.r 0 rfl :) HLP3.out).mono ?_; rintro e w6 ⟨a6, n6, c6, rfl, ho6, hb6⟩; have G6 := Lib.hid (OwnGrid.gridAt ho6); clear ho6
  have G4 := Lib.hid (G4.out.below hb6)
  have G5 := Lib.hid (G5.out.below hb6)
  refine hK.out _ _ ?_ (fun hHeld => ?_)
  · exact ⟨below_cell hb6 hHeld.1, below_cell hb6 hHeld.2.1, below_cell hb6 hHeld.2.2.1, below_cell hb6 hHeld.2.2.2.1, hHeld.2.2.2.2.below hb6⟩
  clear hK K
  try simp only [Act.put, List.setIfInBounds_toArray, List.set_cons_zero, List.set_cons_succ]
  refine wpAnyL_ready (rs := [6]) (by kernel_rfl) (by simp) ?_
  refine AllReadyL.cons rfl (fun K hK => ?_) AllReadyL.nil
  go_simp; go_at_call 35; refine (specValidDomains _ _ _ _ _ _ _ _ _ _ _ _ b _ G4.out G5.out G6.out HI.out).mono ?_; rintro e w7 ⟨rfl, hb7⟩
  refine hK.out _ _ ?_ (fun hHeld => ?_)
  · exact ⟨below_cell hb7 hHeld.1, below_cell hb7 hHeld.2.1, below_cell hb7 hHeld.2.2.1, below_cell hb7 hHeld.2.2.2.1, hHeld.2.2.2.2.below hb7⟩
  clear hK K
  try simp only [Act.put, List.setIfInBounds_toArray, List.set_cons_zero, List.set_cons_succ]
  refine wpAnyL_free (i := 7) (v := ?_) (some 8) rfl rfl (by kernel_rfl) (by kernel_rfl) (by kernel_rfl) (by decide) (fun _ _ _ h => h) (Or.inl ⟨by rfl, ?_⟩) (fun h0 => by assumption) ?_
  rotate_left
  · intro wS
    go_simp
    try with_reducible rfl
  try simp only [Act.put, List.setIfInBounds_toArray, List.set_cons_zero, List.set_cons_succ]
  refine wpAnyL_done (by kernel_rfl) ?_ _
  refine NoPanic.normal ?_
  have K7 := Lib.hid (hHeld.2.2.2.2 : Kept w _ _ w7)
  clear hHeld hb4 hb5 hb6 hb7 G4 G5 G6
  -- copies
  have cd100 := K7.out.c 2 rfl
  have cd101 := K7.out.c 3 rfl
  go_wp2_with fail
  refine (toTemplate _ _ _ _ _ _ (K7.out.r 2 rfl :) HLP1.out).mono ?_
  rintro e w8 ⟨a8, n8, c8, rfl, ho8, hb8⟩
  have K8 := Lib.hid ((K7.out.below hb8).read (lives_rels _ _) (RelsOwn.at ho8))
  clear cd100 cd101
  have K8b := Lib.hid (K8.out.box (w8.heap.size) rfl (.int .i64 xP1) (.slice a8 n8 c8) 33)
  clear hb8 ho8
  have cd102 := K8b.out.c 2 rfl
  have cd103 := K8b.out.c 3 rfl
  go_wp2_with fail
  refine (toInstance _ _ _ _ _ _ (K8b.out.r 2 rfl :) HLP2.out).mono ?_
  rintro e w9 ⟨a9, n9, c9, rfl, ho9, hb9⟩
  have K9 := Lib.hid ((K8b.out.below hb9).read (lives_ops _ _) (OwnOps.at ho9))
  clear cd102 cd103
  have K9b := Lib.hid (K9.out.box (w9.heap.size) rfl (.int .i64 xP2) (.slice a9 n9 c9) 37)
  clear hb9 ho9
  go_wp2_with fail
  refine (toGrid _ _ _ (K9b.out.r 2 rfl :) HLP3.out).mono ?_
  rintro e w10 ⟨a10, n10, c10, rfl, ho10, hb10⟩
  have K10 := Lib.hid ((K9b.out.below hb10).read (lives_grid _ _) (OwnGrid.gridAt ho10))
  clear hb10 ho10
  -- the program's answer
  have cd104 := K10.out.c 2 rfl
  have cd105 := K10.out.c 3 rfl
  have cd106 := K10.out.c 0 rfl
  have cd107 := K10.out.c 1 rfl
  go_wp2_with fail
  refine (implValidDomains _ _ _ _ _ _ _ _ _ _ _ _ b _ (K10.out.r 2 rfl :) (K10.out.r 1 rfl :) (K10.out.r 0 rfl :) HI.out).mono ?_
  rintro e w11 ⟨rfl, hb11⟩
  have K11 := Lib.hid (K10.out.below hb11)
  clear cd104 cd105 cd106 cd107
  clear hb11
  -- the copies are as they were
  go_wp2_with fail
  refine wp_region_noPanic ?_
  refine wp_region_late (S := (fun w' => w'.cell? ⟨w8.heap.size, 0, none⟩ = some (.int .i64 xP1) ∧ w'.cell? ⟨w8.heap.size, 1, none⟩ = some (.slice a8 n8 c8) ∧ w'.cell? ⟨w.heap.size, 0, none⟩ = some (.int .i64 xP1) ∧ w'.cell? ⟨w.heap.size, 1, none⟩ = some (.slice aP1 nP1 cP1) ∧ Kept w [(⟨w9.heap.size, 0, none⟩, .int .i64 xP2), (⟨w9.heap.size, 1, none⟩, .slice a9 n9 c9), (⟨w8.heap.size, 0, none⟩, .int .i64 xP1), (⟨w8.heap.size, 1, none⟩, .slice a8 n8 c8), (⟨w.heap.size + 1, 0, none⟩, .int .i64 xP2), (⟨w.heap.size + 1, 1, none⟩, .slice aP2 nP2 cP2), (⟨w.heap.size, 0, none⟩, .int .i64 xP1), (⟨w.heap.size, 1, none⟩, .slice aP1 nP1 cP1)] [fun w => GridAt w (.slice a10 n10 c10) tP3, fun w => OpsAt w (.slice a9 n9 c9) tP2, fun w => RelsAt w (.slice a8 n8 c8) tP1, fun w => GridAt w (.slice aP3 nP3 cP3) tP3, fun w => OpsAt w (.slice aP2 nP2 cP2) tP2, fun w => RelsAt w (.slice aP1 nP1 cP1) tP1] w')) [] (by kernel_rfl) ?_ (fun hHeld => ?_)
  · exact ⟨K11.out.drew.c 2 rfl, K11.out.drew.c 3 rfl, K11.out.drew.c 6 rfl, K11.out.drew.c 7 rfl, K11.out.drew⟩
  refine wpAnyL_take (i := 0) (v := ?_) (some 48) rfl rfl (by kernel_rfl) (by kernel_rfl) (by kernel_rfl) (by kernel_rfl) (by kernel_rfl) (fun _ _ _ h => h) (Or.inl ⟨by rfl, ?_⟩) (by assumption) ?_
  rotate_left
  · intro wS hSw
    try dsimp only at hSw
    go_simp
    try with_reducible rfl
  try simp only [Act.put, List.setIfInBounds_toArray, List.set_cons_zero, List.set_cons_succ]
  refine wpAnyL_take (i := 1) (v := ?_) (some 49) rfl rfl (by kernel_rfl) (by kernel_rfl) (by kernel_rfl) (by kernel_rfl) (by kernel_rfl) (fun _ _ _ h => h) (Or.inl ⟨by rfl, ?_⟩) (by assumption) ?_
  rotate_left
  · intro wS hSw
    try dsimp only at hSw
    go_simp
    try with_reducible rfl
  try simp only [Act.put, List.setIfInBounds_toArray, List.set_cons_zero, List.set_cons_succ]
  refine wpAnyL_ready (rs := [2]) (by kernel_rfl) (by simp) ?_
  refine AllReadyL.cons rfl (fun K hK => ?_) AllReadyL.nil
  go_simp; go_at_call 18; refine (toTemplate _ _ _ _ _ _ (hHeld.2.2.2.2.r 5 rfl :) HLP1.out).mono ?_; rintro e w12 ⟨a12, n12, c12, rfl, ho12, hb12⟩; have G12 := Lib.hid (RelsOwn.at ho12); clear ho12
  refine hK.out _ _ ?_ (fun hHeld => ?_)
  · exact ⟨below_cell hb12 hHeld.1, below_cell hb12 hHeld.2.1, below_cell hb12 hHeld.2.2.1, below_cell hb12 hHeld.2.2.2.1, hHeld.2.2.2.2.below hb12⟩
  clear hK K
  try simp only [Act.put, List.setIfInBounds_toArray, List.set_cons_zero, List.set_cons_succ]
  refine wpAnyL_ready (rs := [3]) (by kernel_rfl) (by simp) ?_
  refine AllReadyL.cons rfl (fun K hK => ?_) AllReadyL.nil
  go_simp; go_at_call 21; refine (eqTemplate' _ _ _ _ _ _ _ _ _ _ true _ (hHeld.2.2.2.2.r 2 rfl :) G12.out (eqT_same _ _)).mono ?_; rintro e w13 ⟨rfl, hb13⟩
  refine hK.out _ _ ?_ (fun hHeld => ?_)
  · exact ⟨below_cell hb13 hHeld.1, below_cell hb13 hHeld.2.1, below_cell hb13 hHeld.2.2.1, below_cell hb13 hHeld.2.2.2.1, hHeld.2.2.2.2.below hb13⟩
  clear hK K
  try simp only [Act.put, List.setIfInBounds_toArray, List.set_cons_zero, List.set_cons_succ]
  refine wpAnyL_free (i := 4) (v := ?_) (some 52) rfl rfl (by kernel_rfl) (by kernel_rfl) (by kernel_rfl) (by decide) (fun _ _ _ h => h) (Or.inl ⟨by rfl, ?_⟩) (fun h0 => by assumption) ?_
  rotate_left
  · intro wS
    go_simp
    try with_reducible rfl
  try simp only [Act.put, List.setIfInBounds_toArray, List.set_cons_zero, List.set_cons_succ]
  refine wpAnyL_done (by kernel_rfl) ?_ _
  refine NoPanic.normal ?_
  have K13 := Lib.hid (hHeld.2.2.2.2 : Kept w _ _ w13)
  clear hHeld hb12 hb13 G12
  go_wp2_with fail
  refine wp_region_noPanic ?_
  refine wp_region_late (S := (fun w' => w'.cell? ⟨w9.heap.size, 0, none⟩ = some (.int .i64 xP2) ∧ w'.cell? ⟨w9.heap.size, 1, none⟩ = some (.slice a9 n9 c9) ∧ w'.cell? ⟨w.heap.size + 1, 0, none⟩ = some (.int .i64 xP2) ∧ w'.cell? ⟨w.heap.size + 1, 1, none⟩ = some (.slice aP2 nP2 cP2) ∧ Kept w [(⟨w9.heap.size, 0, none⟩, .int .i64 xP2), (⟨w9.heap.size, 1, none⟩, .slice a9 n9 c9), (⟨w8.heap.size, 0, none⟩, .int .i64 xP1), (⟨w8.heap.size, 1, none⟩, .slice a8 n8 c8), (⟨w.heap.size + 1, 0, none⟩, .int .i64 xP2), (⟨w.heap.size + 1, 1, none⟩, .slice aP2 nP2 cP2), (⟨w.heap.size, 0, none⟩, .int .i64 xP1), (⟨w.heap.size, 1, none⟩, .slice aP1 nP1 cP1)] [fun w => GridAt w (.slice a10 n10 c10) tP3, fun w => OpsAt w (.slice a9 n9 c9) tP2, fun w => RelsAt w (.slice a8 n8 c8) tP1, fun w => GridAt w (.slice aP3 nP3 cP3) tP3, fun w => OpsAt w (.slice aP2 nP2 cP2) tP2, fun w => RelsAt w (.slice aP1 nP1 cP1) tP1] w')) [] (by kernel_rfl) ?_ (fun hHeld => ?_)
  · exact ⟨K13.out.drew.c 0 rfl, K13.out.drew.c 1 rfl, K13.out.drew.c 4 rfl, K13.out.drew.c 5 rfl, K13.out.drew⟩
  refine wpAnyL_take (i := 0) (v := ?_) (some 53) rfl rfl (by kernel_rfl) (by kernel_rfl) (by kernel_rfl) (by kernel_rfl) (by kernel_rfl) (fun _ _ _ h => h) (Or.inl ⟨by rfl, ?_⟩) (by assumption) ?_
  rotate_left
  · intro wS hSw
    try dsimp only at hSw
    go_simp
    try with_reducible rfl
  try simp only [Act.put, List.setIfInBounds_toArray, List.set_cons_zero, List.set_cons_succ]
  refine wpAnyL_take (i := 1) (v := ?_) (some 54) rfl rfl (by kernel_rfl) (by kernel_rfl) (by kernel_rfl) (by kernel_rfl) (by kernel_rfl) (fun _ _ _ h => h) (Or.inl ⟨by rfl, ?_⟩) (by assumption) ?_
  rotate_left
  · intro wS hSw
    try dsimp only at hSw
    go_simp
    try with_reducible rfl
  try simp only [Act.put, List.setIfInBounds_toArray, List.set_cons_zero, List.set_cons_succ]
  refine wpAnyL_ready (rs := [2]) (by kernel_rfl) (by simp) ?_
  refine AllReadyL.cons rfl (fun K hK => ?_) AllReadyL.nil
  go_simp; go_at_call 19; refine (toInstance _ _ _ _ _ _ (hHeld.2.2.2.2.r 4 rfl :) HLP2.out).mono ?_; rintro e w14 ⟨a14, n14, c14, rfl, ho14, hb14⟩; have G14 := Lib.hid (OwnOps.at ho14); clear ho14
  refine hK.out _ _ ?_ (fun hHeld => ?_)
  · exact ⟨below_cell hb14 hHeld.1, below_cell hb14 hHeld.2.1, below_cell hb14 hHeld.2.2.1, below_cell hb14 hHeld.2.2.2.1, hHeld.2.2.2.2.below hb14⟩
  clear hK K
  try simp only [Act.put, List.setIfInBounds_toArray, List.set_cons_zero, List.set_cons_succ]
  refine wpAnyL_ready (rs := [3]) (by kernel_rfl) (by simp) ?_
  refine AllReadyL.cons rfl (fun K hK => ?_) AllReadyL.nil
  go_simp; go_at_call 22; refine (eqInstance' _ _ _ _ _ _ _ _ _ _ true _ (hHeld.2.2.2.2.r 1 rfl :) G14.out (eqI_same _ _)).mono ?_; rintro e w15 ⟨rfl, hb15⟩
  refine hK.out _ _ ?_ (fun hHeld => ?_)
  · exact ⟨below_cell hb15 hHeld.1, below_cell hb15 hHeld.2.1, below_cell hb15 hHeld.2.2.1, below_cell hb15 hHeld.2.2.2.1, hHeld.2.2.2.2.below hb15⟩
  clear hK K
  try simp only [Act.put, List.setIfInBounds_toArray, List.set_cons_zero, List.set_cons_succ]
  refine wpAnyL_free (i := 4) (v := ?_) (some 57) rfl rfl (by kernel_rfl) (by kernel_rfl) (by kernel_rfl) (by decide) (fun _ _ _ h => h) (Or.inl ⟨by rfl, ?_⟩) (fun h0 => by assumption) ?_
  rotate_left
  · intro wS
    go_simp
    try with_reducible rfl
  try simp only [Act.put, List.setIfInBounds_toArray, List.set_cons_zero, List.set_cons_succ]
  refine wpAnyL_done (by kernel_rfl) ?_ _
  refine NoPanic.normal ?_
  have K15 := Lib.hid (hHeld.2.2.2.2 : Kept w _ _ w15)
  clear hHeld hb14 hb15 G14
  go_wp2_with fail
  refine (toGrid _ _ _ (K15.out.r 3 rfl :) HLP3.out).mono ?_
  rintro e w16 ⟨a16, n16, c16, rfl, ho16, hb16⟩
  have K16 := Lib.hid ((K15.out.below hb16).read (lives_grid _ _) (OwnGrid.gridAt ho16))
  clear hb16 ho16
  go_wp2_with fail
  refine (eqGridB _ _ _ _ true _ (K16.out.r 1 rfl :) (K16.out.r 0 rfl :) (eqB_yes rfl)).mono ?_
  rintro e w17 ⟨rfl, hb17⟩
  have K17 := Lib.hid (K16.out.below hb17)
  clear hb17
  go_wp2
  go_ret
  exact ⟨rfl, K17.out.bel⟩

end Go.Proofs.Ytiinohkkfjbfhaa
