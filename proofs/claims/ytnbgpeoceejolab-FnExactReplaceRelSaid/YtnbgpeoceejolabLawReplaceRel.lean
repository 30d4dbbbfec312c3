/-
  FnExactReplaceRel: the walk over the law.
-/
import Derived.Test.YtnbgpeoceejolabReplS
import Derived.Test.YtnbgpeoceejolabMarkF
import Derived.Test.YtnbgpeoceejolabMarkT
import Derived.Test.YtnbgpeoceejolabGBase
import Derived.Test.YtnbgpeoceejolabReg
import Derived.Test.YtnbgpeoceejolabKept3
import Derived.Test.YtnbgpeoceejolabStab2
import Derived.Test.YtnbgpeoceejolabMade
import Derived.Deep.CutRange
import Derived.Deep.RegionHeld3
namespace Go.Proofs.Ytnbgpeoceejolab
open Go.RowKit

set_option linter.unusedSimpArgs false in
set_option maxHeartbeats 4000000 in
set_option maxRecDepth 100000 in
theorem lawReplaceRel (xP1 : Int) (aP1 : Option Addr) (nP1 cP1 : Nat) (tP1 : List (Int × List (List Int))) (xP2 : Int) (yP2 : Int) (aP2 : Option Addr) (nP2 cP2 : Nat) (tP2 : List (Int × List Int)) (rel : Int) (xP3 : Int) (yP3 : Int) (aP3 : Option Addr) (nP3 cP3 : Nat) (tP3 : List (Int × List Int)) (w : World) (hP1 : RelsAt w (.slice aP1 nP1 cP1) tP1) (hP2 : OpsAt w (.slice aP2 nP2 cP2) tP2) (hP3 : OpsAt w (.slice aP3 nP3 cP3) tP3) :
    Calls Try.prog 5 #[.agg #[.int .i64 xP1, .slice aP1 nP1 cP1], .agg #[.int .i64 xP2, .int .i64 yP2, .slice aP2 nP2 cP2], .int .i64 rel, .agg #[.int .i64 xP3, .int .i64 yP3, .slice aP3 nP3 cP3]] w fun e w' => e = .returned (.bool true) ∧ Below w.heap.size w w' := by
  have HAP1 := Lib.hid (stab_rels hP1)
  have HAP2 := Lib.hid (stab_ops hP2)
  have HAP3 := Lib.hid (stab_ops hP3)
  have K0 := Lib.hid (((((((Kept.start w).read (lives_rels _ _) hP1).read (lives_ops _ _) hP2).read (lives_ops _ _) hP3).box (w.heap.size) rfl (.int .i64 xP1) (.slice aP1 nP1 cP1) 24).box3 (w.heap.size + 1) (by simp) (.int .i64 xP2) (.int .i64 yP2) (.slice aP2 nP2 cP2) 27).box3 (w.heap.size + 1 + 1) (by simp) (.int .i64 xP3) (.int .i64 yP3) (.slice aP3 nP3 cP3) 27)
  clear hP1 hP2 hP3
  by_cases hzP1 : (1048576 : Int) < relsSize tP1
  · have HF := Lib.hid (szF_no hzP1)
    clear hzP1
    go_enter Try.func5, Try.ntmps5
    go_wp2_with fail
    refine (szTemplate _ _ _ _ _ _ _ (K0.out.r 2 rfl :) (by omega) (by omega)).mono ?_
    rw [HF.out]
    rintro e w1 ⟨rfl, hb1⟩
    have KE := Lib.hid (K0.out.below hb1).bel
    clear hb1
    go_wp2
    go_ret
    exact ⟨rfl, KE.out⟩
  have HF1 := Lib.hid (szF_yes (t := relsSize tP1) (l := 1048576) (by omega))
  have hp1 : ¬ (1048576 - (relsSize tP1 : Int) < 0) := by omega
  have hp1' : (1048576 - (relsSize tP1 : Int)) ≤ 1048576 := by omega
  by_cases hzP2 : (1048576 - (relsSize tP1 : Int) : Int) < opsSize tP2
  · have HF := Lib.hid (szF_no hzP2)
    clear hzP2
    go_enter Try.func5, Try.ntmps5
    go_wp2_with fail
    refine (szTemplate _ _ _ _ _ _ _ (K0.out.r 2 rfl :) (by omega) (by omega)).mono ?_
    rw [HF1.out]
    rintro e w1 ⟨rfl, hb1⟩
    have K1 := Lib.hid (K0.out.below hb1)
    clear hb1
    have cc0 := K1.out.c 0 rfl
    have cc1 := K1.out.c 1 rfl
    have cc2 := K1.out.c 2 rfl
    have cc3 := K1.out.c 3 rfl
    have cc4 := K1.out.c 4 rfl
    have cc5 := K1.out.c 5 rfl
    have cc6 := K1.out.c 6 rfl
    have cc7 := K1.out.c 7 rfl
    go_wp2_with fail
    refine (szFormula _ _ _ _ _ _ _ _ (K1.out.r 1 rfl :) (by omega) (by omega)).mono ?_
    rw [HF.out]
    rintro e w2 ⟨rfl, hb2⟩
    have KE := Lib.hid (K1.out.below hb2).bel
    clear hb2
    go_wp2
    go_ret
    exact ⟨rfl, KE.out⟩
  have HF2 := Lib.hid (szF_yes (t := opsSize tP2) (l := 1048576 - (relsSize tP1 : Int)) (by omega))
  have hp2 : ¬ (1048576 - (relsSize tP1 : Int) - (opsSize tP2 : Int) < 0) := by omega
  have hp2' : (1048576 - (relsSize tP1 : Int) - (opsSize tP2 : Int)) ≤ 1048576 := by omega
  by_cases hzP3 : (1048576 - (relsSize tP1 : Int) - (opsSize tP2 : Int) : Int) < opsSize tP3
  · have HF := Lib.hid (szF_no hzP3)
    clear hzP3
    go_enter Try.func5, Try.ntmps5
    go_wp2_with fail
    refine (szTemplate _ _ _ _ _ _ _ (K0.out.r 2 rfl :) (by omega) (by omega)).mono ?_
    rw [HF1.out]
    rintro e w1 ⟨rfl, hb1⟩
    have K1 := Lib.hid (K0.out.below hb1)
    clear hb1
    have cc0 := K1.out.c 0 rfl
    have cc1 := K1.out.c 1 rfl
    have cc2 := K1.out.c 2 rfl
    have cc3 := K1.out.c 3 rfl
    have cc4 := K1.out.c 4 rfl
    have cc5 := K1.out.c 5 rfl
    have cc6 := K1.out.c 6 rfl
    have cc7 := K1.out.c 7 rfl
    go_wp2_with fail
    refine (szFormula _ _ _ _ _ _ _ _ (K1.out.r 1 rfl :) (by omega) (by omega)).mono ?_
    rw [HF2.out]
    rintro e w2 ⟨rfl, hb2⟩
    have K2 := Lib.hid (K1.out.below hb2)
    clear hb2 cc0 cc1 cc2 cc3 cc4 cc5 cc6 cc7
    have cc0 := K2.out.c 0 rfl
    have cc1 := K2.out.c 1 rfl
    have cc2 := K2.out.c 2 rfl
    have cc3 := K2.out.c 3 rfl
    have cc4 := K2.out.c 4 rfl
    have cc5 := K2.out.c 5 rfl
    have cc6 := K2.out.c 6 rfl
    have cc7 := K2.out.c 7 rfl
    go_wp2_with fail
    refine (szFormula _ _ _ _ _ _ _ _ (K2.out.r 0 rfl :) (by omega) (by omega)).mono ?_
    rw [HF.out]
    rintro e w3 ⟨rfl, hb3⟩
    have KE := Lib.hid (K2.out.below hb3).bel
    clear hb3
    go_wp2
    go_ret
    exact ⟨rfl, KE.out⟩
  have HF3 := Lib.hid (szF_yes (t := opsSize tP3) (l := 1048576 - (relsSize tP1 : Int) - (opsSize tP2 : Int)) (by omega))
  have hp3 : ¬ (1048576 - (relsSize tP1 : Int) - (opsSize tP2 : Int) - (opsSize tP3 : Int) < 0) := by omega
  have hp3' : (1048576 - (relsSize tP1 : Int) - (opsSize tP2 : Int) - (opsSize tP3 : Int)) ≤ 1048576 := by omega
  have HLP1 : Hid (relsSize tP1 ≤ 1048576) := by
    show _ ≤ _
    omega
  have HLP2 : Hid (opsSize tP2 ≤ 1048576) := by
    show _ ≤ _
    omega
  have HLP3 : Hid (opsSize tP3 ≤ 1048576) := by
    show _ ≤ _
    omega
  obtain ⟨xR0, yR0, tR0, cd, hi⟩ := ReplaceRelIs.exists xP1 tP1 xP2 yP2 tP2 rel xP3 yP3 tP3
  have HI := Lib.hid hi
  have HS := Lib.hid hi.small
  clear hi hzP1 hzP2 hzP3
  go_enter Try.func5, Try.ntmps5
  go_wp2_with fail
  refine (szTemplate _ _ _ _ _ _ _ (K0.out.r 2 rfl :) (by omega) (by omega)).mono ?_
  rw [HF1.out]
  rintro e w1 ⟨rfl, hb1⟩
  have K1 := Lib.hid (K0.out.below hb1)
  clear hb1
  have cc0 := K1.out.c 0 rfl
  have cc1 := K1.out.c 1 rfl
  have cc2 := K1.out.c 2 rfl
  have cc3 := K1.out.c 3 rfl
  have cc4 := K1.out.c 4 rfl
  have cc5 := K1.out.c 5 rfl
  have cc6 := K1.out.c 6 rfl
  have cc7 := K1.out.c 7 rfl
  go_wp2_with fail
  refine (szFormula _ _ _ _ _ _ _ _ (K1.out.r 1 rfl :) (by omega) (by omega)).mono ?_
  rw [HF2.out]
  rintro e w2 ⟨rfl, hb2⟩
  have K2 := Lib.hid (K1.out.below hb2)
  clear hb2 cc0 cc1 cc2 cc3 cc4 cc5 cc6 cc7
  have cc0 := K2.out.c 0 rfl
  have cc1 := K2.out.c 1 rfl
  have cc2 := K2.out.c 2 rfl
  have cc3 := K2.out.c 3 rfl
  have cc4 := K2.out.c 4 rfl
  have cc5 := K2.out.c 5 rfl
  have cc6 := K2.out.c 6 rfl
  have cc7 := K2.out.c 7 rfl
  go_wp2_with fail
  refine (szFormula _ _ _ _ _ _ _ _ (K2.out.r 0 rfl :) (by omega) (by omega)).mono ?_
  rw [HF3.out]
  rintro e w3 ⟨rfl, hb3⟩
  have K3 := Lib.hid (K2.out.below hb3)
  clear hb3 cc0 cc1 cc2 cc3 cc4 cc5 cc6 cc7
  have cc0 := K3.out.c 0 rfl
  have cc1 := K3.out.c 1 rfl
  have cc2 := K3.out.c 2 rfl
  have cc3 := K3.out.c 3 rfl
  have cc4 := K3.out.c 4 rfl
  have cc5 := K3.out.c 5 rfl
  have cc6 := K3.out.c 6 rfl
  have cc7 := K3.out.c 7 rfl
  go_wp2_with fail
  -- the model's answer
  go_cut [10, 11] from 22 (fun v0 v1 wz => Made 32 w [(⟨w.heap.size + 1 + 1, 0, none⟩, .int .i64 xP3), (⟨w.heap.size + 1 + 1, 1, none⟩, .int .i64 yP3), (⟨w.heap.size + 1 + 1, 2, none⟩, .slice aP3 nP3 cP3), (⟨w.heap.size + 1, 0, none⟩, .int .i64 xP2), (⟨w.heap.size + 1, 1, none⟩, .int .i64 yP2), (⟨w.heap.size + 1, 2, none⟩, .slice aP2 nP2 cP2), (⟨w.heap.size, 0, none⟩, .int .i64 xP1), (⟨w.heap.size, 1, none⟩, .slice aP1 nP1 cP1)] [fun w => OpsAt w (.slice aP3 nP3 cP3) tP3, fun w => OpsAt w (.slice aP2 nP2 cP2) tP2, fun w => RelsAt w (.slice aP1 nP1 cP1) tP1] w3.heap.size (fun v w B E => (OwnOps 83) w B E v tR0) (fun v => #[.int .i64 xR0, .int .i64 yR0, v]) v0 wz ∧ v1 = .int .i64 cd)
  case first =>
    have HSZ : Hid (w3.heap.size ≤ w3.drew.heap.size) := Lib.hid (Nat.le_refl _)
    refine wp_region_noPanic ?_
    refine wp_region_late (S := (fun w' => w'.cell? ⟨w.heap.size, 0, none⟩ = some (.int .i64 xP1) ∧ w'.cell? ⟨w.heap.size, 1, none⟩ = some (.slice aP1 nP1 cP1) ∧ w'.cell? ⟨w.heap.size + 1, 0, none⟩ = some (.int .i64 xP2) ∧ w'.cell? ⟨w.heap.size + 1, 1, none⟩ = some (.int .i64 yP2) ∧ w'.cell? ⟨w.heap.size + 1, 2, none⟩ = some (.slice aP2 nP2 cP2) ∧ w'.cell? ⟨w.heap.size + 1 + 1, 0, none⟩ = some (.int .i64 xP3) ∧ w'.cell? ⟨w.heap.size + 1 + 1, 1, none⟩ = some (.int .i64 yP3) ∧ w'.cell? ⟨w.heap.size + 1 + 1, 2, none⟩ = some (.slice aP3 nP3 cP3) ∧ Kept w [(⟨w.heap.size + 1 + 1, 0, none⟩, .int .i64 xP3), (⟨w.heap.size + 1 + 1, 1, none⟩, .int .i64 yP3), (⟨w.heap.size + 1 + 1, 2, none⟩, .slice aP3 nP3 cP3), (⟨w.heap.size + 1, 0, none⟩, .int .i64 xP2), (⟨w.heap.size + 1, 1, none⟩, .int .i64 yP2), (⟨w.heap.size + 1, 2, none⟩, .slice aP2 nP2 cP2), (⟨w.heap.size, 0, none⟩, .int .i64 xP1), (⟨w.heap.size, 1, none⟩, .slice aP1 nP1 cP1)] [fun w => OpsAt w (.slice aP3 nP3 cP3) tP3, fun w => OpsAt w (.slice aP2 nP2 cP2) tP2, fun w => RelsAt w (.slice aP1 nP1 cP1) tP1] w')) [7, 12] (by kernel_rfl) ?_ (fun hHeld => ?_)
    · exact ⟨K3.out.drew.c 6 rfl, K3.out.drew.c 7 rfl, K3.out.drew.c 3 rfl, K3.out.drew.c 4 rfl, K3.out.drew.c 5 rfl, K3.out.drew.c 0 rfl, K3.out.drew.c 1 rfl, K3.out.drew.c 2 rfl, K3.out.drew⟩
    refine wpAnyL_take (i := 0) (v := ?_) (some 38) rfl rfl (by kernel_rfl) (by kernel_rfl) (by kernel_rfl) (by kernel_rfl) (by kernel_rfl) (fun _ _ _ h => h) (Or.inl ⟨by rfl, ?_⟩) (by assumption) ?_
    rotate_left
    · intro wS hSw
      try dsimp only at hSw
      go_simp
      try with_reducible rfl
    try simp only [Act.put, List.setIfInBounds_toArray, List.set_cons_zero, List.set_cons_succ]
    refine wpAnyL_take (i := 2) (v := ?_) (some 40) rfl rfl (by kernel_rfl) (by kernel_rfl) (by kernel_rfl) (by kernel_rfl) (by kernel_rfl) (fun _ _ _ h => h) (Or.inl ⟨by rfl, ?_⟩) (by assumption) ?_
    rotate_left
    · intro wS hSw
      try dsimp only at hSw
      go_simp
      try with_reducible rfl
    try simp only [Act.put, List.setIfInBounds_toArray, List.set_cons_zero, List.set_cons_succ]
    refine wpAnyL_free (i := 4) (v := ?_) (some 42) rfl rfl (by kernel_rfl) (by kernel_rfl) (by kernel_rfl) (by decide) (fun _ _ _ h => h) (Or.inl ⟨by rfl, ?_⟩) (fun h0 => by assumption) ?_
    rotate_left
    · intro wS
      go_simp
      try with_reducible rfl
    try simp only [Act.put, List.setIfInBounds_toArray, List.set_cons_zero, List.set_cons_succ]
    refine wpAnyL_take (i := 5) (v := ?_) (some 43) rfl rfl (by kernel_rfl) (by kernel_rfl) (by kernel_rfl) (by kernel_rfl) (by kernel_rfl) (fun _ _ _ h => h) (Or.inl ⟨by rfl, ?_⟩) (by assumption) ?_
    rotate_left
    · intro wS hSw
      try dsimp only at hSw
      go_simp
      try with_reducible rfl
    try simp only [Act.put, List.setIfInBounds_toArray, List.set_cons_zero, List.set_cons_succ]
    refine wpAnyL_ready (rs := [1, 11]) (by kernel_rfl) (by simp) ?_
    refine AllReadyL.cons rfl (fun K hK => ?_) ?_
    · skip
      go_simp; go_at_call 9; refine (toTemplateE _ _ _ _ _ _ (hHeld.2.2.2.2.2.2.2.2.r 2 rfl :) HLP1.out).mono ?_; rintro e w4 ⟨a4, n4, c4, rfl, ho4, hb4⟩; have G4 := Lib.hid (OwnRels.at ho4); clear ho4
      have HSZ := Lib.hid (Nat.le_trans HSZ.out hb4.size)
      refine hK.out _ _ ?_ (fun hHeld => ?_)
      · exact ⟨below_cell hb4 hHeld.1, below_cell hb4 hHeld.2.1, below_cell hb4 hHeld.2.2.1, below_cell hb4 hHeld.2.2.2.1, below_cell hb4 hHeld.2.2.2.2.1, below_cell hb4 hHeld.2.2.2.2.2.1, below_cell hb4 hHeld.2.2.2.2.2.2.1, below_cell hb4 hHeld.2.2.2.2.2.2.2.1, hHeld.2.2.2.2.2.2.2.2.below hb4⟩
      clear hK K
      try simp only [Act.put, List.setIfInBounds_toArray, List.set_cons_zero, List.set_cons_succ]
      refine wpAnyL_ready (rs := [3, 11]) (by kernel_rfl) (by simp) ?_
      refine AllReadyL.cons rfl (fun K hK => ?_) ?_
      · skip
        go_simp; go_at_call 10; refine (toFormula _ _ _ _ _ _ _ (hHeld.2.2.2.2.2.2.2.2.r 1 rfl :) HLP2.out).mono ?_; rintro e w5 ⟨a5, n5, c5, rfl, ho5, hb5⟩; have G5 := Lib.hid (OwnOps.at ho5); clear ho5
        have G4 := Lib.hid (G4.out.below hb5)
        have HSZ := Lib.hid (Nat.le_trans HSZ.out hb5.size)
        refine hK.out _ _ ?_ (fun hHeld => ?_)
        · exact ⟨below_cell hb5 hHeld.1, below_cell hb5 hHeld.2.1, below_cell hb5 hHeld.2.2.1, below_cell hb5 hHeld.2.2.2.1, below_cell hb5 hHeld.2.2.2.2.1, below_cell hb5 hHeld.2.2.2.2.2.1, below_cell hb5 hHeld.2.2.2.2.2.2.1, below_cell hb5 hHeld.2.2.2.2.2.2.2.1, hHeld.2.2.2.2.2.2.2.2.below hb5⟩
        clear hK K
        try simp only [Act.put, List.setIfInBounds_toArray, List.set_cons_zero, List.set_cons_succ]
        refine wpAnyL_ready (rs := [6, 11]) (by kernel_rfl) (by simp) ?_
        refine AllReadyL.cons rfl (fun K hK => ?_) ?_
        · skip
          go_simp; go_at_call 10; refine (toFormula _ _ _ _ _ _ _ (hHeld.2.2.2.2.2.2.2.2.r 0 rfl :) HLP3.out).mono ?_; rintro e w6 ⟨a6, n6, c6, rfl, ho6, hb6⟩; have G6 := Lib.hid (OwnOps.at ho6); clear ho6
          have G4 := Lib.hid (G4.out.below hb6)
          have G5 := Lib.hid (G5.out.below hb6)
          have HSZ := Lib.hid (Nat.le_trans HSZ.out hb6.size)
          refine hK.out _ _ ?_ (fun hHeld => ?_)
          · exact ⟨below_cell hb6 hHeld.1, below_cell hb6 hHeld.2.1, below_cell hb6 hHeld.2.2.1, below_cell hb6 hHeld.2.2.2.1, below_cell hb6 hHeld.2.2.2.2.1, below_cell hb6 hHeld.2.2.2.2.2.1, below_cell hb6 hHeld.2.2.2.2.2.2.1, below_cell hb6 hHeld.2.2.2.2.2.2.2.1, hHeld.2.2.2.2.2.2.2.2.below hb6⟩
          clear hK K
          try simp only [Act.put, List.setIfInBounds_toArray, List.set_cons_zero, List.set_cons_succ]
          refine wpAnyL_ready (rs := [7, 11]) (by kernel_rfl) (by simp) ?_
          refine AllReadyL.last rfl (by kernel_rfl) (fun K hK => ?_) ?_
          · skip
            have KB := Lib.hid (hHeld.2.2.2.2.2.2.2.2)
            have HSB := Lib.hid HSZ.out
            go_simp; go_at_call 22; refine (specReplaceRel _ _ _ _ _ _ _ _ _ _ _ _ _ _ _ _ _ _ xR0 yR0 tR0 cd _ G4.out G5.out G6.out HI.out).mono ?_; rintro e w7 ⟨a7, n7, c7, rfl, ho7, hb7⟩
            have HSZ := Lib.hid (Nat.le_trans HSZ.out hb7.size)
            have KM := Lib.hid (KB.out.below hb7)
            refine hK.out _ _ ?_
            clear hK K
            try simp only [Act.put, List.setIfInBounds_toArray, List.set_cons_zero, List.set_cons_succ]
            refine wpAnyL_free (i := 8) (v := ?_) (some 37) rfl rfl (by kernel_rfl) (by kernel_rfl) (by kernel_rfl) (by decide) (fun _ _ _ h => h) (Or.inl ⟨by rfl, ?_⟩) (fun h0 => absurd h0 (by decide)) ?_
            rotate_left
            · intro wS
              go_simp
              try with_reducible rfl
            try simp only [Act.put, List.setIfInBounds_toArray, List.set_cons_zero, List.set_cons_succ]
            refine wpAnyL_free (i := 9) (v := ?_) (some 46) rfl rfl (by kernel_rfl) (by kernel_rfl) (by kernel_rfl) (by decide) (fun _ _ _ h => h) (Or.inl ⟨by rfl, ?_⟩) (fun h0 => absurd h0 (by decide)) ?_
            rotate_left
            · intro wS
              go_simp
              try with_reducible rfl
            try simp only [Act.put, List.setIfInBounds_toArray, List.set_cons_zero, List.set_cons_succ]
            refine wpAnyL_free (i := 10) (v := ?_) (some 47) rfl rfl (by kernel_rfl) (by kernel_rfl) (by kernel_rfl) (by decide) (fun _ _ _ h => h) (Or.inl ⟨by rfl, ?_⟩) (fun h0 => absurd h0 (by decide)) ?_
            rotate_left
            · intro wS
              go_simp
              try with_reducible rfl
            try simp only [Act.put, List.setIfInBounds_toArray, List.set_cons_zero, List.set_cons_succ]
            refine wpAnyL_ready (rs := [11]) (by kernel_rfl) (by simp) ?_
            refine AllReadyL.last rfl (by kernel_rfl) (fun K hK => ?_) AllReadyL.nil
            go_simp
            refine hK.out _ _ ?_
            clear hK K
            try simp only [Act.put, List.setIfInBounds_toArray, List.set_cons_zero, List.set_cons_succ]
            refine wpAnyL_ready (rs := [12]) (by kernel_rfl) (by simp) ?_
            refine AllReadyL.last rfl (by kernel_rfl) (fun K hK => ?_) AllReadyL.nil
            go_simp
            refine hK.out _ _ ?_
            clear hK K
            try simp only [Act.put, List.setIfInBounds_toArray, List.set_cons_zero, List.set_cons_succ]
            refine wpAnyL_free (i := 13) (v := ?_) (some 11) rfl rfl (by kernel_rfl) (by kernel_rfl) (by kernel_rfl) (by decide) (fun _ _ _ h => h) (Or.inl ⟨by rfl, ?_⟩) (fun h0 => absurd h0 (by decide)) ?_
            rotate_left
            · intro wS
              go_simp
              try with_reducible rfl
            try simp only [Act.put, List.setIfInBounds_toArray, List.set_cons_zero, List.set_cons_succ]
            refine wpAnyL_done (by kernel_rfl) ?_ _
            refine NoPanic.normal ?_
            go_wp2_with fail
            go_meet
            exact ⟨Made.late KM.out ho7 (sure_ops _ _ _) HSB.out hb7.size, rfl⟩
          refine AllReadyL.cons rfl (fun K hK => ?_) AllReadyL.nil
          have KX := Lib.hid (hHeld.2.2.2.2.2.2.2.2 : Kept w _ _ w6)
          have HBOX := Lib.hid (show Box _ _ w6.heap.size _ from Box.new 32 w6 #[.int .i64 0, .int .i64 0, .slice none 0 0])
          have HX := Lib.hid ((Below.refl w6.heap.size w6).alloc (Nat.le_refl _) (.cells #[.int .i64 0, .int .i64 0, .slice none 0 0] 32))
          have HSX := Lib.hid HSZ.out
          have HSZ := Lib.hid (Nat.le_trans HSZ.out HX.out.size)
          have G4 := Lib.hid (G4.out.below HX.out)
          have G5 := Lib.hid (G5.out.below HX.out)
          have G6 := Lib.hid (G6.out.below HX.out)
          go_simp
          refine hK.out _ _ ?_ (fun hHeld => ?_)
          · exact ⟨below_cell ((Below.refl _ _).alloc (Nat.le_refl _) _) hHeld.1, below_cell ((Below.refl _ _).alloc (Nat.le_refl _) _) hHeld.2.1, below_cell ((Below.refl _ _).alloc (Nat.le_refl _) _) hHeld.2.2.1, below_cell ((Below.refl _ _).alloc (Nat.le_refl _) _) hHeld.2.2.2.1, below_cell ((Below.refl _ _).alloc (Nat.le_refl _) _) hHeld.2.2.2.2.1, below_cell ((Below.refl _ _).alloc (Nat.le_refl _) _) hHeld.2.2.2.2.2.1, below_cell ((Below.refl _ _).alloc (Nat.le_refl _) _) hHeld.2.2.2.2.2.2.1, below_cell ((Below.refl _ _).alloc (Nat.le_refl _) _) hHeld.2.2.2.2.2.2.2.1, hHeld.2.2.2.2.2.2.2.2.below ((Below.refl _ _).alloc (Nat.le_refl _) _)⟩
          clear hK K
          try simp only [Act.put, List.setIfInBounds_toArray, List.set_cons_zero, List.set_cons_succ]
          refine wpAnyL_ready (rs := [7]) (by kernel_rfl) (by simp) ?_
          refine AllReadyL.last rfl (by kernel_rfl) (fun K hK => ?_) AllReadyL.nil
          have KB := Lib.hid (hHeld.2.2.2.2.2.2.2.2)
          have HSB := Lib.hid HSZ.out
          have HLT := Lib.hid HBOX.out.lt
          go_simp; go_at_call 22; refine (specReplaceRel _ _ _ _ _ _ _ _ _ _ _ _ _ _ _ _ _ _ xR0 yR0 tR0 cd _ G4.out G5.out G6.out HI.out).mono ?_; rintro e w7 ⟨a7, n7, c7, rfl, ho7, hb7⟩
          have HSZ := Lib.hid (Nat.le_trans HSZ.out hb7.size)
          have HX := Lib.hid (HX.out.trans (hb7.mono HX.out.size))
          have HBOX := Lib.hid (HBOX.out.below hb7)
          refine hK.out _ _ ?_
          clear hK K
          try simp only [Act.put, List.setIfInBounds_toArray, List.set_cons_zero, List.set_cons_succ]
          refine wpAnyL_free (i := 8) (v := ?_) (some 37) rfl rfl (by kernel_rfl) (by kernel_rfl) (by kernel_rfl) (by decide) (fun _ _ _ h => h) (Or.inl ⟨by rfl, ?_⟩) (fun h0 => absurd h0 (by decide)) ?_
          rotate_left
          · intro wS
            go_simp
            try with_reducible rfl
          try simp only [Act.put, List.setIfInBounds_toArray, List.set_cons_zero, List.set_cons_succ]
          refine wpAnyL_free (i := 9) (v := ?_) (some 46) rfl rfl (by kernel_rfl) (by kernel_rfl) (by kernel_rfl) (by decide) (fun _ _ _ h => h) (Or.inl ⟨by rfl, ?_⟩) (fun h0 => absurd h0 (by decide)) ?_
          rotate_left
          · intro wS
            go_simp
            try with_reducible rfl
          try simp only [Act.put, List.setIfInBounds_toArray, List.set_cons_zero, List.set_cons_succ]
          refine wpAnyL_free (i := 10) (v := ?_) (some 47) rfl rfl (by kernel_rfl) (by kernel_rfl) (by kernel_rfl) (by decide) (fun _ _ _ h => h) (Or.inl ⟨by rfl, ?_⟩) (fun h0 => absurd h0 (by decide)) ?_
          rotate_left
          · intro wS
            go_simp
            try with_reducible rfl
          try simp only [Act.put, List.setIfInBounds_toArray, List.set_cons_zero, List.set_cons_succ]
          refine wpAnyL_ready (rs := [12]) (by kernel_rfl) (by simp) ?_
          refine AllReadyL.last rfl (by kernel_rfl) (fun K hK => ?_) AllReadyL.nil
          have d0 := HBOX.out.c 0 rfl
          have d1 := HBOX.out.c 1 rfl
          have d2 := HBOX.out.c 2 rfl
          have f0 := HBOX.out.free 0
          have f1 := HBOX.out.free 1
          have f2 := HBOX.out.free 2
          go_simp
          refine hK.out _ _ ?_
          clear hK K
          try simp only [Act.put, List.setIfInBounds_toArray, List.set_cons_zero, List.set_cons_succ]
          refine wpAnyL_free (i := 13) (v := ?_) (some 11) rfl rfl (by kernel_rfl) (by kernel_rfl) (by kernel_rfl) (by decide) (fun _ _ _ h => h) (Or.inl ⟨by rfl, ?_⟩) (fun h0 => absurd h0 (by decide)) ?_
          rotate_left
          · intro wS
            go_simp
            try with_reducible rfl
          try simp only [Act.put, List.setIfInBounds_toArray, List.set_cons_zero, List.set_cons_succ]
          refine wpAnyL_done (by kernel_rfl) ?_ _
          refine NoPanic.normal ?_
          go_wp2_with fail
          go_meet
          exact ⟨Made.early3 (X := w6) KX.out HX.out HBOX.out ho7 (sure_ops _ _ _) HSX.out HLT.out, rfl⟩
        refine AllReadyL.cons rfl (fun K hK => ?_) AllReadyL.nil
        have KX := Lib.hid (hHeld.2.2.2.2.2.2.2.2 : Kept w _ _ w5)
        have HBOX := Lib.hid (show Box _ _ w5.heap.size _ from Box.new 32 w5 #[.int .i64 0, .int .i64 0, .slice none 0 0])
        have HX := Lib.hid ((Below.refl w5.heap.size w5).alloc (Nat.le_refl _) (.cells #[.int .i64 0, .int .i64 0, .slice none 0 0] 32))
        have HSX := Lib.hid HSZ.out
        have HSZ := Lib.hid (Nat.le_trans HSZ.out HX.out.size)
        have G4 := Lib.hid (G4.out.below HX.out)
        have G5 := Lib.hid (G5.out.below HX.out)
        go_simp
        refine hK.out _ _ ?_ (fun hHeld => ?_)
        · exact ⟨below_cell ((Below.refl _ _).alloc (Nat.le_refl _) _) hHeld.1, below_cell ((Below.refl _ _).alloc (Nat.le_refl _) _) hHeld.2.1, below_cell ((Below.refl _ _).alloc (Nat.le_refl _) _) hHeld.2.2.1, below_cell ((Below.refl _ _).alloc (Nat.le_refl _) _) hHeld.2.2.2.1, below_cell ((Below.refl _ _).alloc (Nat.le_refl _) _) hHeld.2.2.2.2.1, below_cell ((Below.refl _ _).alloc (Nat.le_refl _) _) hHeld.2.2.2.2.2.1, below_cell ((Below.refl _ _).alloc (Nat.le_refl _) _) hHeld.2.2.2.2.2.2.1, below_cell ((Below.refl _ _).alloc (Nat.le_refl _) _) hHeld.2.2.2.2.2.2.2.1, hHeld.2.2.2.2.2.2.2.2.below ((Below.refl _ _).alloc (Nat.le_refl _) _)⟩
        clear hK K
        try simp only [Act.put, List.setIfInBounds_toArray, List.set_cons_zero, List.set_cons_succ]
        refine wpAnyL_ready (rs := [6]) (by kernel_rfl) (by simp) ?_
        refine AllReadyL.cons rfl (fun K hK => ?_) AllReadyL.nil
        go_simp; go_at_call 10; refine (toFormula _ _ _ _ _ _ _ (hHeld.2.2.2.2.2.2.2.2.r 0 rfl :) HLP3.out).mono ?_; rintro e w6 ⟨a6, n6, c6, rfl, ho6, hb6⟩; have G6 := Lib.hid (OwnOps.at ho6); clear ho6
        have G4 := Lib.hid (G4.out.below hb6)
        have G5 := Lib.hid (G5.out.below hb6)
        have HSZ := Lib.hid (Nat.le_trans HSZ.out hb6.size)
        have HX := Lib.hid (HX.out.trans (hb6.mono HX.out.size))
        have HBOX := Lib.hid (HBOX.out.below hb6)
        refine hK.out _ _ ?_ (fun hHeld => ?_)
        · exact ⟨below_cell hb6 hHeld.1, below_cell hb6 hHeld.2.1, below_cell hb6 hHeld.2.2.1, below_cell hb6 hHeld.2.2.2.1, below_cell hb6 hHeld.2.2.2.2.1, below_cell hb6 hHeld.2.2.2.2.2.1, below_cell hb6 hHeld.2.2.2.2.2.2.1, below_cell hb6 hHeld.2.2.2.2.2.2.2.1, hHeld.2.2.2.2.2.2.2.2.below hb6⟩
        clear hK K
        try simp only [Act.put, List.setIfInBounds_toArray, List.set_cons_zero, List.set_cons_succ]
        refine wpAnyL_ready (rs := [7]) (by kernel_rfl) (by simp) ?_
        refine AllReadyL.last rfl (by kernel_rfl) (fun K hK => ?_) AllReadyL.nil
        have KB := Lib.hid (hHeld.2.2.2.2.2.2.2.2)
        have HSB := Lib.hid HSZ.out
        have HLT := Lib.hid HBOX.out.lt
        go_simp; go_at_call 22; refine (specReplaceRel _ _ _ _ _ _ _ _ _ _ _ _ _ _ _ _ _ _ xR0 yR0 tR0 cd _ G4.out G5.out G6.out HI.out).mono ?_; rintro e w7 ⟨a7, n7, c7, rfl, ho7, hb7⟩
        have HSZ := Lib.hid (Nat.le_trans HSZ.out hb7.size)
        have HX := Lib.hid (HX.out.trans (hb7.mono HX.out.size))
        have HBOX := Lib.hid (HBOX.out.below hb7)
        refine hK.out _ _ ?_
        clear hK K
        try simp only [Act.put, List.setIfInBounds_toArray, List.set_cons_zero, List.set_cons_succ]
        refine wpAnyL_free (i := 8) (v := ?_) (some 37) rfl rfl (by kernel_rfl) (by kernel_rfl) (by kernel_rfl) (by decide) (fun _ _ _ h => h) (Or.inl ⟨by rfl, ?_⟩) (fun h0 => absurd h0 (by decide)) ?_
        rotate_left
        · intro wS
          go_simp
          try with_reducible rfl
        try simp only [Act.put, List.setIfInBounds_toArray, List.set_cons_zero, List.set_cons_succ]
        refine wpAnyL_free (i := 9) (v := ?_) (some 46) rfl rfl (by kernel_rfl) (by kernel_rfl) (by kernel_rfl) (by decide) (fun _ _ _ h => h) (Or.inl ⟨by rfl, ?_⟩) (fun h0 => absurd h0 (by decide)) ?_
        rotate_left
        · intro wS
          go_simp
          try with_reducible rfl
        try simp only [Act.put, List.setIfInBounds_toArray, List.set_cons_zero, List.set_cons_succ]
        refine wpAnyL_free (i := 10) (v := ?_) (some 47) rfl rfl (by kernel_rfl) (by kernel_rfl) (by kernel_rfl) (by decide) (fun _ _ _ h => h) (Or.inl ⟨by rfl, ?_⟩) (fun h0 => absurd h0 (by decide)) ?_
        rotate_left
        · intro wS
          go_simp
          try with_reducible rfl
        try simp only [Act.put, List.setIfInBounds_toArray, List.set_cons_zero, List.set_cons_succ]
        refine wpAnyL_ready (rs := [12]) (by kernel_rfl) (by simp) ?_
        refine AllReadyL.last rfl (by kernel_rfl) (fun K hK => ?_) AllReadyL.nil
        have d0 := HBOX.out.c 0 rfl
        have d1 := HBOX.out.c 1 rfl
        have d2 := HBOX.out.c 2 rfl
        have f0 := HBOX.out.free 0
        have f1 := HBOX.out.free 1
        have f2 := HBOX.out.free 2
        go_simp
        refine hK.out _ _ ?_
        clear hK K
        try simp only [Act.put, List.setIfInBounds_toArray, List.set_cons_zero, List.set_cons_succ]
        refine wpAnyL_free (i := 13) (v := ?_) (some 11) rfl rfl (by kernel_rfl) (by kernel_rfl) (by kernel_rfl) (by decide) (fun _ _ _ h => h) (Or.inl ⟨by rfl, ?_⟩) (fun h0 => absurd h0 (by decide)) ?_
        rotate_left
        · intro wS
          go_simp
          try with_reducible rfl
        try simp only [Act.put, List.setIfInBounds_toArray, List.set_cons_zero, List.set_cons_succ]
        refine wpAnyL_done (by kernel_rfl) ?_ _
        refine NoPanic.normal ?_
        go_wp2_with fail
        go_meet
        exact ⟨Made.early3 (X := w5) KX.out HX.out HBOX.out ho7 (sure_ops _ _ _) HSX.out HLT.out, rfl⟩
      refine AllReadyL.cons rfl (fun K hK => ?_) AllReadyL.nil
      have KX := Lib.hid (hHeld.2.2.2.2.2.2.2.2 : Kept w _ _ w4)
      have HBOX := Lib.hid (show Box _ _ w4.heap.size _ from Box.new 32 w4 #[.int .i64 0, .int .i64 0, .slice none 0 0])
      have HX := Lib.hid ((Below.refl w4.heap.size w4).alloc (Nat.le_refl _) (.cells #[.int .i64 0, .int .i64 0, .slice none 0 0] 32))
      have HSX := Lib.hid HSZ.out
      have HSZ := Lib.hid (Nat.le_trans HSZ.out HX.out.size)
      have G4 := Lib.hid (G4.out.below HX.out)
      go_simp
      refine hK.out _ _ ?_ (fun hHeld => ?_)
      · exact ⟨below_cell ((Below.refl _ _).alloc (Nat.le_refl _) _) hHeld.1, below_cell ((Below.refl _ _).alloc (Nat.le_refl _) _) hHeld.2.1, below_cell ((Below.refl _ _).alloc (Nat.le_refl _) _) hHeld.2.2.1, below_cell ((Below.refl _ _).alloc (Nat.le_refl _) _) hHeld.2.2.2.1, below_cell ((Below.refl _ _).alloc (Nat.le_refl _) _) hHeld.2.2.2.2.1, below_cell ((Below.refl _ _).alloc (Nat.le_refl _) _) hHeld.2.2.2.2.2.1, below_cell ((Below.refl _ _).alloc (Nat.le_refl _) _) hHeld.2.2.2.2.2.2.1, below_cell ((Below.refl _ _).alloc (Nat.le_refl _) _) hHeld.2.2.2.2.2.2.2.1, hHeld.2.2.2.2.2.2.2.2.below ((Below.refl _ _).alloc (Nat.le_refl _) _)⟩
      clear hK K
      try simp only [Act.put, List.setIfInBounds_toArray, List.set_cons_zero, List.set_cons_succ]
      refine wpAnyL_ready (rs := [3]) (by kernel_rfl) (by simp) ?_
      refine AllReadyL.cons rfl (fun K hK => ?_) AllReadyL.nil
      go_simp; go_at_call 10; refine (toFormula _ _ _ _ _ _ _ (hHeld.2.2.2.2.2.2.2.2.r 1 rfl :) HLP2.out).mono ?_; rintro e w5 ⟨a5, n5, c5, rfl, ho5, hb5⟩; have G5 := Lib.hid (OwnOps.at ho5); clear ho5
      have G4 := Lib.hid (G4.out.below hb5)
      have HSZ := Lib.hid (Nat.le_trans HSZ.out hb5.size)
      have HX := Lib.hid (HX.out.trans (hb5.mono HX.out.size))
      have HBOX := Lib.hid (HBOX.out.below hb5)
      refine hK.out _ _ ?_ (fun hHeld => ?_)
      · exact ⟨below_cell hb5 hHeld.1, below_cell hb5 hHeld.2.1, below_cell hb5 hHeld.2.2.1, below_cell hb5 hHeld.2.2.2.1, below_cell hb5 hHeld.2.2.2.2.1, below_cell hb5 hHeld.2.2.2.2.2.1, below_cell hb5 hHeld.2.2.2.2.2.2.1, below_cell hb5 hHeld.2.2.2.2.2.2.2.1, hHeld.2.2.2.2.2.2.2.2.below hb5⟩
      clear hK K
      try simp only [Act.put, List.setIfInBounds_toArray, List.set_cons_zero, List.set_cons_succ]
      refine wpAnyL_ready (rs := [6]) (by kernel_rfl) (by simp) ?_
      refine AllReadyL.cons rfl (fun K hK => ?_) AllReadyL.nil
      go_simp; go_at_call 10; refine (toFormula _ _ _ _ _ _ _ (hHeld.2.2.2.2.2.2.2.2.r 0 rfl :) HLP3.out).mono ?_; rintro e w6 ⟨a6, n6, c6, rfl, ho6, hb6⟩; have G6 := Lib.hid (OwnOps.at ho6); clear ho6
      have G4 := Lib.hid (G4.out.below hb6)
      have G5 := Lib.hid (G5.out.below hb6)
      have HSZ := Lib.hid (Nat.le_trans HSZ.out hb6.size)
      have HX := Lib.hid (HX.out.trans (hb6.mono HX.out.size))
      have HBOX := Lib.hid (HBOX.out.below hb6)
      refine hK.out _ _ ?_ (fun hHeld => ?_)
      · exact ⟨below_cell hb6 hHeld.1, below_cell hb6 hHeld.2.1, below_cell hb6 hHeld.2.2.1, below_cell hb6 hHeld.2.2.2.1, below_cell hb6 hHeld.2.2.2.2.1, below_cell hb6 hHeld.2.2.2.2.2.1, below_cell hb6 hHeld.2.2.2.2.2.2.1, below_cell hb6 hHeld.2.2.2.2.2.2.2.1, hHeld.2.2.2.2.2.2.2.2.below hb6⟩
      clear hK K
      try simp only [Act.put, List.setIfInBounds_toArray, List.set_cons_zero, List.set_cons_succ]
      refine wpAnyL_ready (rs := [7]) (by kernel_rfl) (by simp) ?_
      refine AllReadyL.last rfl (by kernel_rfl) (fun K hK => ?_) AllReadyL.nil
      have KB := Lib.hid (hHeld.2.2.2.2.2.2.2.2)
      have HSB := Lib.hid HSZ.out
      have HLT := Lib.hid HBOX.out.lt
      go_simp; go_at_call 22; refine (specReplaceRel _ _ _ _ _ _ _ _ _ _ _ _ _ _ _ _ _ _ xR0 yR0 tR0 cd _ G4.out G5.out G6.out HI.out).mono ?_; rintro e w7 ⟨a7, n7, c7, rfl, ho7, hb7⟩
      have HSZ := Lib.hid (Nat.le_trans HSZ.out hb7.size)
      have HX := Lib.hid (HX.out.trans (hb7.mono HX.out.size))
      have HBOX := Lib.hid (HBOX.out.below hb7)
      refine hK.out _ _ ?_
      clear hK K
      try simp only [Act.put, List.setIfInBounds_toArray, List.set_cons_zero, List.set_cons_succ]
      refine wpAnyL_free (i := 8) (v := ?_) (some 37) rfl rfl (by kernel_rfl) (by kernel_rfl) (by kernel_rfl) (by decide) (fun _ _ _ h => h) (Or.inl ⟨by rfl, ?_⟩) (fun h0 => absurd h0 (by decide)) ?_
      rotate_left
      · intro wS
        go_simp
        try with_reducible rfl
      try simp only [Act.put, List.setIfInBounds_toArray, List.set_cons_zero, List.set_cons_succ]
      refine wpAnyL_free (i := 9) (v := ?_) (some 46) rfl rfl (by kernel_rfl) (by kernel_rfl) (by kernel_rfl) (by decide) (fun _ _ _ h => h) (Or.inl ⟨by rfl, ?_⟩) (fun h0 => absurd h0 (by decide)) ?_
      rotate_left
      · intro wS
        go_simp
        try with_reducible rfl
      try simp only [Act.put, List.setIfInBounds_toArray, List.set_cons_zero, List.set_cons_succ]
      refine wpAnyL_free (i := 10) (v := ?_) (some 47) rfl rfl (by kernel_rfl) (by kernel_rfl) (by kernel_rfl) (by decide) (fun _ _ _ h => h) (Or.inl ⟨by rfl, ?_⟩) (fun h0 => absurd h0 (by decide)) ?_
      rotate_left
      · intro wS
        go_simp
        try with_reducible rfl
      try simp only [Act.put, List.setIfInBounds_toArray, List.set_cons_zero, List.set_cons_succ]
      refine wpAnyL_ready (rs := [12]) (by kernel_rfl) (by simp) ?_
      refine AllReadyL.last rfl (by kernel_rfl) (fun K hK => ?_) AllReadyL.nil
      have d0 := HBOX.out.c 0 rfl
      have d1 := HBOX.out.c 1 rfl
      have d2 := HBOX.out.c 2 rfl
      have f0 := HBOX.out.free 0
      have f1 := HBOX.out.free 1
      have f2 := HBOX.out.free 2
      go_simp
      refine hK.out _ _ ?_
      clear hK K
      try simp only [Act.put, List.setIfInBounds_toArray, List.set_cons_zero, List.set_cons_succ]
      refine wpAnyL_free (i := 13) (v := ?_) (some 11) rfl rfl (by kernel_rfl) (by kernel_rfl) (by kernel_rfl) (by decide) (fun _ _ _ h => h) (Or.inl ⟨by rfl, ?_⟩) (fun h0 => absurd h0 (by decide)) ?_
      rotate_left
      · intro wS
        go_simp
        try with_reducible rfl
      try simp only [Act.put, List.setIfInBounds_toArray, List.set_cons_zero, List.set_cons_succ]
      refine wpAnyL_done (by kernel_rfl) ?_ _
      refine NoPanic.normal ?_
      go_wp2_with fail
      go_meet
      exact ⟨Made.early3 (X := w4) KX.out HX.out HBOX.out ho7 (sure_ops _ _ _) HSX.out HLT.out, rfl⟩
    refine AllReadyL.cons rfl (fun K hK => ?_) AllReadyL.nil
    have KX := Lib.hid (hHeld.2.2.2.2.2.2.2.2 : Kept w _ _ w3.drew)
    have HBOX := Lib.hid (show Box _ _ w3.heap.size _ from Box.new 32 w3.drew #[.int .i64 0, .int .i64 0, .slice none 0 0])
    have HX := Lib.hid ((Below.refl w3.drew.heap.size w3.drew).alloc (Nat.le_refl _) (.cells #[.int .i64 0, .int .i64 0, .slice none 0 0] 32))
    have HSX := Lib.hid HSZ.out
    have HSZ := Lib.hid (Nat.le_trans HSZ.out HX.out.size)
    go_simp
    refine hK.out _ _ ?_ (fun hHeld => ?_)
    · exact ⟨below_cell ((Below.refl _ _).alloc (Nat.le_refl _) _) hHeld.1, below_cell ((Below.refl _ _).alloc (Nat.le_refl _) _) hHeld.2.1, below_cell ((Below.refl _ _).alloc (Nat.le_refl _) _) hHeld.2.2.1, below_cell ((Below.refl _ _).alloc (Nat.le_refl _) _) hHeld.2.2.2.1, below_cell ((Below.refl _ _).alloc (Nat.le_refl _) _) hHeld.2.2.2.2.1, below_cell ((Below.refl _ _).alloc (Nat.le_refl _) _) hHeld.2.2.2.2.2.1, below_cell ((Below.refl _ _).alloc (Nat.le_refl _) _) hHeld.2.2.2.2.2.2.1, below_cell ((Below.refl _ _).alloc (Nat.le_refl _) _) hHeld.2.2.2.2.2.2.2.1, hHeld.2.2.2.2.2.2.2.2.below ((Below.refl _ _).alloc (Nat.le_refl _) _)⟩
    clear hK K
    try simp only [Act.put, List.setIfInBounds_toArray, List.set_cons_zero, List.set_cons_succ]
    refine wpAnyL_ready (rs := [1]) (by kernel_rfl) (by simp) ?_
    refine AllReadyL.cons rfl (fun K hK => ?_) AllReadyL.nil
    go_simp; go_at_call 9; refine (toTemplateE _ _ _ _ _ _ (hHeld.2.2.2.2.2.2.2.2.r 2 rfl :) HLP1.out).mono ?_; rintro e w4 ⟨a4, n4, c4, rfl, ho4, hb4⟩; have G4 := Lib.hid (OwnRels.at ho4); clear ho4
    have HSZ := Lib.hid (Nat.le_trans HSZ.out hb4.size)
    have HX := Lib.hid (HX.out.trans (hb4.mono HX.out.size))
    have HBOX := Lib.hid (HBOX.out.below hb4)
    refine hK.out _ _ ?_ (fun hHeld => ?_)
    · exact ⟨below_cell hb4 hHeld.1, below_cell hb4 hHeld.2.1, below_cell hb4 hHeld.2.2.1, below_cell hb4 hHeld.2.2.2.1, below_cell hb4 hHeld.2.2.2.2.1, below_cell hb4 hHeld.2.2.2.2.2.1, below_cell hb4 hHeld.2.2.2.2.2.2.1, below_cell hb4 hHeld.2.2.2.2.2.2.2.1, hHeld.2.2.2.2.2.2.2.2.below hb4⟩
    clear hK K
    try simp only [Act.put, List.setIfInBounds_toArray, List.set_cons_zero, List.set_cons_succ]
    refine wpAnyL_ready (rs := [3]) (by kernel_rfl) (by simp) ?_
    refine AllReadyL.cons rfl (fun K hK => ?_) AllReadyL.nil
    go_simp; go_at_call 10; refine (toFormula _ _ _ _ _ _ _ (hHeld.2.2.2.2.2.2.2.2.r 1 rfl :) HLP2.out).mono ?_; rintro e w5 ⟨a5, n5, c5, rfl, ho5, hb5⟩; have G5 := Lib.hid (OwnOps.at ho5); clear ho5
    have G4 := Lib.hid (G4.out.below hb5)
    have HSZ := Lib.hid (Nat.le_trans HSZ.out hb5.size)
    have HX := Lib.hid (HX.out.trans (hb5.mono HX.out.size))
    have HBOX := Lib.hid (HBOX.out.below hb5)
    refine hK.out _ _ ?_ (fun hHeld => ?_)
    · exact ⟨below_cell hb5 hHeld.1, below_cell hb5 hHeld.2.1, below_cell hb5 hHeld.2.2.1, below_cell hb5 hHeld.2.2.2.1, below_cell hb5 hHeld.2.2.2.2.1, below_cell hb5 hHeld.2.2.2.2.2.1, below_cell hb5 hHeld.2.2.2.2.2.2.1, below_cell hb5 hHeld.2.2.2.2.2.2.2.1, hHeld.2.2.2.2.2.2.2.2.below hb5⟩
    clear hK K
    try simp only [Act.put, List.setIfInBounds_toArray, List.set_cons_zero, List.set_cons_succ]
    refine wpAnyL_ready (rs := [6]) (by kernel_rfl) (by simp) ?_
    refine AllReadyL.cons rfl (fun K hK => ?_) AllReadyL.nil
    go_simp; go_at_call 10; refine (toFormula _ _ _ _ _ _ _ (hHeld.2.2.2.2.2.2.2.2.r 0 rfl :) HLP3.out).mono ?_; rintro e w6 ⟨a6, n6, c6, rfl, ho6, hb6⟩; have G6 := Lib.hid (OwnOps.at ho6); clear ho6
    have G4 := Lib.hid (G4.out.below hb6)
    have G5 := Lib.hid (G5.out.below hb6)
    have HSZ := Lib.hid (Nat.le_trans HSZ.out hb6.size)
    have HX := Lib.hid (HX.out.trans (hb6.mono HX.out.size))
    have HBOX := Lib.hid (HBOX.out.below hb6)
    refine hK.out _ _ ?_ (fun hHeld => ?_)
    · exact ⟨below_cell hb6 hHeld.1, below_cell hb6 hHeld.2.1, below_cell hb6 hHeld.2.2.1, below_cell hb6 hHeld.2.2.2.1, below_cell hb6 hHeld.2.2.2.2.1, below_cell hb6 hHeld.2.2.2.2.2.1, below_cell hb6 hHeld.2.2.2.2.2.2.1, below_cell hb6 hHeld.2.2.2.2.2.2.2.1, hHeld.2.2.2.2.2.2.2.2.below hb6⟩
    clear hK K
    try simp only [Act.put, List.setIfInBounds_toArray, List.set_cons_zero, List.set_cons_succ]
    refine wpAnyL_ready (rs := [7]) (by kernel_rfl) (by simp) ?_
    refine AllReadyL.last rfl (by kernel_rfl) (fun K hK => ?_) AllReadyL.nil
    have KB := Lib.hid (hHeld.2.2.2.2.2.2.2.2)
    have HSB := Lib.hid HSZ.out
    have HLT := Lib.hid HBOX.out.lt
    go_simp; go_at_call 22; refine (specReplaceRel _ _ _ _ _ _ _ _ _ _ _ _ _ _ _ _ _ _ xR0 yR0 tR0 cd _ G4.out G5.out G6.out HI.out).mono ?_; rintro e w7 ⟨a7, n7, c7, rfl, ho7, hb7⟩
    have HSZ := Lib.hid (Nat.le_trans HSZ.out hb7.size)
    have HX := Lib.hid (HX.out.trans (hb7.mono HX.out.size))
    have HBOX := Lib.hid (HBOX.out.below hb7)
    refine hK.out _ _ ?_
    clear hK K
    try simp only [Act.put, List.setIfInBounds_toArray, List.set_cons_zero, List.set_cons_succ]
    refine wpAnyL_free (i := 8) (v := ?_) (some 37) rfl rfl (by kernel_rfl) (by kernel_rfl) (by kernel_rfl) (by decide) (fun _ _ _ h => h) (Or.inl ⟨by rfl, ?_⟩) (fun h0 => absurd h0 (by decide)) ?_
    rotate_left
    · intro wS
      go_simp
      try with_reducible rfl
    try simp only [Act.put, List.setIfInBounds_toArray, List.set_cons_zero, List.set_cons_succ]
    refine wpAnyL_free (i := 9) (v := ?_) (some 46) rfl rfl (by kernel_rfl) (by kernel_rfl) (by kernel_rfl) (by decide) (fun _ _ _ h => h) (Or.inl ⟨by rfl, ?_⟩) (fun h0 => absurd h0 (by decide)) ?_
    rotate_left
    · intro wS
      go_simp
      try with_reducible rfl
    try simp only [Act.put, List.setIfInBounds_toArray, List.set_cons_zero, List.set_cons_succ]
    refine wpAnyL_free (i := 10) (v := ?_) (some 47) rfl rfl (by kernel_rfl) (by kernel_rfl) (by kernel_rfl) (by decide) (fun _ _ _ h => h) (Or.inl ⟨by rfl, ?_⟩) (fun h0 => absurd h0 (by decide)) ?_
    rotate_left
    · intro wS
      go_simp
      try with_reducible rfl
    try simp only [Act.put, List.setIfInBounds_toArray, List.set_cons_zero, List.set_cons_succ]
    refine wpAnyL_ready (rs := [12]) (by kernel_rfl) (by simp) ?_
    refine AllReadyL.last rfl (by kernel_rfl) (fun K hK => ?_) AllReadyL.nil
    have d0 := HBOX.out.c 0 rfl
    have d1 := HBOX.out.c 1 rfl
    have d2 := HBOX.out.c 2 rfl
    have f0 := HBOX.out.free 0
    have f1 := HBOX.out.free 1
    have f2 := HBOX.out.free 2
    go_simp
    refine hK.out _ _ ?_
    clear hK K
    try simp only [Act.put, List.setIfInBounds_toArray, List.set_cons_zero, List.set_cons_succ]
    refine wpAnyL_free (i := 13) (v := ?_) (some 11) rfl rfl (by kernel_rfl) (by kernel_rfl) (by kernel_rfl) (by decide) (fun _ _ _ h => h) (Or.inl ⟨by rfl, ?_⟩) (fun h0 => absurd h0 (by decide)) ?_
    rotate_left
    · intro wS
      go_simp
      try with_reducible rfl
    try simp only [Act.put, List.setIfInBounds_toArray, List.set_cons_zero, List.set_cons_succ]
    refine wpAnyL_done (by kernel_rfl) ?_ _
    refine NoPanic.normal ?_
    go_wp2_with fail
    go_meet
    exact ⟨Made.early3 (X := w3.drew) KX.out HX.out HBOX.out ho7 (sure_ops _ _ _) HSX.out HLT.out, rfl⟩
  case rest =>
    obtain ⟨⟨bk7, f7, e7, a7, n7, c7, rfl, hk7, hx7, ho7, l1, l2, l3, l4⟩, rfl⟩ := hcut
    obtain ⟨w7, hw7⟩ : ∃ y, y = wc := ⟨_, rfl⟩
    subst hw7
    have HY7 : Hid (w3.heap.size ≤ bk7 ∧ bk7 < w7.heap.size ∧ w3.heap.size ≤ f7 ∧ (bk7 < f7 ∨ e7 ≤ bk7) ∧ e7 ≤ w7.heap.size ∧ w.heap.size + 3 ≤ w3.heap.size) := Lib.hid ⟨l1, hx7.lt, l2, l3, l4, cell_block_lt (K3.out.c 0 rfl)⟩
    have K7 := Lib.hid ((((hk7.read (lives_ownOps _ _ _ _ _) ho7).cell (hx7.c 2 rfl)).cell (hx7.c 1 rfl)).cell (hx7.c 0 rfl))
    clear hk7 hx7 ho7 l1 l2 l3 l4
    have HZ0 := Lib.hid HY7.out
    have cd0 := K7.out.c 9 rfl
    have cd1 := K7.out.c 10 rfl
    go_wp2_with fail
    refine (toTemplateE _ _ _ _ _ _ (K7.out.r 3 rfl :) HLP1.out).mono ?_
    rintro e w8 ⟨a8, n8, c8, rfl, ho8, hb8⟩
    have Z8 : Hid (w7.heap.size ≤ w8.heap.size) := Lib.hid (by have := hb8.size; simpa using this)
    have K8 := Lib.hid ((K7.out.below hb8).read (lives_ownRels _ _ _ _) (ho8.mono (B' := w7.heap.size) (by simp)))
    clear cd0 cd1
    have K8b := Lib.hid (K8.out.box w8.heap.size rfl (.int .i64 xP1) (.slice a8 n8 c8) 37)
    clear hb8 ho8
    have cd2 := K8b.out.c 8 rfl
    have cd3 := K8b.out.c 9 rfl
    have cd4 := K8b.out.c 10 rfl
    go_wp2_with fail
    refine (toFormula _ _ _ _ _ _ _ (K8b.out.r 3 rfl :) HLP2.out).mono ?_
    rintro e w9 ⟨a9, n9, c9, rfl, ho9, hb9⟩
    have Z9 : Hid (w8.heap.size + 1 ≤ w9.heap.size) := Lib.hid (by have := hb9.size; simpa using this)
    have K9 := Lib.hid ((K8b.out.below hb9).read (lives_ownOps _ _ _ _ _) (ho9.mono (B' := w8.heap.size + 1) (by simp)))
    clear cd2 cd3 cd4
    have K9b := Lib.hid (K9.out.box3 w9.heap.size rfl (.int .i64 xP2) (.int .i64 yP2) (.slice a9 n9 c9) 32)
    clear hb9 ho9
    have cd5 := K9b.out.c 8 rfl
    have cd6 := K9b.out.c 9 rfl
    have cd7 := K9b.out.c 10 rfl
    go_wp2_with fail
    refine (toFormula _ _ _ _ _ _ _ (K9b.out.r 3 rfl :) HLP3.out).mono ?_
    rintro e w10 ⟨a10, n10, c10, rfl, ho10, hb10⟩
    have Z10 : Hid (w9.heap.size + 1 ≤ w10.heap.size) := Lib.hid (by have := hb10.size; simpa using this)
    have K10 := Lib.hid ((K9b.out.below hb10).read (lives_ownOps _ _ _ _ _) (ho10.mono (B' := w9.heap.size + 1) (by simp)))
    clear cd5 cd6 cd7
    have K10b := Lib.hid (K10.out.box3 w10.heap.size rfl (.int .i64 xP3) (.int .i64 yP3) (.slice a10 n10 c10) 32)
    clear hb10 ho10
    -- the program's answer
    have cd8 := K10b.out.c 6 rfl
    have cd9 := K10b.out.c 7 rfl
    have cd10 := K10b.out.c 3 rfl
    have cd11 := K10b.out.c 4 rfl
    have cd12 := K10b.out.c 5 rfl
    have cd13 := K10b.out.c 0 rfl
    have cd14 := K10b.out.c 1 rfl
    have cd15 := K10b.out.c 2 rfl
    go_wp2_with fail
    refine (implReplaceRel _ _ _ _ _ _ _ _ _ _ _ _ _ _ _ _ _ _ xR0 yR0 tR0 cd _ (OwnRels.at (K10b.out.r 2 rfl :)) (OwnOps.at (K10b.out.r 1 rfl :)) (OwnOps.at (K10b.out.r 0 rfl :)) HI.out).mono ?_
    rintro e w11 ⟨a11, n11, c11, rfl, ho11, hb11⟩
    have Z11 : Hid (w10.heap.size + 1 ≤ w11.heap.size) := Lib.hid (by have := hb11.size; simpa using this)
    have K11 := Lib.hid (((K10b.out.below hb11).read (lives_ownOps _ _ _ _ _) (ho11.mono (B' := w10.heap.size + 1) (by simp))).box3 w11.heap.size rfl (.int .i64 xR0) (.int .i64 yR0) (.slice a11 n11 c11) 32)
    clear cd8 cd9 cd10 cd11 cd12 cd13 cd14 cd15
    clear hb11 ho11
    have cd16 := K11.out.c 0 rfl
    have cd17 := K11.out.c 1 rfl
    have cd18 := K11.out.c 2 rfl
    have cd19 := K11.out.c 11 rfl
    have cd20 := K11.out.c 12 rfl
    have cd21 := K11.out.c 13 rfl
    go_wp2_with fail
    refine (eqFormula' _ _ _ _ _ _ _ _ _ _ _ _ true _ (OwnOps.at (K11.out.r 0 rfl :)) (OwnOps.at (K11.out.r 4 rfl :)) (eqF_same _ _ _)).mono ?_
    rintro e w12 ⟨rfl, hb12⟩
    have K12 := Lib.hid (K11.out.below hb12)
    clear cd16 cd17 cd18 cd19 cd20 cd21
    clear hb12
    -- the copies are as they were
    go_wp2_with fail
    refine wp_region_noPanic ?_
    refine wp_region_late (S := (fun w' => w'.cell? ⟨w8.heap.size, 0, none⟩ = some (.int .i64 xP1) ∧ w'.cell? ⟨w8.heap.size, 1, none⟩ = some (.slice a8 n8 c8) ∧ w'.cell? ⟨w.heap.size, 0, none⟩ = some (.int .i64 xP1) ∧ w'.cell? ⟨w.heap.size, 1, none⟩ = some (.slice aP1 nP1 cP1) ∧ Kept w [(⟨w11.heap.size, 0, none⟩, .int .i64 xR0), (⟨w11.heap.size, 1, none⟩, .int .i64 yR0), (⟨w11.heap.size, 2, none⟩, .slice a11 n11 c11), (⟨w10.heap.size, 0, none⟩, .int .i64 xP3), (⟨w10.heap.size, 1, none⟩, .int .i64 yP3), (⟨w10.heap.size, 2, none⟩, .slice a10 n10 c10), (⟨w9.heap.size, 0, none⟩, .int .i64 xP2), (⟨w9.heap.size, 1, none⟩, .int .i64 yP2), (⟨w9.heap.size, 2, none⟩, .slice a9 n9 c9), (⟨w8.heap.size, 0, none⟩, .int .i64 xP1), (⟨w8.heap.size, 1, none⟩, .slice a8 n8 c8), (⟨bk7, 0, none⟩, .int .i64 xR0), (⟨bk7, 1, none⟩, .int .i64 yR0), (⟨bk7, 2, none⟩, .slice a7 n7 c7), (⟨w.heap.size + 1 + 1, 0, none⟩, .int .i64 xP3), (⟨w.heap.size + 1 + 1, 1, none⟩, .int .i64 yP3), (⟨w.heap.size + 1 + 1, 2, none⟩, .slice aP3 nP3 cP3), (⟨w.heap.size + 1, 0, none⟩, .int .i64 xP2), (⟨w.heap.size + 1, 1, none⟩, .int .i64 yP2), (⟨w.heap.size + 1, 2, none⟩, .slice aP2 nP2 cP2), (⟨w.heap.size, 0, none⟩, .int .i64 xP1), (⟨w.heap.size, 1, none⟩, .slice aP1 nP1 cP1)] [fun w => (OwnOps 83) w (w10.heap.size + 1) w11.heap.size (.slice a11 n11 c11) tR0, fun w => (OwnOps 83) w (w9.heap.size + 1) w10.heap.size (.slice a10 n10 c10) tP3, fun w => (OwnOps 83) w (w8.heap.size + 1) w9.heap.size (.slice a9 n9 c9) tP2, fun w => OwnRels w (w7.heap.size) w8.heap.size (.slice a8 n8 c8) tP1, fun w => (OwnOps 83) w f7 e7 (.slice a7 n7 c7) tR0, fun w => OpsAt w (.slice aP3 nP3 cP3) tP3, fun w => OpsAt w (.slice aP2 nP2 cP2) tP2, fun w => RelsAt w (.slice aP1 nP1 cP1) tP1] w')) [] (by kernel_rfl) ?_ (fun hHeld => ?_)
    · exact ⟨K12.out.drew.c 9 rfl, K12.out.drew.c 10 rfl, K12.out.drew.c 20 rfl, K12.out.drew.c 21 rfl, K12.out.drew⟩
    refine wpAnyL_take (i := 0) (v := ?_) (some 71) rfl rfl (by kernel_rfl) (by kernel_rfl) (by kernel_rfl) (by kernel_rfl) (by kernel_rfl) (fun _ _ _ h => h) (Or.inl ⟨by rfl, ?_⟩) (by assumption) ?_
    rotate_left
    · intro wS hSw
      try dsimp only at hSw
      go_simp
      try with_reducible rfl
    try simp only [Act.put, List.setIfInBounds_toArray, List.set_cons_zero, List.set_cons_succ]
    refine wpAnyL_take (i := 1) (v := ?_) (some 72) rfl rfl (by kernel_rfl) (by kernel_rfl) (by kernel_rfl) (by kernel_rfl) (by kernel_rfl) (fun _ _ _ h => h) (Or.inl ⟨by rfl, ?_⟩) (by assumption) ?_
    rotate_left
    · intro wS hSw
      try dsimp only at hSw
      go_simp
      try with_reducible rfl
    try simp only [Act.put, List.setIfInBounds_toArray, List.set_cons_zero, List.set_cons_succ]
    refine wpAnyL_ready (rs := [2]) (by kernel_rfl) (by simp) ?_
    refine AllReadyL.cons rfl (fun K hK => ?_) AllReadyL.nil
    go_simp; go_at_call 9; refine (toTemplateE _ _ _ _ _ _ (hHeld.2.2.2.2.r 7 rfl :) HLP1.out).mono ?_; rintro e w13 ⟨a13, n13, c13, rfl, ho13, hb13⟩; have G13 := Lib.hid (OwnRels.at ho13); clear ho13
    refine hK.out _ _ ?_ (fun hHeld => ?_)
    · exact ⟨below_cell hb13 hHeld.1, below_cell hb13 hHeld.2.1, below_cell hb13 hHeld.2.2.1, below_cell hb13 hHeld.2.2.2.1, hHeld.2.2.2.2.below hb13⟩
    clear hK K
    try simp only [Act.put, List.setIfInBounds_toArray, List.set_cons_zero, List.set_cons_succ]
    refine wpAnyL_ready (rs := [3]) (by kernel_rfl) (by simp) ?_
    refine AllReadyL.cons rfl (fun K hK => ?_) AllReadyL.nil
    go_simp; go_at_call 13; refine (eqTemplate' _ _ _ _ _ _ _ _ _ _ true _ (OwnRels.at (hHeld.2.2.2.2.r 3 rfl :)) G13.out (eqT_same _ _)).mono ?_; rintro e w14 ⟨rfl, hb14⟩
    refine hK.out _ _ ?_ (fun hHeld => ?_)
    · exact ⟨below_cell hb14 hHeld.1, below_cell hb14 hHeld.2.1, below_cell hb14 hHeld.2.2.1, below_cell hb14 hHeld.2.2.2.1, hHeld.2.2.2.2.below hb14⟩
    clear hK K
    try simp only [Act.put, List.setIfInBounds_toArray, List.set_cons_zero, List.set_cons_succ]
    refine wpAnyL_free (i := 4) (v := ?_) (some 75) rfl rfl (by kernel_rfl) (by kernel_rfl) (by kernel_rfl) (by decide) (fun _ _ _ h => h) (Or.inl ⟨by rfl, ?_⟩) (fun h0 => by assumption) ?_
    rotate_left
    · intro wS
      go_simp
      try with_reducible rfl
    try simp only [Act.put, List.setIfInBounds_toArray, List.set_cons_zero, List.set_cons_succ]
    refine wpAnyL_done (by kernel_rfl) ?_ _
    refine NoPanic.normal ?_
    have K14 := Lib.hid (hHeld.2.2.2.2 : Kept w _ _ w14)
    clear hHeld
    clear hb13 hb14 G13
    go_wp2_with fail
    refine wp_region_noPanic ?_
    refine wp_region_late (S := (fun w' => w'.cell? ⟨w9.heap.size, 0, none⟩ = some (.int .i64 xP2) ∧ w'.cell? ⟨w9.heap.size, 1, none⟩ = some (.int .i64 yP2) ∧ w'.cell? ⟨w9.heap.size, 2, none⟩ = some (.slice a9 n9 c9) ∧ w'.cell? ⟨w.heap.size + 1, 0, none⟩ = some (.int .i64 xP2) ∧ w'.cell? ⟨w.heap.size + 1, 1, none⟩ = some (.int .i64 yP2) ∧ w'.cell? ⟨w.heap.size + 1, 2, none⟩ = some (.slice aP2 nP2 cP2) ∧ Kept w [(⟨w11.heap.size, 0, none⟩, .int .i64 xR0), (⟨w11.heap.size, 1, none⟩, .int .i64 yR0), (⟨w11.heap.size, 2, none⟩, .slice a11 n11 c11), (⟨w10.heap.size, 0, none⟩, .int .i64 xP3), (⟨w10.heap.size, 1, none⟩, .int .i64 yP3), (⟨w10.heap.size, 2, none⟩, .slice a10 n10 c10), (⟨w9.heap.size, 0, none⟩, .int .i64 xP2), (⟨w9.heap.size, 1, none⟩, .int .i64 yP2), (⟨w9.heap.size, 2, none⟩, .slice a9 n9 c9), (⟨w8.heap.size, 0, none⟩, .int .i64 xP1), (⟨w8.heap.size, 1, none⟩, .slice a8 n8 c8), (⟨bk7, 0, none⟩, .int .i64 xR0), (⟨bk7, 1, none⟩, .int .i64 yR0), (⟨bk7, 2, none⟩, .slice a7 n7 c7), (⟨w.heap.size + 1 + 1, 0, none⟩, .int .i64 xP3), (⟨w.heap.size + 1 + 1, 1, none⟩, .int .i64 yP3), (⟨w.heap.size + 1 + 1, 2, none⟩, .slice aP3 nP3 cP3), (⟨w.heap.size + 1, 0, none⟩, .int .i64 xP2), (⟨w.heap.size + 1, 1, none⟩, .int .i64 yP2), (⟨w.heap.size + 1, 2, none⟩, .slice aP2 nP2 cP2), (⟨w.heap.size, 0, none⟩, .int .i64 xP1), (⟨w.heap.size, 1, none⟩, .slice aP1 nP1 cP1)] [fun w => (OwnOps 83) w (w10.heap.size + 1) w11.heap.size (.slice a11 n11 c11) tR0, fun w => (OwnOps 83) w (w9.heap.size + 1) w10.heap.size (.slice a10 n10 c10) tP3, fun w => (OwnOps 83) w (w8.heap.size + 1) w9.heap.size (.slice a9 n9 c9) tP2, fun w => OwnRels w (w7.heap.size) w8.heap.size (.slice a8 n8 c8) tP1, fun w => (OwnOps 83) w f7 e7 (.slice a7 n7 c7) tR0, fun w => OpsAt w (.slice aP3 nP3 cP3) tP3, fun w => OpsAt w (.slice aP2 nP2 cP2) tP2, fun w => RelsAt w (.slice aP1 nP1 cP1) tP1] w')) [] (by kernel_rfl) ?_ (fun hHeld => ?_)
    · exact ⟨K14.out.drew.c 6 rfl, K14.out.drew.c 7 rfl, K14.out.drew.c 8 rfl, K14.out.drew.c 17 rfl, K14.out.drew.c 18 rfl, K14.out.drew.c 19 rfl, K14.out.drew⟩
    refine wpAnyL_take (i := 0) (v := ?_) (some 76) rfl rfl (by kernel_rfl) (by kernel_rfl) (by kernel_rfl) (by kernel_rfl) (by kernel_rfl) (fun _ _ _ h => h) (Or.inl ⟨by rfl, ?_⟩) (by assumption) ?_
    rotate_left
    · intro wS hSw
      try dsimp only at hSw
      go_simp
      try with_reducible rfl
    try simp only [Act.put, List.setIfInBounds_toArray, List.set_cons_zero, List.set_cons_succ]
    refine wpAnyL_take (i := 1) (v := ?_) (some 77) rfl rfl (by kernel_rfl) (by kernel_rfl) (by kernel_rfl) (by kernel_rfl) (by kernel_rfl) (fun _ _ _ h => h) (Or.inl ⟨by rfl, ?_⟩) (by assumption) ?_
    rotate_left
    · intro wS hSw
      try dsimp only at hSw
      go_simp
      try with_reducible rfl
    try simp only [Act.put, List.setIfInBounds_toArray, List.set_cons_zero, List.set_cons_succ]
    refine wpAnyL_ready (rs := [2]) (by kernel_rfl) (by simp) ?_
    refine AllReadyL.cons rfl (fun K hK => ?_) AllReadyL.nil
    go_simp; go_at_call 10; refine (toFormula _ _ _ _ _ _ _ (hHeld.2.2.2.2.2.2.r 6 rfl :) HLP2.out).mono ?_; rintro e w15 ⟨a15, n15, c15, rfl, ho15, hb15⟩; have G15 := Lib.hid (OwnOps.at ho15); clear ho15
    refine hK.out _ _ ?_ (fun hHeld => ?_)
    · exact ⟨below_cell hb15 hHeld.1, below_cell hb15 hHeld.2.1, below_cell hb15 hHeld.2.2.1, below_cell hb15 hHeld.2.2.2.1, below_cell hb15 hHeld.2.2.2.2.1, below_cell hb15 hHeld.2.2.2.2.2.1, hHeld.2.2.2.2.2.2.below hb15⟩
    clear hK K
    try simp only [Act.put, List.setIfInBounds_toArray, List.set_cons_zero, List.set_cons_succ]
    refine wpAnyL_ready (rs := [3]) (by kernel_rfl) (by simp) ?_
    refine AllReadyL.cons rfl (fun K hK => ?_) AllReadyL.nil
    go_simp; go_at_call 12; refine (eqFormula' _ _ _ _ _ _ _ _ _ _ _ _ true _ (OwnOps.at (hHeld.2.2.2.2.2.2.r 2 rfl :)) G15.out (eqF_same _ _ _)).mono ?_; rintro e w16 ⟨rfl, hb16⟩
    refine hK.out _ _ ?_ (fun hHeld => ?_)
    · exact ⟨below_cell hb16 hHeld.1, below_cell hb16 hHeld.2.1, below_cell hb16 hHeld.2.2.1, below_cell hb16 hHeld.2.2.2.1, below_cell hb16 hHeld.2.2.2.2.1, below_cell hb16 hHeld.2.2.2.2.2.1, hHeld.2.2.2.2.2.2.below hb16⟩
    clear hK K
    try simp only [Act.put, List.setIfInBounds_toArray, List.set_cons_zero, List.set_cons_succ]
    refine wpAnyL_free (i := 4) (v := ?_) (some 80) rfl rfl (by kernel_rfl) (by kernel_rfl) (by kernel_rfl) (by decide) (fun _ _ _ h => h) (Or.inl ⟨by rfl, ?_⟩) (fun h0 => by assumption) ?_
    rotate_left
    · intro wS
      go_simp
      try with_reducible rfl
    try simp only [Act.put, List.setIfInBounds_toArray, List.set_cons_zero, List.set_cons_succ]
    refine wpAnyL_done (by kernel_rfl) ?_ _
    refine NoPanic.normal ?_
    have K16 := Lib.hid (hHeld.2.2.2.2.2.2 : Kept w _ _ w16)
    clear hHeld
    clear hb15 hb16 G15
    go_wp2_with fail
    refine wp_region_noPanic ?_
    refine wp_region_late (S := (fun w' => w'.cell? ⟨w10.heap.size, 0, none⟩ = some (.int .i64 xP3) ∧ w'.cell? ⟨w10.heap.size, 1, none⟩ = some (.int .i64 yP3) ∧ w'.cell? ⟨w10.heap.size, 2, none⟩ = some (.slice a10 n10 c10) ∧ w'.cell? ⟨w.heap.size + 1 + 1, 0, none⟩ = some (.int .i64 xP3) ∧ w'.cell? ⟨w.heap.size + 1 + 1, 1, none⟩ = some (.int .i64 yP3) ∧ w'.cell? ⟨w.heap.size + 1 + 1, 2, none⟩ = some (.slice aP3 nP3 cP3) ∧ Kept w [(⟨w11.heap.size, 0, none⟩, .int .i64 xR0), (⟨w11.heap.size, 1, none⟩, .int .i64 yR0), (⟨w11.heap.size, 2, none⟩, .slice a11 n11 c11), (⟨w10.heap.size, 0, none⟩, .int .i64 xP3), (⟨w10.heap.size, 1, none⟩, .int .i64 yP3), (⟨w10.heap.size, 2, none⟩, .slice a10 n10 c10), (⟨w9.heap.size, 0, none⟩, .int .i64 xP2), (⟨w9.heap.size, 1, none⟩, .int .i64 yP2), (⟨w9.heap.size, 2, none⟩, .slice a9 n9 c9), (⟨w8.heap.size, 0, none⟩, .int .i64 xP1), (⟨w8.heap.size, 1, none⟩, .slice a8 n8 c8), (⟨bk7, 0, none⟩, .int .i64 xR0), (⟨bk7, 1, none⟩, .int .i64 yR0), (⟨bk7, 2, none⟩, .slice a7 n7 c7), (⟨w.heap.size + 1 + 1, 0, none⟩, .int .i64 xP3), (⟨w.heap.size + 1 + 1, 1, none⟩, .int .i64 yP3), (⟨w.heap.size + 1 + 1, 2, none⟩, .slice aP3 nP3 cP3), (⟨w.heap.size + 1, 0, none⟩, .int .i64 xP2), (⟨w.heap.size + 1, 1, none⟩, .int .i64 yP2), (⟨w.heap.size + 1, 2, none⟩, .slice aP2 nP2 cP2), (⟨w.heap.size, 0, none⟩, .int .i64 xP1), (⟨w.heap.size, 1, none⟩, .slice aP1 nP1 cP1)] [fun w => (OwnOps 83) w (w10.heap.size + 1) w11.heap.size (.slice a11 n11 c11) tR0, fun w => (OwnOps 83) w (w9.heap.size + 1) w10.heap.size (.slice a10 n10 c10) tP3, fun w => (OwnOps 83) w (w8.heap.size + 1) w9.heap.size (.slice a9 n9 c9) tP2, fun w => OwnRels w (w7.heap.size) w8.heap.size (.slice a8 n8 c8) tP1, fun w => (OwnOps 83) w f7 e7 (.slice a7 n7 c7) tR0, fun w => OpsAt w (.slice aP3 nP3 cP3) tP3, fun w => OpsAt w (.slice aP2 nP2 cP2) tP2, fun w => RelsAt w (.slice aP1 nP1 cP1) tP1] w')) [] (by kernel_rfl) ?_ (fun hHeld => ?_)
    · exact ⟨K16.out.drew.c 3 rfl, K16.out.drew.c 4 rfl, K16.out.drew.c 5 rfl, K16.out.drew.c 14 rfl, K16.out.drew.c 15 rfl, K16.out.drew.c 16 rfl, K16.out.drew⟩
    refine wpAnyL_take (i := 0) (v := ?_) (some 81) rfl rfl (by kernel_rfl) (by kernel_rfl) (by kernel_rfl) (by kernel_rfl) (by kernel_rfl) (fun _ _ _ h => h) (Or.inl ⟨by rfl, ?_⟩) (by assumption) ?_
    rotate_left
    · intro wS hSw
      try dsimp only at hSw
      go_simp
      try with_reducible rfl
    try simp only [Act.put, List.setIfInBounds_toArray, List.set_cons_zero, List.set_cons_succ]
    refine wpAnyL_take (i := 1) (v := ?_) (some 82) rfl rfl (by kernel_rfl) (by kernel_rfl) (by kernel_rfl) (by kernel_rfl) (by kernel_rfl) (fun _ _ _ h => h) (Or.inl ⟨by rfl, ?_⟩) (by assumption) ?_
    rotate_left
    · intro wS hSw
      try dsimp only at hSw
      go_simp
      try with_reducible rfl
    try simp only [Act.put, List.setIfInBounds_toArray, List.set_cons_zero, List.set_cons_succ]
    refine wpAnyL_ready (rs := [2]) (by kernel_rfl) (by simp) ?_
    refine AllReadyL.cons rfl (fun K hK => ?_) AllReadyL.nil
    go_simp; go_at_call 10; refine (toFormula _ _ _ _ _ _ _ (hHeld.2.2.2.2.2.2.r 5 rfl :) HLP3.out).mono ?_; rintro e w17 ⟨a17, n17, c17, rfl, ho17, hb17⟩; have G17 := Lib.hid (OwnOps.at ho17); clear ho17
    refine hK.out _ _ ?_ (fun hHeld => ?_)
    · exact ⟨below_cell hb17 hHeld.1, below_cell hb17 hHeld.2.1, below_cell hb17 hHeld.2.2.1, below_cell hb17 hHeld.2.2.2.1, below_cell hb17 hHeld.2.2.2.2.1, below_cell hb17 hHeld.2.2.2.2.2.1, hHeld.2.2.2.2.2.2.below hb17⟩
    clear hK K
    try simp only [Act.put, List.setIfInBounds_toArray, List.set_cons_zero, List.set_cons_succ]
    refine wpAnyL_ready (rs := [3]) (by kernel_rfl) (by simp) ?_
    refine AllReadyL.cons rfl (fun K hK => ?_) AllReadyL.nil
    go_simp; go_at_call 12; refine (eqFormula' _ _ _ _ _ _ _ _ _ _ _ _ true _ (OwnOps.at (hHeld.2.2.2.2.2.2.r 1 rfl :)) G17.out (eqF_same _ _ _)).mono ?_; rintro e w18 ⟨rfl, hb18⟩
    refine hK.out _ _ ?_ (fun hHeld => ?_)
    · exact ⟨below_cell hb18 hHeld.1, below_cell hb18 hHeld.2.1, below_cell hb18 hHeld.2.2.1, below_cell hb18 hHeld.2.2.2.1, below_cell hb18 hHeld.2.2.2.2.1, below_cell hb18 hHeld.2.2.2.2.2.1, hHeld.2.2.2.2.2.2.below hb18⟩
    clear hK K
    try simp only [Act.put, List.setIfInBounds_toArray, List.set_cons_zero, List.set_cons_succ]
    refine wpAnyL_free (i := 4) (v := ?_) (some 85) rfl rfl (by kernel_rfl) (by kernel_rfl) (by kernel_rfl) (by decide) (fun _ _ _ h => h) (Or.inl ⟨by rfl, ?_⟩) (fun h0 => by assumption) ?_
    rotate_left
    · intro wS
      go_simp
      try with_reducible rfl
    try simp only [Act.put, List.setIfInBounds_toArray, List.set_cons_zero, List.set_cons_succ]
    refine wpAnyL_done (by kernel_rfl) ?_ _
    refine NoPanic.normal ?_
    have K18 := Lib.hid (hHeld.2.2.2.2.2.2 : Kept w _ _ w18)
    clear hHeld
    clear hb17 hb18 G17
    -- marks
    have S0 := Lib.hid (((((((((KeptS.start K18.out).cons (HAP1.out.go K18.out.bel.size fun g _ hg => K18.out.bel.block g hg) K18.out.bel.size).cons (HAP2.out.go K18.out.bel.size fun g _ hg => K18.out.bel.block g hg) K18.out.bel.size).cons (HAP3.out.go K18.out.bel.size fun g _ hg => K18.out.bel.block g hg) K18.out.bel.size).cons (stab_ownOps (K18.out.r 4 rfl :)) (ownOps_le (K18.out.r 4 rfl :))).cons (stab_ownOps (K18.out.r 0 rfl :)) (ownOps_le (K18.out.r 0 rfl :))).cons (stab_ownOps (K18.out.r 1 rfl :)) (ownOps_le (K18.out.r 1 rfl :))).cons (stab_ownOps (K18.out.r 2 rfl :)) (ownOps_le (K18.out.r 2 rfl :))).cons (stab_ownRels (K18.out.r 3 rfl :)) (ownRels_le (K18.out.r 3 rfl :)))
    have cd22 := S0.out.c 9 rfl
    have cd23 := S0.out.c 10 rfl
    go_wp2_with fail
    refine (markTemplate _ _ _ _ _ _ _ _ _ (S0.out.r 0 rfl :) (by omega) (by have yP1 := HLP1.out; have zP1 := offR_le tP1; have yP2 := HLP2.out; have yP3 := HLP3.out; omega)).mono ?_
    rintro e w19 ⟨rfl, ho19, hn19⟩
    have S1 := Lib.hid (S0.out.drop.only hn19 (by have y1 := HZ0.out; have zZ8 := Z8.out; have zZ9 := Z9.out; have zZ10 := Z10.out; have zZ11 := Z11.out; omega) (by have y1 := HZ0.out; have zZ8 := Z8.out; have zZ9 := Z9.out; have zZ10 := Z10.out; have zZ11 := Z11.out; intro x hx; simp only [List.mem_cons, List.not_mem_nil, or_false] at hx; rcases hx with rfl | rfl | rfl | rfl | rfl | rfl | rfl | rfl | rfl | rfl | rfl | rfl | rfl | rfl | rfl | rfl | rfl | rfl | rfl | rfl | rfl | rfl <;> (dsimp only; omega)) (by have y1 := HZ0.out; have zZ8 := Z8.out; have zZ9 := Z9.out; have zZ10 := Z10.out; have zZ11 := Z11.out; intro x hx; simp only [List.mem_cons, List.not_mem_nil, or_false] at hx; rcases hx with rfl | rfl | rfl | rfl | rfl | rfl | rfl <;> (dsimp only; omega)))
    clear ho19 hn19
    clear cd22 cd23
    have cd24 := S1.out.c 6 rfl
    have cd25 := S1.out.c 7 rfl
    have cd26 := S1.out.c 8 rfl
    go_wp2_with fail
    refine (markFormula _ _ _ _ _ _ _ _ _ _ (S1.out.r 0 rfl :) (by omega) (by have yP1 := HLP1.out; have zP1 := offR_le tP1; have yP2 := HLP2.out; have yP3 := HLP3.out; omega)).mono ?_
    rintro e w20 ⟨rfl, ho20, hn20⟩
    have S2 := Lib.hid (S1.out.drop.only hn20 (by have y1 := HZ0.out; have zZ8 := Z8.out; have zZ9 := Z9.out; have zZ10 := Z10.out; have zZ11 := Z11.out; omega) (by have y1 := HZ0.out; have zZ8 := Z8.out; have zZ9 := Z9.out; have zZ10 := Z10.out; have zZ11 := Z11.out; intro x hx; simp only [List.mem_cons, List.not_mem_nil, or_false] at hx; rcases hx with rfl | rfl | rfl | rfl | rfl | rfl | rfl | rfl | rfl | rfl | rfl | rfl | rfl | rfl | rfl | rfl | rfl | rfl | rfl | rfl | rfl | rfl <;> (dsimp only; omega)) (by have y1 := HZ0.out; have zZ8 := Z8.out; have zZ9 := Z9.out; have zZ10 := Z10.out; have zZ11 := Z11.out; intro x hx; simp only [List.mem_cons, List.not_mem_nil, or_false] at hx; rcases hx with rfl | rfl | rfl | rfl | rfl | rfl <;> (dsimp only; omega)))
    clear ho20 hn20
    clear cd24 cd25 cd26
    have cd27 := S2.out.c 3 rfl
    have cd28 := S2.out.c 4 rfl
    have cd29 := S2.out.c 5 rfl
    go_wp2_with fail
    refine (markFormula _ _ _ _ _ _ _ _ _ _ (S2.out.r 0 rfl :) (by omega) (by have yP1 := HLP1.out; have zP1 := offR_le tP1; have yP2 := HLP2.out; have yP3 := HLP3.out; omega)).mono ?_
    rintro e w21 ⟨rfl, ho21, hn21⟩
    have S3 := Lib.hid (S2.out.drop.only hn21 (by have y1 := HZ0.out; have zZ8 := Z8.out; have zZ9 := Z9.out; have zZ10 := Z10.out; have zZ11 := Z11.out; omega) (by have y1 := HZ0.out; have zZ8 := Z8.out; have zZ9 := Z9.out; have zZ10 := Z10.out; have zZ11 := Z11.out; intro x hx; simp only [List.mem_cons, List.not_mem_nil, or_false] at hx; rcases hx with rfl | rfl | rfl | rfl | rfl | rfl | rfl | rfl | rfl | rfl | rfl | rfl | rfl | rfl | rfl | rfl | rfl | rfl | rfl | rfl | rfl | rfl <;> (dsimp only; omega)) (by have y1 := HZ0.out; have zZ8 := Z8.out; have zZ9 := Z9.out; have zZ10 := Z10.out; have zZ11 := Z11.out; intro x hx; simp only [List.mem_cons, List.not_mem_nil, or_false] at hx; rcases hx with rfl | rfl | rfl | rfl | rfl <;> (dsimp only; omega)))
    clear ho21 hn21
    clear cd27 cd28 cd29
    have hpos : ¬ (1 + (offR tP1 tP1.length : Int) + (opsSize tP2 : Int) + (opsSize tP3 : Int) < 0) := by omega
    have cd30 := S3.out.c 0 rfl
    have cd31 := S3.out.c 1 rfl
    have cd32 := S3.out.c 2 rfl
    have cd33 := S3.out.c 11 rfl
    have cd34 := S3.out.c 12 rfl
    have cd35 := S3.out.c 13 rfl
    go_wp2_with fail
    refine (eqFormula' _ _ _ _ _ _ _ _ _ _ _ _ true _ (OwnOps.at (S3.out.r 0 rfl :)) (OwnOps.at (S3.out.r 1 rfl :)) (eqF_same _ _ _)).mono ?_
    rintro e w22 ⟨rfl, hb22⟩
    have S4 := Lib.hid (S3.out.below hb22)
    clear cd30 cd31 cd32 cd33 cd34 cd35
    clear hb22
    have cd36 := S4.out.c 0 rfl
    have cd37 := S4.out.c 1 rfl
    have cd38 := S4.out.c 2 rfl
    go_wp2_with fail
    refine (markFormula _ _ _ _ _ _ _ _ _ _ (S4.out.r 0 rfl :) (by omega) (by have := HS.out; omega)).mono ?_
    rintro e w23 ⟨rfl, ho23, hn23⟩
    have S5 := Lib.hid ((S4.out.drop.only hn23 (by have y1 := HZ0.out; have zZ8 := Z8.out; have zZ9 := Z9.out; have zZ10 := Z10.out; have zZ11 := Z11.out; omega) (by have y1 := HZ0.out; have zZ8 := Z8.out; have zZ9 := Z9.out; have zZ10 := Z10.out; have zZ11 := Z11.out; intro x hx; simp only [List.mem_cons, List.not_mem_nil, or_false] at hx; rcases hx with rfl | rfl | rfl | rfl | rfl | rfl | rfl | rfl | rfl | rfl | rfl | rfl | rfl | rfl | rfl | rfl | rfl | rfl | rfl | rfl | rfl | rfl <;> (dsimp only; omega)) (by have y1 := HZ0.out; have zZ8 := Z8.out; have zZ9 := Z9.out; have zZ10 := Z10.out; have zZ11 := Z11.out; intro x hx; simp only [List.mem_cons, List.not_mem_nil, or_false] at hx; rcases hx with rfl | rfl | rfl | rfl <;> (dsimp only; omega))).cons (stab_ownOps ho23) (ownOps_le ho23))
    clear ho23 hn23
    clear cd36 cd37 cd38
    have K24 := Lib.hid (((((S5.out.end.read (lives_ops _ _) (S5.out.r 2 rfl :)).read (lives_ops _ _) (S5.out.r 3 rfl :)).read (lives_rels _ _) (S5.out.r 4 rfl :)).read (lives_ownOps _ _ _ _ _) (S5.out.r 1 rfl :)).read (lives_ownOps _ _ _ _ _) (S5.out.r 0 rfl :))
    have cd39 := K24.out.c 0 rfl
    have cd40 := K24.out.c 1 rfl
    have cd41 := K24.out.c 2 rfl
    go_wp2_with fail
    refine (heldFormula _ _ _ _ _ _ _ _ (OwnOps.at (K24.out.r 0 rfl :)) (by omega) (by have := HS.out; omega)).mono ?_
    rintro e w25 ⟨rfl, hb25⟩
    have K25 := Lib.hid (K24.out.below hb25)
    clear cd39 cd40 cd41
    clear hb25
    have hposz : ¬ (1 + (opsSize tR0 : Int) < 0) := by omega
    -- the program's answer again
    have cd42 := K25.out.c 20 rfl
    have cd43 := K25.out.c 21 rfl
    have cd44 := K25.out.c 17 rfl
    have cd45 := K25.out.c 18 rfl
    have cd46 := K25.out.c 19 rfl
    have cd47 := K25.out.c 14 rfl
    have cd48 := K25.out.c 15 rfl
    have cd49 := K25.out.c 16 rfl
    go_wp2_with fail
    go_cut [20, 21] from 22 (fun v0 v1 wz => Made 32 w [(⟨w11.heap.size, 0, none⟩, .int .i64 xR0), (⟨w11.heap.size, 1, none⟩, .int .i64 yR0), (⟨w11.heap.size, 2, none⟩, .slice a11 n11 c11), (⟨w10.heap.size, 0, none⟩, .int .i64 xP3), (⟨w10.heap.size, 1, none⟩, .int .i64 yP3), (⟨w10.heap.size, 2, none⟩, .slice a10 n10 c10), (⟨w9.heap.size, 0, none⟩, .int .i64 xP2), (⟨w9.heap.size, 1, none⟩, .int .i64 yP2), (⟨w9.heap.size, 2, none⟩, .slice a9 n9 c9), (⟨w8.heap.size, 0, none⟩, .int .i64 xP1), (⟨w8.heap.size, 1, none⟩, .slice a8 n8 c8), (⟨bk7, 0, none⟩, .int .i64 xR0), (⟨bk7, 1, none⟩, .int .i64 yR0), (⟨bk7, 2, none⟩, .slice a7 n7 c7), (⟨w.heap.size + 1 + 1, 0, none⟩, .int .i64 xP3), (⟨w.heap.size + 1 + 1, 1, none⟩, .int .i64 yP3), (⟨w.heap.size + 1 + 1, 2, none⟩, .slice aP3 nP3 cP3), (⟨w.heap.size + 1, 0, none⟩, .int .i64 xP2), (⟨w.heap.size + 1, 1, none⟩, .int .i64 yP2), (⟨w.heap.size + 1, 2, none⟩, .slice aP2 nP2 cP2), (⟨w.heap.size, 0, none⟩, .int .i64 xP1), (⟨w.heap.size, 1, none⟩, .slice aP1 nP1 cP1)] [fun w => (OwnOps 83) w (w10.heap.size + 1) w11.heap.size (.slice a11 n11 c11) (marksO 1 tR0), fun w => (OwnOps 83) w f7 e7 (.slice a7 n7 c7) tR0, fun w => RelsAt w (.slice aP1 nP1 cP1) tP1, fun w => OpsAt w (.slice aP2 nP2 cP2) tP2, fun w => OpsAt w (.slice aP3 nP3 cP3) tP3] w25.heap.size (fun v w B E => (OwnOps 83) w B E v tR0) (fun v => #[.int .i64 xR0, .int .i64 yR0, v]) v0 wz ∧ v1 = .int .i64 cd)
    case first =>
      have HSZ : Hid (w25.heap.size ≤ w25.drew.heap.size) := Lib.hid (Nat.le_refl _)
      refine wp_region_noPanic ?_
      refine wp_region_late (S := (fun w' => w'.cell? ⟨w.heap.size, 0, none⟩ = some (.int .i64 xP1) ∧ w'.cell? ⟨w.heap.size, 1, none⟩ = some (.slice aP1 nP1 cP1) ∧ w'.cell? ⟨w.heap.size + 1, 0, none⟩ = some (.int .i64 xP2) ∧ w'.cell? ⟨w.heap.size + 1, 1, none⟩ = some (.int .i64 yP2) ∧ w'.cell? ⟨w.heap.size + 1, 2, none⟩ = some (.slice aP2 nP2 cP2) ∧ w'.cell? ⟨w.heap.size + 1 + 1, 0, none⟩ = some (.int .i64 xP3) ∧ w'.cell? ⟨w.heap.size + 1 + 1, 1, none⟩ = some (.int .i64 yP3) ∧ w'.cell? ⟨w.heap.size + 1 + 1, 2, none⟩ = some (.slice aP3 nP3 cP3) ∧ Kept w [(⟨w11.heap.size, 0, none⟩, .int .i64 xR0), (⟨w11.heap.size, 1, none⟩, .int .i64 yR0), (⟨w11.heap.size, 2, none⟩, .slice a11 n11 c11), (⟨w10.heap.size, 0, none⟩, .int .i64 xP3), (⟨w10.heap.size, 1, none⟩, .int .i64 yP3), (⟨w10.heap.size, 2, none⟩, .slice a10 n10 c10), (⟨w9.heap.size, 0, none⟩, .int .i64 xP2), (⟨w9.heap.size, 1, none⟩, .int .i64 yP2), (⟨w9.heap.size, 2, none⟩, .slice a9 n9 c9), (⟨w8.heap.size, 0, none⟩, .int .i64 xP1), (⟨w8.heap.size, 1, none⟩, .slice a8 n8 c8), (⟨bk7, 0, none⟩, .int .i64 xR0), (⟨bk7, 1, none⟩, .int .i64 yR0), (⟨bk7, 2, none⟩, .slice a7 n7 c7), (⟨w.heap.size + 1 + 1, 0, none⟩, .int .i64 xP3), (⟨w.heap.size + 1 + 1, 1, none⟩, .int .i64 yP3), (⟨w.heap.size + 1 + 1, 2, none⟩, .slice aP3 nP3 cP3), (⟨w.heap.size + 1, 0, none⟩, .int .i64 xP2), (⟨w.heap.size + 1, 1, none⟩, .int .i64 yP2), (⟨w.heap.size + 1, 2, none⟩, .slice aP2 nP2 cP2), (⟨w.heap.size, 0, none⟩, .int .i64 xP1), (⟨w.heap.size, 1, none⟩, .slice aP1 nP1 cP1)] [fun w => (OwnOps 83) w (w10.heap.size + 1) w11.heap.size (.slice a11 n11 c11) (marksO 1 tR0), fun w => (OwnOps 83) w f7 e7 (.slice a7 n7 c7) tR0, fun w => RelsAt w (.slice aP1 nP1 cP1) tP1, fun w => OpsAt w (.slice aP2 nP2 cP2) tP2, fun w => OpsAt w (.slice aP3 nP3 cP3) tP3] w')) [7, 12] (by kernel_rfl) ?_ (fun hHeld => ?_)
      · exact ⟨K25.out.drew.c 20 rfl, K25.out.drew.c 21 rfl, K25.out.drew.c 17 rfl, K25.out.drew.c 18 rfl, K25.out.drew.c 19 rfl, K25.out.drew.c 14 rfl, K25.out.drew.c 15 rfl, K25.out.drew.c 16 rfl, K25.out.drew⟩
      refine wpAnyL_take (i := 0) (v := ?_) (some 120) rfl rfl (by kernel_rfl) (by kernel_rfl) (by kernel_rfl) (by kernel_rfl) (by kernel_rfl) (fun _ _ _ h => h) (Or.inl ⟨by rfl, ?_⟩) (by assumption) ?_
      rotate_left
      · intro wS hSw
        try dsimp only at hSw
        go_simp
        try with_reducible rfl
      try simp only [Act.put, List.setIfInBounds_toArray, List.set_cons_zero, List.set_cons_succ]
      refine wpAnyL_take (i := 2) (v := ?_) (some 122) rfl rfl (by kernel_rfl) (by kernel_rfl) (by kernel_rfl) (by kernel_rfl) (by kernel_rfl) (fun _ _ _ h => h) (Or.inl ⟨by rfl, ?_⟩) (by assumption) ?_
      rotate_left
      · intro wS hSw
        try dsimp only at hSw
        go_simp
        try with_reducible rfl
      try simp only [Act.put, List.setIfInBounds_toArray, List.set_cons_zero, List.set_cons_succ]
      refine wpAnyL_free (i := 4) (v := ?_) (some 124) rfl rfl (by kernel_rfl) (by kernel_rfl) (by kernel_rfl) (by decide) (fun _ _ _ h => h) (Or.inl ⟨by rfl, ?_⟩) (fun h0 => by assumption) ?_
      rotate_left
      · intro wS
        go_simp
        try with_reducible rfl
      try simp only [Act.put, List.setIfInBounds_toArray, List.set_cons_zero, List.set_cons_succ]
      refine wpAnyL_take (i := 5) (v := ?_) (some 125) rfl rfl (by kernel_rfl) (by kernel_rfl) (by kernel_rfl) (by kernel_rfl) (by kernel_rfl) (fun _ _ _ h => h) (Or.inl ⟨by rfl, ?_⟩) (by assumption) ?_
      rotate_left
      · intro wS hSw
        try dsimp only at hSw
        go_simp
        try with_reducible rfl
      try simp only [Act.put, List.setIfInBounds_toArray, List.set_cons_zero, List.set_cons_succ]
      refine wpAnyL_ready (rs := [1, 11]) (by kernel_rfl) (by simp) ?_
      refine AllReadyL.cons rfl (fun K hK => ?_) ?_
      · skip
        go_simp; go_at_call 9; refine (toTemplateE _ _ _ _ _ _ (hHeld.2.2.2.2.2.2.2.2.r 2 rfl :) HLP1.out).mono ?_; rintro e w26 ⟨a26, n26, c26, rfl, ho26, hb26⟩; have G26 := Lib.hid (OwnRels.at ho26); clear ho26
        have HSZ := Lib.hid (Nat.le_trans HSZ.out hb26.size)
        refine hK.out _ _ ?_ (fun hHeld => ?_)
        · exact ⟨below_cell hb26 hHeld.1, below_cell hb26 hHeld.2.1, below_cell hb26 hHeld.2.2.1, below_cell hb26 hHeld.2.2.2.1, below_cell hb26 hHeld.2.2.2.2.1, below_cell hb26 hHeld.2.2.2.2.2.1, below_cell hb26 hHeld.2.2.2.2.2.2.1, below_cell hb26 hHeld.2.2.2.2.2.2.2.1, hHeld.2.2.2.2.2.2.2.2.below hb26⟩
        clear hK K
        try simp only [Act.put, List.setIfInBounds_toArray, List.set_cons_zero, List.set_cons_succ]
        refine wpAnyL_ready (rs := [3, 11]) (by kernel_rfl) (by simp) ?_
        refine AllReadyL.cons rfl (fun K hK => ?_) ?_
        · skip
          go_simp; go_at_call 10; refine (toFormula _ _ _ _ _ _ _ (hHeld.2.2.2.2.2.2.2.2.r 3 rfl :) HLP2.out).mono ?_; rintro e w27 ⟨a27, n27, c27, rfl, ho27, hb27⟩; have G27 := Lib.hid (OwnOps.at ho27); clear ho27
          have G26 := Lib.hid (G26.out.below hb27)
          have HSZ := Lib.hid (Nat.le_trans HSZ.out hb27.size)
          refine hK.out _ _ ?_ (fun hHeld => ?_)
          · exact ⟨below_cell hb27 hHeld.1, below_cell hb27 hHeld.2.1, below_cell hb27 hHeld.2.2.1, below_cell hb27 hHeld.2.2.2.1, below_cell hb27 hHeld.2.2.2.2.1, below_cell hb27 hHeld.2.2.2.2.2.1, below_cell hb27 hHeld.2.2.2.2.2.2.1, below_cell hb27 hHeld.2.2.2.2.2.2.2.1, hHeld.2.2.2.2.2.2.2.2.below hb27⟩
          clear hK K
          try simp only [Act.put, List.setIfInBounds_toArray, List.set_cons_zero, List.set_cons_succ]
          refine wpAnyL_ready (rs := [6, 11]) (by kernel_rfl) (by simp) ?_
          refine AllReadyL.cons rfl (fun K hK => ?_) ?_
          · skip
            go_simp; go_at_call 10; refine (toFormula _ _ _ _ _ _ _ (hHeld.2.2.2.2.2.2.2.2.r 4 rfl :) HLP3.out).mono ?_; rintro e w28 ⟨a28, n28, c28, rfl, ho28, hb28⟩; have G28 := Lib.hid (OwnOps.at ho28); clear ho28
            have G26 := Lib.hid (G26.out.below hb28)
            have G27 := Lib.hid (G27.out.below hb28)
            have HSZ := Lib.hid (Nat.le_trans HSZ.out hb28.size)
            refine hK.out _ _ ?_ (fun hHeld => ?_)
            · exact ⟨below_cell hb28 hHeld.1, below_cell hb28 hHeld.2.1, below_cell hb28 hHeld.2.2.1, below_cell hb28 hHeld.2.2.2.1, below_cell hb28 hHeld.2.2.2.2.1, below_cell hb28 hHeld.2.2.2.2.2.1, below_cell hb28 hHeld.2.2.2.2.2.2.1, below_cell hb28 hHeld.2.2.2.2.2.2.2.1, hHeld.2.2.2.2.2.2.2.2.below hb28⟩
            clear hK K
            try simp only [Act.put, List.setIfInBounds_toArray, List.set_cons_zero, List.set_cons_succ]
            refine wpAnyL_ready (rs := [7, 11]) (by kernel_rfl) (by simp) ?_
            refine AllReadyL.last rfl (by kernel_rfl) (fun K hK => ?_) ?_
            · skip
              have KB := Lib.hid (hHeld.2.2.2.2.2.2.2.2)
              have HSB := Lib.hid HSZ.out
              go_simp; go_at_call 23; refine (implReplaceRel _ _ _ _ _ _ _ _ _ _ _ _ _ _ _ _ _ _ xR0 yR0 tR0 cd _ G26.out G27.out G28.out HI.out).mono ?_; rintro e w29 ⟨a29, n29, c29, rfl, ho29, hb29⟩
              have HSZ := Lib.hid (Nat.le_trans HSZ.out hb29.size)
              have KM := Lib.hid (KB.out.below hb29)
              refine hK.out _ _ ?_
              clear hK K
              try simp only [Act.put, List.setIfInBounds_toArray, List.set_cons_zero, List.set_cons_succ]
              refine wpAnyL_free (i := 8) (v := ?_) (some 119) rfl rfl (by kernel_rfl) (by kernel_rfl) (by kernel_rfl) (by decide) (fun _ _ _ h => h) (Or.inl ⟨by rfl, ?_⟩) (fun h0 => absurd h0 (by decide)) ?_
              rotate_left
              · intro wS
                go_simp
                try with_reducible rfl
              try simp only [Act.put, List.setIfInBounds_toArray, List.set_cons_zero, List.set_cons_succ]
              refine wpAnyL_free (i := 9) (v := ?_) (some 128) rfl rfl (by kernel_rfl) (by kernel_rfl) (by kernel_rfl) (by decide) (fun _ _ _ h => h) (Or.inl ⟨by rfl, ?_⟩) (fun h0 => absurd h0 (by decide)) ?_
              rotate_left
              · intro wS
                go_simp
                try with_reducible rfl
              try simp only [Act.put, List.setIfInBounds_toArray, List.set_cons_zero, List.set_cons_succ]
              refine wpAnyL_free (i := 10) (v := ?_) (some 129) rfl rfl (by kernel_rfl) (by kernel_rfl) (by kernel_rfl) (by decide) (fun _ _ _ h => h) (Or.inl ⟨by rfl, ?_⟩) (fun h0 => absurd h0 (by decide)) ?_
              rotate_left
              · intro wS
                go_simp
                try with_reducible rfl
              try simp only [Act.put, List.setIfInBounds_toArray, List.set_cons_zero, List.set_cons_succ]
              refine wpAnyL_ready (rs := [11]) (by kernel_rfl) (by simp) ?_
              refine AllReadyL.last rfl (by kernel_rfl) (fun K hK => ?_) AllReadyL.nil
              go_simp
              refine hK.out _ _ ?_
              clear hK K
              try simp only [Act.put, List.setIfInBounds_toArray, List.set_cons_zero, List.set_cons_succ]
              refine wpAnyL_ready (rs := [12]) (by kernel_rfl) (by simp) ?_
              refine AllReadyL.last rfl (by kernel_rfl) (fun K hK => ?_) AllReadyL.nil
              go_simp
              refine hK.out _ _ ?_
              clear hK K
              try simp only [Act.put, List.setIfInBounds_toArray, List.set_cons_zero, List.set_cons_succ]
              refine wpAnyL_free (i := 13) (v := ?_) (some 21) rfl rfl (by kernel_rfl) (by kernel_rfl) (by kernel_rfl) (by decide) (fun _ _ _ h => h) (Or.inl ⟨by rfl, ?_⟩) (fun h0 => absurd h0 (by decide)) ?_
              rotate_left
              · intro wS
                go_simp
                try with_reducible rfl
              try simp only [Act.put, List.setIfInBounds_toArray, List.set_cons_zero, List.set_cons_succ]
              refine wpAnyL_done (by kernel_rfl) ?_ _
              refine NoPanic.normal ?_
              go_wp2_with fail
              go_meet
              exact ⟨Made.late KM.out ho29 (sure_ops _ _ _) HSB.out hb29.size, rfl⟩
            refine AllReadyL.cons rfl (fun K hK => ?_) AllReadyL.nil
            have KX := Lib.hid (hHeld.2.2.2.2.2.2.2.2 : Kept w _ _ w28)
            have HBOX := Lib.hid (show Box _ _ w28.heap.size _ from Box.new 32 w28 #[.int .i64 0, .int .i64 0, .slice none 0 0])
            have HX := Lib.hid ((Below.refl w28.heap.size w28).alloc (Nat.le_refl _) (.cells #[.int .i64 0, .int .i64 0, .slice none 0 0] 32))
            have HSX := Lib.hid HSZ.out
            have HSZ := Lib.hid (Nat.le_trans HSZ.out HX.out.size)
            have G26 := Lib.hid (G26.out.below HX.out)
            have G27 := Lib.hid (G27.out.below HX.out)
            have G28 := Lib.hid (G28.out.below HX.out)
            go_simp
            refine hK.out _ _ ?_ (fun hHeld => ?_)
            · exact ⟨below_cell ((Below.refl _ _).alloc (Nat.le_refl _) _) hHeld.1, below_cell ((Below.refl _ _).alloc (Nat.le_refl _) _) hHeld.2.1, below_cell ((Below.refl _ _).alloc (Nat.le_refl _) _) hHeld.2.2.1, below_cell ((Below.refl _ _).alloc (Nat.le_refl _) _) hHeld.2.2.2.1, below_cell ((Below.refl _ _).alloc (Nat.le_refl _) _) hHeld.2.2.2.2.1, below_cell ((Below.refl _ _).alloc (Nat.le_refl _) _) hHeld.2.2.2.2.2.1, below_cell ((Below.refl _ _).alloc (Nat.le_refl _) _) hHeld.2.2.2.2.2.2.1, below_cell ((Below.refl _ _).alloc (Nat.le_refl _) _) hHeld.2.2.2.2.2.2.2.1, hHeld.2.2.2.2.2.2.2.2.below ((Below.refl _ _).alloc (Nat.le_refl _) _)⟩
            clear hK K
            try simp only [Act.put, List.setIfInBounds_toArray, List.set_cons_zero, List.set_cons_succ]
            refine wpAnyL_ready (rs := [7]) (by kernel_rfl) (by simp) ?_
            refine AllReadyL.last rfl (by kernel_rfl) (fun K hK => ?_) AllReadyL.nil
            have KB := Lib.hid (hHeld.2.2.2.2.2.2.2.2)
            have HSB := Lib.hid HSZ.out
            have HLT := Lib.hid HBOX.out.lt
            go_simp; go_at_call 23; refine (implReplaceRel _ _ _ _ _ _ _ _ _ _ _ _ _ _ _ _ _ _ xR0 yR0 tR0 cd _ G26.out G27.out G28.out HI.out).mono ?_; rintro e w29 ⟨a29, n29, c29, rfl, ho29, hb29⟩
            have HSZ := Lib.hid (Nat.le_trans HSZ.out hb29.size)
            have HX := Lib.hid (HX.out.trans (hb29.mono HX.out.size))
            have HBOX := Lib.hid (HBOX.out.below hb29)
            refine hK.out _ _ ?_
            clear hK K
            try simp only [Act.put, List.setIfInBounds_toArray, List.set_cons_zero, List.set_cons_succ]
            refine wpAnyL_free (i := 8) (v := ?_) (some 119) rfl rfl (by kernel_rfl) (by kernel_rfl) (by kernel_rfl) (by decide) (fun _ _ _ h => h) (Or.inl ⟨by rfl, ?_⟩) (fun h0 => absurd h0 (by decide)) ?_
            rotate_left
            · intro wS
              go_simp
              try with_reducible rfl
            try simp only [Act.put, List.setIfInBounds_toArray, List.set_cons_zero, List.set_cons_succ]
            refine wpAnyL_free (i := 9) (v := ?_) (some 128) rfl rfl (by kernel_rfl) (by kernel_rfl) (by kernel_rfl) (by decide) (fun _ _ _ h => h) (Or.inl ⟨by rfl, ?_⟩) (fun h0 => absurd h0 (by decide)) ?_
            rotate_left
            · intro wS
              go_simp
              try with_reducible rfl
            try simp only [Act.put, List.setIfInBounds_toArray, List.set_cons_zero, List.set_cons_succ]
            refine wpAnyL_free (i := 10) (v := ?_) (some 129) rfl rfl (by kernel_rfl) (by kernel_rfl) (by kernel_rfl) (by decide) (fun _ _ _ h => h) (Or.inl ⟨by rfl, ?_⟩) (fun h0 => absurd h0 (by decide)) ?_
            rotate_left
            · intro wS
              go_simp
              try with_reducible rfl
            try simp only [Act.put, List.setIfInBounds_toArray, List.set_cons_zero, List.set_cons_succ]
            refine wpAnyL_ready (rs := [12]) (by kernel_rfl) (by simp) ?_
            refine AllReadyL.last rfl (by kernel_rfl) (fun K hK => ?_) AllReadyL.nil
            have d0 := HBOX.out.c 0 rfl
            have d1 := HBOX.out.c 1 rfl
            have d2 := HBOX.out.c 2 rfl
            have f0 := HBOX.out.free 0
            have f1 := HBOX.out.free 1
            have f2 := HBOX.out.free 2
            go_simp
            refine hK.out _ _ ?_
            clear hK K
            try simp only [Act.put, List.setIfInBounds_toArray, List.set_cons_zero, List.set_cons_succ]
            refine wpAnyL_free (i := 13) (v := ?_) (some 21) rfl rfl (by kernel_rfl) (by kernel_rfl) (by kernel_rfl) (by decide) (fun _ _ _ h => h) (Or.inl ⟨by rfl, ?_⟩) (fun h0 => absurd h0 (by decide)) ?_
            rotate_left
            · intro wS
              go_simp
              try with_reducible rfl
            try simp only [Act.put, List.setIfInBounds_toArray, List.set_cons_zero, List.set_cons_succ]
            refine wpAnyL_done (by kernel_rfl) ?_ _
            refine NoPanic.normal ?_
            go_wp2_with fail
            go_meet
            exact ⟨Made.early3 (X := w28) KX.out HX.out HBOX.out ho29 (sure_ops _ _ _) HSX.out HLT.out, rfl⟩
          refine AllReadyL.cons rfl (fun K hK => ?_) AllReadyL.nil
          have KX := Lib.hid (hHeld.2.2.2.2.2.2.2.2 : Kept w _ _ w27)
          have HBOX := Lib.hid (show Box _ _ w27.heap.size _ from Box.new 32 w27 #[.int .i64 0, .int .i64 0, .slice none 0 0])
          have HX := Lib.hid ((Below.refl w27.heap.size w27).alloc (Nat.le_refl _) (.cells #[.int .i64 0, .int .i64 0, .slice none 0 0] 32))
          have HSX := Lib.hid HSZ.out
          have HSZ := Lib.hid (Nat.le_trans HSZ.out HX.out.size)
          have G26 := Lib.hid (G26.out.below HX.out)
          have G27 := Lib.hid (G27.out.below HX.out)
          go_simp
          refine hK.out _ _ ?_ (fun hHeld => ?_)
          · exact ⟨below_cell ((Below.refl _ _).alloc (Nat.le_refl _) _) hHeld.1, below_cell ((Below.refl _ _).alloc (Nat.le_refl _) _) hHeld.2.1, below_cell ((Below.refl _ _).alloc (Nat.le_refl _) _) hHeld.2.2.1, below_cell ((Below.refl _ _).alloc (Nat.le_refl _) _) hHeld.2.2.2.1, below_cell ((Below.refl _ _).alloc (Nat.le_refl _) _) hHeld.2.2.2.2.1, below_cell ((Below.refl _ _).alloc (Nat.le_refl _) _) hHeld.2.2.2.2.2.1, below_cell ((Below.refl _ _).alloc (Nat.le_refl _) _) hHeld.2.2.2.2.2.2.1, below_cell ((Below.refl _ _).alloc (Nat.le_refl _) _) hHeld.2.2.2.2.2.2.2.1, hHeld.2.2.2.2.2.2.2.2.below ((Below.refl _ _).alloc (Nat.le_refl _) _)⟩
          clear hK K
          try simp only [Act.put, List.setIfInBounds_toArray, List.set_cons_zero, List.set_cons_succ]
          refine wpAnyL_ready (rs := [6]) (by kernel_rfl) (by simp) ?_
          refine AllReadyL.cons rfl (fun K hK => ?_) AllReadyL.nil
          go_simp; go_at_call 10; refine (toFormula _ _ _ _ _ _ _ (hHeld.2.2.2.2.2.2.2.2.r 4 rfl :) HLP3.out).mono ?_; rintro e w28 ⟨a28, n28, c28, rfl, ho28, hb28⟩; have G28 := Lib.hid (OwnOps.at ho28); clear ho28
          have G26 := Lib.hid (G26.out.below hb28)
          have G27 := Lib.hid (G27.out.below hb28)
          have HSZ := Lib.hid (Nat.le_trans HSZ.out hb28.size)
          have HX := Lib.hid (HX.out.trans (hb28.mono HX.out.size))
          have HBOX := Lib.hid (HBOX.out.below hb28)
          refine hK.out _ _ ?_ (fun hHeld => ?_)
          · exact ⟨below_cell hb28 hHeld.1, below_cell hb28 hHeld.2.1, below_cell hb28 hHeld.2.2.1, below_cell hb28 hHeld.2.2.2.1, below_cell hb28 hHeld.2.2.2.2.1, below_cell hb28 hHeld.2.2.2.2.2.1, below_cell hb28 hHeld.2.2.2.2.2.2.1, below_cell hb28 hHeld.2.2.2.2.2.2.2.1, hHeld.2.2.2.2.2.2.2.2.below hb28⟩
          clear hK K
          try simp only [Act.put, List.setIfInBounds_toArray, List.set_cons_zero, List.set_cons_succ]
          refine wpAnyL_ready (rs := [7]) (by kernel_rfl) (by simp) ?_
          refine AllReadyL.last rfl (by kernel_rfl) (fun K hK => ?_) AllReadyL.nil
          have KB := Lib.hid (hHeld.2.2.2.2.2.2.2.2)
          have HSB := Lib.hid HSZ.out
          have HLT := Lib.hid HBOX.out.lt
          go_simp; go_at_call 23; refine (implReplaceRel _ _ _ _ _ _ _ _ _ _ _ _ _ _ _ _ _ _ xR0 yR0 tR0 cd _ G26.out G27.out G28.out HI.out).mono ?_; rintro e w29 ⟨a29, n29, c29, rfl, ho29, hb29⟩
          have HSZ := Lib.hid (Nat.le_trans HSZ.out hb29.size)
          have HX := Lib.hid (HX.out.trans (hb29.mono HX.out.size))
          have HBOX := Lib.hid (HBOX.out.below hb29)
          refine hK.out _ _ ?_
          clear hK K
          try simp only [Act.put, List.setIfInBounds_toArray, List.set_cons_zero, List.set_cons_succ]
          refine wpAnyL_free (i := 8) (v := ?_) (some 119) rfl rfl (by kernel_rfl) (by kernel_rfl) (by kernel_rfl) (by decide) (fun _ _ _ h => h) (Or.inl ⟨by rfl, ?_⟩) (fun h0 => absurd h0 (by decide)) ?_
          rotate_left
          · intro wS
            go_simp
            try with_reducible rfl
          try simp only [Act.put, List.setIfInBounds_toArray, List.set_cons_zero, List.set_cons_succ]
          refine wpAnyL_free (i := 9) (v := ?_) (some 128) rfl rfl (by kernel_rfl) (by kernel_rfl) (by kernel_rfl) (by decide) (fun _ _ _ h => h) (Or.inl ⟨by rfl, ?_⟩) (fun h0 => absurd h0 (by decide)) ?_
          rotate_left
          · intro wS
            go_simp
            try with_reducible rfl
          try simp only [Act.put, List.setIfInBounds_toArray, List.set_cons_zero, List.set_cons_succ]
          refine wpAnyL_free (i := 10) (v := ?_) (some 129) rfl rfl (by kernel_rfl) (by kernel_rfl) (by kernel_rfl) (by decide) (fun _ _ _ h => h) (Or.inl ⟨by rfl, ?_⟩) (fun h0 => absurd h0 (by decide)) ?_
          rotate_left
          · intro wS
            go_simp
            try with_reducible rfl
          try simp only [Act.put, List.setIfInBounds_toArray, List.set_cons_zero, List.set_cons_succ]
          refine wpAnyL_ready (rs := [12]) (by kernel_rfl) (by simp) ?_
          refine AllReadyL.last rfl (by kernel_rfl) (fun K hK => ?_) AllReadyL.nil
          have d0 := HBOX.out.c 0 rfl
          have d1 := HBOX.out.c 1 rfl
          have d2 := HBOX.out.c 2 rfl
          have f0 := HBOX.out.free 0
          have f1 := HBOX.out.free 1
          have f2 := HBOX.out.free 2
          go_simp
          refine hK.out _ _ ?_
          clear hK K
          try simp only [Act.put, List.setIfInBounds_toArray, List.set_cons_zero, List.set_cons_succ]
          refine wpAnyL_free (i := 13) (v := ?_) (some 21) rfl rfl (by kernel_rfl) (by kernel_rfl) (by kernel_rfl) (by decide) (fun _ _ _ h => h) (Or.inl ⟨by rfl, ?_⟩) (fun h0 => absurd h0 (by decide)) ?_
          rotate_left
          · intro wS
            go_simp
            try with_reducible rfl
          try simp only [Act.put, List.setIfInBounds_toArray, List.set_cons_zero, List.set_cons_succ]
          refine wpAnyL_done (by kernel_rfl) ?_ _
          refine NoPanic.normal ?_
          go_wp2_with fail
          go_meet
          exact ⟨Made.early3 (X := w27) KX.out HX.out HBOX.out ho29 (sure_ops _ _ _) HSX.out HLT.out, rfl⟩
        refine AllReadyL.cons rfl (fun K hK => ?_) AllReadyL.nil
        have KX := Lib.hid (hHeld.2.2.2.2.2.2.2.2 : Kept w _ _ w26)
        have HBOX := Lib.hid (show Box _ _ w26.heap.size _ from Box.new 32 w26 #[.int .i64 0, .int .i64 0, .slice none 0 0])
        have HX := Lib.hid ((Below.refl w26.heap.size w26).alloc (Nat.le_refl _) (.cells #[.int .i64 0, .int .i64 0, .slice none 0 0] 32))
        have HSX := Lib.hid HSZ.out
        have HSZ := Lib.hid (Nat.le_trans HSZ.out HX.out.size)
        have G26 := Lib.hid (G26.out.below HX.out)
        go_simp
        refine hK.out _ _ ?_ (fun hHeld => ?_)
        · exact ⟨below_cell ((Below.refl _ _).alloc (Nat.le_refl _) _) hHeld.1, below_cell ((Below.refl _ _).alloc (Nat.le_refl _) _) hHeld.2.1, below_cell ((Below.refl _ _).alloc (Nat.le_refl _) _) hHeld.2.2.1, below_cell ((Below.refl _ _).alloc (Nat.le_refl _) _) hHeld.2.2.2.1, below_cell ((Below.refl _ _).alloc (Nat.le_refl _) _) hHeld.2.2.2.2.1, below_cell ((Below.refl _ _).alloc (Nat.le_refl _) _) hHeld.2.2.2.2.2.1, below_cell ((Below.refl _ _).alloc (Nat.le_refl _) _) hHeld.2.2.2.2.2.2.1, below_cell ((Below.refl _ _).alloc (Nat.le_refl _) _) hHeld.2.2.2.2.2.2.2.1, hHeld.2.2.2.2.2.2.2.2.below ((Below.refl _ _).alloc (Nat.le_refl _) _)⟩
        clear hK K
        try simp only [Act.put, List.setIfInBounds_toArray, List.set_cons_zero, List.set_cons_succ]
        refine wpAnyL_ready (rs := [3]) (by kernel_rfl) (by simp) ?_
        refine AllReadyL.cons rfl (fun K hK => ?_) AllReadyL.nil
        go_simp; go_at_call 10; refine (toFormula _ _ _ _ _ _ _ (hHeld.2.2.2.2.2.2.2.2.r 3 rfl :) HLP2.out).mono ?_; rintro e w27 ⟨a27, n27, c27, rfl, ho27, hb27⟩; have G27 := Lib.hid (OwnOps.at ho27); clear ho27
        have G26 := Lib.hid (G26.out.below hb27)
        have HSZ := Lib.hid (Nat.le_trans HSZ.out hb27.size)
        have HX := Lib.hid (HX.out.trans (hb27.mono HX.out.size))
        have HBOX := Lib.hid (HBOX.out.below hb27)
        refine hK.out _ _ ?_ (fun hHeld => ?_)
        · exact ⟨below_cell hb27 hHeld.1, below_cell hb27 hHeld.2.1, below_cell hb27 hHeld.2.2.1, below_cell hb27 hHeld.2.2.2.1, below_cell hb27 hHeld.2.2.2.2.1, below_cell hb27 hHeld.2.2.2.2.2.1, below_cell hb27 hHeld.2.2.2.2.2.2.1, below_cell hb27 hHeld.2.2.2.2.2.2.2.1, hHeld.2.2.2.2.2.2.2.2.below hb27⟩
        clear hK K
        try simp only [Act.put, List.setIfInBounds_toArray, List.set_cons_zero, List.set_cons_succ]
        refine wpAnyL_ready (rs := [6]) (by kernel_rfl) (by simp) ?_
        refine AllReadyL.cons rfl (fun K hK => ?_) AllReadyL.nil
        go_simp; go_at_call 10; refine (toFormula _ _ _ _ _ _ _ (hHeld.2.2.2.2.2.2.2.2.r 4 rfl :) HLP3.out).mono ?_; rintro e w28 ⟨a28, n28, c28, rfl, ho28, hb28⟩; have G28 := Lib.hid (OwnOps.at ho28); clear ho28
        have G26 := Lib.hid (G26.out.below hb28)
        have G27 := Lib.hid (G27.out.below hb28)
        have HSZ := Lib.hid (Nat.le_trans HSZ.out hb28.size)
        have HX := Lib.hid (HX.out.trans (hb28.mono HX.out.size))
        have HBOX := Lib.hid (HBOX.out.below hb28)
        refine hK.out _ _ ?_ (fun hHeld => ?_)
        · exact ⟨below_cell hb28 hHeld.1, below_cell hb28 hHeld.2.1, below_cell hb28 hHeld.2.2.1, below_cell hb28 hHeld.2.2.2.1, below_cell hb28 hHeld.2.2.2.2.1, below_cell hb28 hHeld.2.2.2.2.2.1, below_cell hb28 hHeld.2.2.2.2.2.2.1, below_cell hb28 hHeld.2.2.2.2.2.2.2.1, hHeld.2.2.2.2.2.2.2.2.below hb28⟩
        clear hK K
        try simp only [Act.put, List.setIfInBounds_toArray, List.set_cons_zero, List.set_cons_succ]
        refine wpAnyL_ready (rs := [7]) (by kernel_rfl) (by simp) ?_
        refine AllReadyL.last rfl (by kernel_rfl) (fun K hK => ?_) AllReadyL.nil
        have KB := Lib.hid (hHeld.2.2.2.2.2.2.2.2)
        have HSB := Lib.hid HSZ.out
        have HLT := Lib.hid HBOX.out.lt
        go_simp; go_at_call 23; refine (implReplaceRel _ _ _ _ _ _ _ _ _ _ _ _ _ _ _ _ _ _ xR0 yR0 tR0 cd _ G26.out G27.out G28.out HI.out).mono ?_; rintro e w29 ⟨a29, n29, c29, rfl, ho29, hb29⟩
        have HSZ := Lib.hid (Nat.le_trans HSZ.out hb29.size)
        have HX := Lib.hid (HX.out.trans (hb29.mono HX.out.size))
        have HBOX := Lib.hid (HBOX.out.below hb29)
        refine hK.out _ _ ?_
        clear hK K
        try simp only [Act.put, List.setIfInBounds_toArray, List.set_cons_zero, List.set_cons_succ]
        refine wpAnyL_free (i := 8) (v := ?_) (some 119) rfl rfl (by kernel_rfl) (by kernel_rfl) (by kernel_rfl) (by decide) (fun _ _ _ h => h) (Or.inl ⟨by rfl, ?_⟩) (fun h0 => absurd h0 (by decide)) ?_
        rotate_left
        · intro wS
          go_simp
          try with_reducible rfl
        try simp only [Act.put, List.setIfInBounds_toArray, List.set_cons_zero, List.set_cons_succ]
        refine wpAnyL_free (i := 9) (v := ?_) (some 128) rfl rfl (by kernel_rfl) (by kernel_rfl) (by kernel_rfl) (by decide) (fun _ _ _ h => h) (Or.inl ⟨by rfl, ?_⟩) (fun h0 => absurd h0 (by decide)) ?_
        rotate_left
        · intro wS
          go_simp
          try with_reducible rfl
        try simp only [Act.put, List.setIfInBounds_toArray, List.set_cons_zero, List.set_cons_succ]
        refine wpAnyL_free (i := 10) (v := ?_) (some 129) rfl rfl (by kernel_rfl) (by kernel_rfl) (by kernel_rfl) (by decide) (fun _ _ _ h => h) (Or.inl ⟨by rfl, ?_⟩) (fun h0 => absurd h0 (by decide)) ?_
        rotate_left
        · intro wS
          go_simp
          try with_reducible rfl
        try simp only [Act.put, List.setIfInBounds_toArray, List.set_cons_zero, List.set_cons_succ]
        refine wpAnyL_ready (rs := [12]) (by kernel_rfl) (by simp) ?_
        refine AllReadyL.last rfl (by kernel_rfl) (fun K hK => ?_) AllReadyL.nil
        have d0 := HBOX.out.c 0 rfl
        have d1 := HBOX.out.c 1 rfl
        have d2 := HBOX.out.c 2 rfl
        have f0 := HBOX.out.free 0
        have f1 := HBOX.out.free 1
        have f2 := HBOX.out.free 2
        go_simp
        refine hK.out _ _ ?_
        clear hK K
        try simp only [Act.put, List.setIfInBounds_toArray, List.set_cons_zero, List.set_cons_succ]
        refine wpAnyL_free (i := 13) (v := ?_) (some 21) rfl rfl (by kernel_rfl) (by kernel_rfl) (by kernel_rfl) (by decide) (fun _ _ _ h => h) (Or.inl ⟨by rfl, ?_⟩) (fun h0 => absurd h0 (by decide)) ?_
        rotate_left
        · intro wS
          go_simp
          try with_reducible rfl
        try simp only [Act.put, List.setIfInBounds_toArray, List.set_cons_zero, List.set_cons_succ]
        refine wpAnyL_done (by kernel_rfl) ?_ _
        refine NoPanic.normal ?_
        go_wp2_with fail
        go_meet
        exact ⟨Made.early3 (X := w26) KX.out HX.out HBOX.out ho29 (sure_ops _ _ _) HSX.out HLT.out, rfl⟩
      refine AllReadyL.cons rfl (fun K hK => ?_) AllReadyL.nil
      have KX := Lib.hid (hHeld.2.2.2.2.2.2.2.2 : Kept w _ _ w25.drew)
      have HBOX := Lib.hid (show Box _ _ w25.heap.size _ from Box.new 32 w25.drew #[.int .i64 0, .int .i64 0, .slice none 0 0])
      have HX := Lib.hid ((Below.refl w25.drew.heap.size w25.drew).alloc (Nat.le_refl _) (.cells #[.int .i64 0, .int .i64 0, .slice none 0 0] 32))
      have HSX := Lib.hid HSZ.out
      have HSZ := Lib.hid (Nat.le_trans HSZ.out HX.out.size)
      go_simp
      refine hK.out _ _ ?_ (fun hHeld => ?_)
      · exact ⟨below_cell ((Below.refl _ _).alloc (Nat.le_refl _) _) hHeld.1, below_cell ((Below.refl _ _).alloc (Nat.le_refl _) _) hHeld.2.1, below_cell ((Below.refl _ _).alloc (Nat.le_refl _) _) hHeld.2.2.1, below_cell ((Below.refl _ _).alloc (Nat.le_refl _) _) hHeld.2.2.2.1, below_cell ((Below.refl _ _).alloc (Nat.le_refl _) _) hHeld.2.2.2.2.1, below_cell ((Below.refl _ _).alloc (Nat.le_refl _) _) hHeld.2.2.2.2.2.1, below_cell ((Below.refl _ _).alloc (Nat.le_refl _) _) hHeld.2.2.2.2.2.2.1, below_cell ((Below.refl _ _).alloc (Nat.le_refl _) _) hHeld.2.2.2.2.2.2.2.1, hHeld.2.2.2.2.2.2.2.2.below ((Below.refl _ _).alloc (Nat.le_refl _) _)⟩
      clear hK K
      try simp only [Act.put, List.setIfInBounds_toArray, List.set_cons_zero, List.set_cons_succ]
      refine wpAnyL_ready (rs := [1]) (by kernel_rfl) (by simp) ?_
      refine AllReadyL.cons rfl (fun K hK => ?_) AllReadyL.nil
      go_simp; go_at_call 9; refine (toTemplateE _ _ _ _ _ _ (hHeld.2.2.2.2.2.2.2.2.r 2 rfl :) HLP1.out).mono ?_; rintro e w26 ⟨a26, n26, c26, rfl, ho26, hb26⟩; have G26 := Lib.hid (OwnRels.at ho26); clear ho26
      have HSZ := Lib.hid (Nat.le_trans HSZ.out hb26.size)
      have HX := Lib.hid (HX.out.trans (hb26.mono HX.out.size))
      have HBOX := Lib.hid (HBOX.out.below hb26)
      refine hK.out _ _ ?_ (fun hHeld => ?_)
      · exact ⟨below_cell hb26 hHeld.1, below_cell hb26 hHeld.2.1, below_cell hb26 hHeld.2.2.1, below_cell hb26 hHeld.2.2.2.1, below_cell hb26 hHeld.2.2.2.2.1, below_cell hb26 hHeld.2.2.2.2.2.1, below_cell hb26 hHeld.2.2.2.2.2.2.1, below_cell hb26 hHeld.2.2.2.2.2.2.2.1, hHeld.2.2.2.2.2.2.2.2.below hb26⟩
      clear hK K
      try simp only [Act.put, List.setIfInBounds_toArray, List.set_cons_zero, List.set_cons_succ]
      refine wpAnyL_ready (rs := [3]) (by kernel_rfl) (by simp) ?_
      refine AllReadyL.cons rfl (fun K hK => ?_) AllReadyL.nil
      go_simp; go_at_call 10; refine (toFormula _ _ _ _ _ _ _ (hHeld.2.2.2.2.2.2.2.2.r 3 rfl :) HLP2.out).mono ?_; rintro e w27 ⟨a27, n27, c27, rfl, ho27, hb27⟩; have G27 := Lib.hid (OwnOps.at ho27); clear ho27
      have G26 := Lib.hid (G26.out.below hb27)
      have HSZ := Lib.hid (Nat.le_trans HSZ.out hb27.size)
      have HX := Lib.hid (HX.out.trans (hb27.mono HX.out.size))
      have HBOX := Lib.hid (HBOX.out.below hb27)
      refine hK.out _ _ ?_ (fun hHeld => ?_)
      · exact ⟨below_cell hb27 hHeld.1, below_cell hb27 hHeld.2.1, below_cell hb27 hHeld.2.2.1, below_cell hb27 hHeld.2.2.2.1, below_cell hb27 hHeld.2.2.2.2.1, below_cell hb27 hHeld.2.2.2.2.2.1, below_cell hb27 hHeld.2.2.2.2.2.2.1, below_cell hb27 hHeld.2.2.2.2.2.2.2.1, hHeld.2.2.2.2.2.2.2.2.below hb27⟩
      clear hK K
      try simp only [Act.put, List.setIfInBounds_toArray, List.set_cons_zero, List.set_cons_succ]
      refine wpAnyL_ready (rs := [6]) (by kernel_rfl) (by simp) ?_
      refine AllReadyL.cons rfl (fun K hK => ?_) AllReadyL.nil
      go_simp; go_at_call 10; refine (toFormula _ _ _ _ _ _ _ (hHeld.2.2.2.2.2.2.2.2.r 4 rfl :) HLP3.out).mono ?_; rintro e w28 ⟨a28, n28, c28, rfl, ho28, hb28⟩; have G28 := Lib.hid (OwnOps.at ho28); clear ho28
      have G26 := Lib.hid (G26.out.below hb28)
      have G27 := Lib.hid (G27.out.below hb28)
      have HSZ := Lib.hid (Nat.le_trans HSZ.out hb28.size)
      have HX := Lib.hid (HX.out.trans (hb28.mono HX.out.size))
      have HBOX := Lib.hid (HBOX.out.below hb28)
      refine hK.out _ _ ?_ (fun hHeld => ?_)
      · exact ⟨below_cell hb28 hHeld.1, below_cell hb28 hHeld.2.1, below_cell hb28 hHeld.2.2.1, below_cell hb28 hHeld.2.2.2.1, below_cell hb28 hHeld.2.2.2.2.1, below_cell hb28 hHeld.2.2.2.2.2.1, below_cell hb28 hHeld.2.2.2.2.2.2.1, below_cell hb28 hHeld.2.2.2.2.2.2.2.1, hHeld.2.2.2.2.2.2.2.2.below hb28⟩
      clear hK K
      try simp only [Act.put, List.setIfInBounds_toArray, List.set_cons_zero, List.set_cons_succ]
      refine wpAnyL_ready (rs := [7]) (by kernel_rfl) (by simp) ?_
      refine AllReadyL.last rfl (by kernel_rfl) (fun K hK => ?_) AllReadyL.nil
      have KB := Lib.hid (hHeld.2.2.2.2.2.2.2.2)
      have HSB := Lib.hid HSZ.out
      have HLT := Lib.hid HBOX.out.lt
      go_simp; go_at_call 23; refine (implReplaceRel _ _ _ _ _ _ _ _ _ _ _ _ _ _ _ _ _ _ xR0 yR0 tR0 cd _ G26.out G27.out G28.out HI.out).mono ?_; rintro e w29 ⟨a29, n29, c29, rfl, ho29, hb29⟩
      have HSZ := Lib.hid (Nat.le_trans HSZ.out hb29.size)
      have HX := Lib.hid (HX.out.trans (hb29.mono HX.out.size))
      have HBOX := Lib.hid (HBOX.out.below hb29)
      refine hK.out _ _ ?_
      clear hK K
      try simp only [Act.put, List.setIfInBounds_toArray, List.set_cons_zero, List.set_cons_succ]
      refine wpAnyL_free (i := 8) (v := ?_) (some 119) rfl rfl (by kernel_rfl) (by kernel_rfl) (by kernel_rfl) (by decide) (fun _ _ _ h => h) (Or.inl ⟨by rfl, ?_⟩) (fun h0 => absurd h0 (by decide)) ?_
      rotate_left
      · intro wS
        go_simp
        try with_reducible rfl
      try simp only [Act.put, List.setIfInBounds_toArray, List.set_cons_zero, List.set_cons_succ]
      refine wpAnyL_free (i := 9) (v := ?_) (some 128) rfl rfl (by kernel_rfl) (by kernel_rfl) (by kernel_rfl) (by decide) (fun _ _ _ h => h) (Or.inl ⟨by rfl, ?_⟩) (fun h0 => absurd h0 (by decide)) ?_
      rotate_left
      · intro wS
        go_simp
        try with_reducible rfl
      try simp only [Act.put, List.setIfInBounds_toArray, List.set_cons_zero, List.set_cons_succ]
      refine wpAnyL_free (i := 10) (v := ?_) (some 129) rfl rfl (by kernel_rfl) (by kernel_rfl) (by kernel_rfl) (by decide) (fun _ _ _ h => h) (Or.inl ⟨by rfl, ?_⟩) (fun h0 => absurd h0 (by decide)) ?_
      rotate_left
      · intro wS
        go_simp
        try with_reducible rfl
      try simp only [Act.put, List.setIfInBounds_toArray, List.set_cons_zero, List.set_cons_succ]
      refine wpAnyL_ready (rs := [12]) (by kernel_rfl) (by simp) ?_
      refine AllReadyL.last rfl (by kernel_rfl) (fun K hK => ?_) AllReadyL.nil
      have d0 := HBOX.out.c 0 rfl
      have d1 := HBOX.out.c 1 rfl
      have d2 := HBOX.out.c 2 rfl
      have f0 := HBOX.out.free 0
      have f1 := HBOX.out.free 1
      have f2 := HBOX.out.free 2
      go_simp
      refine hK.out _ _ ?_
      clear hK K
      try simp only [Act.put, List.setIfInBounds_toArray, List.set_cons_zero, List.set_cons_succ]
      refine wpAnyL_free (i := 13) (v := ?_) (some 21) rfl rfl (by kernel_rfl) (by kernel_rfl) (by kernel_rfl) (by decide) (fun _ _ _ h => h) (Or.inl ⟨by rfl, ?_⟩) (fun h0 => absurd h0 (by decide)) ?_
      rotate_left
      · intro wS
        go_simp
        try with_reducible rfl
      try simp only [Act.put, List.setIfInBounds_toArray, List.set_cons_zero, List.set_cons_succ]
      refine wpAnyL_done (by kernel_rfl) ?_ _
      refine NoPanic.normal ?_
      go_wp2_with fail
      go_meet
      exact ⟨Made.early3 (X := w25.drew) KX.out HX.out HBOX.out ho29 (sure_ops _ _ _) HSX.out HLT.out, rfl⟩
    case rest =>
      obtain ⟨⟨bk29, f29, e29, a29, n29, c29, rfl, hk29, hx29, ho29, l1, l2, l3, l4⟩, rfl⟩ := hcut
      obtain ⟨w29, hw29⟩ : ∃ y, y = wc := ⟨_, rfl⟩
      subst hw29
      have HY29 : Hid (w25.heap.size ≤ bk29 ∧ bk29 < w29.heap.size ∧ w25.heap.size ≤ f29 ∧ (bk29 < f29 ∨ e29 ≤ bk29) ∧ e29 ≤ w29.heap.size ∧ w.heap.size + 3 ≤ w25.heap.size) := Lib.hid ⟨l1, hx29.lt, l2, l3, l4, cell_block_lt (K25.out.c 14 rfl)⟩
      have K29 := Lib.hid ((((hk29.read (lives_ownOps _ _ _ _ _) ho29).cell (hx29.c 2 rfl)).cell (hx29.c 1 rfl)).cell (hx29.c 0 rfl))
      clear hk29 hx29 ho29 l1 l2 l3 l4
      clear cd42 cd43 cd44 cd45 cd46 cd47 cd48 cd49
      have cd50 := K29.out.c 0 rfl
      have cd51 := K29.out.c 1 rfl
      have cd52 := K29.out.c 2 rfl
      have cd53 := K29.out.c 14 rfl
      have cd54 := K29.out.c 15 rfl
      have cd55 := K29.out.c 16 rfl
      go_wp2_with fail
      refine (eqFormula' _ _ _ _ _ _ _ _ _ _ _ _ true _ (OwnOps.at (K29.out.r 0 rfl :)) (OwnOps.at (K29.out.r 2 rfl :)) (eqF_same _ _ _)).mono ?_
      rintro e w30 ⟨rfl, hb30⟩
      have K30 := Lib.hid (K29.out.below hb30)
      clear cd50 cd51 cd52 cd53 cd54 cd55
      clear hb30
      have cd56 := K30.out.c 3 rfl
      have cd57 := K30.out.c 4 rfl
      have cd58 := K30.out.c 5 rfl
      go_wp2_with fail
      refine (heldFormula _ _ _ _ _ _ _ _ (OwnOps.at (K30.out.r 1 rfl :)) (by omega) (by have := HS.out; omega)).mono ?_
      rintro e w31 ⟨rfl, hb31⟩
      have K31 := Lib.hid (K30.out.below hb31)
      clear cd56 cd57 cd58
      clear hb31
      go_wp2
      go_ret
      exact ⟨rfl, K31.out.bel⟩

end Go.Proofs.Ytnbgpeoceejolab
