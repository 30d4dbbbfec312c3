/-
  FnExactHideVariable: the walk over the law.
-/
import Derived.Test.YtpibigdfepgfnaaHideF
import Derived.Test.YtpibigdfepgfnaaMarkF
import Derived.Test.YtpibigdfepgfnaaMarkT
import Derived.Test.YtpibigdfepgfnaaGBase
import Derived.Test.YtpibigdfepgfnaaReg
import Derived.Test.YtpibigdfepgfnaaKept3
import Derived.Test.YtpibigdfepgfnaaStab2
import Derived.Test.YtpibigdfepgfnaaMade
import Derived.Deep.CutRange
import Derived.Deep.RegionHeld3
namespace Go.Proofs.Ytpibigdfepgfnaa
open Go.RowKit

set_option linter.unusedSimpArgs false in
set_option maxHeartbeats 4000000 in
set_option maxRecDepth 100000 in
theorem lawHideVariable (xP1 : Int) (aP1 : Option Addr) (nP1 cP1 : Nat) (tP1 : List (Int × List (List Int))) (xP2 : Int) (yP2 : Int) (aP2 : Option Addr) (nP2 cP2 : Nat) (tP2 : List (Int × List Int)) (var : Int) (w : World) (hP1 : RelsAt w (.slice aP1 nP1 cP1) tP1) (hP2 : OpsAt w (.slice aP2 nP2 cP2) tP2) :
    Calls Try.prog 6 #[.agg #[.int .i64 xP1, .slice aP1 nP1 cP1], .agg #[.int .i64 xP2, .int .i64 yP2, .slice aP2 nP2 cP2], .int .i64 var] w fun e w' => e = .returned (.bool true) ∧ Below w.heap.size w w' := by
  have HAP1 := Lib.hid (stab_rels hP1)
  have HAP2 := Lib.hid (stab_ops hP2)
  have K0 := Lib.hid (((((Kept.start w).read (lives_rels _ _) hP1).read (lives_ops _ _) hP2).box (w.heap.size) rfl (.int .i64 xP1) (.slice aP1 nP1 cP1) 40).box3 (w.heap.size + 1) (by simp) (.int .i64 xP2) (.int .i64 yP2) (.slice aP2 nP2 cP2) 43)
  clear hP1 hP2
  by_cases hzP1 : (1048576 : Int) < relsSize tP1
  · have HF := Lib.hid (szF_no hzP1)
    clear hzP1
    go_enter Try.func6, Try.ntmps6
    go_wp2_with fail
    refine (szTemplate _ _ _ _ _ _ _ (K0.out.r 1 rfl :) (by omega) (by omega)).mono ?_
    rw [HF.out]
    rintro e w1 ⟨rfl, hb1⟩
    have KE := Lib.hid (K0.out.below hb1).bel
    clear hb1
    go_wp2
    go_ret
    exact ⟨rfl, KE.out⟩
  have HF1 := Lib.hid (szF_yes (t := relsSize tP1) (l := 1048576) (by omega))
  have hp1 : ¬ (1048576 - (relsSize tP1 : Int) < 0) := by omega
  have hp1' : (1048576 - (relsSize tP1 : Int)) ≤ 1048576 := by omega
  by_cases hzP2 : (1048576 - (relsSize tP1 : Int) : Int) < opsSize tP2
  · have HF := Lib.hid (szF_no hzP2)
    clear hzP2
    go_enter Try.func6, Try.ntmps6
    go_wp2_with fail
    refine (szTemplate _ _ _ _ _ _ _ (K0.out.r 1 rfl :) (by omega) (by omega)).mono ?_
    rw [HF1.out]
    rintro e w1 ⟨rfl, hb1⟩
    have K1 := Lib.hid (K0.out.below hb1)
    clear hb1
    have cc0 := K1.out.c 0 rfl
    have cc1 := K1.out.c 1 rfl
    have cc2 := K1.out.c 2 rfl
    have cc3 := K1.out.c 3 rfl
    have cc4 := K1.out.c 4 rfl
    go_wp2_with fail
    refine (szFormula _ _ _ _ _ _ _ _ (K1.out.r 0 rfl :) (by omega) (by omega)).mono ?_
    rw [HF.out]
    rintro e w2 ⟨rfl, hb2⟩
    have KE := Lib.hid (K1.out.below hb2).bel
    clear hb2
    go_wp2
    go_ret
    exact ⟨rfl, KE.out⟩
  have HF2 := Lib.hid (szF_yes (t := opsSize tP2) (l := 1048576 - (relsSize tP1 : Int)) (by omega))
  have hp2 : ¬ (1048576 - (relsSize tP1 : Int) - (opsSize tP2 : Int) < 0) := by omega
  have hp2' : (1048576 - (relsSize tP1 : Int) - (opsSize tP2 : Int)) ≤ 1048576 := by omega
  have HLP1 : Hid (relsSize tP1 ≤ 1048576) := by
    show _ ≤ _
    omega
  have HLP2 : Hid (opsSize tP2 ≤ 1048576) := by
    show _ ≤ _
    omega
  obtain ⟨xR0, yR0, tR0, cd, hi⟩ := HideVariableIs.exists xP1 tP1 xP2 yP2 tP2 var
  have HI := Lib.hid hi
  have HS := Lib.hid hi.small
  clear hi hzP1 hzP2
  go_enter Try.func6, Try.ntmps6
  go_wp2_with fail
  refine (szTemplate _ _ _ _ _ _ _ (K0.out.r 1 rfl :) (by omega) (by omega)).mono ?_
  rw [HF1.out]
  rintro e w1 ⟨rfl, hb1⟩
  have K1 := Lib.hid (K0.out.below hb1)
  clear hb1
  have cc0 := K1.out.c 0 rfl
  have cc1 := K1.out.c 1 rfl
  have cc2 := K1.out.c 2 rfl
  have cc3 := K1.out.c 3 rfl
  have cc4 := K1.out.c 4 rfl
  go_wp2_with fail
  refine (szFormula _ _ _ _ _ _ _ _ (K1.out.r 0 rfl :) (by omega) (by omega)).mono ?_
  rw [HF2.out]
  rintro e w2 ⟨rfl, hb2⟩
  have K2 := Lib.hid (K1.out.below hb2)
  clear hb2 cc0 cc1 cc2 cc3 cc4
  have cc0 := K2.out.c 0 rfl
  have cc1 := K2.out.c 1 rfl
  have cc2 := K2.out.c 2 rfl
  have cc3 := K2.out.c 3 rfl
  have cc4 := K2.out.c 4 rfl
  go_wp2_with fail
  -- the model's answer
  go_cut [8, 9] from 19 (fun v0 v1 wz => Made 48 w [(⟨w.heap.size + 1, 0, none⟩, .int .i64 xP2), (⟨w.heap.size + 1, 1, none⟩, .int .i64 yP2), (⟨w.heap.size + 1, 2, none⟩, .slice aP2 nP2 cP2), (⟨w.heap.size, 0, none⟩, .int .i64 xP1), (⟨w.heap.size, 1, none⟩, .slice aP1 nP1 cP1)] [fun w => OpsAt w (.slice aP2 nP2 cP2) tP2, fun w => RelsAt w (.slice aP1 nP1 cP1) tP1] w2.heap.size (fun v w B E => (OwnOps 112) w B E v tR0) (fun v => #[.int .i64 xR0, .int .i64 yR0, v]) v0 wz ∧ v1 = .int .i64 cd)
  case first =>
    have HSZ : Hid (w2.heap.size ≤ w2.drew.heap.size) := Lib.hid (Nat.le_refl _)
    refine wp_region_noPanic ?_
    refine wp_region_late (S := (fun w' => w'.cell? ⟨w.heap.size, 0, none⟩ = some (.int .i64 xP1) ∧ w'.cell? ⟨w.heap.size, 1, none⟩ = some (.slice aP1 nP1 cP1) ∧ w'.cell? ⟨w.heap.size + 1, 0, none⟩ = some (.int .i64 xP2) ∧ w'.cell? ⟨w.heap.size + 1, 1, none⟩ = some (.int .i64 yP2) ∧ w'.cell? ⟨w.heap.size + 1, 2, none⟩ = some (.slice aP2 nP2 cP2) ∧ Kept w [(⟨w.heap.size + 1, 0, none⟩, .int .i64 xP2), (⟨w.heap.size + 1, 1, none⟩, .int .i64 yP2), (⟨w.heap.size + 1, 2, none⟩, .slice aP2 nP2 cP2), (⟨w.heap.size, 0, none⟩, .int .i64 xP1), (⟨w.heap.size, 1, none⟩, .slice aP1 nP1 cP1)] [fun w => OpsAt w (.slice aP2 nP2 cP2) tP2, fun w => RelsAt w (.slice aP1 nP1 cP1) tP1] w')) [5, 10] (by kernel_rfl) ?_ (fun hHeld => ?_)
    · exact ⟨K2.out.drew.c 3 rfl, K2.out.drew.c 4 rfl, K2.out.drew.c 0 rfl, K2.out.drew.c 1 rfl, K2.out.drew.c 2 rfl, K2.out.drew⟩
    refine wpAnyL_take (i := 0) (v := ?_) (some 30) rfl rfl (by kernel_rfl) (by kernel_rfl) (by kernel_rfl) (by kernel_rfl) (by kernel_rfl) (fun _ _ _ h => h) (Or.inl ⟨by rfl, ?_⟩) (by assumption) ?_
    rotate_left
    · intro wS hSw
      try dsimp only at hSw
      go_simp
      try with_reducible rfl
    try simp only [Act.put, List.setIfInBounds_toArray, List.set_cons_zero, List.set_cons_succ]
    refine wpAnyL_take (i := 2) (v := ?_) (some 32) rfl rfl (by kernel_rfl) (by kernel_rfl) (by kernel_rfl) (by kernel_rfl) (by kernel_rfl) (fun _ _ _ h => h) (Or.inl ⟨by rfl, ?_⟩) (by assumption) ?_
    rotate_left
    · intro wS hSw
      try dsimp only at hSw
      go_simp
      try with_reducible rfl
    try simp only [Act.put, List.setIfInBounds_toArray, List.set_cons_zero, List.set_cons_succ]
    refine wpAnyL_free (i := 4) (v := ?_) (some 34) rfl rfl (by kernel_rfl) (by kernel_rfl) (by kernel_rfl) (by decide) (fun _ _ _ h => h) (Or.inl ⟨by rfl, ?_⟩) (fun h0 => by assumption) ?_
    rotate_left
    · intro wS
      go_simp
      try with_reducible rfl
    try simp only [Act.put, List.setIfInBounds_toArray, List.set_cons_zero, List.set_cons_succ]
    refine wpAnyL_ready (rs := [1, 9]) (by kernel_rfl) (by simp) ?_
    refine AllReadyL.cons rfl (fun K hK => ?_) ?_
    · skip
      go_simp; go_at_call 21; refine (toTemplateE _ _ _ _ _ _ (hHeld.2.2.2.2.2.r 1 rfl :) HLP1.out).mono ?_; rintro e w3 ⟨a3, n3, c3, rfl, ho3, hb3⟩; have G3 := Lib.hid (OwnRels.at ho3); clear ho3
      have HSZ := Lib.hid (Nat.le_trans HSZ.out hb3.size)
      refine hK.out _ _ ?_ (fun hHeld => ?_)
      · exact ⟨below_cell hb3 hHeld.1, below_cell hb3 hHeld.2.1, below_cell hb3 hHeld.2.2.1, below_cell hb3 hHeld.2.2.2.1, below_cell hb3 hHeld.2.2.2.2.1, hHeld.2.2.2.2.2.below hb3⟩
      clear hK K
      try simp only [Act.put, List.setIfInBounds_toArray, List.set_cons_zero, List.set_cons_succ]
      refine wpAnyL_ready (rs := [3, 9]) (by kernel_rfl) (by simp) ?_
      refine AllReadyL.cons rfl (fun K hK => ?_) ?_
      · skip
        go_simp; go_at_call 22; refine (toFormula _ _ _ _ _ _ _ (hHeld.2.2.2.2.2.r 0 rfl :) HLP2.out).mono ?_; rintro e w4 ⟨a4, n4, c4, rfl, ho4, hb4⟩; have G4 := Lib.hid (OwnOps.at ho4); clear ho4
        have G3 := Lib.hid (G3.out.below hb4)
        have HSZ := Lib.hid (Nat.le_trans HSZ.out hb4.size)
        refine hK.out _ _ ?_ (fun hHeld => ?_)
        · exact ⟨below_cell hb4 hHeld.1, below_cell hb4 hHeld.2.1, below_cell hb4 hHeld.2.2.1, below_cell hb4 hHeld.2.2.2.1, below_cell hb4 hHeld.2.2.2.2.1, hHeld.2.2.2.2.2.below hb4⟩
        clear hK K
        try simp only [Act.put, List.setIfInBounds_toArray, List.set_cons_zero, List.set_cons_succ]
        refine wpAnyL_ready (rs := [5, 9]) (by kernel_rfl) (by simp) ?_
        refine AllReadyL.last rfl (by kernel_rfl) (fun K hK => ?_) ?_
        · skip
          have KB := Lib.hid (hHeld.2.2.2.2.2)
          have HSB := Lib.hid HSZ.out
          go_simp; go_at_call 30; refine (specHideVariable _ _ _ _ _ _ _ _ _ _ _ _ xR0 yR0 tR0 cd _ G3.out G4.out HI.out).mono ?_; rintro e w5 ⟨a5, n5, c5, rfl, ho5, hb5⟩
          have HSZ := Lib.hid (Nat.le_trans HSZ.out hb5.size)
          have KM := Lib.hid (KB.out.below hb5)
          refine hK.out _ _ ?_
          clear hK K
          try simp only [Act.put, List.setIfInBounds_toArray, List.set_cons_zero, List.set_cons_succ]
          refine wpAnyL_free (i := 6) (v := ?_) (some 29) rfl rfl (by kernel_rfl) (by kernel_rfl) (by kernel_rfl) (by decide) (fun _ _ _ h => h) (Or.inl ⟨by rfl, ?_⟩) (fun h0 => absurd h0 (by decide)) ?_
          rotate_left
          · intro wS
            go_simp
            try with_reducible rfl
          try simp only [Act.put, List.setIfInBounds_toArray, List.set_cons_zero, List.set_cons_succ]
          refine wpAnyL_free (i := 7) (v := ?_) (some 36) rfl rfl (by kernel_rfl) (by kernel_rfl) (by kernel_rfl) (by decide) (fun _ _ _ h => h) (Or.inl ⟨by rfl, ?_⟩) (fun h0 => absurd h0 (by decide)) ?_
          rotate_left
          · intro wS
            go_simp
            try with_reducible rfl
          try simp only [Act.put, List.setIfInBounds_toArray, List.set_cons_zero, List.set_cons_succ]
          refine wpAnyL_free (i := 8) (v := ?_) (some 37) rfl rfl (by kernel_rfl) (by kernel_rfl) (by kernel_rfl) (by decide) (fun _ _ _ h => h) (Or.inl ⟨by rfl, ?_⟩) (fun h0 => absurd h0 (by decide)) ?_
          rotate_left
          · intro wS
            go_simp
            try with_reducible rfl
          try simp only [Act.put, List.setIfInBounds_toArray, List.set_cons_zero, List.set_cons_succ]
          refine wpAnyL_ready (rs := [9]) (by kernel_rfl) (by simp) ?_
          refine AllReadyL.last rfl (by kernel_rfl) (fun K hK => ?_) AllReadyL.nil
          go_simp
          refine hK.out _ _ ?_
          clear hK K
          try simp only [Act.put, List.setIfInBounds_toArray, List.set_cons_zero, List.set_cons_succ]
          refine wpAnyL_ready (rs := [10]) (by kernel_rfl) (by simp) ?_
          refine AllReadyL.last rfl (by kernel_rfl) (fun K hK => ?_) AllReadyL.nil
          go_simp
          refine hK.out _ _ ?_
          clear hK K
          try simp only [Act.put, List.setIfInBounds_toArray, List.set_cons_zero, List.set_cons_succ]
          refine wpAnyL_free (i := 11) (v := ?_) (some 9) rfl rfl (by kernel_rfl) (by kernel_rfl) (by kernel_rfl) (by decide) (fun _ _ _ h => h) (Or.inl ⟨by rfl, ?_⟩) (fun h0 => absurd h0 (by decide)) ?_
          rotate_left
          · intro wS
            go_simp
            try with_reducible rfl
          try simp only [Act.put, List.setIfInBounds_toArray, List.set_cons_zero, List.set_cons_succ]
          refine wpAnyL_done (by kernel_rfl) ?_ _
          refine NoPanic.normal ?_
          go_wp2_with fail
          go_meet
          exact ⟨Made.late KM.out ho5 (sure_ops _ _ _) HSB.out hb5.size, rfl⟩
        refine AllReadyL.cons rfl (fun K hK => ?_) AllReadyL.nil
        have KX := Lib.hid (hHeld.2.2.2.2.2 : Kept w _ _ w4)
        have HBOX := Lib.hid (show Box _ _ w4.heap.size _ from Box.new 48 w4 #[.int .i64 0, .int .i64 0, .slice none 0 0])
        have HX := Lib.hid ((Below.refl w4.heap.size w4).alloc (Nat.le_refl _) (.cells #[.int .i64 0, .int .i64 0, .slice none 0 0] 48))
        have HSX := Lib.hid HSZ.out
        have HSZ := Lib.hid (Nat.le_trans HSZ.out HX.out.size)
        have G3 := Lib.hid (G3.out.below HX.out)
        have G4 := Lib.hid (G4.out.below HX.out)
        go_simp
        refine hK.out _ _ ?_ (fun hHeld => ?_)
        · exact ⟨below_cell ((Below.refl _ _).alloc (Nat.le_refl _) _) hHeld.1, below_cell ((Below.refl _ _).alloc (Nat.le_refl _) _) hHeld.2.1, below_cell ((Below.refl _ _).alloc (Nat.le_refl _) _) hHeld.2.2.1, below_cell ((Below.refl _ _).alloc (Nat.le_refl _) _) hHeld.2.2.2.1, below_cell ((Below.refl _ _).alloc (Nat.le_refl _) _) hHeld.2.2.2.2.1, hHeld.2.2.2.2.2.below ((Below.refl _ _).alloc (Nat.le_refl _) _)⟩
        clear hK K
        try simp only [Act.put, List.setIfInBounds_toArray, List.set_cons_zero, List.set_cons_succ]
        refine wpAnyL_ready (rs := [5]) (by kernel_rfl) (by simp) ?_
        refine AllReadyL.last rfl (by kernel_rfl) (fun K hK => ?_) AllReadyL.nil
        have KB := Lib.hid (hHeld.2.2.2.2.2)
        have HSB := Lib.hid HSZ.out
        have HLT := Lib.hid HBOX.out.lt
        go_simp; go_at_call 30; refine (specHideVariable _ _ _ _ _ _ _ _ _ _ _ _ xR0 yR0 tR0 cd _ G3.out G4.out HI.out).mono ?_; rintro e w5 ⟨a5, n5, c5, rfl, ho5, hb5⟩
        have HSZ := Lib.hid (Nat.le_trans HSZ.out hb5.size)
        have HX := Lib.hid (HX.out.trans (hb5.mono HX.out.size))
        have HBOX := Lib.hid (HBOX.out.below hb5)
        refine hK.out _ _ ?_
        clear hK K
        try simp only [Act.put, List.setIfInBounds_toArray, List.set_cons_zero, List.set_cons_succ]
        refine wpAnyL_free (i := 6) (v := ?_) (some 29) rfl rfl (by kernel_rfl) (by kernel_rfl) (by kernel_rfl) (by decide) (fun _ _ _ h => h) (Or.inl ⟨by rfl, ?_⟩) (fun h0 => absurd h0 (by decide)) ?_
        rotate_left
        · intro wS
          go_simp
          try with_reducible rfl
        try simp only [Act.put, List.setIfInBounds_toArray, List.set_cons_zero, List.set_cons_succ]
        refine wpAnyL_free (i := 7) (v := ?_) (some 36) rfl rfl (by kernel_rfl) (by kernel_rfl) (by kernel_rfl) (by decide) (fun _ _ _ h => h) (Or.inl ⟨by rfl, ?_⟩) (fun h0 => absurd h0 (by decide)) ?_
        rotate_left
        · intro wS
          go_simp
          try with_reducible rfl
        try simp only [Act.put, List.setIfInBounds_toArray, List.set_cons_zero, List.set_cons_succ]
        refine wpAnyL_free (i := 8) (v := ?_) (some 37) rfl rfl (by kernel_rfl) (by kernel_rfl) (by kernel_rfl) (by decide) (fun _ _ _ h => h) (Or.inl ⟨by rfl, ?_⟩) (fun h0 => absurd h0 (by decide)) ?_
        rotate_left
        · intro wS
          go_simp
          try with_reducible rfl
        try simp only [Act.put, List.setIfInBounds_toArray, List.set_cons_zero, List.set_cons_succ]
        refine wpAnyL_ready (rs := [10]) (by kernel_rfl) (by simp) ?_
        refine AllReadyL.last rfl (by kernel_rfl) (fun K hK => ?_) AllReadyL.nil
        have d0 := HBOX.out.c 0 rfl
        have d1 := HBOX.out.c 1 rfl
        have d2 := HBOX.out.c 2 rfl
        have f0 := HBOX.out.free 0
        have f1 := HBOX.out.free 1
        have f2 := HBOX.out.free 2
        go_simp
        refine hK.out _ _ ?_
        clear hK K
        try simp only [Act.put, List.setIfInBounds_toArray, List.set_cons_zero, List.set_cons_succ]
        refine wpAnyL_free (i := 11) (v := ?_) (some 9) rfl rfl (by kernel_rfl) (by kernel_rfl) (by kernel_rfl) (by decide) (fun _ _ _ h => h) (Or.inl ⟨by rfl, ?_⟩) (fun h0 => absurd h0 (by decide)) ?_
        rotate_left
        · intro wS
          go_simp
          try with_reducible rfl
        try simp only [Act.put, List.setIfInBounds_toArray, List.set_cons_zero, List.set_cons_succ]
        refine wpAnyL_done (by kernel_rfl) ?_ _
        refine NoPanic.normal ?_
        go_wp2_with fail
        go_meet
        exact ⟨Made.early3 (X := w4) KX.out HX.out HBOX.out ho5 (sure_ops _ _ _) HSX.out HLT.out, rfl⟩
      refine AllReadyL.cons rfl (fun K hK => ?_) AllReadyL.nil
      have KX := Lib.hid (hHeld.2.2.2.2.2 : Kept w _ _ w3)
      have HBOX := Lib.hid (show Box _ _ w3.heap.size _ from Box.new 48 w3 #[.int .i64 0, .int .i64 0, .slice none 0 0])
      have HX := Lib.hid ((Below.refl w3.heap.size w3).alloc (Nat.le_refl _) (.cells #[.int .i64 0, .int .i64 0, .slice none 0 0] 48))
      have HSX := Lib.hid HSZ.out
      have HSZ := Lib.hid (Nat.le_trans HSZ.out HX.out.size)
      have G3 := Lib.hid (G3.out.below HX.out)
      go_simp
      refine hK.out _ _ ?_ (fun hHeld => ?_)
      · exact ⟨below_cell ((Below.refl _ _).alloc (Nat.le_refl _) _) hHeld.1, below_cell ((Below.refl _ _).alloc (Nat.le_refl _) _) hHeld.2.1, below_cell ((Below.refl _ _).alloc (Nat.le_refl _) _) hHeld.2.2.1, below_cell ((Below.refl _ _).alloc (Nat.le_refl _) _) hHeld.2.2.2.1, below_cell ((Below.refl _ _).alloc (Nat.le_refl _) _) hHeld.2.2.2.2.1, hHeld.2.2.2.2.2.below ((Below.refl _ _).alloc (Nat.le_refl _) _)⟩
      clear hK K
      try simp only [Act.put, List.setIfInBounds_toArray, List.set_cons_zero, List.set_cons_succ]
      refine wpAnyL_ready (rs := [3]) (by kernel_rfl) (by simp) ?_
      refine AllReadyL.cons rfl (fun K hK => ?_) AllReadyL.nil
      go_simp; go_at_call 22; refine (toFormula _ _ _ _ _ _ _ (hHeld.2.2.2.2.2.r 0 rfl :) HLP2.out).mono ?_; rintro e w4 ⟨a4, n4, c4, rfl, ho4, hb4⟩; have G4 := Lib.hid (OwnOps.at ho4); clear ho4
      have G3 := Lib.hid (G3.out.below hb4)
      have HSZ := Lib.hid (Nat.le_trans HSZ.out hb4.size)
      have HX := Lib.hid (HX.out.trans (hb4.mono HX.out.size))
      have HBOX := Lib.hid (HBOX.out.below hb4)
      refine hK.out _ _ ?_ (fun hHeld => ?_)
      · exact ⟨below_cell hb4 hHeld.1, below_cell hb4 hHeld.2.1, below_cell hb4 hHeld.2.2.1, below_cell hb4 hHeld.2.2.2.1, below_cell hb4 hHeld.2.2.2.2.1, hHeld.2.2.2.2.2.below hb4⟩
      clear hK K
      try simp only [Act.put, List.setIfInBounds_toArray, List.set_cons_zero, List.set_cons_succ]
      refine wpAnyL_ready (rs := [5]) (by kernel_rfl) (by simp) ?_
      refine AllReadyL.last rfl (by kernel_rfl) (fun K hK => ?_) AllReadyL.nil
      have KB := Lib.hid (hHeld.2.2.2.2.2)
      have HSB := Lib.hid HSZ.out
      have HLT := Lib.hid HBOX.out.lt
      go_simp; go_at_call 30; refine (specHideVariable _ _ _ _ _ _ _ _ _ _ _ _ xR0 yR0 tR0 cd _ G3.out G4.out HI.out).mono ?_; rintro e w5 ⟨a5, n5, c5, rfl, ho5, hb5⟩
      have HSZ := Lib.hid (Nat.le_trans HSZ.out hb5.size)
      have HX := Lib.hid (HX.out.trans (hb5.mono HX.out.size))
      have HBOX := Lib.hid (HBOX.out.below hb5)
      refine hK.out _ _ ?_
      clear hK K
      try simp only [Act.put, List.setIfInBounds_toArray, List.set_cons_zero, List.set_cons_succ]
      refine wpAnyL_free (i := 6) (v := ?_) (some 29) rfl rfl (by kernel_rfl) (by kernel_rfl) (by kernel_rfl) (by decide) (fun _ _ _ h => h) (Or.inl ⟨by rfl, ?_⟩) (fun h0 => absurd h0 (by decide)) ?_
      rotate_left
      · intro wS
        go_simp
        try with_reducible rfl
      try simp only [Act.put, List.setIfInBounds_toArray, List.set_cons_zero, List.set_cons_succ]
      refine wpAnyL_free (i := 7) (v := ?_) (some 36) rfl rfl (by kernel_rfl) (by kernel_rfl) (by kernel_rfl) (by decide) (fun _ _ _ h => h) (Or.inl ⟨by rfl, ?_⟩) (fun h0 => absurd h0 (by decide)) ?_
      rotate_left
      · intro wS
        go_simp
        try with_reducible rfl
      try simp only [Act.put, List.setIfInBounds_toArray, List.set_cons_zero, List.set_cons_succ]
      refine wpAnyL_free (i := 8) (v := ?_) (some 37) rfl rfl (by kernel_rfl) (by kernel_rfl) (by kernel_rfl) (by decide) (fun _ _ _ h => h) (Or.inl ⟨by rfl, ?_⟩) (fun h0 => absurd h0 (by decide)) ?_
      rotate_left
      · intro wS
        go_simp
        try with_reducible rfl
      try simp only [Act.put, List.setIfInBounds_toArray, List.set_cons_zero, List.set_cons_succ]
      refine wpAnyL_ready (rs := [10]) (by kernel_rfl) (by simp) ?_
      refine AllReadyL.last rfl (by kernel_rfl) (fun K hK => ?_) AllReadyL.nil
      have d0 := HBOX.out.c 0 rfl
      have d1 := HBOX.out.c 1 rfl
      have d2 := HBOX.out.c 2 rfl
      have f0 := HBOX.out.free 0
      have f1 := HBOX.out.free 1
      have f2 := HBOX.out.free 2
      go_simp
      refine hK.out _ _ ?_
      clear hK K
      try simp only [Act.put, List.setIfInBounds_toArray, List.set_cons_zero, List.set_cons_succ]
      refine wpAnyL_free (i := 11) (v := ?_) (some 9) rfl rfl (by kernel_rfl) (by kernel_rfl) (by kernel_rfl) (by decide) (fun _ _ _ h => h) (Or.inl ⟨by rfl, ?_⟩) (fun h0 => absurd h0 (by decide)) ?_
      rotate_left
      · intro wS
        go_simp
        try with_reducible rfl
      try simp only [Act.put, List.setIfInBounds_toArray, List.set_cons_zero, List.set_cons_succ]
      refine wpAnyL_done (by kernel_rfl) ?_ _
      refine NoPanic.normal ?_
      go_wp2_with fail
      go_meet
      exact ⟨Made.early3 (X := w3) KX.out HX.out HBOX.out ho5 (sure_ops _ _ _) HSX.out HLT.out, rfl⟩
    refine AllReadyL.cons rfl (fun K hK => ?_) AllReadyL.nil
    have KX := Lib.hid (hHeld.2.2.2.2.2 : Kept w _ _ w2.drew)
    have HBOX := Lib.hid (show Box _ _ w2.heap.size _ from Box.new 48 w2.drew #[.int .i64 0, .int .i64 0, .slice none 0 0])
    have HX := Lib.hid ((Below.refl w2.drew.heap.size w2.drew).alloc (Nat.le_refl _) (.cells #[.int .i64 0, .int .i64 0, .slice none 0 0] 48))
    have HSX := Lib.hid HSZ.out
    have HSZ := Lib.hid (Nat.le_trans HSZ.out HX.out.size)
    go_simp
    refine hK.out _ _ ?_ (fun hHeld => ?_)
    · exact ⟨below_cell ((Below.refl _ _).alloc (Nat.le_refl _) _) hHeld.1, below_cell ((Below.refl _ _).alloc (Nat.le_refl _) _) hHeld.2.1, below_cell ((Below.refl _ _).alloc (Nat.le_refl _) _) hHeld.2.2.1, below_cell ((Below.refl _ _).alloc (Nat.le_refl _) _) hHeld.2.2.2.1, below_cell ((Below.refl _ _).alloc (Nat.le_refl _) _) hHeld.2.2.2.2.1, hHeld.2.2.2.2.2.below ((Below.refl _ _).alloc (Nat.le_refl _) _)⟩
    clear hK K
    try simp only [Act.put, List.setIfInBounds_toArray, List.set_cons_zero, List.set_cons_succ]
    refine wpAnyL_ready (rs := [1]) (by kernel_rfl) (by simp) ?_
    refine AllReadyL.cons rfl (fun K hK => ?_) AllReadyL.nil
    go_simp; go_at_call 21; refine (toTemplateE _ _ _ _ _ _ (hHeld.2.2.2.2.2.r 1 rfl :) HLP1.out).mono ?_; rintro e w3 ⟨a3, n3, c3, rfl, ho3, hb3⟩; have G3 := Lib.hid (OwnRels.at ho3); clear ho3
    have HSZ := Lib.hid (Nat.le_trans HSZ.out hb3.size)
    have HX := Lib.hid (HX.out.trans (hb3.mono HX.out.size))
    have HBOX := Lib.hid (HBOX.out.below hb3)
    refine hK.out _ _ ?_ (fun hHeld => ?_)
    · exact ⟨below_cell hb3 hHeld.1, below_cell hb3 hHeld.2.1, below_cell hb3 hHeld.2.2.1, below_cell hb3 hHeld.2.2.2.1, below_cell hb3 hHeld.2.2.2.2.1, hHeld.2.2.2.2.2.below hb3⟩
    clear hK K
    try simp only [Act.put, List.setIfInBounds_toArray, List.set_cons_zero, List.set_cons_succ]
    refine wpAnyL_ready (rs := [3]) (by kernel_rfl) (by simp) ?_
    refine AllReadyL.cons rfl (fun K hK => ?_) AllReadyL.nil
    go_simp; go_at_call 22; refine (toFormula _ _ _ _ _ _ _ (hHeld.2.2.2.2.2.r 0 rfl :) HLP2.out).mono ?_; rintro e w4 ⟨a4, n4, c4, rfl, ho4, hb4⟩; have G4 := Lib.hid (OwnOps.at ho4); clear ho4
    have G3 := Lib.hid (G3.out.below hb4)
    have HSZ := Lib.hid (Nat.le_trans HSZ.out hb4.size)
    have HX := Lib.hid (HX.out.trans (hb4.mono HX.out.size))
    have HBOX := Lib.hid (HBOX.out.below hb4)
    refine hK.out _ _ ?_ (fun hHeld => ?_)
    · exact ⟨below_cell hb4 hHeld.1, below_cell hb4 hHeld.2.1, below_cell hb4 hHeld.2.2.1, below_cell hb4 hHeld.2.2.2.1, below_cell hb4 hHeld.2.2.2.2.1, hHeld.2.2.2.2.2.below hb4⟩
    clear hK K
    try simp only [Act.put, List.setIfInBounds_toArray, List.set_cons_zero, List.set_cons_succ]
    refine wpAnyL_ready (rs := [5]) (by kernel_rfl) (by simp) ?_
    refine AllReadyL.last rfl (by kernel_rfl) (fun K hK => ?_) AllReadyL.nil
    have KB := Lib.hid (hHeld.2.2.2.2.2)
    have HSB := Lib.hid HSZ.out
    have HLT := Lib.hid HBOX.out.lt
    go_simp; go_at_call 30; refine (specHideVariable _ _ _ _ _ _ _ _ _ _ _ _ xR0 yR0 tR0 cd _ G3.out G4.out HI.out).mono ?_; rintro e w5 ⟨a5, n5, c5, rfl, ho5, hb5⟩
    have HSZ := Lib.hid (Nat.le_trans HSZ.out hb5.size)
    have HX := Lib.hid (HX.out.trans (hb5.mono HX.out.size))
    have HBOX := Lib.hid (HBOX.out.below hb5)
    refine hK.out _ _ ?_
    clear hK K
    try simp only [Act.put, List.setIfInBounds_toArray, List.set_cons_zero, List.set_cons_succ]
    refine wpAnyL_free (i := 6) (v := ?_) (some 29) rfl rfl (by kernel_rfl) (by kernel_rfl) (by kernel_rfl) (by decide) (fun _ _ _ h => h) (Or.inl ⟨by rfl, ?_⟩) (fun h0 => absurd h0 (by decide)) ?_
    rotate_left
    · intro wS
      go_simp
      try with_reducible rfl
    try simp only [Act.put, List.setIfInBounds_toArray, List.set_cons_zero, List.set_cons_succ]
    refine wpAnyL_free (i := 7) (v := ?_) (some 36) rfl rfl (by kernel_rfl) (by kernel_rfl) (by kernel_rfl) (by decide) (fun _ _ _ h => h) (Or.inl ⟨by rfl, ?_⟩) (fun h0 => absurd h0 (by decide)) ?_
    rotate_left
    · intro wS
      go_simp
      try with_reducible rfl
    try simp only [Act.put, List.setIfInBounds_toArray, List.set_cons_zero, List.set_cons_succ]
    refine wpAnyL_free (i := 8) (v := ?_) (some 37) rfl rfl (by kernel_rfl) (by kernel_rfl) (by kernel_rfl) (by decide) (fun _ _ _ h => h) (Or.inl ⟨by rfl, ?_⟩) (fun h0 => absurd h0 (by decide)) ?_
    rotate_left
    · intro wS
      go_simp
      try with_reducible rfl
    try simp only [Act.put, List.setIfInBounds_toArray, List.set_cons_zero, List.set_cons_succ]
    refine wpAnyL_ready (rs := [10]) (by kernel_rfl) (by simp) ?_
    refine AllReadyL.last rfl (by kernel_rfl) (fun K hK => ?_) AllReadyL.nil
    have d0 := HBOX.out.c 0 rfl
    have d1 := HBOX.out.c 1 rfl
    have d2 := HBOX.out.c 2 rfl
    have f0 := HBOX.out.free 0
    have f1 := HBOX.out.free 1
    have f2 := HBOX.out.free 2
    go_simp
    refine hK.out _ _ ?_
    clear hK K
    try simp only [Act.put, List.setIfInBounds_toArray, List.set_cons_zero, List.set_cons_succ]
    refine wpAnyL_free (i := 11) (v := ?_) (some 9) rfl rfl (by kernel_rfl) (by kernel_rfl) (by kernel_rfl) (by decide) (fun _ _ _ h => h) (Or.inl ⟨by rfl, ?_⟩) (fun h0 => absurd h0 (by decide)) ?_
    rotate_left
    · intro wS
      go_simp
      try with_reducible rfl
    try simp only [Act.put, List.setIfInBounds_toArray, List.set_cons_zero, List.set_cons_succ]
    refine wpAnyL_done (by kernel_rfl) ?_ _
    refine NoPanic.normal ?_
    go_wp2_with fail
    go_meet
    exact ⟨Made.early3 (X := w2.drew) KX.out HX.out HBOX.out ho5 (sure_ops _ _ _) HSX.out HLT.out, rfl⟩
  case rest =>
    obtain ⟨⟨bk5, f5, e5, a5, n5, c5, rfl, hk5, hx5, ho5, l1, l2, l3, l4⟩, rfl⟩ := hcut
    obtain ⟨w5, hw5⟩ : ∃ y, y = wc := ⟨_, rfl⟩
    subst hw5
    have HY5 : Hid (w2.heap.size ≤ bk5 ∧ bk5 < w5.heap.size ∧ w2.heap.size ≤ f5 ∧ (bk5 < f5 ∨ e5 ≤ bk5) ∧ e5 ≤ w5.heap.size ∧ w.heap.size + 2 ≤ w2.heap.size) := Lib.hid ⟨l1, hx5.lt, l2, l3, l4, cell_block_lt (K2.out.c 0 rfl)⟩
    have K5 := Lib.hid ((((hk5.read (lives_ownOps _ _ _ _ _) ho5).cell (hx5.c 2 rfl)).cell (hx5.c 1 rfl)).cell (hx5.c 0 rfl))
    clear hk5 hx5 ho5 l1 l2 l3 l4
    have HZ0 := Lib.hid HY5.out
    have cd0 := K5.out.c 6 rfl
    have cd1 := K5.out.c 7 rfl
    go_wp2_with fail
    refine (toTemplateE _ _ _ _ _ _ (K5.out.r 2 rfl :) HLP1.out).mono ?_
    rintro e w6 ⟨a6, n6, c6, rfl, ho6, hb6⟩
    have Z6 : Hid (w5.heap.size ≤ w6.heap.size) := Lib.hid (by have := hb6.size; simpa using this)
    have K6 := Lib.hid ((K5.out.below hb6).read (lives_ownRels _ _ _ _) (ho6.mono (B' := w5.heap.size) (by simp)))
    clear cd0 cd1
    have K6b := Lib.hid (K6.out.box w6.heap.size rfl (.int .i64 xP1) (.slice a6 n6 c6) 53)
    clear hb6 ho6
    have cd2 := K6b.out.c 5 rfl
    have cd3 := K6b.out.c 6 rfl
    have cd4 := K6b.out.c 7 rfl
    go_wp2_with fail
    refine (toFormula _ _ _ _ _ _ _ (K6b.out.r 2 rfl :) HLP2.out).mono ?_
    rintro e w7 ⟨a7, n7, c7, rfl, ho7, hb7⟩
    have Z7 : Hid (w6.heap.size + 1 ≤ w7.heap.size) := Lib.hid (by have := hb7.size; simpa using this)
    have K7 := Lib.hid ((K6b.out.below hb7).read (lives_ownOps _ _ _ _ _) (ho7.mono (B' := w6.heap.size + 1) (by simp)))
    clear cd2 cd3 cd4
    have K7b := Lib.hid (K7.out.box3 w7.heap.size rfl (.int .i64 xP2) (.int .i64 yP2) (.slice a7 n7 c7) 48)
    clear hb7 ho7
    -- the program's answer
    have cd5 := K7b.out.c 3 rfl
    have cd6 := K7b.out.c 4 rfl
    have cd7 := K7b.out.c 0 rfl
    have cd8 := K7b.out.c 1 rfl
    have cd9 := K7b.out.c 2 rfl
    go_wp2_with fail
    refine (implHideVariable _ _ _ _ _ _ _ _ _ _ _ _ xR0 yR0 tR0 cd _ (OwnRels.at (K7b.out.r 1 rfl :)) (OwnOps.at (K7b.out.r 0 rfl :)) HI.out).mono ?_
    rintro e w8 ⟨a8, n8, c8, rfl, ho8, hb8⟩
    have Z8 : Hid (w7.heap.size + 1 ≤ w8.heap.size) := Lib.hid (by have := hb8.size; simpa using this)
    have K8 := Lib.hid (((K7b.out.below hb8).read (lives_ownOps _ _ _ _ _) (ho8.mono (B' := w7.heap.size + 1) (by simp))).box3 w8.heap.size rfl (.int .i64 xR0) (.int .i64 yR0) (.slice a8 n8 c8) 48)
    clear cd5 cd6 cd7 cd8 cd9
    clear hb8 ho8
    have cd10 := K8.out.c 0 rfl
    have cd11 := K8.out.c 1 rfl
    have cd12 := K8.out.c 2 rfl
    have cd13 := K8.out.c 8 rfl
    have cd14 := K8.out.c 9 rfl
    have cd15 := K8.out.c 10 rfl
    go_wp2_with fail
    refine (eqFormula' _ _ _ _ _ _ _ _ _ _ _ _ true _ (OwnOps.at (K8.out.r 0 rfl :)) (OwnOps.at (K8.out.r 3 rfl :)) (eqF_same _ _ _)).mono ?_
    rintro e w9 ⟨rfl, hb9⟩
    have K9 := Lib.hid (K8.out.below hb9)
    clear cd10 cd11 cd12 cd13 cd14 cd15
    clear hb9
    -- the copies are as they were
    go_wp2_with fail
    refine wp_region_noPanic ?_
    refine wp_region_late (S := (fun w' => w'.cell? ⟨w6.heap.size, 0, none⟩ = some (.int .i64 xP1) ∧ w'.cell? ⟨w6.heap.size, 1, none⟩ = some (.slice a6 n6 c6) ∧ w'.cell? ⟨w.heap.size, 0, none⟩ = some (.int .i64 xP1) ∧ w'.cell? ⟨w.heap.size, 1, none⟩ = some (.slice aP1 nP1 cP1) ∧ Kept w [(⟨w8.heap.size, 0, none⟩, .int .i64 xR0), (⟨w8.heap.size, 1, none⟩, .int .i64 yR0), (⟨w8.heap.size, 2, none⟩, .slice a8 n8 c8), (⟨w7.heap.size, 0, none⟩, .int .i64 xP2), (⟨w7.heap.size, 1, none⟩, .int .i64 yP2), (⟨w7.heap.size, 2, none⟩, .slice a7 n7 c7), (⟨w6.heap.size, 0, none⟩, .int .i64 xP1), (⟨w6.heap.size, 1, none⟩, .slice a6 n6 c6), (⟨bk5, 0, none⟩, .int .i64 xR0), (⟨bk5, 1, none⟩, .int .i64 yR0), (⟨bk5, 2, none⟩, .slice a5 n5 c5), (⟨w.heap.size + 1, 0, none⟩, .int .i64 xP2), (⟨w.heap.size + 1, 1, none⟩, .int .i64 yP2), (⟨w.heap.size + 1, 2, none⟩, .slice aP2 nP2 cP2), (⟨w.heap.size, 0, none⟩, .int .i64 xP1), (⟨w.heap.size, 1, none⟩, .slice aP1 nP1 cP1)] [fun w => (OwnOps 112) w (w7.heap.size + 1) w8.heap.size (.slice a8 n8 c8) tR0, fun w => (OwnOps 112) w (w6.heap.size + 1) w7.heap.size (.slice a7 n7 c7) tP2, fun w => OwnRels w (w5.heap.size) w6.heap.size (.slice a6 n6 c6) tP1, fun w => (OwnOps 112) w f5 e5 (.slice a5 n5 c5) tR0, fun w => OpsAt w (.slice aP2 nP2 cP2) tP2, fun w => RelsAt w (.slice aP1 nP1 cP1) tP1] w')) [] (by kernel_rfl) ?_ (fun hHeld => ?_)
    · exact ⟨K9.out.drew.c 6 rfl, K9.out.drew.c 7 rfl, K9.out.drew.c 14 rfl, K9.out.drew.c 15 rfl, K9.out.drew⟩
    refine wpAnyL_take (i := 0) (v := ?_) (some 58) rfl rfl (by kernel_rfl) (by kernel_rfl) (by kernel_rfl) (by kernel_rfl) (by kernel_rfl) (fun _ _ _ h => h) (Or.inl ⟨by rfl, ?_⟩) (by assumption) ?_
    rotate_left
    · intro wS hSw
      try dsimp only at hSw
      go_simp
      try with_reducible rfl
    try simp only [Act.put, List.setIfInBounds_toArray, List.set_cons_zero, List.set_cons_succ]
    refine wpAnyL_take (i := 1) (v := ?_) (some 59) rfl rfl (by kernel_rfl) (by kernel_rfl) (by kernel_rfl) (by kernel_rfl) (by kernel_rfl) (fun _ _ _ h => h) (Or.inl ⟨by rfl, ?_⟩) (by assumption) ?_
    rotate_left
    · intro wS hSw
      try dsimp only at hSw
      go_simp
      try with_reducible rfl
    try simp only [Act.put, List.setIfInBounds_toArray, List.set_cons_zero, List.set_cons_succ]
    refine wpAnyL_ready (rs := [2]) (by kernel_rfl) (by simp) ?_
    refine AllReadyL.cons rfl (fun K hK => ?_) AllReadyL.nil
    go_simp; go_at_call 21; refine (toTemplateE _ _ _ _ _ _ (hHeld.2.2.2.2.r 5 rfl :) HLP1.out).mono ?_; rintro e w10 ⟨a10, n10, c10, rfl, ho10, hb10⟩; have G10 := Lib.hid (OwnRels.at ho10); clear ho10
    refine hK.out _ _ ?_ (fun hHeld => ?_)
    · exact ⟨below_cell hb10 hHeld.1, below_cell hb10 hHeld.2.1, below_cell hb10 hHeld.2.2.1, below_cell hb10 hHeld.2.2.2.1, hHeld.2.2.2.2.below hb10⟩
    clear hK K
    try simp only [Act.put, List.setIfInBounds_toArray, List.set_cons_zero, List.set_cons_succ]
    refine wpAnyL_ready (rs := [3]) (by kernel_rfl) (by simp) ?_
    refine AllReadyL.cons rfl (fun K hK => ?_) AllReadyL.nil
    go_simp; go_at_call 26; refine (eqTemplate' _ _ _ _ _ _ _ _ _ _ true _ (OwnRels.at (hHeld.2.2.2.2.r 2 rfl :)) G10.out (eqT_same _ _)).mono ?_; rintro e w11 ⟨rfl, hb11⟩
    refine hK.out _ _ ?_ (fun hHeld => ?_)
    · exact ⟨below_cell hb11 hHeld.1, below_cell hb11 hHeld.2.1, below_cell hb11 hHeld.2.2.1, below_cell hb11 hHeld.2.2.2.1, hHeld.2.2.2.2.below hb11⟩
    clear hK K
    try simp only [Act.put, List.setIfInBounds_toArray, List.set_cons_zero, List.set_cons_succ]
    refine wpAnyL_free (i := 4) (v := ?_) (some 62) rfl rfl (by kernel_rfl) (by kernel_rfl) (by kernel_rfl) (by decide) (fun _ _ _ h => h) (Or.inl ⟨by rfl, ?_⟩) (fun h0 => by assumption) ?_
    rotate_left
    · intro wS
      go_simp
      try with_reducible rfl
    try simp only [Act.put, List.setIfInBounds_toArray, List.set_cons_zero, List.set_cons_succ]
    refine wpAnyL_done (by kernel_rfl) ?_ _
    refine NoPanic.normal ?_
    have K11 := Lib.hid (hHeld.2.2.2.2 : Kept w _ _ w11)
    clear hHeld
    clear hb10 hb11 G10
    go_wp2_with fail
    refine wp_region_noPanic ?_
    refine wp_region_late (S := (fun w' => w'.cell? ⟨w7.heap.size, 0, none⟩ = some (.int .i64 xP2) ∧ w'.cell? ⟨w7.heap.size, 1, none⟩ = some (.int .i64 yP2) ∧ w'.cell? ⟨w7.heap.size, 2, none⟩ = some (.slice a7 n7 c7) ∧ w'.cell? ⟨w.heap.size + 1, 0, none⟩ = some (.int .i64 xP2) ∧ w'.cell? ⟨w.heap.size + 1, 1, none⟩ = some (.int .i64 yP2) ∧ w'.cell? ⟨w.heap.size + 1, 2, none⟩ = some (.slice aP2 nP2 cP2) ∧ Kept w [(⟨w8.heap.size, 0, none⟩, .int .i64 xR0), (⟨w8.heap.size, 1, none⟩, .int .i64 yR0), (⟨w8.heap.size, 2, none⟩, .slice a8 n8 c8), (⟨w7.heap.size, 0, none⟩, .int .i64 xP2), (⟨w7.heap.size, 1, none⟩, .int .i64 yP2), (⟨w7.heap.size, 2, none⟩, .slice a7 n7 c7), (⟨w6.heap.size, 0, none⟩, .int .i64 xP1), (⟨w6.heap.size, 1, none⟩, .slice a6 n6 c6), (⟨bk5, 0, none⟩, .int .i64 xR0), (⟨bk5, 1, none⟩, .int .i64 yR0), (⟨bk5, 2, none⟩, .slice a5 n5 c5), (⟨w.heap.size + 1, 0, none⟩, .int .i64 xP2), (⟨w.heap.size + 1, 1, none⟩, .int .i64 yP2), (⟨w.heap.size + 1, 2, none⟩, .slice aP2 nP2 cP2), (⟨w.heap.size, 0, none⟩, .int .i64 xP1), (⟨w.heap.size, 1, none⟩, .slice aP1 nP1 cP1)] [fun w => (OwnOps 112) w (w7.heap.size + 1) w8.heap.size (.slice a8 n8 c8) tR0, fun w => (OwnOps 112) w (w6.heap.size + 1) w7.heap.size (.slice a7 n7 c7) tP2, fun w => OwnRels w (w5.heap.size) w6.heap.size (.slice a6 n6 c6) tP1, fun w => (OwnOps 112) w f5 e5 (.slice a5 n5 c5) tR0, fun w => OpsAt w (.slice aP2 nP2 cP2) tP2, fun w => RelsAt w (.slice aP1 nP1 cP1) tP1] w')) [] (by kernel_rfl) ?_ (fun hHeld => ?_)
    · exact ⟨K11.out.drew.c 3 rfl, K11.out.drew.c 4 rfl, K11.out.drew.c 5 rfl, K11.out.drew.c 11 rfl, K11.out.drew.c 12 rfl, K11.out.drew.c 13 rfl, K11.out.drew⟩
    refine wpAnyL_take (i := 0) (v := ?_) (some 63) rfl rfl (by kernel_rfl) (by kernel_rfl) (by kernel_rfl) (by kernel_rfl) (by kernel_rfl) (fun _ _ _ h => h) (Or.inl ⟨by rfl, ?_⟩) (by assumption) ?_
    rotate_left
    · intro wS hSw
      try dsimp only at hSw
      go_simp
      try with_reducible rfl
    try simp only [Act.put, List.setIfInBounds_toArray, List.set_cons_zero, List.set_cons_succ]
    refine wpAnyL_take (i := 1) (v := ?_) (some 64) rfl rfl (by kernel_rfl) (by kernel_rfl) (by kernel_rfl) (by kernel_rfl) (by kernel_rfl) (fun _ _ _ h => h) (Or.inl ⟨by rfl, ?_⟩) (by assumption) ?_
    rotate_left
    · intro wS hSw
      try dsimp only at hSw
      go_simp
      try with_reducible rfl
    try simp only [Act.put, List.setIfInBounds_toArray, List.set_cons_zero, List.set_cons_succ]
    refine wpAnyL_ready (rs := [2]) (by kernel_rfl) (by simp) ?_
    refine AllReadyL.cons rfl (fun K hK => ?_) AllReadyL.nil
    go_simp; go_at_call 22; refine (toFormula _ _ _ _ _ _ _ (hHeld.2.2.2.2.2.2.r 4 rfl :) HLP2.out).mono ?_; rintro e w12 ⟨a12, n12, c12, rfl, ho12, hb12⟩; have G12 := Lib.hid (OwnOps.at ho12); clear ho12
    refine hK.out _ _ ?_ (fun hHeld => ?_)
    · exact ⟨below_cell hb12 hHeld.1, below_cell hb12 hHeld.2.1, below_cell hb12 hHeld.2.2.1, below_cell hb12 hHeld.2.2.2.1, below_cell hb12 hHeld.2.2.2.2.1, below_cell hb12 hHeld.2.2.2.2.2.1, hHeld.2.2.2.2.2.2.below hb12⟩
    clear hK K
    try simp only [Act.put, List.setIfInBounds_toArray, List.set_cons_zero, List.set_cons_succ]
    refine wpAnyL_ready (rs := [3]) (by kernel_rfl) (by simp) ?_
    refine AllReadyL.cons rfl (fun K hK => ?_) AllReadyL.nil
    go_simp; go_at_call 25; refine (eqFormula' _ _ _ _ _ _ _ _ _ _ _ _ true _ (OwnOps.at (hHeld.2.2.2.2.2.2.r 1 rfl :)) G12.out (eqF_same _ _ _)).mono ?_; rintro e w13 ⟨rfl, hb13⟩
    refine hK.out _ _ ?_ (fun hHeld => ?_)
    · exact ⟨below_cell hb13 hHeld.1, below_cell hb13 hHeld.2.1, below_cell hb13 hHeld.2.2.1, below_cell hb13 hHeld.2.2.2.1, below_cell hb13 hHeld.2.2.2.2.1, below_cell hb13 hHeld.2.2.2.2.2.1, hHeld.2.2.2.2.2.2.below hb13⟩
    clear hK K
    try simp only [Act.put, List.setIfInBounds_toArray, List.set_cons_zero, List.set_cons_succ]
    refine wpAnyL_free (i := 4) (v := ?_) (some 67) rfl rfl (by kernel_rfl) (by kernel_rfl) (by kernel_rfl) (by decide) (fun _ _ _ h => h) (Or.inl ⟨by rfl, ?_⟩) (fun h0 => by assumption) ?_
    rotate_left
    · intro wS
      go_simp
      try with_reducible rfl
    try simp only [Act.put, List.setIfInBounds_toArray, List.set_cons_zero, List.set_cons_succ]
    refine wpAnyL_done (by kernel_rfl) ?_ _
    refine NoPanic.normal ?_
    have K13 := Lib.hid (hHeld.2.2.2.2.2.2 : Kept w _ _ w13)
    clear hHeld
    clear hb12 hb13 G12
    -- marks
    have S0 := Lib.hid (((((((KeptS.start K13.out).cons (HAP1.out.go K13.out.bel.size fun g _ hg => K13.out.bel.block g hg) K13.out.bel.size).cons (HAP2.out.go K13.out.bel.size fun g _ hg => K13.out.bel.block g hg) K13.out.bel.size).cons (stab_ownOps (K13.out.r 3 rfl :)) (ownOps_le (K13.out.r 3 rfl :))).cons (stab_ownOps (K13.out.r 0 rfl :)) (ownOps_le (K13.out.r 0 rfl :))).cons (stab_ownOps (K13.out.r 1 rfl :)) (ownOps_le (K13.out.r 1 rfl :))).cons (stab_ownRels (K13.out.r 2 rfl :)) (ownRels_le (K13.out.r 2 rfl :)))
    have cd16 := S0.out.c 6 rfl
    have cd17 := S0.out.c 7 rfl
    go_wp2_with fail
    refine (markTemplate _ _ _ _ _ _ _ _ _ (S0.out.r 0 rfl :) (by omega) (by have yP1 := HLP1.out; have zP1 := offR_le tP1; have yP2 := HLP2.out; omega)).mono ?_
    rintro e w14 ⟨rfl, ho14, hn14⟩
    have S1 := Lib.hid (S0.out.drop.only hn14 (by have y1 := HZ0.out; have zZ6 := Z6.out; have zZ7 := Z7.out; have zZ8 := Z8.out; omega) (by have y1 := HZ0.out; have zZ6 := Z6.out; have zZ7 := Z7.out; have zZ8 := Z8.out; intro x hx; simp only [List.mem_cons, List.not_mem_nil, or_false] at hx; rcases hx with rfl | rfl | rfl | rfl | rfl | rfl | rfl | rfl | rfl | rfl | rfl | rfl | rfl | rfl | rfl | rfl <;> (dsimp only; omega)) (by have y1 := HZ0.out; have zZ6 := Z6.out; have zZ7 := Z7.out; have zZ8 := Z8.out; intro x hx; simp only [List.mem_cons, List.not_mem_nil, or_false] at hx; rcases hx with rfl | rfl | rfl | rfl | rfl <;> (dsimp only; omega)))
    clear ho14 hn14
    clear cd16 cd17
    have cd18 := S1.out.c 3 rfl
    have cd19 := S1.out.c 4 rfl
    have cd20 := S1.out.c 5 rfl
    go_wp2_with fail
    refine (markFormula _ _ _ _ _ _ _ _ _ _ (S1.out.r 0 rfl :) (by omega) (by have yP1 := HLP1.out; have zP1 := offR_le tP1; have yP2 := HLP2.out; omega)).mono ?_
    rintro e w15 ⟨rfl, ho15, hn15⟩
    have S2 := Lib.hid (S1.out.drop.only hn15 (by have y1 := HZ0.out; have zZ6 := Z6.out; have zZ7 := Z7.out; have zZ8 := Z8.out; omega) (by have y1 := HZ0.out; have zZ6 := Z6.out; have zZ7 := Z7.out; have zZ8 := Z8.out; intro x hx; simp only [List.mem_cons, List.not_mem_nil, or_false] at hx; rcases hx with rfl | rfl | rfl | rfl | rfl | rfl | rfl | rfl | rfl | rfl | rfl | rfl | rfl | rfl | rfl | rfl <;> (dsimp only; omega)) (by have y1 := HZ0.out; have zZ6 := Z6.out; have zZ7 := Z7.out; have zZ8 := Z8.out; intro x hx; simp only [List.mem_cons, List.not_mem_nil, or_false] at hx; rcases hx with rfl | rfl | rfl | rfl <;> (dsimp only; omega)))
    clear ho15 hn15
    clear cd18 cd19 cd20
    have hpos : ¬ (1 + (offR tP1 tP1.length : Int) + (opsSize tP2 : Int) < 0) := by omega
    have cd21 := S2.out.c 0 rfl
    have cd22 := S2.out.c 1 rfl
    have cd23 := S2.out.c 2 rfl
    have cd24 := S2.out.c 8 rfl
    have cd25 := S2.out.c 9 rfl
    have cd26 := S2.out.c 10 rfl
    go_wp2_with fail
    refine (eqFormula' _ _ _ _ _ _ _ _ _ _ _ _ true _ (OwnOps.at (S2.out.r 0 rfl :)) (OwnOps.at (S2.out.r 1 rfl :)) (eqF_same _ _ _)).mono ?_
    rintro e w16 ⟨rfl, hb16⟩
    have S3 := Lib.hid (S2.out.below hb16)
    clear cd21 cd22 cd23 cd24 cd25 cd26
    clear hb16
    have cd27 := S3.out.c 0 rfl
    have cd28 := S3.out.c 1 rfl
    have cd29 := S3.out.c 2 rfl
    go_wp2_with fail
    refine (markFormula _ _ _ _ _ _ _ _ _ _ (S3.out.r 0 rfl :) (by omega) (by have := HS.out; omega)).mono ?_
    rintro e w17 ⟨rfl, ho17, hn17⟩
    have S4 := Lib.hid ((S3.out.drop.only hn17 (by have y1 := HZ0.out; have zZ6 := Z6.out; have zZ7 := Z7.out; have zZ8 := Z8.out; omega) (by have y1 := HZ0.out; have zZ6 := Z6.out; have zZ7 := Z7.out; have zZ8 := Z8.out; intro x hx; simp only [List.mem_cons, List.not_mem_nil, or_false] at hx; rcases hx with rfl | rfl | rfl | rfl | rfl | rfl | rfl | rfl | rfl | rfl | rfl | rfl | rfl | rfl | rfl | rfl <;> (dsimp only; omega)) (by have y1 := HZ0.out; have zZ6 := Z6.out; have zZ7 := Z7.out; have zZ8 := Z8.out; intro x hx; simp only [List.mem_cons, List.not_mem_nil, or_false] at hx; rcases hx with rfl | rfl | rfl <;> (dsimp only; omega))).cons (stab_ownOps ho17) (ownOps_le ho17))
    clear ho17 hn17
    clear cd27 cd28 cd29
    have K18 := Lib.hid ((((S4.out.end.read (lives_ops _ _) (S4.out.r 2 rfl :)).read (lives_rels _ _) (S4.out.r 3 rfl :)).read (lives_ownOps _ _ _ _ _) (S4.out.r 1 rfl :)).read (lives_ownOps _ _ _ _ _) (S4.out.r 0 rfl :))
    have cd30 := K18.out.c 0 rfl
    have cd31 := K18.out.c 1 rfl
    have cd32 := K18.out.c 2 rfl
    go_wp2_with fail
    refine (heldFormula _ _ _ _ _ _ _ _ (OwnOps.at (K18.out.r 0 rfl :)) (by omega) (by have := HS.out; omega)).mono ?_
    rintro e w19 ⟨rfl, hb19⟩
    have K19 := Lib.hid (K18.out.below hb19)
    clear cd30 cd31 cd32
    clear hb19
    have hposz : ¬ (1 + (opsSize tR0 : Int) < 0) := by omega
    -- the program's answer again
    have cd33 := K19.out.c 14 rfl
    have cd34 := K19.out.c 15 rfl
    have cd35 := K19.out.c 11 rfl
    have cd36 := K19.out.c 12 rfl
    have cd37 := K19.out.c 13 rfl
    go_wp2_with fail
    go_cut [17, 18] from 19 (fun v0 v1 wz => Made 48 w [(⟨w8.heap.size, 0, none⟩, .int .i64 xR0), (⟨w8.heap.size, 1, none⟩, .int .i64 yR0), (⟨w8.heap.size, 2, none⟩, .slice a8 n8 c8), (⟨w7.heap.size, 0, none⟩, .int .i64 xP2), (⟨w7.heap.size, 1, none⟩, .int .i64 yP2), (⟨w7.heap.size, 2, none⟩, .slice a7 n7 c7), (⟨w6.heap.size, 0, none⟩, .int .i64 xP1), (⟨w6.heap.size, 1, none⟩, .slice a6 n6 c6), (⟨bk5, 0, none⟩, .int .i64 xR0), (⟨bk5, 1, none⟩, .int .i64 yR0), (⟨bk5, 2, none⟩, .slice a5 n5 c5), (⟨w.heap.size + 1, 0, none⟩, .int .i64 xP2), (⟨w.heap.size + 1, 1, none⟩, .int .i64 yP2), (⟨w.heap.size + 1, 2, none⟩, .slice aP2 nP2 cP2), (⟨w.heap.size, 0, none⟩, .int .i64 xP1), (⟨w.heap.size, 1, none⟩, .slice aP1 nP1 cP1)] [fun w => (OwnOps 112) w (w7.heap.size + 1) w8.heap.size (.slice a8 n8 c8) (marksO 1 tR0), fun w => (OwnOps 112) w f5 e5 (.slice a5 n5 c5) tR0, fun w => RelsAt w (.slice aP1 nP1 cP1) tP1, fun w => OpsAt w (.slice aP2 nP2 cP2) tP2] w19.heap.size (fun v w B E => (OwnOps 112) w B E v tR0) (fun v => #[.int .i64 xR0, .int .i64 yR0, v]) v0 wz ∧ v1 = .int .i64 cd)
    case first =>
      have HSZ : Hid (w19.heap.size ≤ w19.drew.heap.size) := Lib.hid (Nat.le_refl _)
      refine wp_region_noPanic ?_
      refine wp_region_late (S := (fun w' => w'.cell? ⟨w.heap.size, 0, none⟩ = some (.int .i64 xP1) ∧ w'.cell? ⟨w.heap.size, 1, none⟩ = some (.slice aP1 nP1 cP1) ∧ w'.cell? ⟨w.heap.size + 1, 0, none⟩ = some (.int .i64 xP2) ∧ w'.cell? ⟨w.heap.size + 1, 1, none⟩ = some (.int .i64 yP2) ∧ w'.cell? ⟨w.heap.size + 1, 2, none⟩ = some (.slice aP2 nP2 cP2) ∧ Kept w [(⟨w8.heap.size, 0, none⟩, .int .i64 xR0), (⟨w8.heap.size, 1, none⟩, .int .i64 yR0), (⟨w8.heap.size, 2, none⟩, .slice a8 n8 c8), (⟨w7.heap.size, 0, none⟩, .int .i64 xP2), (⟨w7.heap.size, 1, none⟩, .int .i64 yP2), (⟨w7.heap.size, 2, none⟩, .slice a7 n7 c7), (⟨w6.heap.size, 0, none⟩, .int .i64 xP1), (⟨w6.heap.size, 1, none⟩, .slice a6 n6 c6), (⟨bk5, 0, none⟩, .int .i64 xR0), (⟨bk5, 1, none⟩, .int .i64 yR0), (⟨bk5, 2, none⟩, .slice a5 n5 c5), (⟨w.heap.size + 1, 0, none⟩, .int .i64 xP2), (⟨w.heap.size + 1, 1, none⟩, .int .i64 yP2), (⟨w.heap.size + 1, 2, none⟩, .slice aP2 nP2 cP2), (⟨w.heap.size, 0, none⟩, .int .i64 xP1), (⟨w.heap.size, 1, none⟩, .slice aP1 nP1 cP1)] [fun w => (OwnOps 112) w (w7.heap.size + 1) w8.heap.size (.slice a8 n8 c8) (marksO 1 tR0), fun w => (OwnOps 112) w f5 e5 (.slice a5 n5 c5) tR0, fun w => RelsAt w (.slice aP1 nP1 cP1) tP1, fun w => OpsAt w (.slice aP2 nP2 cP2) tP2] w')) [5, 10] (by kernel_rfl) ?_ (fun hHeld => ?_)
      · exact ⟨K19.out.drew.c 14 rfl, K19.out.drew.c 15 rfl, K19.out.drew.c 11 rfl, K19.out.drew.c 12 rfl, K19.out.drew.c 13 rfl, K19.out.drew⟩
      refine wpAnyL_take (i := 0) (v := ?_) (some 99) rfl rfl (by kernel_rfl) (by kernel_rfl) (by kernel_rfl) (by kernel_rfl) (by kernel_rfl) (fun _ _ _ h => h) (Or.inl ⟨by rfl, ?_⟩) (by assumption) ?_
      rotate_left
      · intro wS hSw
        try dsimp only at hSw
        go_simp
        try with_reducible rfl
      try simp only [Act.put, List.setIfInBounds_toArray, List.set_cons_zero, List.set_cons_succ]
      refine wpAnyL_take (i := 2) (v := ?_) (some 101) rfl rfl (by kernel_rfl) (by kernel_rfl) (by kernel_rfl) (by kernel_rfl) (by kernel_rfl) (fun _ _ _ h => h) (Or.inl ⟨by rfl, ?_⟩) (by assumption) ?_
      rotate_left
      · intro wS hSw
        try dsimp only at hSw
        go_simp
        try with_reducible rfl
      try simp only [Act.put, List.setIfInBounds_toArray, List.set_cons_zero, List.set_cons_succ]
      refine wpAnyL_free (i := 4) (v := ?_) (some 103) rfl rfl (by kernel_rfl) (by kernel_rfl) (by kernel_rfl) (by decide) (fun _ _ _ h => h) (Or.inl ⟨by rfl, ?_⟩) (fun h0 => by assumption) ?_
      rotate_left
      · intro wS
        go_simp
        try with_reducible rfl
      try simp only [Act.put, List.setIfInBounds_toArray, List.set_cons_zero, List.set_cons_succ]
      refine wpAnyL_ready (rs := [1, 9]) (by kernel_rfl) (by simp) ?_
      refine AllReadyL.cons rfl (fun K hK => ?_) ?_
      · skip
        go_simp; go_at_call 21; refine (toTemplateE _ _ _ _ _ _ (hHeld.2.2.2.2.2.r 2 rfl :) HLP1.out).mono ?_; rintro e w20 ⟨a20, n20, c20, rfl, ho20, hb20⟩; have G20 := Lib.hid (OwnRels.at ho20); clear ho20
        have HSZ := Lib.hid (Nat.le_trans HSZ.out hb20.size)
        refine hK.out _ _ ?_ (fun hHeld => ?_)
        · exact ⟨below_cell hb20 hHeld.1, below_cell hb20 hHeld.2.1, below_cell hb20 hHeld.2.2.1, below_cell hb20 hHeld.2.2.2.1, below_cell hb20 hHeld.2.2.2.2.1, hHeld.2.2.2.2.2.below hb20⟩
        clear hK K
        try simp only [Act.put, List.setIfInBounds_toArray, List.set_cons_zero, List.set_cons_succ]
        refine wpAnyL_ready (rs := [3, 9]) (by kernel_rfl) (by simp) ?_
        refine AllReadyL.cons rfl (fun K hK => ?_) ?_
        · skip
          go_simp; go_at_call 22; refine (toFormula _ _ _ _ _ _ _ (hHeld.2.2.2.2.2.r 3 rfl :) HLP2.out).mono ?_; rintro e w21 ⟨a21, n21, c21, rfl, ho21, hb21⟩; have G21 := Lib.hid (OwnOps.at ho21); clear ho21
          have G20 := Lib.hid (G20.out.below hb21)
          have HSZ := Lib.hid (Nat.le_trans HSZ.out hb21.size)
          refine hK.out _ _ ?_ (fun hHeld => ?_)
          · exact ⟨below_cell hb21 hHeld.1, below_cell hb21 hHeld.2.1, below_cell hb21 hHeld.2.2.1, below_cell hb21 hHeld.2.2.2.1, below_cell hb21 hHeld.2.2.2.2.1, hHeld.2.2.2.2.2.below hb21⟩
          clear hK K
          try simp only [Act.put, List.setIfInBounds_toArray, List.set_cons_zero, List.set_cons_succ]
          refine wpAnyL_ready (rs := [5, 9]) (by kernel_rfl) (by simp) ?_
          refine AllReadyL.last rfl (by kernel_rfl) (fun K hK => ?_) ?_
          · skip
            have KB := Lib.hid (hHeld.2.2.2.2.2)
            have HSB := Lib.hid HSZ.out
            go_simp; go_at_call 31; refine (implHideVariable _ _ _ _ _ _ _ _ _ _ _ _ xR0 yR0 tR0 cd _ G20.out G21.out HI.out).mono ?_; rintro e w22 ⟨a22, n22, c22, rfl, ho22, hb22⟩
            have HSZ := Lib.hid (Nat.le_trans HSZ.out hb22.size)
            have KM := Lib.hid (KB.out.below hb22)
            refine hK.out _ _ ?_
            clear hK K
            try simp only [Act.put, List.setIfInBounds_toArray, List.set_cons_zero, List.set_cons_succ]
            refine wpAnyL_free (i := 6) (v := ?_) (some 98) rfl rfl (by kernel_rfl) (by kernel_rfl) (by kernel_rfl) (by decide) (fun _ _ _ h => h) (Or.inl ⟨by rfl, ?_⟩) (fun h0 => absurd h0 (by decide)) ?_
            rotate_left
            · intro wS
              go_simp
              try with_reducible rfl
            try simp only [Act.put, List.setIfInBounds_toArray, List.set_cons_zero, List.set_cons_succ]
            refine wpAnyL_free (i := 7) (v := ?_) (some 105) rfl rfl (by kernel_rfl) (by kernel_rfl) (by kernel_rfl) (by decide) (fun _ _ _ h => h) (Or.inl ⟨by rfl, ?_⟩) (fun h0 => absurd h0 (by decide)) ?_
            rotate_left
            · intro wS
              go_simp
              try with_reducible rfl
            try simp only [Act.put, List.setIfInBounds_toArray, List.set_cons_zero, List.set_cons_succ]
            refine wpAnyL_free (i := 8) (v := ?_) (some 106) rfl rfl (by kernel_rfl) (by kernel_rfl) (by kernel_rfl) (by decide) (fun _ _ _ h => h) (Or.inl ⟨by rfl, ?_⟩) (fun h0 => absurd h0 (by decide)) ?_
            rotate_left
            · intro wS
              go_simp
              try with_reducible rfl
            try simp only [Act.put, List.setIfInBounds_toArray, List.set_cons_zero, List.set_cons_succ]
            refine wpAnyL_ready (rs := [9]) (by kernel_rfl) (by simp) ?_
            refine AllReadyL.last rfl (by kernel_rfl) (fun K hK => ?_) AllReadyL.nil
            go_simp
            refine hK.out _ _ ?_
            clear hK K
            try simp only [Act.put, List.setIfInBounds_toArray, List.set_cons_zero, List.set_cons_succ]
            refine wpAnyL_ready (rs := [10]) (by kernel_rfl) (by simp) ?_
            refine AllReadyL.last rfl (by kernel_rfl) (fun K hK => ?_) AllReadyL.nil
            go_simp
            refine hK.out _ _ ?_
            clear hK K
            try simp only [Act.put, List.setIfInBounds_toArray, List.set_cons_zero, List.set_cons_succ]
            refine wpAnyL_free (i := 11) (v := ?_) (some 18) rfl rfl (by kernel_rfl) (by kernel_rfl) (by kernel_rfl) (by decide) (fun _ _ _ h => h) (Or.inl ⟨by rfl, ?_⟩) (fun h0 => absurd h0 (by decide)) ?_
            rotate_left
            · intro wS
              go_simp
              try with_reducible rfl
            try simp only [Act.put, List.setIfInBounds_toArray, List.set_cons_zero, List.set_cons_succ]
            refine wpAnyL_done (by kernel_rfl) ?_ _
            refine NoPanic.normal ?_
            go_wp2_with fail
            go_meet
            exact ⟨Made.late KM.out ho22 (sure_ops _ _ _) HSB.out hb22.size, rfl⟩
          refine AllReadyL.cons rfl (fun K hK => ?_) AllReadyL.nil
          have KX := Lib.hid (hHeld.2.2.2.2.2 : Kept w _ _ w21)
          have HBOX := Lib.hid (show Box _ _ w21.heap.size _ from Box.new 48 w21 #[.int .i64 0, .int .i64 0, .slice none 0 0])
          have HX := Lib.hid ((Below.refl w21.heap.size w21).alloc (Nat.le_refl _) (.cells #[.int .i64 0, .int .i64 0, .slice none 0 0] 48))
          have HSX := Lib.hid HSZ.out
          have HSZ := Lib.hid (Nat.le_trans HSZ.out HX.out.size)
          have G20 := Lib.hid (G20.out.below HX.out)
          have G21 := Lib.hid (G21.out.below HX.out)
          go_simp
          refine hK.out _ _ ?_ (fun hHeld => ?_)
          · exact ⟨below_cell ((Below.refl _ _).alloc (Nat.le_refl _) _) hHeld.1, below_cell ((Below.refl _ _).alloc (Nat.le_refl _) _) hHeld.2.1, below_cell ((Below.refl _ _).alloc (Nat.le_refl _) _) hHeld.2.2.1, below_cell ((Below.refl _ _).alloc (Nat.le_refl _) _) hHeld.2.2.2.1, below_cell ((Below.refl _ _).alloc (Nat.le_refl _) _) hHeld.2.2.2.2.1, hHeld.2.2.2.2.2.below ((Below.refl _ _).alloc (Nat.le_refl _) _)⟩
          clear hK K
          try simp only [Act.put, List.setIfInBounds_toArray, List.set_cons_zero, List.set_cons_succ]
          refine wpAnyL_ready (rs := [5]) (by kernel_rfl) (by simp) ?_
          refine AllReadyL.last rfl (by kernel_rfl) (fun K hK => ?_) AllReadyL.nil
          have KB := Lib.hid (hHeld.2.2.2.2.2)
          have HSB := Lib.hid HSZ.out
          have HLT := Lib.hid HBOX.out.lt
          go_simp; go_at_call 31; refine (implHideVariable _ _ _ _ _ _ _ _ _ _ _ _ xR0 yR0 tR0 cd _ G20.out G21.out HI.out).mono ?_; rintro e w22 ⟨a22, n22, c22, rfl, ho22, hb22⟩
          have HSZ := Lib.hid (Nat.le_trans HSZ.out hb22.size)
          have HX := Lib.hid (HX.out.trans (hb22.mono HX.out.size))
          have HBOX := Lib.hid (HBOX.out.below hb22)
          refine hK.out _ _ ?_
          clear hK K
          try simp only [Act.put, List.setIfInBounds_toArray, List.set_cons_zero, List.set_cons_succ]
          refine wpAnyL_free (i := 6) (v := ?_) (some 98) rfl rfl (by kernel_rfl) (by kernel_rfl) (by kernel_rfl) (by decide) (fun _ _ _ h => h) (Or.inl ⟨by rfl, ?_⟩) (fun h0 => absurd h0 (by decide)) ?_
          rotate_left
          · intro wS
            go_simp
            try with_reducible rfl
          try simp only [Act.put, List.setIfInBounds_toArray, List.set_cons_zero, List.set_cons_succ]
          refine wpAnyL_free (i := 7) (v := ?_) (some 105) rfl rfl (by kernel_rfl) (by kernel_rfl) (by kernel_rfl) (by decide) (fun _ _ _ h => h) (Or.inl ⟨by rfl, ?_⟩) (fun h0 => absurd h0 (by decide)) ?_
          rotate_left
          · intro wS
            go_simp
            try with_reducible rfl
          try simp only [Act.put, List.setIfInBounds_toArray, List.set_cons_zero, List.set_cons_succ]
          refine wpAnyL_free (i := 8) (v := ?_) (some 106) rfl rfl (by kernel_rfl) (by kernel_rfl) (by kernel_rfl) (by decide) (fun _ _ _ h => h) (Or.inl ⟨by rfl, ?_⟩) (fun h0 => absurd h0 (by decide)) ?_
          rotate_left
          · intro wS
            go_simp
            try with_reducible rfl
          try simp only [Act.put, List.setIfInBounds_toArray, List.set_cons_zero, List.set_cons_succ]
          refine wpAnyL_ready (rs := [10]) (by kernel_rfl) (by simp) ?_
          refine AllReadyL.last rfl (by kernel_rfl) (fun K hK => ?_) AllReadyL.nil
          have d0 := HBOX.out.c 0 rfl
          have d1 := HBOX.out.c 1 rfl
          have d2 := HBOX.out.c 2 rfl
          have f0 := HBOX.out.free 0
          have f1 := HBOX.out.free 1
          have f2 := HBOX.out.free 2
          go_simp
          refine hK.out _ _ ?_
          clear hK K
          try simp only [Act.put, List.setIfInBounds_toArray, List.set_cons_zero, List.set_cons_succ]
          refine wpAnyL_free (i := 11) (v := ?_) (some 18) rfl rfl (by kernel_rfl) (by kernel_rfl) (by kernel_rfl) (by decide) (fun _ _ _ h => h) (Or.inl ⟨by rfl, ?_⟩) (fun h0 => absurd h0 (by decide)) ?_
          rotate_left
          · intro wS
            go_simp
            try with_reducible rfl
          try simp only [Act.put, List.setIfInBounds_toArray, List.set_cons_zero, List.set_cons_succ]
          refine wpAnyL_done (by kernel_rfl) ?_ _
          refine NoPanic.normal ?_
          go_wp2_with fail
          go_meet
          exact ⟨Made.early3 (X := w21) KX.out HX.out HBOX.out ho22 (sure_ops _ _ _) HSX.out HLT.out, rfl⟩
        refine AllReadyL.cons rfl (fun K hK => ?_) AllReadyL.nil
        have KX := Lib.hid (hHeld.2.2.2.2.2 : Kept w _ _ w20)
        have HBOX := Lib.hid (show Box _ _ w20.heap.size _ from Box.new 48 w20 #[.int .i64 0, .int .i64 0, .slice none 0 0])
        have HX := Lib.hid ((Below.refl w20.heap.size w20).alloc (Nat.le_refl _) (.cells #[.int .i64 0, .int .i64 0, .slice none 0 0] 48))
        have HSX := Lib.hid HSZ.out
        have HSZ := Lib.hid (Nat.le_trans HSZ.out HX.out.size)
        have G20 := Lib.hid (G20.out.below HX.out)
        go_simp
        refine hK.out _ _ ?_ (fun hHeld => ?_)
        · exact ⟨below_cell ((Below.refl _ _).alloc (Nat.le_refl _) _) hHeld.1, below_cell ((Below.refl _ _).alloc (Nat.le_refl _) _) hHeld.2.1, below_cell ((Below.refl _ _).alloc (Nat.le_refl _) _) hHeld.2.2.1, below_cell ((Below.refl _ _).alloc (Nat.le_refl _) _) hHeld.2.2.2.1, below_cell ((Below.refl _ _).alloc (Nat.le_refl _) _) hHeld.2.2.2.2.1, hHeld.2.2.2.2.2.below ((Below.refl _ _).alloc (Nat.le_refl _) _)⟩
        clear hK K
        try simp only [Act.put, List.setIfInBounds_toArray, List.set_cons_zero, List.set_cons_succ]
        refine wpAnyL_ready (rs := [3]) (by kernel_rfl) (by simp) ?_
        refine AllReadyL.cons rfl (fun K hK => ?_) AllReadyL.nil
        go_simp; go_at_call 22; refine (toFormula _ _ _ _ _ _ _ (hHeld.2.2.2.2.2.r 3 rfl :) HLP2.out).mono ?_; rintro e w21 ⟨a21, n21, c21, rfl, ho21, hb21⟩; have G21 := Lib.hid (OwnOps.at ho21); clear ho21
        have G20 := Lib.hid (G20.out.below hb21)
        have HSZ := Lib.hid (Nat.le_trans HSZ.out hb21.size)
        have HX := Lib.hid (HX.out.trans (hb21.mono HX.out.size))
        have HBOX := Lib.hid (HBOX.out.below hb21)
        refine hK.out _ _ ?_ (fun hHeld => ?_)
        · exact ⟨below_cell hb21 hHeld.1, below_cell hb21 hHeld.2.1, below_cell hb21 hHeld.2.2.1, below_cell hb21 hHeld.2.2.2.1, below_cell hb21 hHeld.2.2.2.2.1, hHeld.2.2.2.2.2.below hb21⟩
        clear hK K
        try simp only [Act.put, List.setIfInBounds_toArray, List.set_cons_zero, List.set_cons_succ]
        refine wpAnyL_ready (rs := [5]) (by kernel_rfl) (by simp) ?_
        refine AllReadyL.last rfl (by kernel_rfl) (fun K hK => ?_) AllReadyL.nil
        have KB := Lib.hid (hHeld.2.2.2.2.2)
        have HSB := Lib.hid HSZ.out
        have HLT := Lib.hid HBOX.out.lt
        go_simp; go_at_call 31; refine (implHideVariable _ _ _ _ _ _ _ _ _ _ _ _ xR0 yR0 tR0 cd _ G20.out G21.out HI.out).mono ?_; rintro e w22 ⟨a22, n22, c22, rfl, ho22, hb22⟩
        have HSZ := Lib.hid (Nat.le_trans HSZ.out hb22.size)
        have HX := Lib.hid (HX.out.trans (hb22.mono HX.out.size))
        have HBOX := Lib.hid (HBOX.out.below hb22)
        refine hK.out _ _ ?_
        clear hK K
        try simp only [Act.put, List.setIfInBounds_toArray, List.set_cons_zero, List.set_cons_succ]
        refine wpAnyL_free (i := 6) (v := ?_) (some 98) rfl rfl (by kernel_rfl) (by kernel_rfl) (by kernel_rfl) (by decide) (fun _ _ _ h => h) (Or.inl ⟨by rfl, ?_⟩) (fun h0 => absurd h0 (by decide)) ?_
        rotate_left
        · intro wS
          go_simp
          try with_reducible rfl
        try simp only [Act.put, List.setIfInBounds_toArray, List.set_cons_zero, List.set_cons_succ]
        refine wpAnyL_free (i := 7) (v := ?_) (some 105) rfl rfl (by kernel_rfl) (by kernel_rfl) (by kernel_rfl) (by decide) (fun _ _ _ h => h) (Or.inl ⟨by rfl, ?_⟩) (fun h0 => absurd h0 (by decide)) ?_
        rotate_left
        · intro wS
          go_simp
          try with_reducible rfl
        try simp only [Act.put, List.setIfInBounds_toArray, List.set_cons_zero, List.set_cons_succ]
        refine wpAnyL_free (i := 8) (v := ?_) (some 106) rfl rfl (by kernel_rfl) (by kernel_rfl) (by kernel_rfl) (by decide) (fun _ _ _ h => h) (Or.inl ⟨by rfl, ?_⟩) (fun h0 => absurd h0 (by decide)) ?_
        rotate_left
        · intro wS
          go_simp
          try with_reducible rfl
        try simp only [Act.put, List.setIfInBounds_toArray, List.set_cons_zero, List.set_cons_succ]
        refine wpAnyL_ready (rs := [10]) (by kernel_rfl) (by simp) ?_
        refine AllReadyL.last rfl (by kernel_rfl) (fun K hK => ?_) AllReadyL.nil
        have d0 := HBOX.out.c 0 rfl
        have d1 := HBOX.out.c 1 rfl
        have d2 := HBOX.out.c 2 rfl
        have f0 := HBOX.out.free 0
        have f1 := HBOX.out.free 1
        have f2 := HBOX.out.free 2
        go_simp
        refine hK.out _ _ ?_
        clear hK K
        try simp only [Act.put, List.setIfInBounds_toArray, List.set_cons_zero, List.set_cons_succ]
        refine wpAnyL_free (i := 11) (v := ?_) (some 18) rfl rfl (by kernel_rfl) (by kernel_rfl) (by kernel_rfl) (by decide) (fun _ _ _ h => h) (Or.inl ⟨by rfl, ?_⟩) (fun h0 => absurd h0 (by decide)) ?_
        rotate_left
        · intro wS
          go_simp
          try with_reducible rfl
        try simp only [Act.put, List.setIfInBounds_toArray, List.set_cons_zero, List.set_cons_succ]
        refine wpAnyL_done (by kernel_rfl) ?_ _
        refine NoPanic.normal ?_
        go_wp2_with fail
        go_meet
        exact ⟨Made.early3 (X := w20) KX.out HX.out HBOX.out ho22 (sure_ops _ _ _) HSX.out HLT.out, rfl⟩
      refine AllReadyL.cons rfl (fun K hK => ?_) AllReadyL.nil
      have KX := Lib.hid (hHeld.2.2.2.2.2 : Kept w _ _ w19.drew)
      have HBOX := Lib.hid (show Box _ _ w19.heap.size _ from Box.new 48 w19.drew #[.int .i64 0, .int .i64 0, .slice none 0 0])
      have HX := Lib.hid ((Below.refl w19.drew.heap.size w19.drew).alloc (Nat.le_refl _) (.cells #[.int .i64 0, .int .i64 0, .slice none 0 0] 48))
      have HSX := Lib.hid HSZ.out
      have HSZ := Lib.hid (Nat.le_trans HSZ.out HX.out.size)
      go_simp
      refine hK.out _ _ ?_ (fun hHeld => ?_)
      · exact ⟨below_cell ((Below.refl _ _).alloc (Nat.le_refl _) _) hHeld.1, below_cell ((Below.refl _ _).alloc (Nat.le_refl _) _) hHeld.2.1, below_cell ((Below.refl _ _).alloc (Nat.le_refl _) _) hHeld.2.2.1, below_cell ((Below.refl _ _).alloc (Nat.le_refl _) _) hHeld.2.2.2.1, below_cell ((Below.refl _ _).alloc (Nat.le_refl _) _) hHeld.2.2.2.2.1, hHeld.2.2.2.2.2.below ((Below.refl _ _).alloc (Nat.le_refl _) _)⟩
      clear hK K
      try simp only [Act.put, List.setIfInBounds_toArray, List.set_cons_zero, List.set_cons_succ]
      refine wpAnyL_ready (rs := [1]) (by kernel_rfl) (by simp) ?_
      refine AllReadyL.cons rfl (fun K hK => ?_) AllReadyL.nil
      go_simp; go_at_call 21; refine (toTemplateE _ _ _ _ _ _ (hHeld.2.2.2.2.2.r 2 rfl :) HLP1.out).mono ?_; rintro e w20 ⟨a20, n20, c20, rfl, ho20, hb20⟩; have G20 := Lib.hid (OwnRels.at ho20); clear ho20
      have HSZ := Lib.hid (Nat.le_trans HSZ.out hb20.size)
      have HX := Lib.hid (HX.out.trans (hb20.mono HX.out.size))
      have HBOX := Lib.hid (HBOX.out.below hb20)
      refine hK.out _ _ ?_ (fun hHeld => ?_)
      · exact ⟨below_cell hb20 hHeld.1, below_cell hb20 hHeld.2.1, below_cell hb20 hHeld.2.2.1, below_cell hb20 hHeld.2.2.2.1, below_cell hb20 hHeld.2.2.2.2.1, hHeld.2.2.2.2.2.below hb20⟩
      clear hK K
      try simp only [Act.put, List.setIfInBounds_toArray, List.set_cons_zero, List.set_cons_succ]
      refine wpAnyL_ready (rs := [3]) (by kernel_rfl) (by simp) ?_
      refine AllReadyL.cons rfl (fun K hK => ?_) AllReadyL.nil
      go_simp; go_at_call 22; refine (toFormula _ _ _ _ _ _ _ (hHeld.2.2.2.2.2.r 3 rfl :) HLP2.out).mono ?_; rintro e w21 ⟨a21, n21, c21, rfl, ho21, hb21⟩; have G21 := Lib.hid (OwnOps.at ho21); clear ho21
      have G20 := Lib.hid (G20.out.below hb21)
      have HSZ := Lib.hid (Nat.le_trans HSZ.out hb21.size)
      have HX := Lib.hid (HX.out.trans (hb21.mono HX.out.size))
      have HBOX := Lib.hid (HBOX.out.below hb21)
      refine hK.out _ _ ?_ (fun hHeld => ?_)
      · exact ⟨below_cell hb21 hHeld.1, below_cell hb21 hHeld.2.1, below_cell hb21 hHeld.2.2.1, below_cell hb21 hHeld.2.2.2.1, below_cell hb21 hHeld.2.2.2.2.1, hHeld.2.2.2.2.2.below hb21⟩
      clear hK K
      try simp only [Act.put, List.setIfInBounds_toArray, List.set_cons_zero, List.set_cons_succ]
      refine wpAnyL_ready (rs := [5]) (by kernel_rfl) (by simp) ?_
      refine AllReadyL.last rfl (by kernel_rfl) (fun K hK => ?_) AllReadyL.nil
      have KB := Lib.hid (hHeld.2.2.2.2.2)
      have HSB := Lib.hid HSZ.out
      have HLT := Lib.hid HBOX.out.lt
      go_simp; go_at_call 31; refine (implHideVariable _ _ _ _ _ _ _ _ _ _ _ _ xR0 yR0 tR0 cd _ G20.out G21.out HI.out).mono ?_; rintro e w22 ⟨a22, n22, c22, rfl, ho22, hb22⟩
      have HSZ := Lib.hid (Nat.le_trans HSZ.out hb22.size)
      have HX := Lib.hid (HX.out.trans (hb22.mono HX.out.size))
      have HBOX := Lib.hid (HBOX.out.below hb22)
      refine hK.out _ _ ?_
      clear hK K
      try simp only [Act.put, List.setIfInBounds_toArray, List.set_cons_zero, List.set_cons_succ]
      refine wpAnyL_free (i := 6) (v := ?_) (some 98) rfl rfl (by kernel_rfl) (by kernel_rfl) (by kernel_rfl) (by decide) (fun _ _ _ h => h) (Or.inl ⟨by rfl, ?_⟩) (fun h0 => absurd h0 (by decide)) ?_
      rotate_left
      · intro wS
        go_simp
        try with_reducible rfl
      try simp only [Act.put, List.setIfInBounds_toArray, List.set_cons_zero, List.set_cons_succ]
      refine wpAnyL_free (i := 7) (v := ?_) (some 105) rfl rfl (by kernel_rfl) (by kernel_rfl) (by kernel_rfl) (by decide) (fun _ _ _ h => h) (Or.inl ⟨by rfl, ?_⟩) (fun h0 => absurd h0 (by decide)) ?_
      rotate_left
      · intro wS
        go_simp
        try with_reducible rfl
      try simp only [Act.put, List.setIfInBounds_toArray, List.set_cons_zero, List.set_cons_succ]
      refine wpAnyL_free (i := 8) (v := ?_) (some 106) rfl rfl (by kernel_rfl) (by kernel_rfl) (by kernel_rfl) (by decide) (fun _ _ _ h => h) (Or.inl ⟨by rfl, ?_⟩) (fun h0 => absurd h0 (by decide)) ?_
      rotate_left
      · intro wS
        go_simp
        try with_reducible rfl
      try simp only [Act.put, List.setIfInBounds_toArray, List.set_cons_zero, List.set_cons_succ]
      refine wpAnyL_ready (rs := [10]) (by kernel_rfl) (by simp) ?_
      refine AllReadyL.last rfl (by kernel_rfl) (fun K hK => ?_) AllReadyL.nil
      have d0 := HBOX.out.c 0 rfl
      have d1 := HBOX.out.c 1 rfl
      have d2 := HBOX.out.c 2 rfl
      have f0 := HBOX.out.free 0
      have f1 := HBOX.out.free 1
      have f2 := HBOX.out.free 2
      go_simp
      refine hK.out _ _ ?_
      clear hK K
      try simp only [Act.put, List.setIfInBounds_toArray, List.set_cons_zero, List.set_cons_succ]
      refine wpAnyL_free (i := 11) (v := ?_) (some 18) rfl rfl (by kernel_rfl) (by kernel_rfl) (by kernel_rfl) (by decide) (fun _ _ _ h => h) (Or.inl ⟨by rfl, ?_⟩) (fun h0 => absurd h0 (by decide)) ?_
      rotate_left
      · intro wS
        go_simp
        try with_reducible rfl
      try simp only [Act.put, List.setIfInBounds_toArray, List.set_cons_zero, List.set_cons_succ]
      refine wpAnyL_done (by kernel_rfl) ?_ _
      refine NoPanic.normal ?_
      go_wp2_with fail
      go_meet
      exact ⟨Made.early3 (X := w19.drew) KX.out HX.out HBOX.out ho22 (sure_ops _ _ _) HSX.out HLT.out, rfl⟩
    case rest =>
      obtain ⟨⟨bk22, f22, e22, a22, n22, c22, rfl, hk22, hx22, ho22, l1, l2, l3, l4⟩, rfl⟩ := hcut
      obtain ⟨w22, hw22⟩ : ∃ y, y = wc := ⟨_, rfl⟩
      subst hw22
      have HY22 : Hid (w19.heap.size ≤ bk22 ∧ bk22 < w22.heap.size ∧ w19.heap.size ≤ f22 ∧ (bk22 < f22 ∨ e22 ≤ bk22) ∧ e22 ≤ w22.heap.size ∧ w.heap.size + 2 ≤ w19.heap.size) := Lib.hid ⟨l1, hx22.lt, l2, l3, l4, cell_block_lt (K19.out.c 11 rfl)⟩
      have K22 := Lib.hid ((((hk22.read (lives_ownOps _ _ _ _ _) ho22).cell (hx22.c 2 rfl)).cell (hx22.c 1 rfl)).cell (hx22.c 0 rfl))
      clear hk22 hx22 ho22 l1 l2 l3 l4
      clear cd33 cd34 cd35 cd36 cd37
      have cd38 := K22.out.c 0 rfl
      have cd39 := K22.out.c 1 rfl
      have cd40 := K22.out.c 2 rfl
      have cd41 := K22.out.c 11 rfl
      have cd42 := K22.out.c 12 rfl
      have cd43 := K22.out.c 13 rfl
      go_wp2_with fail
      refine (eqFormula' _ _ _ _ _ _ _ _ _ _ _ _ true _ (OwnOps.at (K22.out.r 0 rfl :)) (OwnOps.at (K22.out.r 2 rfl :)) (eqF_same _ _ _)).mono ?_
      rintro e w23 ⟨rfl, hb23⟩
      have K23 := Lib.hid (K22.out.below hb23)
      clear cd38 cd39 cd40 cd41 cd42 cd43
      clear hb23
      have cd44 := K23.out.c 3 rfl
      have cd45 := K23.out.c 4 rfl
      have cd46 := K23.out.c 5 rfl
      go_wp2_with fail
      refine (heldFormula _ _ _ _ _ _ _ _ (OwnOps.at (K23.out.r 1 rfl :)) (by omega) (by have := HS.out; omega)).mono ?_
      rintro e w24 ⟨rfl, hb24⟩
      have K24 := Lib.hid (K23.out.below hb24)
      clear cd44 cd45 cd46
      clear hb24
      go_wp2
      go_ret
      exact ⟨rfl, K24.out.bel⟩

end Go.Proofs.Ytpibigdfepgfnaa
