/-
  FnExactPlaceFormula: the walk over the law.
-/
import Derived.Test.YtnbgpeoceejolabPlaceS
import Derived.Test.YtnbgpeoceejolabMarkF
import Derived.Test.YtnbgpeoceejolabMarkT
import Derived.Test.YtnbgpeoceejolabGBase
import Derived.Test.YtnbgpeoceejolabReg
import Derived.Test.YtnbgpeoceejolabKept3
import Derived.Test.YtnbgpeoceejolabStab2
import Derived.Test.YtnbgpeoceejolabMade
import Derived.Deep.CutRange
import Derived.Deep.RegionHeld3
namespace Go.Proofs.Ytnbgpeoceejolab
open Go.RowKit

set_option linter.unusedSimpArgs false in
set_option maxHeartbeats 4000000 in
set_option maxRecDepth 100000 in
theorem lawPlaceFormula (xP1 : Int) (aP1 : Option Addr) (nP1 cP1 : Nat) (tP1 : List (Int × List (List Int))) (xP2 : Int) (yP2 : Int) (aP2 : Option Addr) (nP2 cP2 : Nat) (tP2 : List (Int × List Int)) (free : Int) (aP3 : Option Addr) (nP3 cP3 : Nat) (tP3 : List Int) (w : World) (hP1 : RelsAt w (.slice aP1 nP1 cP1) tP1) (hP2 : OpsAt w (.slice aP2 nP2 cP2) tP2) (hP3 : RowAt w (.slice aP3 nP3 cP3) tP3) :
    Calls Try.prog 4 #[.agg #[.int .i64 xP1, .slice aP1 nP1 cP1], .agg #[.int .i64 xP2, .int .i64 yP2, .slice aP2 nP2 cP2], .int .i64 free, .slice aP3 nP3 cP3] w fun e w' => e = .returned (.bool true) ∧ Below w.heap.size w w' := by
  obtain rfl : nP3 = tP3.length := by obtain ⟨_, _, hv, _⟩ := hP3; simp only [Value.slice.injEq] at hv; exact hv.2.1
  have hnP3 : tP3.length ≤ 9223372036854775807 := by obtain ⟨_, _, _, hn, _⟩ := hP3; exact hn
  have HAP1 := Lib.hid (stab_rels hP1)
  have HAP2 := Lib.hid (stab_ops hP2)
  have HAP3 := Lib.hid (stab_row hP3)
  have K0 := Lib.hid ((((((Kept.start w).read (lives_rels _ _) hP1).read (lives_ops _ _) hP2).read (lives_row _ _) hP3).box (w.heap.size) rfl (.int .i64 xP1) (.slice aP1 nP1 cP1) 24).box3 (w.heap.size + 1) (by simp) (.int .i64 xP2) (.int .i64 yP2) (.slice aP2 nP2 cP2) 27)
  clear hP1 hP2 hP3
  by_cases hlP3 : (1048576 : Int) < tP3.length
  · go_enter Try.func4, Try.ntmps4
    go_wp2
    go_ret
    exact ⟨rfl, K0.out.bel⟩
  by_cases hzP1 : (1048576 : Int) < relsSize tP1
  · have HF := Lib.hid (szF_no hzP1)
    clear hzP1
    go_enter Try.func4, Try.ntmps4
    go_wp2_with fail
    refine (szTemplate _ _ _ _ _ _ _ (K0.out.r 2 rfl :) (by omega) (by omega)).mono ?_
    rw [HF.out]
    rintro e w1 ⟨rfl, hb1⟩
    have KE := Lib.hid (K0.out.below hb1).bel
    clear hb1
    go_wp2
    go_ret
    exact ⟨rfl, KE.out⟩
  have HF1 := Lib.hid (szF_yes (t := relsSize tP1) (l := 1048576) (by omega))
  have hp1 : ¬ (1048576 - (relsSize tP1 : Int) < 0) := by omega
  have hp1' : (1048576 - (relsSize tP1 : Int)) ≤ 1048576 := by omega
  by_cases hzP2 : (1048576 - (relsSize tP1 : Int) : Int) < opsSize tP2
  · have HF := Lib.hid (szF_no hzP2)
    clear hzP2
    go_enter Try.func4, Try.ntmps4
    go_wp2_with fail
    refine (szTemplate _ _ _ _ _ _ _ (K0.out.r 2 rfl :) (by omega) (by omega)).mono ?_
    rw [HF1.out]
    rintro e w1 ⟨rfl, hb1⟩
    have K1 := Lib.hid (K0.out.below hb1)
    clear hb1
    have cc0 := K1.out.c 0 rfl
    have cc1 := K1.out.c 1 rfl
    have cc2 := K1.out.c 2 rfl
    have cc3 := K1.out.c 3 rfl
    have cc4 := K1.out.c 4 rfl
    go_wp2_with fail
    refine (szFormula _ _ _ _ _ _ _ _ (K1.out.r 1 rfl :) (by omega) (by omega)).mono ?_
    rw [HF.out]
    rintro e w2 ⟨rfl, hb2⟩
    have KE := Lib.hid (K1.out.below hb2).bel
    clear hb2
    go_wp2
    go_ret
    exact ⟨rfl, KE.out⟩
  have HF2 := Lib.hid (szF_yes (t := opsSize tP2) (l := 1048576 - (relsSize tP1 : Int)) (by omega))
  have hp2 : ¬ (1048576 - (relsSize tP1 : Int) - (opsSize tP2 : Int) < 0) := by omega
  have hp2' : (1048576 - (relsSize tP1 : Int) - (opsSize tP2 : Int)) ≤ 1048576 := by omega
  have HLP1 : Hid (relsSize tP1 ≤ 1048576) := by
    show _ ≤ _
    omega
  have HLP2 : Hid (opsSize tP2 ≤ 1048576) := by
    show _ ≤ _
    omega
  have HLP3 : Hid (tP3.length ≤ 1048576) := by show _ ≤ _; omega
  obtain ⟨xR0, yR0, tR0, cd, hi⟩ := PlaceFormulaIs.exists xP1 tP1 xP2 yP2 tP2 free tP3
  have HI := Lib.hid hi
  have HS := Lib.hid hi.small
  clear hi hzP1 hzP2
  go_enter Try.func4, Try.ntmps4
  go_wp2_with fail
  refine (szTemplate _ _ _ _ _ _ _ (K0.out.r 2 rfl :) (by omega) (by omega)).mono ?_
  rw [HF1.out]
  rintro e w1 ⟨rfl, hb1⟩
  have K1 := Lib.hid (K0.out.below hb1)
  clear hb1
  have cc0 := K1.out.c 0 rfl
  have cc1 := K1.out.c 1 rfl
  have cc2 := K1.out.c 2 rfl
  have cc3 := K1.out.c 3 rfl
  have cc4 := K1.out.c 4 rfl
  go_wp2_with fail
  refine (szFormula _ _ _ _ _ _ _ _ (K1.out.r 1 rfl :) (by omega) (by omega)).mono ?_
  rw [HF2.out]
  rintro e w2 ⟨rfl, hb2⟩
  have K2 := Lib.hid (K1.out.below hb2)
  clear hb2 cc0 cc1 cc2 cc3 cc4
  have cc0 := K2.out.c 0 rfl
  have cc1 := K2.out.c 1 rfl
  have cc2 := K2.out.c 2 rfl
  have cc3 := K2.out.c 3 rfl
  have cc4 := K2.out.c 4 rfl
  go_wp2_with fail
  -- the model's answer
  go_cut [10, 11] from 22 (fun v0 v1 wz => Made 32 w [(⟨w.heap.size + 1, 0, none⟩, .int .i64 xP2), (⟨w.heap.size + 1, 1, none⟩, .int .i64 yP2), (⟨w.heap.size + 1, 2, none⟩, .slice aP2 nP2 cP2), (⟨w.heap.size, 0, none⟩, .int .i64 xP1), (⟨w.heap.size, 1, none⟩, .slice aP1 nP1 cP1)] [fun w => RowAt w (.slice aP3 tP3.length cP3) tP3, fun w => OpsAt w (.slice aP2 nP2 cP2) tP2, fun w => RelsAt w (.slice aP1 nP1 cP1) tP1] w2.heap.size (fun v w B E => (OwnOps 83) w B E v tR0) (fun v => #[.int .i64 xR0, .int .i64 yR0, v]) v0 wz ∧ v1 = .int .i64 cd)
  case first =>
    have HSZ : Hid (w2.heap.size ≤ w2.drew.heap.size) := Lib.hid (Nat.le_refl _)
    refine wp_region_noPanic ?_
    refine wp_region_late (S := (fun w' => w'.cell? ⟨w.heap.size, 0, none⟩ = some (.int .i64 xP1) ∧ w'.cell? ⟨w.heap.size, 1, none⟩ = some (.slice aP1 nP1 cP1) ∧ w'.cell? ⟨w.heap.size + 1, 0, none⟩ = some (.int .i64 xP2) ∧ w'.cell? ⟨w.heap.size + 1, 1, none⟩ = some (.int .i64 yP2) ∧ w'.cell? ⟨w.heap.size + 1, 2, none⟩ = some (.slice aP2 nP2 cP2) ∧ Kept w [(⟨w.heap.size + 1, 0, none⟩, .int .i64 xP2), (⟨w.heap.size + 1, 1, none⟩, .int .i64 yP2), (⟨w.heap.size + 1, 2, none⟩, .slice aP2 nP2 cP2), (⟨w.heap.size, 0, none⟩, .int .i64 xP1), (⟨w.heap.size, 1, none⟩, .slice aP1 nP1 cP1)] [fun w => RowAt w (.slice aP3 tP3.length cP3) tP3, fun w => OpsAt w (.slice aP2 nP2 cP2) tP2, fun w => RelsAt w (.slice aP1 nP1 cP1) tP1] w')) [7, 12] (by kernel_rfl) ?_ (fun hHeld => ?_)
    · exact ⟨K2.out.drew.c 3 rfl, K2.out.drew.c 4 rfl, K2.out.drew.c 0 rfl, K2.out.drew.c 1 rfl, K2.out.drew.c 2 rfl, K2.out.drew⟩
    refine wpAnyL_take (i := 0) (v := ?_) (some 36) rfl rfl (by kernel_rfl) (by kernel_rfl) (by kernel_rfl) (by kernel_rfl) (by kernel_rfl) (fun _ _ _ h => h) (Or.inl ⟨by rfl, ?_⟩) (by assumption) ?_
    rotate_left
    · intro wS hSw
      try dsimp only at hSw
      go_simp
      try with_reducible rfl
    try simp only [Act.put, List.setIfInBounds_toArray, List.set_cons_zero, List.set_cons_succ]
    refine wpAnyL_take (i := 2) (v := ?_) (some 38) rfl rfl (by kernel_rfl) (by kernel_rfl) (by kernel_rfl) (by kernel_rfl) (by kernel_rfl) (fun _ _ _ h => h) (Or.inl ⟨by rfl, ?_⟩) (by assumption) ?_
    rotate_left
    · intro wS hSw
      try dsimp only at hSw
      go_simp
      try with_reducible rfl
    try simp only [Act.put, List.setIfInBounds_toArray, List.set_cons_zero, List.set_cons_succ]
    refine wpAnyL_free (i := 4) (v := ?_) (some 40) rfl rfl (by kernel_rfl) (by kernel_rfl) (by kernel_rfl) (by decide) (fun _ _ _ h => h) (Or.inl ⟨by rfl, ?_⟩) (fun h0 => by assumption) ?_
    rotate_left
    · intro wS
      go_simp
      try with_reducible rfl
    try simp only [Act.put, List.setIfInBounds_toArray, List.set_cons_zero, List.set_cons_succ]
    refine wpAnyL_free (i := 5) (v := ?_) (some 41) rfl rfl (by kernel_rfl) (by kernel_rfl) (by kernel_rfl) (by decide) (fun _ _ _ h => h) (Or.inl ⟨by rfl, ?_⟩) (fun h0 => by assumption) ?_
    rotate_left
    · intro wS
      go_simp
      try with_reducible rfl
    try simp only [Act.put, List.setIfInBounds_toArray, List.set_cons_zero, List.set_cons_succ]
    refine wpAnyL_ready (rs := [1, 11]) (by kernel_rfl) (by simp) ?_
    refine AllReadyL.cons rfl (fun K hK => ?_) ?_
    · skip
      go_simp; go_at_call 9; refine (toTemplateE _ _ _ _ _ _ (hHeld.2.2.2.2.2.r 2 rfl :) HLP1.out).mono ?_; rintro e w3 ⟨a3, n3, c3, rfl, ho3, hb3⟩; have G3 := Lib.hid (OwnRels.at ho3); clear ho3
      have HSZ := Lib.hid (Nat.le_trans HSZ.out hb3.size)
      refine hK.out _ _ ?_ (fun hHeld => ?_)
      · exact ⟨below_cell hb3 hHeld.1, below_cell hb3 hHeld.2.1, below_cell hb3 hHeld.2.2.1, below_cell hb3 hHeld.2.2.2.1, below_cell hb3 hHeld.2.2.2.2.1, hHeld.2.2.2.2.2.below hb3⟩
      clear hK K
      try simp only [Act.put, List.setIfInBounds_toArray, List.set_cons_zero, List.set_cons_succ]
      refine wpAnyL_ready (rs := [3, 11]) (by kernel_rfl) (by simp) ?_
      refine AllReadyL.cons rfl (fun K hK => ?_) ?_
      · skip
        go_simp; go_at_call 10; refine (toFormula _ _ _ _ _ _ _ (hHeld.2.2.2.2.2.r 1 rfl :) HLP2.out).mono ?_; rintro e w4 ⟨a4, n4, c4, rfl, ho4, hb4⟩; have G4 := Lib.hid (OwnOps.at ho4); clear ho4
        have G3 := Lib.hid (G3.out.below hb4)
        have HSZ := Lib.hid (Nat.le_trans HSZ.out hb4.size)
        refine hK.out _ _ ?_ (fun hHeld => ?_)
        · exact ⟨below_cell hb4 hHeld.1, below_cell hb4 hHeld.2.1, below_cell hb4 hHeld.2.2.1, below_cell hb4 hHeld.2.2.2.1, below_cell hb4 hHeld.2.2.2.2.1, hHeld.2.2.2.2.2.below hb4⟩
        clear hK K
        try simp only [Act.put, List.setIfInBounds_toArray, List.set_cons_zero, List.set_cons_succ]
        refine wpAnyL_ready (rs := [6, 11]) (by kernel_rfl) (by simp) ?_
        refine AllReadyL.cons rfl (fun K hK => ?_) ?_
        · skip
          go_simp; go_at_call 18; refine (toRowE _ _ _ (hHeld.2.2.2.2.2.r 0 rfl :) HLP3.out).mono ?_; rintro e w5 ⟨a5, n5, c5, rfl, ho5, hb5⟩; have G5 := Lib.hid (OwnRowE.at ho5); clear ho5
          have G3 := Lib.hid (G3.out.below hb5)
          have G4 := Lib.hid (G4.out.below hb5)
          have HSZ := Lib.hid (Nat.le_trans HSZ.out hb5.size)
          refine hK.out _ _ ?_ (fun hHeld => ?_)
          · exact ⟨below_cell hb5 hHeld.1, below_cell hb5 hHeld.2.1, below_cell hb5 hHeld.2.2.1, below_cell hb5 hHeld.2.2.2.1, below_cell hb5 hHeld.2.2.2.2.1, hHeld.2.2.2.2.2.below hb5⟩
          clear hK K
          try simp only [Act.put, List.setIfInBounds_toArray, List.set_cons_zero, List.set_cons_succ]
          refine wpAnyL_ready (rs := [7, 11]) (by kernel_rfl) (by simp) ?_
          refine AllReadyL.last rfl (by kernel_rfl) (fun K hK => ?_) ?_
          · skip
            have KB := Lib.hid (hHeld.2.2.2.2.2)
            have HSB := Lib.hid HSZ.out
            go_simp; go_at_call 17; refine (specPlaceFormula _ _ _ _ _ _ _ _ _ _ _ _ _ _ xR0 yR0 tR0 cd _ G3.out G4.out G5.out HI.out).mono ?_; rintro e w6 ⟨a6, n6, c6, rfl, ho6, hb6⟩
            have HSZ := Lib.hid (Nat.le_trans HSZ.out hb6.size)
            have KM := Lib.hid (KB.out.below hb6)
            refine hK.out _ _ ?_
            clear hK K
            try simp only [Act.put, List.setIfInBounds_toArray, List.set_cons_zero, List.set_cons_succ]
            refine wpAnyL_free (i := 8) (v := ?_) (some 35) rfl rfl (by kernel_rfl) (by kernel_rfl) (by kernel_rfl) (by decide) (fun _ _ _ h => h) (Or.inl ⟨by rfl, ?_⟩) (fun h0 => absurd h0 (by decide)) ?_
            rotate_left
            · intro wS
              go_simp
              try with_reducible rfl
            try simp only [Act.put, List.setIfInBounds_toArray, List.set_cons_zero, List.set_cons_succ]
            refine wpAnyL_free (i := 9) (v := ?_) (some 44) rfl rfl (by kernel_rfl) (by kernel_rfl) (by kernel_rfl) (by decide) (fun _ _ _ h => h) (Or.inl ⟨by rfl, ?_⟩) (fun h0 => absurd h0 (by decide)) ?_
            rotate_left
            · intro wS
              go_simp
              try with_reducible rfl
            try simp only [Act.put, List.setIfInBounds_toArray, List.set_cons_zero, List.set_cons_succ]
            refine wpAnyL_free (i := 10) (v := ?_) (some 45) rfl rfl (by kernel_rfl) (by kernel_rfl) (by kernel_rfl) (by decide) (fun _ _ _ h => h) (Or.inl ⟨by rfl, ?_⟩) (fun h0 => absurd h0 (by decide)) ?_
            rotate_left
            · intro wS
              go_simp
              try with_reducible rfl
            try simp only [Act.put, List.setIfInBounds_toArray, List.set_cons_zero, List.set_cons_succ]
            refine wpAnyL_ready (rs := [11]) (by kernel_rfl) (by simp) ?_
            refine AllReadyL.last rfl (by kernel_rfl) (fun K hK => ?_) AllReadyL.nil
            go_simp
            refine hK.out _ _ ?_
            clear hK K
            try simp only [Act.put, List.setIfInBounds_toArray, List.set_cons_zero, List.set_cons_succ]
            refine wpAnyL_ready (rs := [12]) (by kernel_rfl) (by simp) ?_
            refine AllReadyL.last rfl (by kernel_rfl) (fun K hK => ?_) AllReadyL.nil
            go_simp
            refine hK.out _ _ ?_
            clear hK K
            try simp only [Act.put, List.setIfInBounds_toArray, List.set_cons_zero, List.set_cons_succ]
            refine wpAnyL_free (i := 13) (v := ?_) (some 11) rfl rfl (by kernel_rfl) (by kernel_rfl) (by kernel_rfl) (by decide) (fun _ _ _ h => h) (Or.inl ⟨by rfl, ?_⟩) (fun h0 => absurd h0 (by decide)) ?_
            rotate_left
            · intro wS
              go_simp
              try with_reducible rfl
            try simp only [Act.put, List.setIfInBounds_toArray, List.set_cons_zero, List.set_cons_succ]
            refine wpAnyL_done (by kernel_rfl) ?_ _
            refine NoPanic.normal ?_
            go_wp2_with fail
            go_meet
            exact ⟨Made.late KM.out ho6 (sure_ops _ _ _) HSB.out hb6.size, rfl⟩
          refine AllReadyL.cons rfl (fun K hK => ?_) AllReadyL.nil
          have KX := Lib.hid (hHeld.2.2.2.2.2 : Kept w _ _ w5)
          have HBOX := Lib.hid (show Box _ _ w5.heap.size _ from Box.new 32 w5 #[.int .i64 0, .int .i64 0, .slice none 0 0])
          have HX := Lib.hid ((Below.refl w5.heap.size w5).alloc (Nat.le_refl _) (.cells #[.int .i64 0, .int .i64 0, .slice none 0 0] 32))
          have HSX := Lib.hid HSZ.out
          have HSZ := Lib.hid (Nat.le_trans HSZ.out HX.out.size)
          have G3 := Lib.hid (G3.out.below HX.out)
          have G4 := Lib.hid (G4.out.below HX.out)
          have G5 := Lib.hid (G5.out.below HX.out)
          go_simp
          refine hK.out _ _ ?_ (fun hHeld => ?_)
          · exact ⟨below_cell ((Below.refl _ _).alloc (Nat.le_refl _) _) hHeld.1, below_cell ((Below.refl _ _).alloc (Nat.le_refl _) _) hHeld.2.1, below_cell ((Below.refl _ _).alloc (Nat.le_refl _) _) hHeld.2.2.1, below_cell ((Below.refl _ _).alloc (Nat.le_refl _) _) hHeld.2.2.2.1, below_cell ((Below.refl _ _).alloc (Nat.le_refl _) _) hHeld.2.2.2.2.1, hHeld.2.2.2.2.2.below ((Below.refl _ _).alloc (Nat.le_refl _) _)⟩
          clear hK K
          try simp only [Act.put, List.setIfInBounds_toArray, List.set_cons_zero, List.set_cons_succ]
          refine wpAnyL_ready (rs := [7]) (by kernel_rfl) (by simp) ?_
          refine AllReadyL.last rfl (by kernel_rfl) (fun K hK => ?_) AllReadyL.nil
          have KB := Lib.hid (hHeld.2.2.2.2.2)
          have HSB := Lib.hid HSZ.out
          have HLT := Lib.hid HBOX.out.lt
          go_simp; go_at_call 17; refine (specPlaceFormula _ _ _ _ _ _ _ _ _ _ _ _ _ _ xR0 yR0 tR0 cd _ G3.out G4.out G5.out HI.out).mono ?_; rintro e w6 ⟨a6, n6, c6, rfl, ho6, hb6⟩
          have HSZ := Lib.hid (Nat.le_trans HSZ.out hb6.size)
          have HX := Lib.hid (HX.out.trans (hb6.mono HX.out.size))
          have HBOX := Lib.hid (HBOX.out.below hb6)
          refine hK.out _ _ ?_
          clear hK K
          try simp only [Act.put, List.setIfInBounds_toArray, List.set_cons_zero, List.set_cons_succ]
          refine wpAnyL_free (i := 8) (v := ?_) (some 35) rfl rfl (by kernel_rfl) (by kernel_rfl) (by kernel_rfl) (by decide) (fun _ _ _ h => h) (Or.inl ⟨by rfl, ?_⟩) (fun h0 => absurd h0 (by decide)) ?_
          rotate_left
          · intro wS
            go_simp
            try with_reducible rfl
          try simp only [Act.put, List.setIfInBounds_toArray, List.set_cons_zero, List.set_cons_succ]
          refine wpAnyL_free (i := 9) (v := ?_) (some 44) rfl rfl (by kernel_rfl) (by kernel_rfl) (by kernel_rfl) (by decide) (fun _ _ _ h => h) (Or.inl ⟨by rfl, ?_⟩) (fun h0 => absurd h0 (by decide)) ?_
          rotate_left
          · intro wS
            go_simp
            try with_reducible rfl
          try simp only [Act.put, List.setIfInBounds_toArray, List.set_cons_zero, List.set_cons_succ]
          refine wpAnyL_free (i := 10) (v := ?_) (some 45) rfl rfl (by kernel_rfl) (by kernel_rfl) (by kernel_rfl) (by decide) (fun _ _ _ h => h) (Or.inl ⟨by rfl, ?_⟩) (fun h0 => absurd h0 (by decide)) ?_
          rotate_left
          · intro wS
            go_simp
            try with_reducible rfl
          try simp only [Act.put, List.setIfInBounds_toArray, List.set_cons_zero, List.set_cons_succ]
          refine wpAnyL_ready (rs := [12]) (by kernel_rfl) (by simp) ?_
          refine AllReadyL.last rfl (by kernel_rfl) (fun K hK => ?_) AllReadyL.nil
          have d0 := HBOX.out.c 0 rfl
          have d1 := HBOX.out.c 1 rfl
          have d2 := HBOX.out.c 2 rfl
          have f0 := HBOX.out.free 0
          have f1 := HBOX.out.free 1
          have f2 := HBOX.out.free 2
          go_simp
          refine hK.out _ _ ?_
          clear hK K
          try simp only [Act.put, List.setIfInBounds_toArray, List.set_cons_zero, List.set_cons_succ]
          refine wpAnyL_free (i := 13) (v := ?_) (some 11) rfl rfl (by kernel_rfl) (by kernel_rfl) (by kernel_rfl) (by decide) (fun _ _ _ h => h) (Or.inl ⟨by rfl, ?_⟩) (fun h0 => absurd h0 (by decide)) ?_
          rotate_left
          · intro wS
            go_simp
            try with_reducible rfl
          try simp only [Act.put, List.setIfInBounds_toArray, List.set_cons_zero, List.set_cons_succ]
          refine wpAnyL_done (by kernel_rfl) ?_ _
          refine NoPanic.normal ?_
          go_wp2_with fail
          go_meet
          exact ⟨Made.early3 (X := w5) KX.out HX.out HBOX.out ho6 (sure_ops _ _ _) HSX.out HLT.out, rfl⟩
        refine AllReadyL.cons rfl (fun K hK => ?_) AllReadyL.nil
        have KX := Lib.hid (hHeld.2.2.2.2.2 : Kept w _ _ w4)
        have HBOX := Lib.hid (show Box _ _ w4.heap.size _ from Box.new 32 w4 #[.int .i64 0, .int .i64 0, .slice none 0 0])
        have HX := Lib.hid ((Below.refl w4.heap.size w4).alloc (Nat.le_refl _) (.cells #[.int .i64 0, .int .i64 0, .slice none 0 0] 32))
        have HSX := Lib.hid HSZ.out
        have HSZ := Lib.hid (Nat.le_trans HSZ.out HX.out.size)
        have G3 := Lib.hid (G3.out.below HX.out)
        have G4 := Lib.hid (G4.out.below HX.out)
        go_simp
        refine hK.out _ _ ?_ (fun hHeld => ?_)
        · exact ⟨below_cell ((Below.refl _ _).alloc (Nat.le_refl _) _) hHeld.1, below_cell ((Below.refl _ _).alloc (Nat.le_refl _) _) hHeld.2.1, below_cell ((Below.refl _ _).alloc (Nat.le_refl _) _) hHeld.2.2.1, below_cell ((Below.refl _ _).alloc (Nat.le_refl _) _) hHeld.2.2.2.1, below_cell ((Below.refl _ _).alloc (Nat.le_refl _) _) hHeld.2.2.2.2.1, hHeld.2.2.2.2.2.below ((Below.refl _ _).alloc (Nat.le_refl _) _)⟩
        clear hK K
        try simp only [Act.put, List.setIfInBounds_toArray, List.set_cons_zero, List.set_cons_succ]
        refine wpAnyL_ready (rs := [6]) (by kernel_rfl) (by simp) ?_
        refine AllReadyL.cons rfl (fun K hK => ?_) AllReadyL.nil
        go_simp; go_at_call 18; refine (toRowE _ _ _ (hHeld.2.2.2.2.2.r 0 rfl :) HLP3.out).mono ?_; rintro e w5 ⟨a5, n5, c5, rfl, ho5, hb5⟩; have G5 := Lib.hid (OwnRowE.at ho5); clear ho5
        have G3 := Lib.hid (G3.out.below hb5)
        have G4 := Lib.hid (G4.out.below hb5)
        have HSZ := Lib.hid (Nat.le_trans HSZ.out hb5.size)
        have HX := Lib.hid (HX.out.trans (hb5.mono HX.out.size))
        have HBOX := Lib.hid (HBOX.out.below hb5)
        refine hK.out _ _ ?_ (fun hHeld => ?_)
        · exact ⟨below_cell hb5 hHeld.1, below_cell hb5 hHeld.2.1, below_cell hb5 hHeld.2.2.1, below_cell hb5 hHeld.2.2.2.1, below_cell hb5 hHeld.2.2.2.2.1, hHeld.2.2.2.2.2.below hb5⟩
        clear hK K
        try simp only [Act.put, List.setIfInBounds_toArray, List.set_cons_zero, List.set_cons_succ]
        refine wpAnyL_ready (rs := [7]) (by kernel_rfl) (by simp) ?_
        refine AllReadyL.last rfl (by kernel_rfl) (fun K hK => ?_) AllReadyL.nil
        have KB := Lib.hid (hHeld.2.2.2.2.2)
        have HSB := Lib.hid HSZ.out
        have HLT := Lib.hid HBOX.out.lt
        go_simp; go_at_call 17; refine (specPlaceFormula _ _ _ _ _ _ _ _ _ _ _ _ _ _ xR0 yR0 tR0 cd _ G3.out G4.out G5.out HI.out).mono ?_; rintro e w6 ⟨a6, n6, c6, rfl, ho6, hb6⟩
        have HSZ := Lib.hid (Nat.le_trans HSZ.out hb6.size)
        have HX := Lib.hid (HX.out.trans (hb6.mono HX.out.size))
        have HBOX := Lib.hid (HBOX.out.below hb6)
        refine hK.out _ _ ?_
        clear hK K
        try simp only [Act.put, List.setIfInBounds_toArray, List.set_cons_zero, List.set_cons_succ]
        refine wpAnyL_free (i := 8) (v := ?_) (some 35) rfl rfl (by kernel_rfl) (by kernel_rfl) (by kernel_rfl) (by decide) (fun _ _ _ h => h) (Or.inl ⟨by rfl, ?_⟩) (fun h0 => absurd h0 (by decide)) ?_
        rotate_left
        · intro wS
          go_simp
          try with_reducible rfl
        try simp only [Act.put, List.setIfInBounds_toArray, List.set_cons_zero, List.set_cons_succ]
        refine wpAnyL_free (i := 9) (v := ?_) (some 44) rfl rfl (by kernel_rfl) (by kernel_rfl) (by kernel_rfl) (by decide) (fun _ _ _ h => h) (Or.inl ⟨by rfl, ?_⟩) (fun h0 => absurd h0 (by decide)) ?_
        rotate_left
        · intro wS
          go_simp
          try with_reducible rfl
        try simp only [Act.put, List.setIfInBounds_toArray, List.set_cons_zero, List.set_cons_succ]
        refine wpAnyL_free (i := 10) (v := ?_) (some 45) rfl rfl (by kernel_rfl) (by kernel_rfl) (by kernel_rfl) (by decide) (fun _ _ _ h => h) (Or.inl ⟨by rfl, ?_⟩) (fun h0 => absurd h0 (by decide)) ?_
        rotate_left
        · intro wS
          go_simp
          try with_reducible rfl
        try simp only [Act.put, List.setIfInBounds_toArray, List.set_cons_zero, List.set_cons_succ]
        refine wpAnyL_ready (rs := [12]) (by kernel_rfl) (by simp) ?_
        refine AllReadyL.last rfl (by kernel_rfl) (fun K hK => ?_) AllReadyL.nil
        have d0 := HBOX.out.c 0 rfl
        have d1 := HBOX.out.c 1 rfl
        have d2 := HBOX.out.c 2 rfl
        have f0 := HBOX.out.free 0
        have f1 := HBOX.out.free 1
        have f2 := HBOX.out.free 2
        go_simp
        refine hK.out _ _ ?_
        clear hK K
        try simp only [Act.put, List.setIfInBounds_toArray, List.set_cons_zero, List.set_cons_succ]
        refine wpAnyL_free (i := 13) (v := ?_) (some 11) rfl rfl (by kernel_rfl) (by kernel_rfl) (by kernel_rfl) (by decide) (fun _ _ _ h => h) (Or.inl ⟨by rfl, ?_⟩) (fun h0 => absurd h0 (by decide)) ?_
        rotate_left
        · intro wS
          go_simp
          try with_reducible rfl
        try simp only [Act.put, List.setIfInBounds_toArray, List.set_cons_zero, List.set_cons_succ]
        refine wpAnyL_done (by kernel_rfl) ?_ _
        refine NoPanic.normal ?_
        go_wp2_with fail
        go_meet
        exact ⟨Made.early3 (X := w4) KX.out HX.out HBOX.out ho6 (sure_ops _ _ _) HSX.out HLT.out, rfl⟩
      refine AllReadyL.cons rfl (fun K hK => ?_) AllReadyL.nil
      have KX := Lib.hid (hHeld.2.2.2.2.2 : Kept w _ _ w3)
      have HBOX := Lib.hid (show Box _ _ w3.heap.size _ from Box.new 32 w3 #[.int .i64 0, .int .i64 0, .slice none 0 0])
      have HX := Lib.hid ((Below.refl w3.heap.size w3).alloc (Nat.le_refl _) (.cells #[.int .i64 0, .int .i64 0, .slice none 0 0] 32))
      have HSX := Lib.hid HSZ.out
      have HSZ := Lib.hid (Nat.le_trans HSZ.out HX.out.size)
      have G3 := Lib.hid (G3.out.below HX.out)
      go_simp
      refine hK.out _ _ ?_ (fun hHeld => ?_)
      · exact ⟨below_cell ((Below.refl _ _).alloc (Nat.le_refl _) _) hHeld.1, below_cell ((Below.refl _ _).alloc (Nat.le_refl _) _) hHeld.2.1, below_cell ((Below.refl _ _).alloc (Nat.le_refl _) _) hHeld.2.2.1, below_cell ((Below.refl _ _).alloc (Nat.le_refl _) _) hHeld.2.2.2.1, below_cell ((Below.refl _ _).alloc (Nat.le_refl _) _) hHeld.2.2.2.2.1, hHeld.2.2.2.2.2.below ((Below.refl _ _).alloc (Nat.le_refl _) _)⟩
      clear hK K
      try simp only [Act.put, List.setIfInBounds_toArray, List.set_cons_zero, List.set_cons_succ]
      refine wpAnyL_ready (rs := [3]) (by kernel_rfl) (by simp) ?_
      refine AllReadyL.cons rfl (fun K hK => ?_) AllReadyL.nil
      go_simp; go_at_call 10; refine (toFormula _ _ _ _ _ _ _ (hHeld.2.2.2.2.2.r 1 rfl :) HLP2.out).mono ?_; rintro e w4 ⟨a4, n4, c4, rfl, ho4, hb4⟩; have G4 := Lib.hid (OwnOps.at ho4); clear ho4
      have G3 := Lib.hid (G3.out.below hb4)
      have HSZ := Lib.hid (Nat.le_trans HSZ.out hb4.size)
      have HX := Lib.hid (HX.out.trans (hb4.mono HX.out.size))
      have HBOX := Lib.hid (HBOX.out.below hb4)
      refine hK.out _ _ ?_ (fun hHeld => ?_)
      · exact ⟨below_cell hb4 hHeld.1, below_cell hb4 hHeld.2.1, below_cell hb4 hHeld.2.2.1, below_cell hb4 hHeld.2.2.2.1, below_cell hb4 hHeld.2.2.2.2.1, hHeld.2.2.2.2.2.below hb4⟩
      clear hK K
      try simp only [Act.put, List.setIfInBounds_toArray, List.set_cons_zero, List.set_cons_succ]
      refine wpAnyL_ready (rs := [6]) (by kernel_rfl) (by simp) ?_
      refine AllReadyL.cons rfl (fun K hK => ?_) AllReadyL.nil
      go_simp; go_at_call 18; refine (toRowE _ _ _ (hHeld.2.2.2.2.2.r 0 rfl :) HLP3.out).mono ?_; rintro e w5 ⟨a5, n5, c5, rfl, ho5, hb5⟩; have G5 := Lib.hid (OwnRowE.at ho5); clear ho5
      have G3 := Lib.hid (G3.out.below hb5)
      have G4 := Lib.hid (G4.out.below hb5)
      have HSZ := Lib.hid (Nat.le_trans HSZ.out hb5.size)
      have HX := Lib.hid (HX.out.trans (hb5.mono HX.out.size))
      have HBOX := Lib.hid (HBOX.out.below hb5)
      refine hK.out _ _ ?_ (fun hHeld => ?_)
      · exact ⟨below_cell hb5 hHeld.1, below_cell hb5 hHeld.2.1, below_cell hb5 hHeld.2.2.1, below_cell hb5 hHeld.2.2.2.1, below_cell hb5 hHeld.2.2.2.2.1, hHeld.2.2.2.2.2.below hb5⟩
      clear hK K
      try simp only [Act.put, List.setIfInBounds_toArray, List.set_cons_zero, List.set_cons_succ]
      refine wpAnyL_ready (rs := [7]) (by kernel_rfl) (by simp) ?_
      refine AllReadyL.last rfl (by kernel_rfl) (fun K hK => ?_) AllReadyL.nil
      have KB := Lib.hid (hHeld.2.2.2.2.2)
      have HSB := Lib.hid HSZ.out
      have HLT := Lib.hid HBOX.out.lt
      go_simp; go_at_call 17; refine (specPlaceFormula _ _ _ _ _ _ _ _ _ _ _ _ _ _ xR0 yR0 tR0 cd _ G3.out G4.out G5.out HI.out).mono ?_; rintro e w6 ⟨a6, n6, c6, rfl, ho6, hb6⟩
      have HSZ := Lib.hid (Nat.le_trans HSZ.out hb6.size)
      have HX := Lib.hid (HX.out.trans (hb6.mono HX.out.size))
      have HBOX := Lib.hid (HBOX.out.below hb6)
      refine hK.out _ _ ?_
      clear hK K
      try simp only [Act.put, List.setIfInBounds_toArray, List.set_cons_zero, List.set_cons_succ]
      refine wpAnyL_free (i := 8) (v := ?_) (some 35) rfl rfl (by kernel_rfl) (by kernel_rfl) (by kernel_rfl) (by decide) (fun _ _ _ h => h) (Or.inl ⟨by rfl, ?_⟩) (fun h0 => absurd h0 (by decide)) ?_
      rotate_left
      · intro wS
        go_simp
        try with_reducible rfl
      try simp only [Act.put, List.setIfInBounds_toArray, List.set_cons_zero, List.set_cons_succ]
      refine wpAnyL_free (i := 9) (v := ?_) (some 44) rfl rfl (by kernel_rfl) (by kernel_rfl) (by kernel_rfl) (by decide) (fun _ _ _ h => h) (Or.inl ⟨by rfl, ?_⟩) (fun h0 => absurd h0 (by decide)) ?_
      rotate_left
      · intro wS
        go_simp
        try with_reducible rfl
      try simp only [Act.put, List.setIfInBounds_toArray, List.set_cons_zero, List.set_cons_succ]
      refine wpAnyL_free (i := 10) (v := ?_) (some 45) rfl rfl (by kernel_rfl) (by kernel_rfl) (by kernel_rfl) (by decide) (fun _ _ _ h => h) (Or.inl ⟨by rfl, ?_⟩) (fun h0 => absurd h0 (by decide)) ?_
      rotate_left
      · intro wS
        go_simp
        try with_reducible rfl
      try simp only [Act.put, List.setIfInBounds_toArray, List.set_cons_zero, List.set_cons_succ]
      refine wpAnyL_ready (rs := [12]) (by kernel_rfl) (by simp) ?_
      refine AllReadyL.last rfl (by kernel_rfl) (fun K hK => ?_) AllReadyL.nil
      have d0 := HBOX.out.c 0 rfl
      have d1 := HBOX.out.c 1 rfl
      have d2 := HBOX.out.c 2 rfl
      have f0 := HBOX.out.free 0
      have f1 := HBOX.out.free 1
      have f2 := HBOX.out.free 2
      go_simp
      refine hK.out _ _ ?_
      clear hK K
      try simp only [Act.put, List.setIfInBounds_toArray, List.set_cons_zero, List.set_cons_succ]
      refine wpAnyL_free (i := 13) (v := ?_) (some 11) rfl rfl (by kernel_rfl) (by kernel_rfl) (by kernel_rfl) (by decide) (fun _ _ _ h => h) (Or.inl ⟨by rfl, ?_⟩) (fun h0 => absurd h0 (by decide)) ?_
      rotate_left
      · intro wS
        go_simp
        try with_reducible rfl
      try simp only [Act.put, List.setIfInBounds_toArray, List.set_cons_zero, List.set_cons_succ]
      refine wpAnyL_done (by kernel_rfl) ?_ _
      refine NoPanic.normal ?_
      go_wp2_with fail
      go_meet
      exact ⟨Made.early3 (X := w3) KX.out HX.out HBOX.out ho6 (sure_ops _ _ _) HSX.out HLT.out, rfl⟩
    refine AllReadyL.cons rfl (fun K hK => ?_) AllReadyL.nil
    have KX := Lib.hid (hHeld.2.2.2.2.2 : Kept w _ _ w2.drew)
    have HBOX := Lib.hid (show Box _ _ w2.heap.size _ from Box.new 32 w2.drew #[.int .i64 0, .int .i64 0, .slice none 0 0])
    have HX := Lib.hid ((Below.refl w2.drew.heap.size w2.drew).alloc (Nat.le_refl _) (.cells #[.int .i64 0, .int .i64 0, .slice none 0 0] 32))
    have HSX := Lib.hid HSZ.out
    have HSZ := Lib.hid (Nat.le_trans HSZ.out HX.out.size)
    go_simp
    refine hK.out _ _ ?_ (fun hHeld => ?_)
    · exact ⟨below_cell ((Below.refl _ _).alloc (Nat.le_refl _) _) hHeld.1, below_cell ((Below.refl _ _).alloc (Nat.le_refl _) _) hHeld.2.1, below_cell ((Below.refl _ _).alloc (Nat.le_refl _) _) hHeld.2.2.1, below_cell ((Below.refl _ _).alloc (Nat.le_refl _) _) hHeld.2.2.2.1, below_cell ((Below.refl _ _).alloc (Nat.le_refl _) _) hHeld.2.2.2.2.1, hHeld.2.2.2.2.2.below ((Below.refl _ _).alloc (Nat.le_refl _) _)⟩
    clear hK K
    try simp only [Act.put, List.setIfInBounds_toArray, List.set_cons_zero, List.set_cons_succ]
    refine wpAnyL_ready (rs := [1]) (by kernel_rfl) (by simp) ?_
    refine AllReadyL.cons rfl (fun K hK => ?_) AllReadyL.nil
    go_simp; go_at_call 9; refine (toTemplateE _ _ _ _ _ _ (hHeld.2.2.2.2.2.r 2 rfl :) HLP1.out).mono ?_; rintro e w3 ⟨a3, n3, c3, rfl, ho3, hb3⟩; have G3 := Lib.hid (OwnRels.at ho3); clear ho3
    have HSZ := Lib.hid (Nat.le_trans HSZ.out hb3.size)
    have HX := Lib.hid (HX.out.trans (hb3.mono HX.out.size))
    have HBOX := Lib.hid (HBOX.out.below hb3)
    refine hK.out _ _ ?_ (fun hHeld => ?_)
    · exact ⟨below_cell hb3 hHeld.1, below_cell hb3 hHeld.2.1, below_cell hb3 hHeld.2.2.1, below_cell hb3 hHeld.2.2.2.1, below_cell hb3 hHeld.2.2.2.2.1, hHeld.2.2.2.2.2.below hb3⟩
    clear hK K
    try simp only [Act.put, List.setIfInBounds_toArray, List.set_cons_zero, List.set_cons_succ]
    refine wpAnyL_ready (rs := [3]) (by kernel_rfl) (by simp) ?_
    refine AllReadyL.cons rfl (fun K hK => ?_) AllReadyL.nil
    go_simp; go_at_call 10; refine (toFormula _ _ _ _ _ _ _ (hHeld.2.2.2.2.2.r 1 rfl :) HLP2.out).mono ?_; rintro e w4 ⟨a4, n4, c4, rfl, ho4, hb4⟩; have G4 := Lib.hid (OwnOps.at ho4); clear ho4
    have G3 := Lib.hid (G3.out.below hb4)
    have HSZ := Lib.hid (Nat.le_trans HSZ.out hb4.size)
    have HX := Lib.hid (HX.out.trans (hb4.mono HX.out.size))
    have HBOX := Lib.hid (HBOX.out.below hb4)
    refine hK.out _ _ ?_ (fun hHeld => ?_)
    · exact ⟨below_cell hb4 hHeld.1, below_cell hb4 hHeld.2.1, below_cell hb4 hHeld.2.2.1, below_cell hb4 hHeld.2.2.2.1, below_cell hb4 hHeld.2.2.2.2.1, hHeld.2.2.2.2.2.below hb4⟩
    clear hK K
    try simp only [Act.put, List.setIfInBounds_toArray, List.set_cons_zero, List.set_cons_succ]
    refine wpAnyL_ready (rs := [6]) (by kernel_rfl) (by simp) ?_
    refine AllReadyL.cons rfl (fun K hK => ?_) AllReadyL.nil
    go_simp; go_at_call 18; refine (toRowE _ _ _ (hHeld.2.2.2.2.2.r 0 rfl :) HLP3.out).mono ?_; rintro e w5 ⟨a5, n5, c5, rfl, ho5, hb5⟩; have G5 := Lib.hid (OwnRowE.at ho5); clear ho5
    have G3 := Lib.hid (G3.out.below hb5)
    have G4 := Lib.hid (G4.out.below hb5)
    have HSZ := Lib.hid (Nat.le_trans HSZ.out hb5.size)
    have HX := Lib.hid (HX.out.trans (hb5.mono HX.out.size))
    have HBOX := Lib.hid (HBOX.out.below hb5)
    refine hK.out _ _ ?_ (fun hHeld => ?_)
    · exact ⟨below_cell hb5 hHeld.1, below_cell hb5 hHeld.2.1, below_cell hb5 hHeld.2.2.1, below_cell hb5 hHeld.2.2.2.1, below_cell hb5 hHeld.2.2.2.2.1, hHeld.2.2.2.2.2.below hb5⟩
    clear hK K
    try simp only [Act.put, List.setIfInBounds_toArray, List.set_cons_zero, List.set_cons_succ]
    refine wpAnyL_ready (rs := [7]) (by kernel_rfl) (by simp) ?_
    refine AllReadyL.last rfl (by kernel_rfl) (fun K hK => ?_) AllReadyL.nil
    have KB := Lib.hid (hHeld.2.2.2.2.2)
    have HSB := Lib.hid HSZ.out
    have HLT := Lib.hid HBOX.out.lt
    go_simp; go_at_call 17; refine (specPlaceFormula _ _ _ _ _ _ _ _ _ _ _ _ _ _ xR0 yR0 tR0 cd _ G3.out G4.out G5.out HI.out).mono ?_; rintro e w6 ⟨a6, n6, c6, rfl, ho6, hb6⟩
    have HSZ := Lib.hid (Nat.le_trans HSZ.out hb6.size)
    have HX := Lib.hid (HX.out.trans (hb6.mono HX.out.size))
    have HBOX := Lib.hid (HBOX.out.below hb6)
    refine hK.out _ _ ?_
    clear hK K
    try simp only [Act.put, List.setIfInBounds_toArray, List.set_cons_zero, List.set_cons_succ]
    refine wpAnyL_free (i := 8) (v := ?_) (some 35) rfl rfl (by kernel_rfl) (by kernel_rfl) (by kernel_rfl) (by decide) (fun _ _ _ h => h) (Or.inl ⟨by rfl, ?_⟩) (fun h0 => absurd h0 (by decide)) ?_
    rotate_left
    · intro wS
      go_simp
      try with_reducible rfl
    try simp only [Act.put, List.setIfInBounds_toArray, List.set_cons_zero, List.set_cons_succ]
    refine wpAnyL_free (i := 9) (v := ?_) (some 44) rfl rfl (by kernel_rfl) (by kernel_rfl) (by kernel_rfl) (by decide) (fun _ _ _ h => h) (Or.inl ⟨by rfl, ?_⟩) (fun h0 => absurd h0 (by decide)) ?_
    rotate_left
    · intro wS
      go_simp
      try with_reducible rfl
    try simp only [Act.put, List.setIfInBounds_toArray, List.set_cons_zero, List.set_cons_succ]
    refine wpAnyL_free (i := 10) (v := ?_) (some 45) rfl rfl (by kernel_rfl) (by kernel_rfl) (by kernel_rfl) (by decide) (fun _ _ _ h => h) (Or.inl ⟨by rfl, ?_⟩) (fun h0 => absurd h0 (by decide)) ?_
    rotate_left
    · intro wS
      go_simp
      try with_reducible rfl
    try simp only [Act.put, List.setIfInBounds_toArray, List.set_cons_zero, List.set_cons_succ]
    refine wpAnyL_ready (rs := [12]) (by kernel_rfl) (by simp) ?_
    refine AllReadyL.last rfl (by kernel_rfl) (fun K hK => ?_) AllReadyL.nil
    have d0 := HBOX.out.c 0 rfl
    have d1 := HBOX.out.c 1 rfl
    have d2 := HBOX.out.c 2 rfl
    have f0 := HBOX.out.free 0
    have f1 := HBOX.out.free 1
    have f2 := HBOX.out.free 2
    go_simp
    refine hK.out _ _ ?_
    clear hK K
    try simp only [Act.put, List.setIfInBounds_toArray, List.set_cons_zero, List.set_cons_succ]
    refine wpAnyL_free (i := 13) (v := ?_) (some 11) rfl rfl (by kernel_rfl) (by kernel_rfl) (by kernel_rfl) (by decide) (fun _ _ _ h => h) (Or.inl ⟨by rfl, ?_⟩) (fun h0 => absurd h0 (by decide)) ?_
    rotate_left
    · intro wS
      go_simp
      try with_reducible rfl
    try simp only [Act.put, List.setIfInBounds_toArray, List.set_cons_zero, List.set_cons_succ]
    refine wpAnyL_done (by kernel_rfl) ?_ _
    refine NoPanic.normal ?_
    go_wp2_with fail
    go_meet
    exact ⟨Made.early3 (X := w2.drew) KX.out HX.out HBOX.out ho6 (sure_ops _ _ _) HSX.out HLT.out, rfl⟩
  case rest =>
    obtain ⟨⟨bk6, f6, e6, a6, n6, c6, rfl, hk6, hx6, ho6, l1, l2, l3, l4⟩, rfl⟩ := hcut
    obtain ⟨w6, hw6⟩ : ∃ y, y = wc := ⟨_, rfl⟩
    subst hw6
    have HY6 : Hid (w2.heap.size ≤ bk6 ∧ bk6 < w6.heap.size ∧ w2.heap.size ≤ f6 ∧ (bk6 < f6 ∨ e6 ≤ bk6) ∧ e6 ≤ w6.heap.size ∧ w.heap.size + 2 ≤ w2.heap.size) := Lib.hid ⟨l1, hx6.lt, l2, l3, l4, cell_block_lt (K2.out.c 0 rfl)⟩
    have K6 := Lib.hid ((((hk6.read (lives_ownOps _ _ _ _ _) ho6).cell (hx6.c 2 rfl)).cell (hx6.c 1 rfl)).cell (hx6.c 0 rfl))
    clear hk6 hx6 ho6 l1 l2 l3 l4
    have HZ0 := Lib.hid HY6.out
    have cd0 := K6.out.c 6 rfl
    have cd1 := K6.out.c 7 rfl
    go_wp2_with fail
    refine (toTemplateE _ _ _ _ _ _ (K6.out.r 3 rfl :) HLP1.out).mono ?_
    rintro e w7 ⟨a7, n7, c7, rfl, ho7, hb7⟩
    have Z7 : Hid (w6.heap.size ≤ w7.heap.size) := Lib.hid (by have := hb7.size; simpa using this)
    have K7 := Lib.hid ((K6.out.below hb7).read (lives_ownRels _ _ _ _) (ho7.mono (B' := w6.heap.size) (by simp)))
    clear cd0 cd1
    have K7b := Lib.hid (K7.out.box w7.heap.size rfl (.int .i64 xP1) (.slice a7 n7 c7) 37)
    clear hb7 ho7
    have cd2 := K7b.out.c 5 rfl
    have cd3 := K7b.out.c 6 rfl
    have cd4 := K7b.out.c 7 rfl
    go_wp2_with fail
    refine (toFormula _ _ _ _ _ _ _ (K7b.out.r 3 rfl :) HLP2.out).mono ?_
    rintro e w8 ⟨a8, n8, c8, rfl, ho8, hb8⟩
    have Z8 : Hid (w7.heap.size + 1 ≤ w8.heap.size) := Lib.hid (by have := hb8.size; simpa using this)
    have K8 := Lib.hid ((K7b.out.below hb8).read (lives_ownOps _ _ _ _ _) (ho8.mono (B' := w7.heap.size + 1) (by simp)))
    clear cd2 cd3 cd4
    have K8b := Lib.hid (K8.out.box3 w8.heap.size rfl (.int .i64 xP2) (.int .i64 yP2) (.slice a8 n8 c8) 32)
    clear hb8 ho8
    go_wp2_with fail
    refine (toRowE _ _ _ (K8b.out.r 3 rfl :) HLP3.out).mono ?_
    rintro e w9 ⟨a9, n9, c9, rfl, ho9, hb9⟩
    have Z9 : Hid (w8.heap.size + 1 ≤ w9.heap.size) := Lib.hid (by have := hb9.size; simpa using this)
    have K9 := Lib.hid ((K8b.out.below hb9).read (lives_rowE _ _ _ _) (ho9.mono (B' := w8.heap.size + 1) (by simp)))
    clear hb9 ho9
    -- the program's answer
    have cd5 := K9.out.c 3 rfl
    have cd6 := K9.out.c 4 rfl
    have cd7 := K9.out.c 0 rfl
    have cd8 := K9.out.c 1 rfl
    have cd9 := K9.out.c 2 rfl
    go_wp2_with fail
    refine (implPlaceFormula _ _ _ _ _ _ _ _ _ _ _ _ _ _ xR0 yR0 tR0 cd _ (OwnRels.at (K9.out.r 2 rfl :)) (OwnOps.at (K9.out.r 1 rfl :)) (OwnRowE.at (K9.out.r 0 rfl :)) HI.out).mono ?_
    rintro e w10 ⟨a10, n10, c10, rfl, ho10, hb10⟩
    have Z10 : Hid (w9.heap.size ≤ w10.heap.size) := Lib.hid (by have := hb10.size; simpa using this)
    have K10 := Lib.hid (((K9.out.below hb10).read (lives_ownOps _ _ _ _ _) (ho10.mono (B' := w9.heap.size) (by simp))).box3 w10.heap.size rfl (.int .i64 xR0) (.int .i64 yR0) (.slice a10 n10 c10) 32)
    clear cd5 cd6 cd7 cd8 cd9
    clear hb10 ho10
    have cd10 := K10.out.c 0 rfl
    have cd11 := K10.out.c 1 rfl
    have cd12 := K10.out.c 2 rfl
    have cd13 := K10.out.c 8 rfl
    have cd14 := K10.out.c 9 rfl
    have cd15 := K10.out.c 10 rfl
    go_wp2_with fail
    refine (eqFormula' _ _ _ _ _ _ _ _ _ _ _ _ true _ (OwnOps.at (K10.out.r 0 rfl :)) (OwnOps.at (K10.out.r 4 rfl :)) (eqF_same _ _ _)).mono ?_
    rintro e w11 ⟨rfl, hb11⟩
    have K11 := Lib.hid (K10.out.below hb11)
    clear cd10 cd11 cd12 cd13 cd14 cd15
    clear hb11
    -- the copies are as they were
    go_wp2_with fail
    refine wp_region_noPanic ?_
    refine wp_region_late (S := (fun w' => w'.cell? ⟨w7.heap.size, 0, none⟩ = some (.int .i64 xP1) ∧ w'.cell? ⟨w7.heap.size, 1, none⟩ = some (.slice a7 n7 c7) ∧ w'.cell? ⟨w.heap.size, 0, none⟩ = some (.int .i64 xP1) ∧ w'.cell? ⟨w.heap.size, 1, none⟩ = some (.slice aP1 nP1 cP1) ∧ Kept w [(⟨w10.heap.size, 0, none⟩, .int .i64 xR0), (⟨w10.heap.size, 1, none⟩, .int .i64 yR0), (⟨w10.heap.size, 2, none⟩, .slice a10 n10 c10), (⟨w8.heap.size, 0, none⟩, .int .i64 xP2), (⟨w8.heap.size, 1, none⟩, .int .i64 yP2), (⟨w8.heap.size, 2, none⟩, .slice a8 n8 c8), (⟨w7.heap.size, 0, none⟩, .int .i64 xP1), (⟨w7.heap.size, 1, none⟩, .slice a7 n7 c7), (⟨bk6, 0, none⟩, .int .i64 xR0), (⟨bk6, 1, none⟩, .int .i64 yR0), (⟨bk6, 2, none⟩, .slice a6 n6 c6), (⟨w.heap.size + 1, 0, none⟩, .int .i64 xP2), (⟨w.heap.size + 1, 1, none⟩, .int .i64 yP2), (⟨w.heap.size + 1, 2, none⟩, .slice aP2 nP2 cP2), (⟨w.heap.size, 0, none⟩, .int .i64 xP1), (⟨w.heap.size, 1, none⟩, .slice aP1 nP1 cP1)] [fun w => (OwnOps 83) w (w9.heap.size) w10.heap.size (.slice a10 n10 c10) tR0, fun w => OwnRowE w (w8.heap.size + 1) w9.heap.size (.slice a9 n9 c9) tP3, fun w => (OwnOps 83) w (w7.heap.size + 1) w8.heap.size (.slice a8 n8 c8) tP2, fun w => OwnRels w (w6.heap.size) w7.heap.size (.slice a7 n7 c7) tP1, fun w => (OwnOps 83) w f6 e6 (.slice a6 n6 c6) tR0, fun w => RowAt w (.slice aP3 tP3.length cP3) tP3, fun w => OpsAt w (.slice aP2 nP2 cP2) tP2, fun w => RelsAt w (.slice aP1 nP1 cP1) tP1] w')) [] (by kernel_rfl) ?_ (fun hHeld => ?_)
    · exact ⟨K11.out.drew.c 6 rfl, K11.out.drew.c 7 rfl, K11.out.drew.c 14 rfl, K11.out.drew.c 15 rfl, K11.out.drew⟩
    refine wpAnyL_take (i := 0) (v := ?_) (some 69) rfl rfl (by kernel_rfl) (by kernel_rfl) (by kernel_rfl) (by kernel_rfl) (by kernel_rfl) (fun _ _ _ h => h) (Or.inl ⟨by rfl, ?_⟩) (by assumption) ?_
    rotate_left
    · intro wS hSw
      try dsimp only at hSw
      go_simp
      try with_reducible rfl
    try simp only [Act.put, List.setIfInBounds_toArray, List.set_cons_zero, List.set_cons_succ]
    refine wpAnyL_take (i := 1) (v := ?_) (some 70) rfl rfl (by kernel_rfl) (by kernel_rfl) (by kernel_rfl) (by kernel_rfl) (by kernel_rfl) (fun _ _ _ h => h) (Or.inl ⟨by rfl, ?_⟩) (by assumption) ?_
    rotate_left
    · intro wS hSw
      try dsimp only at hSw
      go_simp
      try with_reducible rfl
    try simp only [Act.put, List.setIfInBounds_toArray, List.set_cons_zero, List.set_cons_succ]
    refine wpAnyL_ready (rs := [2]) (by kernel_rfl) (by simp) ?_
    refine AllReadyL.cons rfl (fun K hK => ?_) AllReadyL.nil
    go_simp; go_at_call 9; refine (toTemplateE _ _ _ _ _ _ (hHeld.2.2.2.2.r 7 rfl :) HLP1.out).mono ?_; rintro e w12 ⟨a12, n12, c12, rfl, ho12, hb12⟩; have G12 := Lib.hid (OwnRels.at ho12); clear ho12
    refine hK.out _ _ ?_ (fun hHeld => ?_)
    · exact ⟨below_cell hb12 hHeld.1, below_cell hb12 hHeld.2.1, below_cell hb12 hHeld.2.2.1, below_cell hb12 hHeld.2.2.2.1, hHeld.2.2.2.2.below hb12⟩
    clear hK K
    try simp only [Act.put, List.setIfInBounds_toArray, List.set_cons_zero, List.set_cons_succ]
    refine wpAnyL_ready (rs := [3]) (by kernel_rfl) (by simp) ?_
    refine AllReadyL.cons rfl (fun K hK => ?_) AllReadyL.nil
    go_simp; go_at_call 13; refine (eqTemplate' _ _ _ _ _ _ _ _ _ _ true _ (OwnRels.at (hHeld.2.2.2.2.r 3 rfl :)) G12.out (eqT_same _ _)).mono ?_; rintro e w13 ⟨rfl, hb13⟩
    refine hK.out _ _ ?_ (fun hHeld => ?_)
    · exact ⟨below_cell hb13 hHeld.1, below_cell hb13 hHeld.2.1, below_cell hb13 hHeld.2.2.1, below_cell hb13 hHeld.2.2.2.1, hHeld.2.2.2.2.below hb13⟩
    clear hK K
    try simp only [Act.put, List.setIfInBounds_toArray, List.set_cons_zero, List.set_cons_succ]
    refine wpAnyL_free (i := 4) (v := ?_) (some 73) rfl rfl (by kernel_rfl) (by kernel_rfl) (by kernel_rfl) (by decide) (fun _ _ _ h => h) (Or.inl ⟨by rfl, ?_⟩) (fun h0 => by assumption) ?_
    rotate_left
    · intro wS
      go_simp
      try with_reducible rfl
    try simp only [Act.put, List.setIfInBounds_toArray, List.set_cons_zero, List.set_cons_succ]
    refine wpAnyL_done (by kernel_rfl) ?_ _
    refine NoPanic.normal ?_
    have K13 := Lib.hid (hHeld.2.2.2.2 : Kept w _ _ w13)
    clear hHeld
    clear hb12 hb13 G12
    go_wp2_with fail
    refine wp_region_noPanic ?_
    refine wp_region_late (S := (fun w' => w'.cell? ⟨w8.heap.size, 0, none⟩ = some (.int .i64 xP2) ∧ w'.cell? ⟨w8.heap.size, 1, none⟩ = some (.int .i64 yP2) ∧ w'.cell? ⟨w8.heap.size, 2, none⟩ = some (.slice a8 n8 c8) ∧ w'.cell? ⟨w.heap.size + 1, 0, none⟩ = some (.int .i64 xP2) ∧ w'.cell? ⟨w.heap.size + 1, 1, none⟩ = some (.int .i64 yP2) ∧ w'.cell? ⟨w.heap.size + 1, 2, none⟩ = some (.slice aP2 nP2 cP2) ∧ Kept w [(⟨w10.heap.size, 0, none⟩, .int .i64 xR0), (⟨w10.heap.size, 1, none⟩, .int .i64 yR0), (⟨w10.heap.size, 2, none⟩, .slice a10 n10 c10), (⟨w8.heap.size, 0, none⟩, .int .i64 xP2), (⟨w8.heap.size, 1, none⟩, .int .i64 yP2), (⟨w8.heap.size, 2, none⟩, .slice a8 n8 c8), (⟨w7.heap.size, 0, none⟩, .int .i64 xP1), (⟨w7.heap.size, 1, none⟩, .slice a7 n7 c7), (⟨bk6, 0, none⟩, .int .i64 xR0), (⟨bk6, 1, none⟩, .int .i64 yR0), (⟨bk6, 2, none⟩, .slice a6 n6 c6), (⟨w.heap.size + 1, 0, none⟩, .int .i64 xP2), (⟨w.heap.size + 1, 1, none⟩, .int .i64 yP2), (⟨w.heap.size + 1, 2, none⟩, .slice aP2 nP2 cP2), (⟨w.heap.size, 0, none⟩, .int .i64 xP1), (⟨w.heap.size, 1, none⟩, .slice aP1 nP1 cP1)] [fun w => (OwnOps 83) w (w9.heap.size) w10.heap.size (.slice a10 n10 c10) tR0, fun w => OwnRowE w (w8.heap.size + 1) w9.heap.size (.slice a9 n9 c9) tP3, fun w => (OwnOps 83) w (w7.heap.size + 1) w8.heap.size (.slice a8 n8 c8) tP2, fun w => OwnRels w (w6.heap.size) w7.heap.size (.slice a7 n7 c7) tP1, fun w => (OwnOps 83) w f6 e6 (.slice a6 n6 c6) tR0, fun w => RowAt w (.slice aP3 tP3.length cP3) tP3, fun w => OpsAt w (.slice aP2 nP2 cP2) tP2, fun w => RelsAt w (.slice aP1 nP1 cP1) tP1] w')) [] (by kernel_rfl) ?_ (fun hHeld => ?_)
    · exact ⟨K13.out.drew.c 3 rfl, K13.out.drew.c 4 rfl, K13.out.drew.c 5 rfl, K13.out.drew.c 11 rfl, K13.out.drew.c 12 rfl, K13.out.drew.c 13 rfl, K13.out.drew⟩
    refine wpAnyL_take (i := 0) (v := ?_) (some 74) rfl rfl (by kernel_rfl) (by kernel_rfl) (by kernel_rfl) (by kernel_rfl) (by kernel_rfl) (fun _ _ _ h => h) (Or.inl ⟨by rfl, ?_⟩) (by assumption) ?_
    rotate_left
    · intro wS hSw
      try dsimp only at hSw
      go_simp
      try with_reducible rfl
    try simp only [Act.put, List.setIfInBounds_toArray, List.set_cons_zero, List.set_cons_succ]
    refine wpAnyL_take (i := 1) (v := ?_) (some 75) rfl rfl (by kernel_rfl) (by kernel_rfl) (by kernel_rfl) (by kernel_rfl) (by kernel_rfl) (fun _ _ _ h => h) (Or.inl ⟨by rfl, ?_⟩) (by assumption) ?_
    rotate_left
    · intro wS hSw
      try dsimp only at hSw
      go_simp
      try with_reducible rfl
    try simp only [Act.put, List.setIfInBounds_toArray, List.set_cons_zero, List.set_cons_succ]
    refine wpAnyL_ready (rs := [2]) (by kernel_rfl) (by simp) ?_
    refine AllReadyL.cons rfl (fun K hK => ?_) AllReadyL.nil
    go_simp; go_at_call 10; refine (toFormula _ _ _ _ _ _ _ (hHeld.2.2.2.2.2.2.r 6 rfl :) HLP2.out).mono ?_; rintro e w14 ⟨a14, n14, c14, rfl, ho14, hb14⟩; have G14 := Lib.hid (OwnOps.at ho14); clear ho14
    refine hK.out _ _ ?_ (fun hHeld => ?_)
    · exact ⟨below_cell hb14 hHeld.1, below_cell hb14 hHeld.2.1, below_cell hb14 hHeld.2.2.1, below_cell hb14 hHeld.2.2.2.1, below_cell hb14 hHeld.2.2.2.2.1, below_cell hb14 hHeld.2.2.2.2.2.1, hHeld.2.2.2.2.2.2.below hb14⟩
    clear hK K
    try simp only [Act.put, List.setIfInBounds_toArray, List.set_cons_zero, List.set_cons_succ]
    refine wpAnyL_ready (rs := [3]) (by kernel_rfl) (by simp) ?_
    refine AllReadyL.cons rfl (fun K hK => ?_) AllReadyL.nil
    go_simp; go_at_call 12; refine (eqFormula' _ _ _ _ _ _ _ _ _ _ _ _ true _ (OwnOps.at (hHeld.2.2.2.2.2.2.r 2 rfl :)) G14.out (eqF_same _ _ _)).mono ?_; rintro e w15 ⟨rfl, hb15⟩
    refine hK.out _ _ ?_ (fun hHeld => ?_)
    · exact ⟨below_cell hb15 hHeld.1, below_cell hb15 hHeld.2.1, below_cell hb15 hHeld.2.2.1, below_cell hb15 hHeld.2.2.2.1, below_cell hb15 hHeld.2.2.2.2.1, below_cell hb15 hHeld.2.2.2.2.2.1, hHeld.2.2.2.2.2.2.below hb15⟩
    clear hK K
    try simp only [Act.put, List.setIfInBounds_toArray, List.set_cons_zero, List.set_cons_succ]
    refine wpAnyL_free (i := 4) (v := ?_) (some 78) rfl rfl (by kernel_rfl) (by kernel_rfl) (by kernel_rfl) (by decide) (fun _ _ _ h => h) (Or.inl ⟨by rfl, ?_⟩) (fun h0 => by assumption) ?_
    rotate_left
    · intro wS
      go_simp
      try with_reducible rfl
    try simp only [Act.put, List.setIfInBounds_toArray, List.set_cons_zero, List.set_cons_succ]
    refine wpAnyL_done (by kernel_rfl) ?_ _
    refine NoPanic.normal ?_
    have K15 := Lib.hid (hHeld.2.2.2.2.2.2 : Kept w _ _ w15)
    clear hHeld
    clear hb14 hb15 G14
    go_wp2_with fail
    refine (toRowE _ _ _ (K15.out.r 5 rfl :) HLP3.out).mono ?_
    rintro e w16 ⟨a16, n16, c16, rfl, ho16, hb16⟩
    have K16 := Lib.hid ((K15.out.below hb16).read (lives_row _ _) (OwnRowE.at ho16))
    clear hb16 ho16
    go_wp2_with fail
    refine (eqRowB _ _ _ _ true _ (OwnRowE.at (K16.out.r 2 rfl :)) (K16.out.r 0 rfl :) (eqB_yes rfl)).mono ?_
    rintro e w17 ⟨rfl, hb17⟩
    have K17 := Lib.hid (K16.out.below hb17)
    clear hb17
    -- marks
    have S0 := Lib.hid (((((((((KeptS.start K17.out).cons (HAP1.out.go K17.out.bel.size fun g _ hg => K17.out.bel.block g hg) K17.out.bel.size).cons (HAP2.out.go K17.out.bel.size fun g _ hg => K17.out.bel.block g hg) K17.out.bel.size).cons (HAP3.out.go K17.out.bel.size fun g _ hg => K17.out.bel.block g hg) K17.out.bel.size).cons (stab_ownOps (K17.out.r 5 rfl :)) (ownOps_le (K17.out.r 5 rfl :))).cons (stab_ownOps (K17.out.r 1 rfl :)) (ownOps_le (K17.out.r 1 rfl :))).cons (stab_rowE (K17.out.r 2 rfl :)) (ownRowE_le (K17.out.r 2 rfl :))).cons (stab_ownOps (K17.out.r 3 rfl :)) (ownOps_le (K17.out.r 3 rfl :))).cons (stab_ownRels (K17.out.r 4 rfl :)) (ownRels_le (K17.out.r 4 rfl :)))
    have cd16 := S0.out.c 6 rfl
    have cd17 := S0.out.c 7 rfl
    go_wp2_with fail
    refine (markTemplate _ _ _ _ _ _ _ _ _ (S0.out.r 0 rfl :) (by omega) (by have yP1 := HLP1.out; have zP1 := offR_le tP1; have yP2 := HLP2.out; have yP3 := HLP3.out; omega)).mono ?_
    rintro e w18 ⟨rfl, ho18, hn18⟩
    have S1 := Lib.hid (S0.out.drop.only hn18 (by have y1 := HZ0.out; have zZ7 := Z7.out; have zZ8 := Z8.out; have zZ9 := Z9.out; have zZ10 := Z10.out; omega) (by have y1 := HZ0.out; have zZ7 := Z7.out; have zZ8 := Z8.out; have zZ9 := Z9.out; have zZ10 := Z10.out; intro x hx; simp only [List.mem_cons, List.not_mem_nil, or_false] at hx; rcases hx with rfl | rfl | rfl | rfl | rfl | rfl | rfl | rfl | rfl | rfl | rfl | rfl | rfl | rfl | rfl | rfl <;> (dsimp only; omega)) (by have y1 := HZ0.out; have zZ7 := Z7.out; have zZ8 := Z8.out; have zZ9 := Z9.out; have zZ10 := Z10.out; intro x hx; simp only [List.mem_cons, List.not_mem_nil, or_false] at hx; rcases hx with rfl | rfl | rfl | rfl | rfl | rfl | rfl <;> (dsimp only; omega)))
    clear ho18 hn18
    clear cd16 cd17
    have cd18 := S1.out.c 3 rfl
    have cd19 := S1.out.c 4 rfl
    have cd20 := S1.out.c 5 rfl
    go_wp2_with fail
    refine (markFormula _ _ _ _ _ _ _ _ _ _ (S1.out.r 0 rfl :) (by omega) (by have yP1 := HLP1.out; have zP1 := offR_le tP1; have yP2 := HLP2.out; have yP3 := HLP3.out; omega)).mono ?_
    rintro e w19 ⟨rfl, ho19, hn19⟩
    have S2 := Lib.hid (S1.out.drop.only hn19 (by have y1 := HZ0.out; have zZ7 := Z7.out; have zZ8 := Z8.out; have zZ9 := Z9.out; have zZ10 := Z10.out; omega) (by have y1 := HZ0.out; have zZ7 := Z7.out; have zZ8 := Z8.out; have zZ9 := Z9.out; have zZ10 := Z10.out; intro x hx; simp only [List.mem_cons, List.not_mem_nil, or_false] at hx; rcases hx with rfl | rfl | rfl | rfl | rfl | rfl | rfl | rfl | rfl | rfl | rfl | rfl | rfl | rfl | rfl | rfl <;> (dsimp only; omega)) (by have y1 := HZ0.out; have zZ7 := Z7.out; have zZ8 := Z8.out; have zZ9 := Z9.out; have zZ10 := Z10.out; intro x hx; simp only [List.mem_cons, List.not_mem_nil, or_false] at hx; rcases hx with rfl | rfl | rfl | rfl | rfl | rfl <;> (dsimp only; omega)))
    clear ho19 hn19
    clear cd18 cd19 cd20
    go_wp2_with fail
    refine (markRowE _ _ _ _ _ _ (S2.out.r 0 rfl :) (by omega) (by have yP1 := HLP1.out; have zP1 := offR_le tP1; have yP2 := HLP2.out; have yP3 := HLP3.out; omega)).mono ?_
    rintro e w20 ⟨rfl, ho20, hn20⟩
    have S3 := Lib.hid (S2.out.drop.only hn20 (by have y1 := HZ0.out; have zZ7 := Z7.out; have zZ8 := Z8.out; have zZ9 := Z9.out; have zZ10 := Z10.out; omega) (by have y1 := HZ0.out; have zZ7 := Z7.out; have zZ8 := Z8.out; have zZ9 := Z9.out; have zZ10 := Z10.out; intro x hx; simp only [List.mem_cons, List.not_mem_nil, or_false] at hx; rcases hx with rfl | rfl | rfl | rfl | rfl | rfl | rfl | rfl | rfl | rfl | rfl | rfl | rfl | rfl | rfl | rfl <;> (dsimp only; omega)) (by have y1 := HZ0.out; have zZ7 := Z7.out; have zZ8 := Z8.out; have zZ9 := Z9.out; have zZ10 := Z10.out; intro x hx; simp only [List.mem_cons, List.not_mem_nil, or_false] at hx; rcases hx with rfl | rfl | rfl | rfl | rfl <;> (dsimp only; omega)))
    clear ho20 hn20
    have hpos : ¬ (1 + (offR tP1 tP1.length : Int) + (opsSize tP2 : Int) + (tP3.length : Int) < 0) := by omega
    have cd21 := S3.out.c 0 rfl
    have cd22 := S3.out.c 1 rfl
    have cd23 := S3.out.c 2 rfl
    have cd24 := S3.out.c 8 rfl
    have cd25 := S3.out.c 9 rfl
    have cd26 := S3.out.c 10 rfl
    go_wp2_with fail
    refine (eqFormula' _ _ _ _ _ _ _ _ _ _ _ _ true _ (OwnOps.at (S3.out.r 0 rfl :)) (OwnOps.at (S3.out.r 1 rfl :)) (eqF_same _ _ _)).mono ?_
    rintro e w21 ⟨rfl, hb21⟩
    have S4 := Lib.hid (S3.out.below hb21)
    clear cd21 cd22 cd23 cd24 cd25 cd26
    clear hb21
    have cd27 := S4.out.c 0 rfl
    have cd28 := S4.out.c 1 rfl
    have cd29 := S4.out.c 2 rfl
    go_wp2_with fail
    refine (markFormula _ _ _ _ _ _ _ _ _ _ (S4.out.r 0 rfl :) (by omega) (by have := HS.out; omega)).mono ?_
    rintro e w22 ⟨rfl, ho22, hn22⟩
    have S5 := Lib.hid ((S4.out.drop.only hn22 (by have y1 := HZ0.out; have zZ7 := Z7.out; have zZ8 := Z8.out; have zZ9 := Z9.out; have zZ10 := Z10.out; omega) (by have y1 := HZ0.out; have zZ7 := Z7.out; have zZ8 := Z8.out; have zZ9 := Z9.out; have zZ10 := Z10.out; intro x hx; simp only [List.mem_cons, List.not_mem_nil, or_false] at hx; rcases hx with rfl | rfl | rfl | rfl | rfl | rfl | rfl | rfl | rfl | rfl | rfl | rfl | rfl | rfl | rfl | rfl <;> (dsimp only; omega)) (by have y1 := HZ0.out; have zZ7 := Z7.out; have zZ8 := Z8.out; have zZ9 := Z9.out; have zZ10 := Z10.out; intro x hx; simp only [List.mem_cons, List.not_mem_nil, or_false] at hx; rcases hx with rfl | rfl | rfl | rfl <;> (dsimp only; omega))).cons (stab_ownOps ho22) (ownOps_le ho22))
    clear ho22 hn22
    clear cd27 cd28 cd29
    have K23 := Lib.hid (((((S5.out.end.read (lives_row _ _) (S5.out.r 2 rfl :)).read (lives_ops _ _) (S5.out.r 3 rfl :)).read (lives_rels _ _) (S5.out.r 4 rfl :)).read (lives_ownOps _ _ _ _ _) (S5.out.r 1 rfl :)).read (lives_ownOps _ _ _ _ _) (S5.out.r 0 rfl :))
    have cd30 := K23.out.c 0 rfl
    have cd31 := K23.out.c 1 rfl
    have cd32 := K23.out.c 2 rfl
    go_wp2_with fail
    refine (heldFormula _ _ _ _ _ _ _ _ (OwnOps.at (K23.out.r 0 rfl :)) (by omega) (by have := HS.out; omega)).mono ?_
    rintro e w24 ⟨rfl, hb24⟩
    have K24 := Lib.hid (K23.out.below hb24)
    clear cd30 cd31 cd32
    clear hb24
    have hposz : ¬ (1 + (opsSize tR0 : Int) < 0) := by omega
    -- the program's answer again
    have cd33 := K24.out.c 14 rfl
    have cd34 := K24.out.c 15 rfl
    have cd35 := K24.out.c 11 rfl
    have cd36 := K24.out.c 12 rfl
    have cd37 := K24.out.c 13 rfl
    go_wp2_with fail
    go_cut [20, 21] from 22 (fun v0 v1 wz => Made 32 w [(⟨w10.heap.size, 0, none⟩, .int .i64 xR0), (⟨w10.heap.size, 1, none⟩, .int .i64 yR0), (⟨w10.heap.size, 2, none⟩, .slice a10 n10 c10), (⟨w8.heap.size, 0, none⟩, .int .i64 xP2), (⟨w8.heap.size, 1, none⟩, .int .i64 yP2), (⟨w8.heap.size, 2, none⟩, .slice a8 n8 c8), (⟨w7.heap.size, 0, none⟩, .int .i64 xP1), (⟨w7.heap.size, 1, none⟩, .slice a7 n7 c7), (⟨bk6, 0, none⟩, .int .i64 xR0), (⟨bk6, 1, none⟩, .int .i64 yR0), (⟨bk6, 2, none⟩, .slice a6 n6 c6), (⟨w.heap.size + 1, 0, none⟩, .int .i64 xP2), (⟨w.heap.size + 1, 1, none⟩, .int .i64 yP2), (⟨w.heap.size + 1, 2, none⟩, .slice aP2 nP2 cP2), (⟨w.heap.size, 0, none⟩, .int .i64 xP1), (⟨w.heap.size, 1, none⟩, .slice aP1 nP1 cP1)] [fun w => (OwnOps 83) w (w9.heap.size) w10.heap.size (.slice a10 n10 c10) (marksO 1 tR0), fun w => (OwnOps 83) w f6 e6 (.slice a6 n6 c6) tR0, fun w => RelsAt w (.slice aP1 nP1 cP1) tP1, fun w => OpsAt w (.slice aP2 nP2 cP2) tP2, fun w => RowAt w (.slice aP3 tP3.length cP3) tP3] w24.heap.size (fun v w B E => (OwnOps 83) w B E v tR0) (fun v => #[.int .i64 xR0, .int .i64 yR0, v]) v0 wz ∧ v1 = .int .i64 cd)
    case first =>
      have HSZ : Hid (w24.heap.size ≤ w24.drew.heap.size) := Lib.hid (Nat.le_refl _)
      refine wp_region_noPanic ?_
      refine wp_region_late (S := (fun w' => w'.cell? ⟨w.heap.size, 0, none⟩ = some (.int .i64 xP1) ∧ w'.cell? ⟨w.heap.size, 1, none⟩ = some (.slice aP1 nP1 cP1) ∧ w'.cell? ⟨w.heap.size + 1, 0, none⟩ = some (.int .i64 xP2) ∧ w'.cell? ⟨w.heap.size + 1, 1, none⟩ = some (.int .i64 yP2) ∧ w'.cell? ⟨w.heap.size + 1, 2, none⟩ = some (.slice aP2 nP2 cP2) ∧ Kept w [(⟨w10.heap.size, 0, none⟩, .int .i64 xR0), (⟨w10.heap.size, 1, none⟩, .int .i64 yR0), (⟨w10.heap.size, 2, none⟩, .slice a10 n10 c10), (⟨w8.heap.size, 0, none⟩, .int .i64 xP2), (⟨w8.heap.size, 1, none⟩, .int .i64 yP2), (⟨w8.heap.size, 2, none⟩, .slice a8 n8 c8), (⟨w7.heap.size, 0, none⟩, .int .i64 xP1), (⟨w7.heap.size, 1, none⟩, .slice a7 n7 c7), (⟨bk6, 0, none⟩, .int .i64 xR0), (⟨bk6, 1, none⟩, .int .i64 yR0), (⟨bk6, 2, none⟩, .slice a6 n6 c6), (⟨w.heap.size + 1, 0, none⟩, .int .i64 xP2), (⟨w.heap.size + 1, 1, none⟩, .int .i64 yP2), (⟨w.heap.size + 1, 2, none⟩, .slice aP2 nP2 cP2), (⟨w.heap.size, 0, none⟩, .int .i64 xP1), (⟨w.heap.size, 1, none⟩, .slice aP1 nP1 cP1)] [fun w => (OwnOps 83) w (w9.heap.size) w10.heap.size (.slice a10 n10 c10) (marksO 1 tR0), fun w => (OwnOps 83) w f6 e6 (.slice a6 n6 c6) tR0, fun w => RelsAt w (.slice aP1 nP1 cP1) tP1, fun w => OpsAt w (.slice aP2 nP2 cP2) tP2, fun w => RowAt w (.slice aP3 tP3.length cP3) tP3] w')) [7, 12] (by kernel_rfl) ?_ (fun hHeld => ?_)
      · exact ⟨K24.out.drew.c 14 rfl, K24.out.drew.c 15 rfl, K24.out.drew.c 11 rfl, K24.out.drew.c 12 rfl, K24.out.drew.c 13 rfl, K24.out.drew⟩
      refine wpAnyL_take (i := 0) (v := ?_) (some 118) rfl rfl (by kernel_rfl) (by kernel_rfl) (by kernel_rfl) (by kernel_rfl) (by kernel_rfl) (fun _ _ _ h => h) (Or.inl ⟨by rfl, ?_⟩) (by assumption) ?_
      rotate_left
      · intro wS hSw
        try dsimp only at hSw
        go_simp
        try with_reducible rfl
      try simp only [Act.put, List.setIfInBounds_toArray, List.set_cons_zero, List.set_cons_succ]
      refine wpAnyL_take (i := 2) (v := ?_) (some 120) rfl rfl (by kernel_rfl) (by kernel_rfl) (by kernel_rfl) (by kernel_rfl) (by kernel_rfl) (fun _ _ _ h => h) (Or.inl ⟨by rfl, ?_⟩) (by assumption) ?_
      rotate_left
      · intro wS hSw
        try dsimp only at hSw
        go_simp
        try with_reducible rfl
      try simp only [Act.put, List.setIfInBounds_toArray, List.set_cons_zero, List.set_cons_succ]
      refine wpAnyL_free (i := 4) (v := ?_) (some 122) rfl rfl (by kernel_rfl) (by kernel_rfl) (by kernel_rfl) (by decide) (fun _ _ _ h => h) (Or.inl ⟨by rfl, ?_⟩) (fun h0 => by assumption) ?_
      rotate_left
      · intro wS
        go_simp
        try with_reducible rfl
      try simp only [Act.put, List.setIfInBounds_toArray, List.set_cons_zero, List.set_cons_succ]
      refine wpAnyL_free (i := 5) (v := ?_) (some 123) rfl rfl (by kernel_rfl) (by kernel_rfl) (by kernel_rfl) (by decide) (fun _ _ _ h => h) (Or.inl ⟨by rfl, ?_⟩) (fun h0 => by assumption) ?_
      rotate_left
      · intro wS
        go_simp
        try with_reducible rfl
      try simp only [Act.put, List.setIfInBounds_toArray, List.set_cons_zero, List.set_cons_succ]
      refine wpAnyL_ready (rs := [1, 11]) (by kernel_rfl) (by simp) ?_
      refine AllReadyL.cons rfl (fun K hK => ?_) ?_
      · skip
        go_simp; go_at_call 9; refine (toTemplateE _ _ _ _ _ _ (hHeld.2.2.2.2.2.r 2 rfl :) HLP1.out).mono ?_; rintro e w25 ⟨a25, n25, c25, rfl, ho25, hb25⟩; have G25 := Lib.hid (OwnRels.at ho25); clear ho25
        have HSZ := Lib.hid (Nat.le_trans HSZ.out hb25.size)
        refine hK.out _ _ ?_ (fun hHeld => ?_)
        · exact ⟨below_cell hb25 hHeld.1, below_cell hb25 hHeld.2.1, below_cell hb25 hHeld.2.2.1, below_cell hb25 hHeld.2.2.2.1, below_cell hb25 hHeld.2.2.2.2.1, hHeld.2.2.2.2.2.below hb25⟩
        clear hK K
        try simp only [Act.put, List.setIfInBounds_toArray, List.set_cons_zero, List.set_cons_succ]
        refine wpAnyL_ready (rs := [3, 11]) (by kernel_rfl) (by simp) ?_
        refine AllReadyL.cons rfl (fun K hK => ?_) ?_
        · skip
          go_simp; go_at_call 10; refine (toFormula _ _ _ _ _ _ _ (hHeld.2.2.2.2.2.r 3 rfl :) HLP2.out).mono ?_; rintro e w26 ⟨a26, n26, c26, rfl, ho26, hb26⟩; have G26 := Lib.hid (OwnOps.at ho26); clear ho26
          have G25 := Lib.hid (G25.out.below hb26)
          have HSZ := Lib.hid (Nat.le_trans HSZ.out hb26.size)
          refine hK.out _ _ ?_ (fun hHeld => ?_)
          · exact ⟨below_cell hb26 hHeld.1, below_cell hb26 hHeld.2.1, below_cell hb26 hHeld.2.2.1, below_cell hb26 hHeld.2.2.2.1, below_cell hb26 hHeld.2.2.2.2.1, hHeld.2.2.2.2.2.below hb26⟩
          clear hK K
          try simp only [Act.put, List.setIfInBounds_toArray, List.set_cons_zero, List.set_cons_succ]
          refine wpAnyL_ready (rs := [6, 11]) (by kernel_rfl) (by simp) ?_
          refine AllReadyL.cons rfl (fun K hK => ?_) ?_
          · skip
            go_simp; go_at_call 18; refine (toRowE _ _ _ (hHeld.2.2.2.2.2.r 4 rfl :) HLP3.out).mono ?_; rintro e w27 ⟨a27, n27, c27, rfl, ho27, hb27⟩; have G27 := Lib.hid (OwnRowE.at ho27); clear ho27
            have G25 := Lib.hid (G25.out.below hb27)
            have G26 := Lib.hid (G26.out.below hb27)
            have HSZ := Lib.hid (Nat.le_trans HSZ.out hb27.size)
            refine hK.out _ _ ?_ (fun hHeld => ?_)
            · exact ⟨below_cell hb27 hHeld.1, below_cell hb27 hHeld.2.1, below_cell hb27 hHeld.2.2.1, below_cell hb27 hHeld.2.2.2.1, below_cell hb27 hHeld.2.2.2.2.1, hHeld.2.2.2.2.2.below hb27⟩
            clear hK K
            try simp only [Act.put, List.setIfInBounds_toArray, List.set_cons_zero, List.set_cons_succ]
            refine wpAnyL_ready (rs := [7, 11]) (by kernel_rfl) (by simp) ?_
            refine AllReadyL.last rfl (by kernel_rfl) (fun K hK => ?_) ?_
            · skip
              have KB := Lib.hid (hHeld.2.2.2.2.2)
              have HSB := Lib.hid HSZ.out
              go_simp; go_at_call 19; refine (implPlaceFormula _ _ _ _ _ _ _ _ _ _ _ _ _ _ xR0 yR0 tR0 cd _ G25.out G26.out G27.out HI.out).mono ?_; rintro e w28 ⟨a28, n28, c28, rfl, ho28, hb28⟩
              have HSZ := Lib.hid (Nat.le_trans HSZ.out hb28.size)
              have KM := Lib.hid (KB.out.below hb28)
              refine hK.out _ _ ?_
              clear hK K
              try simp only [Act.put, List.setIfInBounds_toArray, List.set_cons_zero, List.set_cons_succ]
              refine wpAnyL_free (i := 8) (v := ?_) (some 117) rfl rfl (by kernel_rfl) (by kernel_rfl) (by kernel_rfl) (by decide) (fun _ _ _ h => h) (Or.inl ⟨by rfl, ?_⟩) (fun h0 => absurd h0 (by decide)) ?_
              rotate_left
              · intro wS
                go_simp
                try with_reducible rfl
              try simp only [Act.put, List.setIfInBounds_toArray, List.set_cons_zero, List.set_cons_succ]
              refine wpAnyL_free (i := 9) (v := ?_) (some 126) rfl rfl (by kernel_rfl) (by kernel_rfl) (by kernel_rfl) (by decide) (fun _ _ _ h => h) (Or.inl ⟨by rfl, ?_⟩) (fun h0 => absurd h0 (by decide)) ?_
              rotate_left
              · intro wS
                go_simp
                try with_reducible rfl
              try simp only [Act.put, List.setIfInBounds_toArray, List.set_cons_zero, List.set_cons_succ]
              refine wpAnyL_free (i := 10) (v := ?_) (some 127) rfl rfl (by kernel_rfl) (by kernel_rfl) (by kernel_rfl) (by decide) (fun _ _ _ h => h) (Or.inl ⟨by rfl, ?_⟩) (fun h0 => absurd h0 (by decide)) ?_
              rotate_left
              · intro wS
                go_simp
                try with_reducible rfl
              try simp only [Act.put, List.setIfInBounds_toArray, List.set_cons_zero, List.set_cons_succ]
              refine wpAnyL_ready (rs := [11]) (by kernel_rfl) (by simp) ?_
              refine AllReadyL.last rfl (by kernel_rfl) (fun K hK => ?_) AllReadyL.nil
              go_simp
              refine hK.out _ _ ?_
              clear hK K
              try simp only [Act.put, List.setIfInBounds_toArray, List.set_cons_zero, List.set_cons_succ]
              refine wpAnyL_ready (rs := [12]) (by kernel_rfl) (by simp) ?_
              refine AllReadyL.last rfl (by kernel_rfl) (fun K hK => ?_) AllReadyL.nil
              go_simp
              refine hK.out _ _ ?_
              clear hK K
              try simp only [Act.put, List.setIfInBounds_toArray, List.set_cons_zero, List.set_cons_succ]
              refine wpAnyL_free (i := 13) (v := ?_) (some 21) rfl rfl (by kernel_rfl) (by kernel_rfl) (by kernel_rfl) (by decide) (fun _ _ _ h => h) (Or.inl ⟨by rfl, ?_⟩) (fun h0 => absurd h0 (by decide)) ?_
              rotate_left
              · intro wS
                go_simp
                try with_reducible rfl
              try simp only [Act.put, List.setIfInBounds_toArray, List.set_cons_zero, List.set_cons_succ]
              refine wpAnyL_done (by kernel_rfl) ?_ _
              refine NoPanic.normal ?_
              go_wp2_with fail
              go_meet
              exact ⟨Made.late KM.out ho28 (sure_ops _ _ _) HSB.out hb28.size, rfl⟩
            refine AllReadyL.cons rfl (fun K hK => ?_) AllReadyL.nil
            have KX := Lib.hid (hHeld.2.2.2.2.2 : Kept w _ _ w27)
            have HBOX := Lib.hid (show Box _ _ w27.heap.size _ from Box.new 32 w27 #[.int .i64 0, .int .i64 0, .slice none 0 0])
            have HX := Lib.hid ((Below.refl w27.heap.size w27).alloc (Nat.le_refl _) (.cells #[.int .i64 0, .int .i64 0, .slice none 0 0] 32))
            have HSX := Lib.hid HSZ.out
            have HSZ := Lib.hid (Nat.le_trans HSZ.out HX.out.size)
            have G25 := Lib.hid (G25.out.below HX.out)
            have G26 := Lib.hid (G26.out.below HX.out)
            have G27 := Lib.hid (G27.out.below HX.out)
            go_simp
            refine hK.out _ _ ?_ (fun hHeld => ?_)
            · exact ⟨below_cell ((Below.refl _ _).alloc (Nat.le_refl _) _) hHeld.1, below_cell ((Below.refl _ _).alloc (Nat.le_refl _) _) hHeld.2.1, below_cell ((Below.refl _ _).alloc (Nat.le_refl _) _) hHeld.2.2.1, below_cell ((Below.refl _ _).alloc (Nat.le_refl _) _) hHeld.2.2.2.1, below_cell ((Below.refl _ _).alloc (Nat.le_refl _) _) hHeld.2.2.2.2.1, hHeld.2.2.2.2.2.below ((Below.refl _ _).alloc (Nat.le_refl _) _)⟩
            clear hK K
            try simp only [Act.put, List.setIfInBounds_toArray, List.set_cons_zero, List.set_cons_succ]
            refine wpAnyL_ready (rs := [7]) (by kernel_rfl) (by simp) ?_
            refine AllReadyL.last rfl (by kernel_rfl) (fun K hK => ?_) AllReadyL.nil
            have KB := Lib.hid (hHeld.2.2.2.2.2)
            have HSB := Lib.hid HSZ.out
            have HLT := Lib.hid HBOX.out.lt
            go_simp; go_at_call 19; refine (implPlaceFormula _ _ _ _ _ _ _ _ _ _ _ _ _ _ xR0 yR0 tR0 cd _ G25.out G26.out G27.out HI.out).mono ?_; rintro e w28 ⟨a28, n28, c28, rfl, ho28, hb28⟩
            have HSZ := Lib.hid (Nat.le_trans HSZ.out hb28.size)
            have HX := Lib.hid (HX.out.trans (hb28.mono HX.out.size))
            have HBOX := Lib.hid (HBOX.out.below hb28)
            refine hK.out _ _ ?_
            clear hK K
            try simp only [Act.put, List.setIfInBounds_toArray, List.set_cons_zero, List.set_cons_succ]
            refine wpAnyL_free (i := 8) (v := ?_) (some 117) rfl rfl (by kernel_rfl) (by kernel_rfl) (by kernel_rfl) (by decide) (fun _ _ _ h => h) (Or.inl ⟨by rfl, ?_⟩) (fun h0 => absurd h0 (by decide)) ?_
            rotate_left
            · intro wS
              go_simp
              try with_reducible rfl
            try simp only [Act.put, List.setIfInBounds_toArray, List.set_cons_zero, List.set_cons_succ]
            refine wpAnyL_free (i := 9) (v := ?_) (some 126) rfl rfl (by kernel_rfl) (by kernel_rfl) (by kernel_rfl) (by decide) (fun _ _ _ h => h) (Or.inl ⟨by rfl, ?_⟩) (fun h0 => absurd h0 (by decide)) ?_
            rotate_left
            · intro wS
              go_simp
              try with_reducible rfl
            try simp only [Act.put, List.setIfInBounds_toArray, List.set_cons_zero, List.set_cons_succ]
            refine wpAnyL_free (i := 10) (v := ?_) (some 127) rfl rfl (by kernel_rfl) (by kernel_rfl) (by kernel_rfl) (by decide) (fun _ _ _ h => h) (Or.inl ⟨by rfl, ?_⟩) (fun h0 => absurd h0 (by decide)) ?_
            rotate_left
            · intro wS
              go_simp
              try with_reducible rfl
            try simp only [Act.put, List.setIfInBounds_toArray, List.set_cons_zero, List.set_cons_succ]
            refine wpAnyL_ready (rs := [12]) (by kernel_rfl) (by simp) ?_
            refine AllReadyL.last rfl (by kernel_rfl) (fun K hK => ?_) AllReadyL.nil
            have d0 := HBOX.out.c 0 rfl
            have d1 := HBOX.out.c 1 rfl
            have d2 := HBOX.out.c 2 rfl
            have f0 := HBOX.out.free 0
            have f1 := HBOX.out.free 1
            have f2 := HBOX.out.free 2
            go_simp
            refine hK.out _ _ ?_
            clear hK K
            try simp only [Act.put, List.setIfInBounds_toArray, List.set_cons_zero, List.set_cons_succ]
            refine wpAnyL_free (i := 13) (v := ?_) (some 21) rfl rfl (by kernel_rfl) (by kernel_rfl) (by kernel_rfl) (by decide) (fun _ _ _ h => h) (Or.inl ⟨by rfl, ?_⟩) (fun h0 => absurd h0 (by decide)) ?_
            rotate_left
            · intro wS
              go_simp
              try with_reducible rfl
            try simp only [Act.put, List.setIfInBounds_toArray, List.set_cons_zero, List.set_cons_succ]
            refine wpAnyL_done (by kernel_rfl) ?_ _
            refine NoPanic.normal ?_
            go_wp2_with fail
            go_meet
            exact ⟨Made.early3 (X := w27) KX.out HX.out HBOX.out ho28 (sure_ops _ _ _) HSX.out HLT.out, rfl⟩
          refine AllReadyL.cons rfl (fun K hK => ?_) AllReadyL.nil
          have KX := Lib.hid (hHeld.2.2.2.2.2 : Kept w _ _ w26)
          have HBOX := Lib.hid (show Box _ _ w26.heap.size _ from Box.new 32 w26 #[.int .i64 0, .int .i64 0, .slice none 0 0])
          have HX := Lib.hid ((Below.refl w26.heap.size w26).alloc (Nat.le_refl _) (.cells #[.int .i64 0, .int .i64 0, .slice none 0 0] 32))
          have HSX := Lib.hid HSZ.out
          have HSZ := Lib.hid (Nat.le_trans HSZ.out HX.out.size)
          have G25 := Lib.hid (G25.out.below HX.out)
          have G26 := Lib.hid (G26.out.below HX.out)
          go_simp
          refine hK.out _ _ ?_ (fun hHeld => ?_)
          · exact ⟨below_cell ((Below.refl _ _).alloc (Nat.le_refl _) _) hHeld.1, below_cell ((Below.refl _ _).alloc (Nat.le_refl _) _) hHeld.2.1, below_cell ((Below.refl _ _).alloc (Nat.le_refl _) _) hHeld.2.2.1, below_cell ((Below.refl _ _).alloc (Nat.le_refl _) _) hHeld.2.2.2.1, below_cell ((Below.refl _ _).alloc (Nat.le_refl _) _) hHeld.2.2.2.2.1, hHeld.2.2.2.2.2.below ((Below.refl _ _).alloc (Nat.le_refl _) _)⟩
          clear hK K
          try simp only [Act.put, List.setIfInBounds_toArray, List.set_cons_zero, List.set_cons_succ]
          refine wpAnyL_ready (rs := [6]) (by kernel_rfl) (by simp) ?_
          refine AllReadyL.cons rfl (fun K hK => ?_) AllReadyL.nil
          go_simp; go_at_call 18; refine (toRowE _ _ _ (hHeld.2.2.2.2.2.r 4 rfl :) HLP3.out).mono ?_; rintro e w27 ⟨a27, n27, c27, rfl, ho27, hb27⟩; have G27 := Lib.hid (OwnRowE.at ho27); clear ho27
          have G25 := Lib.hid (G25.out.below hb27)
          have G26 := Lib.hid (G26.out.below hb27)
          have HSZ := Lib.hid (Nat.le_trans HSZ.out hb27.size)
          have HX := Lib.hid (HX.out.trans (hb27.mono HX.out.size))
          have HBOX := Lib.hid (HBOX.out.below hb27)
          refine hK.out _ _ ?_ (fun hHeld => ?_)
          · exact ⟨below_cell hb27 hHeld.1, below_cell hb27 hHeld.2.1, below_cell hb27 hHeld.2.2.1, below_cell hb27 hHeld.2.2.2.1, below_cell hb27 hHeld.2.2.2.2.1, hHeld.2.2.2.2.2.below hb27⟩
          clear hK K
          try simp only [Act.put, List.setIfInBounds_toArray, List.set_cons_zero, List.set_cons_succ]
          refine wpAnyL_ready (rs := [7]) (by kernel_rfl) (by simp) ?_
          refine AllReadyL.last rfl (by kernel_rfl) (fun K hK => ?_) AllReadyL.nil
          have KB := Lib.hid (hHeld.2.2.2.2.2)
          have HSB := Lib.hid HSZ.out
          have HLT := Lib.hid HBOX.out.lt
          go_simp; go_at_call 19; refine (implPlaceFormula _ _ _ _ _ _ _ _ _ _ _ _ _ _ xR0 yR0 tR0 cd _ G25.out G26.out G27.out HI.out).mono ?_; rintro e w28 ⟨a28, n28, c28, rfl, ho28, hb28⟩
          have HSZ := Lib.hid (Nat.le_trans HSZ.out hb28.size)
          have HX := Lib.hid (HX.out.trans (hb28.mono HX.out.size))
          have HBOX := Lib.hid (HBOX.out.below hb28)
          refine hK.out _ _ ?_
          clear hK K
          try simp only [Act.put, List.setIfInBounds_toArray, List.set_cons_zero, List.set_cons_succ]
          refine wpAnyL_free (i := 8) (v := ?_) (some 117) rfl rfl (by kernel_rfl) (by kernel_rfl) (by kernel_rfl) (by decide) (fun _ _ _ h => h) (Or.inl ⟨by rfl, ?_⟩) (fun h0 => absurd h0 (by decide)) ?_
          rotate_left
          · intro wS
            go_simp
            try with_reducible rfl
          try simp only [Act.put, List.setIfInBounds_toArray, List.set_cons_zero, List.set_cons_succ]
          refine wpAnyL_free (i := 9) (v := ?_) (some 126) rfl rfl (by kernel_rfl) (by kernel_rfl) (by kernel_rfl) (by decide) (fun _ _ _ h => h) (Or.inl ⟨by rfl, ?_⟩) (fun h0 => absurd h0 (by decide)) ?_
          rotate_left
          · intro wS
            go_simp
            try with_reducible rfl
          try simp only [Act.put, List.setIfInBounds_toArray, List.set_cons_zero, List.set_cons_succ]
          refine wpAnyL_free (i := 10) (v := ?_) (some 127) rfl rfl (by kernel_rfl) (by kernel_rfl) (by kernel_rfl) (by decide) (fun _ _ _ h => h) (Or.inl ⟨by rfl, ?_⟩) (fun h0 => absurd h0 (by decide)) ?_
          rotate_left
          · intro wS
            go_simp
            try with_reducible rfl
          try simp only [Act.put, List.setIfInBounds_toArray, List.set_cons_zero, List.set_cons_succ]
          refine wpAnyL_ready (rs := [12]) (by kernel_rfl) (by simp) ?_
          refine AllReadyL.last rfl (by kernel_rfl) (fun K hK => ?_) AllReadyL.nil
          have d0 := HBOX.out.c 0 rfl
          have d1 := HBOX.out.c 1 rfl
          have d2 := HBOX.out.c 2 rfl
          have f0 := HBOX.out.free 0
          have f1 := HBOX.out.free 1
          have f2 := HBOX.out.free 2
          go_simp
          refine hK.out _ _ ?_
          clear hK K
          try simp only [Act.put, List.setIfInBounds_toArray, List.set_cons_zero, List.set_cons_succ]
          refine wpAnyL_free (i := 13) (v := ?_) (some 21) rfl rfl (by kernel_rfl) (by kernel_rfl) (by kernel_rfl) (by decide) (fun _ _ _ h => h) (Or.inl ⟨by rfl, ?_⟩) (fun h0 => absurd h0 (by decide)) ?_
          rotate_left
          · intro wS
            go_simp
            try with_reducible rfl
          try simp only [Act.put, List.setIfInBounds_toArray, List.set_cons_zero, List.set_cons_succ]
          refine wpAnyL_done (by kernel_rfl) ?_ _
          refine NoPanic.normal ?_
          go_wp2_with fail
          go_meet
          exact ⟨Made.early3 (X := w26) KX.out HX.out HBOX.out ho28 (sure_ops _ _ _) HSX.out HLT.out, rfl⟩
        refine AllReadyL.cons rfl (fun K hK => ?_) AllReadyL.nil
        have KX := Lib.hid (hHeld.2.2.2.2.2 : Kept w _ _ w25)
        have HBOX := Lib.hid (show Box _ _ w25.heap.size _ from Box.new 32 w25 #[.int .i64 0, .int .i64 0, .slice none 0 0])
        have HX := Lib.hid ((Below.refl w25.heap.size w25).alloc (Nat.le_refl _) (.cells #[.int .i64 0, .int .i64 0, .slice none 0 0] 32))
        have HSX := Lib.hid HSZ.out
        have HSZ := Lib.hid (Nat.le_trans HSZ.out HX.out.size)
        have G25 := Lib.hid (G25.out.below HX.out)
        go_simp
        refine hK.out _ _ ?_ (fun hHeld => ?_)
        · exact ⟨below_cell ((Below.refl _ _).alloc (Nat.le_refl _) _) hHeld.1, below_cell ((Below.refl _ _).alloc (Nat.le_refl _) _) hHeld.2.1, below_cell ((Below.refl _ _).alloc (Nat.le_refl _) _) hHeld.2.2.1, below_cell ((Below.refl _ _).alloc (Nat.le_refl _) _) hHeld.2.2.2.1, below_cell ((Below.refl _ _).alloc (Nat.le_refl _) _) hHeld.2.2.2.2.1, hHeld.2.2.2.2.2.below ((Below.refl _ _).alloc (Nat.le_refl _) _)⟩
        clear hK K
        try simp only [Act.put, List.setIfInBounds_toArray, List.set_cons_zero, List.set_cons_succ]
        refine wpAnyL_ready (rs := [3]) (by kernel_rfl) (by simp) ?_
        refine AllReadyL.cons rfl (fun K hK => ?_) AllReadyL.nil
        go_simp; go_at_call 10; refine (toFormula _ _ _ _ _ _ _ (hHeld.2.2.2.2.2.r 3 rfl :) HLP2.out).mono ?_; rintro e w26 ⟨a26, n26, c26, rfl, ho26, hb26⟩; have G26 := Lib.hid (OwnOps.at ho26); clear ho26
        have G25 := Lib.hid (G25.out.below hb26)
        have HSZ := Lib.hid (Nat.le_trans HSZ.out hb26.size)
        have HX := Lib.hid (HX.out.trans (hb26.mono HX.out.size))
        have HBOX := Lib.hid (HBOX.out.below hb26)
        refine hK.out _ _ ?_ (fun hHeld => ?_)
        · exact ⟨below_cell hb26 hHeld.1, below_cell hb26 hHeld.2.1, below_cell hb26 hHeld.2.2.1, below_cell hb26 hHeld.2.2.2.1, below_cell hb26 hHeld.2.2.2.2.1, hHeld.2.2.2.2.2.below hb26⟩
        clear hK K
        try simp only [Act.put, List.setIfInBounds_toArray, List.set_cons_zero, List.set_cons_succ]
        refine wpAnyL_ready (rs := [6]) (by kernel_rfl) (by simp) ?_
        refine AllReadyL.cons rfl (fun K hK => ?_) AllReadyL.nil
        go_simp; go_at_call 18; refine (toRowE _ _ _ (hHeld.2.2.2.2.2.r 4 rfl :) HLP3.out).mono ?_; rintro e w27 ⟨a27, n27, c27, rfl, ho27, hb27⟩; have G27 := Lib.hid (OwnRowE.at ho27); clear ho27
        have G25 := Lib.hid (G25.out.below hb27)
        have G26 := Lib.hid (G26.out.below hb27)
        have HSZ := Lib.hid (Nat.le_trans HSZ.out hb27.size)
        have HX := Lib.hid (HX.out.trans (hb27.mono HX.out.size))
        have HBOX := Lib.hid (HBOX.out.below hb27)
        refine hK.out _ _ ?_ (fun hHeld => ?_)
        · exact ⟨below_cell hb27 hHeld.1, below_cell hb27 hHeld.2.1, below_cell hb27 hHeld.2.2.1, below_cell hb27 hHeld.2.2.2.1, below_cell hb27 hHeld.2.2.2.2.1, hHeld.2.2.2.2.2.below hb27⟩
        clear hK K
        try simp only [Act.put, List.setIfInBounds_toArray, List.set_cons_zero, List.set_cons_succ]
        refine wpAnyL_ready (rs := [7]) (by kernel_rfl) (by simp) ?_
        refine AllReadyL.last rfl (by kernel_rfl) (fun K hK => ?_) AllReadyL.nil
        have KB := Lib.hid (hHeld.2.2.2.2.2)
        have HSB := Lib.hid HSZ.out
        have HLT := Lib.hid HBOX.out.lt
        go_simp; go_at_call 19; refine (implPlaceFormula _ _ _ _ _ _ _ _ _ _ _ _ _ _ xR0 yR0 tR0 cd _ G25.out G26.out G27.out HI.out).mono ?_; rintro e w28 ⟨a28, n28, c28, rfl, ho28, hb28⟩
        have HSZ := Lib.hid (Nat.le_trans HSZ.out hb28.size)
        have HX := Lib.hid (HX.out.trans (hb28.mono HX.out.size))
        have HBOX := Lib.hid (HBOX.out.below hb28)
        refine hK.out _ _ ?_
        clear hK K
        try simp only [Act.put, List.setIfInBounds_toArray, List.set_cons_zero, List.set_cons_succ]
        refine wpAnyL_free (i := 8) (v := ?_) (some 117) rfl rfl (by kernel_rfl) (by kernel_rfl) (by kernel_rfl) (by decide) (fun _ _ _ h => h) (Or.inl ⟨by rfl, ?_⟩) (fun h0 => absurd h0 (by decide)) ?_
        rotate_left
        · intro wS
          go_simp
          try with_reducible rfl
        try simp only [Act.put, List.setIfInBounds_toArray, List.set_cons_zero, List.set_cons_succ]
        refine wpAnyL_free (i := 9) (v := ?_) (some 126) rfl rfl (by kernel_rfl) (by kernel_rfl) (by kernel_rfl) (by decide) (fun _ _ _ h => h) (Or.inl ⟨by rfl, ?_⟩) (fun h0 => absurd h0 (by decide)) ?_
        rotate_left
        · intro wS
          go_simp
          try with_reducible rfl
        try simp only [Act.put, List.setIfInBounds_toArray, List.set_cons_zero, List.set_cons_succ]
        refine wpAnyL_free (i := 10) (v := ?_) (some 127) rfl rfl (by kernel_rfl) (by kernel_rfl) (by kernel_rfl) (by decide) (fun _ _ _ h => h) (Or.inl ⟨by rfl, ?_⟩) (fun h0 => absurd h0 (by decide)) ?_
        rotate_left
        · intro wS
          go_simp
          try with_reducible rfl
        try simp only [Act.put, List.setIfInBounds_toArray, List.set_cons_zero, List.set_cons_succ]
        refine wpAnyL_ready (rs := [12]) (by kernel_rfl) (by simp) ?_
        refine AllReadyL.last rfl (by kernel_rfl) (fun K hK => ?_) AllReadyL.nil
        have d0 := HBOX.out.c 0 rfl
        have d1 := HBOX.out.c 1 rfl
        have d2 := HBOX.out.c 2 rfl
        have f0 := HBOX.out.free 0
        have f1 := HBOX.out.free 1
        have f2 := HBOX.out.free 2
        go_simp
        refine hK.out _ _ ?_
        clear hK K
        try simp only [Act.put, List.setIfInBounds_toArray, List.set_cons_zero, List.set_cons_succ]
        refine wpAnyL_free (i := 13) (v := ?_) (some 21) rfl rfl (by kernel_rfl) (by kernel_rfl) (by kernel_rfl) (by decide) (fun _ _ _ h => h) (Or.inl ⟨by rfl, ?_⟩) (fun h0 => absurd h0 (by decide)) ?_
        rotate_left
        · intro wS
          go_simp
          try with_reducible rfl
        try simp only [Act.put, List.setIfInBounds_toArray, List.set_cons_zero, List.set_cons_succ]
        refine wpAnyL_done (by kernel_rfl) ?_ _
        refine NoPanic.normal ?_
        go_wp2_with fail
        go_meet
        exact ⟨Made.early3 (X := w25) KX.out HX.out HBOX.out ho28 (sure_ops _ _ _) HSX.out HLT.out, rfl⟩
      refine AllReadyL.cons rfl (fun K hK => ?_) AllReadyL.nil
      have KX := Lib.hid (hHeld.2.2.2.2.2 : Kept w _ _ w24.drew)
      have HBOX := Lib.hid (show Box _ _ w24.heap.size _ from Box.new 32 w24.drew #[.int .i64 0, .int .i64 0, .slice none 0 0])
      have HX := Lib.hid ((Below.refl w24.drew.heap.size w24.drew).alloc (Nat.le_refl _) (.cells #[.int .i64 0, .int .i64 0, .slice none 0 0] 32))
      have HSX := Lib.hid HSZ.out
      have HSZ := Lib.hid (Nat.le_trans HSZ.out HX.out.size)
      go_simp
      refine hK.out _ _ ?_ (fun hHeld => ?_)
      · exact ⟨below_cell ((Below.refl _ _).alloc (Nat.le_refl _) _) hHeld.1, below_cell ((Below.refl _ _).alloc (Nat.le_refl _) _) hHeld.2.1, below_cell ((Below.refl _ _).alloc (Nat.le_refl _) _) hHeld.2.2.1, below_cell ((Below.refl _ _).alloc (Nat.le_refl _) _) hHeld.2.2.2.1, below_cell ((Below.refl _ _).alloc (Nat.le_refl _) _) hHeld.2.2.2.2.1, hHeld.2.2.2.2.2.below ((Below.refl _ _).alloc (Nat.le_refl _) _)⟩
      clear hK K
      try simp only [Act.put, List.setIfInBounds_toArray, List.set_cons_zero, List.set_cons_succ]
      refine wpAnyL_ready (rs := [1]) (by kernel_rfl) (by simp) ?_
      refine AllReadyL.cons rfl (fun K hK => ?_) AllReadyL.nil
      go_simp; go_at_call 9; refine (toTemplateE _ _ _ _ _ _ (hHeld.2.2.2.2.2.r 2 rfl :) HLP1.out).mono ?_; rintro e w25 ⟨a25, n25, c25, rfl, ho25, hb25⟩; have G25 := Lib.hid (OwnRels.at ho25); clear ho25
      have HSZ := Lib.hid (Nat.le_trans HSZ.out hb25.size)
      have HX := Lib.hid (HX.out.trans (hb25.mono HX.out.size))
      have HBOX := Lib.hid (HBOX.out.below hb25)
      refine hK.out _ _ ?_ (fun hHeld => ?_)
      · exact ⟨below_cell hb25 hHeld.1, below_cell hb25 hHeld.2.1, below_cell hb25 hHeld.2.2.1, below_cell hb25 hHeld.2.2.2.1, below_cell hb25 hHeld.2.2.2.2.1, hHeld.2.2.2.2.2.below hb25⟩
      clear hK K
      try simp only [Act.put, List.setIfInBounds_toArray, List.set_cons_zero, List.set_cons_succ]
      refine wpAnyL_ready (rs := [3]) (by kernel_rfl) (by simp) ?_
      refine AllReadyL.cons rfl (fun K hK => ?_) AllReadyL.nil
      go_simp; go_at_call 10; refine (toFormula _ _ _ _ _ _ _ (hHeld.2.2.2.2.2.r 3 rfl :) HLP2.out).mono ?_; rintro e w26 ⟨a26, n26, c26, rfl, ho26, hb26⟩; have G26 := Lib.hid (OwnOps.at ho26); clear ho26
      have G25 := Lib.hid (G25.out.below hb26)
      have HSZ := Lib.hid (Nat.le_trans HSZ.out hb26.size)
      have HX := Lib.hid (HX.out.trans (hb26.mono HX.out.size))
      have HBOX := Lib.hid (HBOX.out.below hb26)
      refine hK.out _ _ ?_ (fun hHeld => ?_)
      · exact ⟨below_cell hb26 hHeld.1, below_cell hb26 hHeld.2.1, below_cell hb26 hHeld.2.2.1, below_cell hb26 hHeld.2.2.2.1, below_cell hb26 hHeld.2.2.2.2.1, hHeld.2.2.2.2.2.below hb26⟩
      clear hK K
      try simp only [Act.put, List.setIfInBounds_toArray, List.set_cons_zero, List.set_cons_succ]
      refine wpAnyL_ready (rs := [6]) (by kernel_rfl) (by simp) ?_
      refine AllReadyL.cons rfl (fun K hK => ?_) AllReadyL.nil
      go_simp; go_at_call 18; refine (toRowE _ _ _ (hHeld.2.2.2.2.2.r 4 rfl :) HLP3.out).mono ?_; rintro e w27 ⟨a27, n27, c27, rfl, ho27, hb27⟩; have G27 := Lib.hid (OwnRowE.at ho27); clear ho27
      have G25 := Lib.hid (G25.out.below hb27)
      have G26 := Lib.hid (G26.out.below hb27)
      have HSZ := Lib.hid (Nat.le_trans HSZ.out hb27.size)
      have HX := Lib.hid (HX.out.trans (hb27.mono HX.out.size))
      have HBOX := Lib.hid (HBOX.out.below hb27)
      refine hK.out _ _ ?_ (fun hHeld => ?_)
      · exact ⟨below_cell hb27 hHeld.1, below_cell hb27 hHeld.2.1, below_cell hb27 hHeld.2.2.1, below_cell hb27 hHeld.2.2.2.1, below_cell hb27 hHeld.2.2.2.2.1, hHeld.2.2.2.2.2.below hb27⟩
      clear hK K
      try simp only [Act.put, List.setIfInBounds_toArray, List.set_cons_zero, List.set_cons_succ]
      refine wpAnyL_ready (rs := [7]) (by kernel_rfl) (by simp) ?_
      refine AllReadyL.last rfl (by kernel_rfl) (fun K hK => ?_) AllReadyL.nil
      have KB := Lib.hid (hHeld.2.2.2.2.2)
      have HSB := Lib.hid HSZ.out
      have HLT := Lib.hid HBOX.out.lt
      go_simp; go_at_call 19; refine (implPlaceFormula _ _ _ _ _ _ _ _ _ _ _ _ _ _ xR0 yR0 tR0 cd _ G25.out G26.out G27.out HI.out).mono ?_; rintro e w28 ⟨a28, n28, c28, rfl, ho28, hb28⟩
      have HSZ := Lib.hid (Nat.le_trans HSZ.out hb28.size)
      have HX := Lib.hid (HX.out.trans (hb28.mono HX.out.size))
      have HBOX := Lib.hid (HBOX.out.below hb28)
      refine hK.out _ _ ?_
      clear hK K
      try simp only [Act.put, List.setIfInBounds_toArray, List.set_cons_zero, List.set_cons_succ]
      refine wpAnyL_free (i := 8) (v := ?_) (some 117) rfl rfl (by kernel_rfl) (by kernel_rfl) (by kernel_rfl) (by decide) (fun _ _ _ h => h) (Or.inl ⟨by rfl, ?_⟩) (fun h0 => absurd h0 (by decide)) ?_
      rotate_left
      · intro wS
        go_simp
        try with_reducible rfl
      try simp only [Act.put, List.setIfInBounds_toArray, List.set_cons_zero, List.set_cons_succ]
      refine wpAnyL_free (i := 9) (v := ?_) (some 126) rfl rfl (by kernel_rfl) (by kernel_rfl) (by kernel_rfl) (by decide) (fun _ _ _ h => h) (Or.inl ⟨by rfl, ?_⟩) (fun h0 => absurd h0 (by decide)) ?_
      rotate_left
      · intro wS
        go_simp
        try with_reducible rfl
      try simp only [Act.put, List.setIfInBounds_toArray, List.set_cons_zero, List.set_cons_succ]
      refine wpAnyL_free (i := 10) (v := ?_) (some 127) rfl rfl (by kernel_rfl) (by kernel_rfl) (by kernel_rfl) (by decide) (fun _ _ _ h => h) (Or.inl ⟨by rfl, ?_⟩) (fun h0 => absurd h0 (by decide)) ?_
      rotate_left
      · intro wS
        go_simp
        try with_reducible rfl
      try simp only [Act.put, List.setIfInBounds_toArray, List.set_cons_zero, List.set_cons_succ]
      refine wpAnyL_ready (rs := [12]) (by kernel_rfl) (by simp) ?_
      refine AllReadyL.last rfl (by kernel_rfl) (fun K hK => ?_) AllReadyL.nil
      have d0 := HBOX.out.c 0 rfl
      have d1 := HBOX.out.c 1 rfl
      have d2 := HBOX.out.c 2 rfl
      have f0 := HBOX.out.free 0
      have f1 := HBOX.out.free 1
      have f2 := HBOX.out.free 2
      go_simp
      refine hK.out _ _ ?_
      clear hK K
      try simp only [Act.put, List.setIfInBounds_toArray, List.set_cons_zero, List.set_cons_succ]
      refine wpAnyL_free (i := 13) (v := ?_) (some 21) rfl rfl (by kernel_rfl) (by kernel_rfl) (by kernel_rfl) (by decide) (fun _ _ _ h => h) (Or.inl ⟨by rfl, ?_⟩) (fun h0 => absurd h0 (by decide)) ?_
      rotate_left
      · intro wS
        go_simp
        try with_reducible rfl
      try simp only [Act.put, List.setIfInBounds_toArray, List.set_cons_zero, List.set_cons_succ]
      refine wpAnyL_done (by kernel_rfl) ?_ _
      refine NoPanic.normal ?_
      go_wp2_with fail
      go_meet
      exact ⟨Made.early3 (X := w24.drew) KX.out HX.out HBOX.out ho28 (sure_ops _ _ _) HSX.out HLT.out, rfl⟩
    case rest =>
      obtain ⟨⟨bk28, f28, e28, a28, n28, c28, rfl, hk28, hx28, ho28, l1, l2, l3, l4⟩, rfl⟩ := hcut
      obtain ⟨w28, hw28⟩ : ∃ y, y = wc := ⟨_, rfl⟩
      subst hw28
      have HY28 : Hid (w24.heap.size ≤ bk28 ∧ bk28 < w28.heap.size ∧ w24.heap.size ≤ f28 ∧ (bk28 < f28 ∨ e28 ≤ bk28) ∧ e28 ≤ w28.heap.size ∧ w.heap.size + 2 ≤ w24.heap.size) := Lib.hid ⟨l1, hx28.lt, l2, l3, l4, cell_block_lt (K24.out.c 11 rfl)⟩
      have K28 := Lib.hid ((((hk28.read (lives_ownOps _ _ _ _ _) ho28).cell (hx28.c 2 rfl)).cell (hx28.c 1 rfl)).cell (hx28.c 0 rfl))
      clear hk28 hx28 ho28 l1 l2 l3 l4
      clear cd33 cd34 cd35 cd36 cd37
      have cd38 := K28.out.c 0 rfl
      have cd39 := K28.out.c 1 rfl
      have cd40 := K28.out.c 2 rfl
      have cd41 := K28.out.c 11 rfl
      have cd42 := K28.out.c 12 rfl
      have cd43 := K28.out.c 13 rfl
      go_wp2_with fail
      refine (eqFormula' _ _ _ _ _ _ _ _ _ _ _ _ true _ (OwnOps.at (K28.out.r 0 rfl :)) (OwnOps.at (K28.out.r 2 rfl :)) (eqF_same _ _ _)).mono ?_
      rintro e w29 ⟨rfl, hb29⟩
      have K29 := Lib.hid (K28.out.below hb29)
      clear cd38 cd39 cd40 cd41 cd42 cd43
      clear hb29
      have cd44 := K29.out.c 3 rfl
      have cd45 := K29.out.c 4 rfl
      have cd46 := K29.out.c 5 rfl
      go_wp2_with fail
      refine (heldFormula _ _ _ _ _ _ _ _ (OwnOps.at (K29.out.r 1 rfl :)) (by omega) (by have := HS.out; omega)).mono ?_
      rintro e w30 ⟨rfl, hb30⟩
      have K30 := Lib.hid (K29.out.below hb30)
      clear cd44 cd45 cd46
      clear hb30
      go_wp2
      go_ret
      exact ⟨rfl, K30.out.bel⟩

end Go.Proofs.Ytnbgpeoceejolab
