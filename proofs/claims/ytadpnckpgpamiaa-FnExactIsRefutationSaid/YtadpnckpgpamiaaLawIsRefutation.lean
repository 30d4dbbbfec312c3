/-
  FnExactIsRefutation: the walk over the law.
-/
import Derived.Test.YtadpnckpgpamiaaIsRef2
import Derived.Test.YtadpnckpgpamiaaGBase
import Derived.Test.YtadpnckpgpamiaaReg
import Derived.Test.YtadpnckpgpamiaaKept3
import Derived.Deep.CutRange
import Derived.Deep.RegionHeld3
namespace Go.Proofs.Ytadpnckpgpamiaa
open Go.RowKit

set_option linter.unusedSimpArgs false in
set_option maxHeartbeats 4000000 in
set_option maxRecDepth 100000 in
theorem lawIsRefutation (xP1 : Int) (yP1 : Int) (aP1 : Option Addr) (nP1 cP1 : Nat) (tP1 : List (Int × List Int)) (aP2 : Option Addr) (nP2 cP2 : Nat) (tP2 : List Int) (w : World) (hP1 : EqsAt w (.slice aP1 nP1 cP1) tP1) (hP2 : RowAt w (.slice aP2 nP2 cP2) tP2) :
    Calls Try.prog 6 #[.agg #[.int .i64 xP1, .int .i64 yP1, .slice aP1 nP1 cP1], .slice aP2 nP2 cP2] w fun e w' => e = .returned (.bool true) ∧ Below w.heap.size w w' := by
  obtain rfl : nP2 = tP2.length := by obtain ⟨_, _, hv, _⟩ := hP2; simp only [Value.slice.injEq] at hv; exact hv.2.1
  have hnP2 : tP2.length ≤ 9223372036854775807 := by obtain ⟨_, _, _, hn, _⟩ := hP2; exact hn
  have K0 := Lib.hid ((((Kept.start w).read (lives_eqs _ _) hP1).read (lives_row _ _) hP2).box3 (w.heap.size) rfl (.int .i64 xP1) (.int .i64 yP1) (.slice aP1 nP1 cP1) 24)
  clear hP1 hP2
  by_cases hlP2 : (1048576 : Int) < tP2.length
  · go_enter Try.func6, Try.ntmps6
    go_wp2
    go_ret
    exact ⟨rfl, K0.out.bel⟩
  by_cases hzP1 : (1048576 : Int) < opsSize tP1
  · have HF := Lib.hid (szF_no hzP1)
    clear hzP1
    go_enter Try.func6, Try.ntmps6
    go_wp2_with fail
    refine (szSystem _ _ _ _ _ _ _ _ (K0.out.r 1 rfl :) (by omega) (by omega)).mono ?_
    rw [HF.out]
    rintro e w1 ⟨rfl, hb1⟩
    have KE := Lib.hid (K0.out.below hb1).bel
    clear hb1
    go_wp2
    go_ret
    exact ⟨rfl, KE.out⟩
  have HF1 := Lib.hid (szF_yes (t := opsSize tP1) (l := 1048576) (by omega))
  have hp1 : ¬ (1048576 - (opsSize tP1 : Int) < 0) := by omega
  have hp1' : (1048576 - (opsSize tP1 : Int)) ≤ 1048576 := by omega
  have HLP1 : Hid (opsSize tP1 ≤ 1048576) := by
    show _ ≤ _
    omega
  have HLP2 : Hid (tP2.length ≤ 1048576) := by show _ ≤ _; omega
  obtain ⟨b, cd, hi⟩ := IsRefutationIs.exists xP1 yP1 tP1 tP2
  have HI := Lib.hid hi
  clear hi hzP1
  go_enter Try.func6, Try.ntmps6
  go_wp2_with fail
  refine (szSystem _ _ _ _ _ _ _ _ (K0.out.r 1 rfl :) (by omega) (by omega)).mono ?_
  rw [HF1.out]
  rintro e w1 ⟨rfl, hb1⟩
  have K1 := Lib.hid (K0.out.below hb1)
  clear hb1
  have cc0 := K1.out.c 0 rfl
  have cc1 := K1.out.c 1 rfl
  have cc2 := K1.out.c 2 rfl
  go_wp2_with fail
  -- the model's answer
  refine (toSystem _ _ _ _ _ _ _ (K1.out.r 1 rfl :) HLP1.out).mono ?_
  rintro e w2 ⟨a2, n2, c2, rfl, ho2, hb2⟩
  have K2 := Lib.hid ((K1.out.below hb2).read (lives_eqs _ _) (OwnEqs.at ho2))
  clear hb2 ho2
  clear cc0 cc1 cc2
  go_wp2_with fail
  refine (toRowE _ _ _ (K2.out.r 1 rfl :) HLP2.out).mono ?_
  rintro e w3 ⟨a3, n3, c3, rfl, ho3, hb3⟩
  have K3 := Lib.hid ((K2.out.below hb3).read (lives_row _ _) (OwnRowE.at ho3))
  clear hb3 ho3
  go_wp2_with fail
  refine (specIsRefutation _ _ _ _ _ _ _ _ b cd _ (K3.out.r 1 rfl :) (K3.out.r 0 rfl :) HI.out).mono ?_
  rintro e w4 ⟨rfl, hb4⟩
  have K4 := Lib.hid (K3.out.below hb4)
  clear hb4
  -- copies
  have cd100 := K4.out.c 0 rfl
  have cd101 := K4.out.c 1 rfl
  have cd102 := K4.out.c 2 rfl
  go_wp2_with fail
  refine (toSystem _ _ _ _ _ _ _ (K4.out.r 3 rfl :) HLP1.out).mono ?_
  rintro e w5 ⟨a5, n5, c5, rfl, ho5, hb5⟩
  have K5 := Lib.hid ((K4.out.below hb5).read (lives_eqs _ _) (OwnEqs.at ho5))
  clear cd100 cd101 cd102
  have K5b := Lib.hid (K5.out.box3 (w5.heap.size) rfl (.int .i64 xP1) (.int .i64 yP1) (.slice a5 n5 c5) 29)
  clear hb5 ho5
  go_wp2_with fail
  refine (toRowE _ _ _ (K5b.out.r 3 rfl :) HLP2.out).mono ?_
  rintro e w6 ⟨a6, n6, c6, rfl, ho6, hb6⟩
  have K6 := Lib.hid ((K5b.out.below hb6).read (lives_row _ _) (OwnRowE.at ho6))
  clear hb6 ho6
  -- the program's answer
  have cd103 := K6.out.c 0 rfl
  have cd104 := K6.out.c 1 rfl
  have cd105 := K6.out.c 2 rfl
  go_wp2_with fail
  refine (implIsRefutation _ _ _ _ _ _ _ _ b cd _ (K6.out.r 1 rfl :) (K6.out.r 0 rfl :) HI.out).mono ?_
  rintro e w7 ⟨rfl, hb7⟩
  have K7 := Lib.hid (K6.out.below hb7)
  clear cd103 cd104 cd105
  clear hb7
  -- the copies are as they were
  go_wp2_with fail
  refine wp_region_noPanic ?_
  refine wp_region_late (S := (fun w' => w'.cell? ⟨w5.heap.size, 0, none⟩ = some (.int .i64 xP1) ∧ w'.cell? ⟨w5.heap.size, 1, none⟩ = some (.int .i64 yP1) ∧ w'.cell? ⟨w5.heap.size, 2, none⟩ = some (.slice a5 n5 c5) ∧ w'.cell? ⟨w.heap.size, 0, none⟩ = some (.int .i64 xP1) ∧ w'.cell? ⟨w.heap.size, 1, none⟩ = some (.int .i64 yP1) ∧ w'.cell? ⟨w.heap.size, 2, none⟩ = some (.slice aP1 nP1 cP1) ∧ Kept w [(⟨w5.heap.size, 0, none⟩, .int .i64 xP1), (⟨w5.heap.size, 1, none⟩, .int .i64 yP1), (⟨w5.heap.size, 2, none⟩, .slice a5 n5 c5), (⟨w.heap.size, 0, none⟩, .int .i64 xP1), (⟨w.heap.size, 1, none⟩, .int .i64 yP1), (⟨w.heap.size, 2, none⟩, .slice aP1 nP1 cP1)] [fun w => RowAt w (.slice a6 n6 c6) tP2, fun w => EqsAt w (.slice a5 n5 c5) tP1, fun w => RowAt w (.slice a3 n3 c3) tP2, fun w => EqsAt w (.slice a2 n2 c2) tP1, fun w => RowAt w (.slice aP2 tP2.length cP2) tP2, fun w => EqsAt w (.slice aP1 nP1 cP1) tP1] w')) [] (by kernel_rfl) ?_ (fun hHeld => ?_)
  · exact ⟨K7.out.drew.c 0 rfl, K7.out.drew.c 1 rfl, K7.out.drew.c 2 rfl, K7.out.drew.c 3 rfl, K7.out.drew.c 4 rfl, K7.out.drew.c 5 rfl, K7.out.drew⟩
  refine wpAnyL_take (i := 0) (v := ?_) (some 46) rfl rfl (by kernel_rfl) (by kernel_rfl) (by kernel_rfl) (by kernel_rfl) (by kernel_rfl) (fun _ _ _ h => h) (Or.inl ⟨by rfl, ?_⟩) (by assumption) ?_
  rotate_left
  · intro wS hSw
    try dsimp only at hSw
    go_simp
    try with_reducible rfl
  try simp only [Act.put, List.setIfInBounds_toArray, List.set_cons_zero, List.set_cons_succ]
  refine wpAnyL_take (i := 1) (v := ?_) (some 47) rfl rfl (by kernel_rfl) (by kernel_rfl) (by kernel_rfl) (by kernel_rfl) (by kernel_rfl) (fun _ _ _ h => h) (Or.inl ⟨by rfl, ?_⟩) (by assumption) ?_
  rotate_left
  · intro wS hSw
    try dsimp only at hSw
    go_simp
    try with_reducible rfl
  try simp only [Act.put, List.setIfInBounds_toArray, List.set_cons_zero, List.set_cons_succ]
  refine wpAnyL_ready (rs := [2]) (by kernel_rfl) (by simp) ?_
  refine AllReadyL.cons rfl (fun K hK => ?_) AllReadyL.nil
  go_simp; go_at_call 16; refine (toSystem _ _ _ _ _ _ _ (hHeld.2.2.2.2.2.2.r 5 rfl :) HLP1.out).mono ?_; rintro e w8 ⟨a8, n8, c8, rfl, ho8, hb8⟩; have G8 := Lib.hid (OwnEqs.at ho8); clear ho8
  refine hK.out _ _ ?_ (fun hHeld => ?_)
  · exact ⟨below_cell hb8 hHeld.1, below_cell hb8 hHeld.2.1, below_cell hb8 hHeld.2.2.1, below_cell hb8 hHeld.2.2.2.1, below_cell hb8 hHeld.2.2.2.2.1, below_cell hb8 hHeld.2.2.2.2.2.1, hHeld.2.2.2.2.2.2.below hb8⟩
  clear hK K
  try simp only [Act.put, List.setIfInBounds_toArray, List.set_cons_zero, List.set_cons_succ]
  refine wpAnyL_ready (rs := [3]) (by kernel_rfl) (by simp) ?_
  refine AllReadyL.cons rfl (fun K hK => ?_) AllReadyL.nil
  go_simp; go_at_call 18; refine (eqSystem' _ _ _ _ _ _ _ _ _ _ _ _ true _ (hHeld.2.2.2.2.2.2.r 1 rfl :) G8.out (eqS_same _ _ _)).mono ?_; rintro e w9 ⟨rfl, hb9⟩
  refine hK.out _ _ ?_ (fun hHeld => ?_)
  · exact ⟨below_cell hb9 hHeld.1, below_cell hb9 hHeld.2.1, below_cell hb9 hHeld.2.2.1, below_cell hb9 hHeld.2.2.2.1, below_cell hb9 hHeld.2.2.2.2.1, below_cell hb9 hHeld.2.2.2.2.2.1, hHeld.2.2.2.2.2.2.below hb9⟩
  clear hK K
  try simp only [Act.put, List.setIfInBounds_toArray, List.set_cons_zero, List.set_cons_succ]
  refine wpAnyL_free (i := 4) (v := ?_) (some 50) rfl rfl (by kernel_rfl) (by kernel_rfl) (by kernel_rfl) (by decide) (fun _ _ _ h => h) (Or.inl ⟨by rfl, ?_⟩) (fun h0 => by assumption) ?_
  rotate_left
  · intro wS
    go_simp
    try with_reducible rfl
  try simp only [Act.put, List.setIfInBounds_toArray, List.set_cons_zero, List.set_cons_succ]
  refine wpAnyL_done (by kernel_rfl) ?_ _
  refine NoPanic.normal ?_
  have K9 := Lib.hid (hHeld.2.2.2.2.2.2 : Kept w _ _ w9)
  clear hHeld hb8 hb9 G8
  go_wp2_with fail
  refine (toRowE _ _ _ (K9.out.r 4 rfl :) HLP2.out).mono ?_
  rintro e w10 ⟨a10, n10, c10, rfl, ho10, hb10⟩
  have K10 := Lib.hid ((K9.out.below hb10).read (lives_row _ _) (OwnRowE.at ho10))
  clear hb10 ho10
  go_wp2_with fail
  refine (eqRowB _ _ _ _ true _ (K10.out.r 1 rfl :) (K10.out.r 0 rfl :) (eqB_yes rfl)).mono ?_
  rintro e w11 ⟨rfl, hb11⟩
  have K11 := Lib.hid (K10.out.below hb11)
  clear hb11
  go_wp2
  go_ret
  exact ⟨rfl, K11.out.bel⟩

end Go.Proofs.Ytadpnckpgpamiaa
