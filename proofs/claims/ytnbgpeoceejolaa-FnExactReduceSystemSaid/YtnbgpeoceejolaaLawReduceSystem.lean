/-
  FnExactReduceSystem: the walk over the law.
-/
import Derived.Test.YtnbgpeoceejolaaReducedP
import Derived.Test.YtnbgpeoceejolaaStabE
import Derived.Test.YtnbgpeoceejolaaGBase
import Derived.Test.YtnbgpeoceejolaaReg
import Derived.Test.YtnbgpeoceejolaaKept3
import Derived.Test.YtnbgpeoceejolaaStab2
import Derived.Test.YtnbgpeoceejolaaMade
import Derived.Deep.CutRange
import Derived.Deep.RegionHeld3
namespace Go.Proofs.Ytnbgpeoceejolaa
open Go.RowKit

set_option linter.unusedSimpArgs false in
set_option maxHeartbeats 4000000 in
set_option maxRecDepth 100000 in
theorem lawReduceSystem (xP1 : Int) (yP1 : Int) (aP1 : Option Addr) (nP1 cP1 : Nat) (tP1 : List (Int × List Int)) (w : World) (hP1 : EqsAt w (.slice aP1 nP1 cP1) tP1) :
    Calls Try.prog 6 #[.agg #[.int .i64 xP1, .int .i64 yP1, .slice aP1 nP1 cP1]] w fun e w' => e = .returned (.bool true) ∧ Below w.heap.size w w' := by
  have HAP1 := Lib.hid (stab_eqs hP1)
  have K0 := Lib.hid (((Kept.start w).read (lives_eqs _ _) hP1).box3 (w.heap.size) rfl (.int .i64 xP1) (.int .i64 yP1) (.slice aP1 nP1 cP1) 24)
  clear hP1
  by_cases hzP1 : (1048576 : Int) < opsSize tP1
  · have HF := Lib.hid (szF_no hzP1)
    clear hzP1
    go_enter Try.func6, Try.ntmps6
    go_wp2_with fail
    refine (szSystem _ _ _ _ _ _ _ _ (K0.out.r 0 rfl :) (by omega) (by omega)).mono ?_
    rw [HF.out]
    rintro e w1 ⟨rfl, hb1⟩
    have KE := Lib.hid (K0.out.below hb1).bel
    clear hb1
    go_wp2
    go_ret
    exact ⟨rfl, KE.out⟩
  have HF1 := Lib.hid (szF_yes (t := opsSize tP1) (l := 1048576) (by omega))
  have hp1 : ¬ (1048576 - (opsSize tP1 : Int) < 0) := by omega
  have hp1' : (1048576 - (opsSize tP1 : Int)) ≤ 1048576 := by omega
  have HLP1 : Hid (opsSize tP1 ≤ 1048576) := by
    show _ ≤ _
    omega
  obtain ⟨xR0, yR0, tR0, cd, hi⟩ := ReduceSystemIs.exists xP1 yP1 tP1
  have HI := Lib.hid hi
  have HS := Lib.hid hi.small
  clear hi hzP1
  go_enter Try.func6, Try.ntmps6
  go_wp2_with fail
  refine (szSystem _ _ _ _ _ _ _ _ (K0.out.r 0 rfl :) (by omega) (by omega)).mono ?_
  rw [HF1.out]
  rintro e w1 ⟨rfl, hb1⟩
  have K1 := Lib.hid (K0.out.below hb1)
  clear hb1
  have cc0 := K1.out.c 0 rfl
  have cc1 := K1.out.c 1 rfl
  have cc2 := K1.out.c 2 rfl
  go_wp2_with fail
  -- the model's answer
  refine (toSystem _ _ _ _ _ _ _ (K1.out.r 0 rfl :) HLP1.out).mono ?_
  rintro e w2 ⟨a2, n2, c2, rfl, ho2, hb2⟩
  have K2 := Lib.hid ((K1.out.below hb2).read (lives_eqs _ _) (OwnEqs.at ho2))
  clear hb2 ho2
  clear cc0 cc1 cc2
  go_wp2_with fail
  refine (specReduceSystem _ _ _ _ _ _ xR0 yR0 tR0 cd _ (K2.out.r 0 rfl :) HI.out).mono ?_
  rintro e w3 ⟨a3, n3, c3, rfl, ho3, hb3⟩
  have K3 := Lib.hid (K2.out.below hb3)
  obtain ⟨b0, hb0o⟩ : ∃ b0, (OwnEqs 46) w3 b0 w3.heap.size (.slice a3 n3 c3) tR0 := ⟨_, ho3⟩
  have HZ0 : Hid (w.heap.size + 1 ≤ w3.heap.size) := Lib.hid (cell_block_lt (K3.out.c 0 rfl))
  have K3b := Lib.hid ((K3.out.read (lives_ownEqs _ _ _ _ _) hb0o).box3 w3.heap.size rfl (.int .i64 xR0) (.int .i64 yR0) (.slice a3 n3 c3) 30)
  clear ho3 hb3 hb0o
  have cd0 := K3b.out.c 3 rfl
  have cd1 := K3b.out.c 4 rfl
  have cd2 := K3b.out.c 5 rfl
  go_wp2_with fail
  refine (toSystem _ _ _ _ _ _ _ (K3b.out.r 2 rfl :) HLP1.out).mono ?_
  rintro e w4 ⟨a4, n4, c4, rfl, ho4, hb4⟩
  have Z4 : Hid (w3.heap.size + 1 ≤ w4.heap.size) := Lib.hid (by have := hb4.size; simpa using this)
  have K4 := Lib.hid ((K3b.out.below hb4).read (lives_ownEqs _ _ _ _ _) (ho4.mono (B' := w3.heap.size + 1) (by simp)))
  clear cd0 cd1 cd2
  have K4b := Lib.hid (K4.out.box3 w4.heap.size rfl (.int .i64 xP1) (.int .i64 yP1) (.slice a4 n4 c4) 30)
  clear hb4 ho4
  -- the program's answer
  have cd3 := K4b.out.c 0 rfl
  have cd4 := K4b.out.c 1 rfl
  have cd5 := K4b.out.c 2 rfl
  go_wp2_with fail
  refine (implReduceSystem _ _ _ _ _ _ xR0 yR0 tR0 cd _ (OwnEqs.at (K4b.out.r 0 rfl :)) HI.out).mono ?_
  rintro e w5 ⟨a5, n5, c5, rfl, ho5, hb5⟩
  have Z5 : Hid (w4.heap.size + 1 ≤ w5.heap.size) := Lib.hid (by have := hb5.size; simpa using this)
  have K5 := Lib.hid (((K4b.out.below hb5).read (lives_ownEqs _ _ _ _ _) (ho5.mono (B' := w4.heap.size + 1) (by simp))).box3 w5.heap.size rfl (.int .i64 xR0) (.int .i64 yR0) (.slice a5 n5 c5) 30)
  clear cd3 cd4 cd5
  clear hb5 ho5
  have cd6 := K5.out.c 0 rfl
  have cd7 := K5.out.c 1 rfl
  have cd8 := K5.out.c 2 rfl
  have cd9 := K5.out.c 6 rfl
  have cd10 := K5.out.c 7 rfl
  have cd11 := K5.out.c 8 rfl
  go_wp2_with fail
  refine (eqSystem' _ _ _ _ _ _ _ _ _ _ _ _ true _ (OwnEqs.at (K5.out.r 0 rfl :)) (OwnEqs.at (K5.out.r 2 rfl :)) (eqS_same _ _ _)).mono ?_
  rintro e w6 ⟨rfl, hb6⟩
  have K6 := Lib.hid (K5.out.below hb6)
  clear cd6 cd7 cd8 cd9 cd10 cd11
  clear hb6
  -- the copies are as they were
  go_wp2_with fail
  refine wp_region_noPanic ?_
  refine wp_region_late (S := (fun w' => w'.cell? ⟨w4.heap.size, 0, none⟩ = some (.int .i64 xP1) ∧ w'.cell? ⟨w4.heap.size, 1, none⟩ = some (.int .i64 yP1) ∧ w'.cell? ⟨w4.heap.size, 2, none⟩ = some (.slice a4 n4 c4) ∧ w'.cell? ⟨w.heap.size, 0, none⟩ = some (.int .i64 xP1) ∧ w'.cell? ⟨w.heap.size, 1, none⟩ = some (.int .i64 yP1) ∧ w'.cell? ⟨w.heap.size, 2, none⟩ = some (.slice aP1 nP1 cP1) ∧ Kept w [(⟨w5.heap.size, 0, none⟩, .int .i64 xR0), (⟨w5.heap.size, 1, none⟩, .int .i64 yR0), (⟨w5.heap.size, 2, none⟩, .slice a5 n5 c5), (⟨w4.heap.size, 0, none⟩, .int .i64 xP1), (⟨w4.heap.size, 1, none⟩, .int .i64 yP1), (⟨w4.heap.size, 2, none⟩, .slice a4 n4 c4), (⟨w3.heap.size, 0, none⟩, .int .i64 xR0), (⟨w3.heap.size, 1, none⟩, .int .i64 yR0), (⟨w3.heap.size, 2, none⟩, .slice a3 n3 c3), (⟨w.heap.size, 0, none⟩, .int .i64 xP1), (⟨w.heap.size, 1, none⟩, .int .i64 yP1), (⟨w.heap.size, 2, none⟩, .slice aP1 nP1 cP1)] [fun w => (OwnEqs 46) w (w4.heap.size + 1) w5.heap.size (.slice a5 n5 c5) tR0, fun w => (OwnEqs 46) w (w3.heap.size + 1) w4.heap.size (.slice a4 n4 c4) tP1, fun w => (OwnEqs 46) w b0 w3.heap.size (.slice a3 n3 c3) tR0, fun w => EqsAt w (.slice a2 n2 c2) tP1, fun w => EqsAt w (.slice aP1 nP1 cP1) tP1] w')) [] (by kernel_rfl) ?_ (fun hHeld => ?_)
  · exact ⟨K6.out.drew.c 3 rfl, K6.out.drew.c 4 rfl, K6.out.drew.c 5 rfl, K6.out.drew.c 9 rfl, K6.out.drew.c 10 rfl, K6.out.drew.c 11 rfl, K6.out.drew⟩
  refine wpAnyL_take (i := 0) (v := ?_) (some 41) rfl rfl (by kernel_rfl) (by kernel_rfl) (by kernel_rfl) (by kernel_rfl) (by kernel_rfl) (fun _ _ _ h => h) (Or.inl ⟨by rfl, ?_⟩) (by assumption) ?_
  rotate_left
  · intro wS hSw
    try dsimp only at hSw
    go_simp
    try with_reducible rfl
  try simp only [Act.put, List.setIfInBounds_toArray, List.set_cons_zero, List.set_cons_succ]
  refine wpAnyL_take (i := 1) (v := ?_) (some 42) rfl rfl (by kernel_rfl) (by kernel_rfl) (by kernel_rfl) (by kernel_rfl) (by kernel_rfl) (fun _ _ _ h => h) (Or.inl ⟨by rfl, ?_⟩) (by assumption) ?_
  rotate_left
  · intro wS hSw
    try dsimp only at hSw
    go_simp
    try with_reducible rfl
  try simp only [Act.put, List.setIfInBounds_toArray, List.set_cons_zero, List.set_cons_succ]
  refine wpAnyL_ready (rs := [2]) (by kernel_rfl) (by simp) ?_
  refine AllReadyL.cons rfl (fun K hK => ?_) AllReadyL.nil
  go_simp; go_at_call 17; refine (toSystem _ _ _ _ _ _ _ (hHeld.2.2.2.2.2.2.r 4 rfl :) HLP1.out).mono ?_; rintro e w7 ⟨a7, n7, c7, rfl, ho7, hb7⟩; have G7 := Lib.hid (OwnEqs.at ho7); clear ho7
  refine hK.out _ _ ?_ (fun hHeld => ?_)
  · exact ⟨below_cell hb7 hHeld.1, below_cell hb7 hHeld.2.1, below_cell hb7 hHeld.2.2.1, below_cell hb7 hHeld.2.2.2.1, below_cell hb7 hHeld.2.2.2.2.1, below_cell hb7 hHeld.2.2.2.2.2.1, hHeld.2.2.2.2.2.2.below hb7⟩
  clear hK K
  try simp only [Act.put, List.setIfInBounds_toArray, List.set_cons_zero, List.set_cons_succ]
  refine wpAnyL_ready (rs := [3]) (by kernel_rfl) (by simp) ?_
  refine AllReadyL.cons rfl (fun K hK => ?_) AllReadyL.nil
  go_simp; go_at_call 19; refine (eqSystem' _ _ _ _ _ _ _ _ _ _ _ _ true _ (OwnEqs.at (hHeld.2.2.2.2.2.2.r 1 rfl :)) G7.out (eqS_same _ _ _)).mono ?_; rintro e w8 ⟨rfl, hb8⟩
  refine hK.out _ _ ?_ (fun hHeld => ?_)
  · exact ⟨below_cell hb8 hHeld.1, below_cell hb8 hHeld.2.1, below_cell hb8 hHeld.2.2.1, below_cell hb8 hHeld.2.2.2.1, below_cell hb8 hHeld.2.2.2.2.1, below_cell hb8 hHeld.2.2.2.2.2.1, hHeld.2.2.2.2.2.2.below hb8⟩
  clear hK K
  try simp only [Act.put, List.setIfInBounds_toArray, List.set_cons_zero, List.set_cons_succ]
  refine wpAnyL_free (i := 4) (v := ?_) (some 45) rfl rfl (by kernel_rfl) (by kernel_rfl) (by kernel_rfl) (by decide) (fun _ _ _ h => h) (Or.inl ⟨by rfl, ?_⟩) (fun h0 => by assumption) ?_
  rotate_left
  · intro wS
    go_simp
    try with_reducible rfl
  try simp only [Act.put, List.setIfInBounds_toArray, List.set_cons_zero, List.set_cons_succ]
  refine wpAnyL_done (by kernel_rfl) ?_ _
  refine NoPanic.normal ?_
  have K8 := Lib.hid (hHeld.2.2.2.2.2.2 : Kept w _ _ w8)
  clear hHeld
  clear hb7 hb8 G7
  -- marks
  have S0 := Lib.hid (((((KeptS.start K8.out).cons (HAP1.out.go K8.out.bel.size fun g _ hg => K8.out.bel.block g hg) K8.out.bel.size).cons (stab_ownEqs (K8.out.r 2 rfl :)) (ownEqs_le (K8.out.r 2 rfl :))).cons (stab_ownEqs (K8.out.r 0 rfl :)) (ownEqs_le (K8.out.r 0 rfl :))).cons (stab_ownEqs (K8.out.r 1 rfl :)) (ownEqs_le (K8.out.r 1 rfl :)))
  have cd12 := S0.out.c 3 rfl
  have cd13 := S0.out.c 4 rfl
  have cd14 := S0.out.c 5 rfl
  go_wp2_with fail
  refine (markSystem _ _ _ _ _ _ _ _ _ _ (S0.out.r 0 rfl :) (by omega) (by have yP1 := HLP1.out; omega)).mono ?_
  rintro e w9 ⟨rfl, ho9, hn9⟩
  have S1 := Lib.hid (S0.out.drop.only hn9 (by have y1 := HZ0.out; have zZ4 := Z4.out; have zZ5 := Z5.out; omega) (by have y1 := HZ0.out; have zZ4 := Z4.out; have zZ5 := Z5.out; intro x hx; simp only [List.mem_cons, List.not_mem_nil, or_false] at hx; rcases hx with rfl | rfl | rfl | rfl | rfl | rfl | rfl | rfl | rfl | rfl | rfl | rfl <;> (dsimp only; omega)) (by have y1 := HZ0.out; have zZ4 := Z4.out; have zZ5 := Z5.out; intro x hx; simp only [List.mem_cons, List.not_mem_nil, or_false] at hx; rcases hx with rfl | rfl | rfl <;> (dsimp only; omega)))
  clear ho9 hn9
  clear cd12 cd13 cd14
  have hpos : ¬ (1 + (opsSize tP1 : Int) < 0) := by omega
  have cd15 := S1.out.c 0 rfl
  have cd16 := S1.out.c 1 rfl
  have cd17 := S1.out.c 2 rfl
  have cd18 := S1.out.c 6 rfl
  have cd19 := S1.out.c 7 rfl
  have cd20 := S1.out.c 8 rfl
  go_wp2_with fail
  refine (eqSystem' _ _ _ _ _ _ _ _ _ _ _ _ true _ (OwnEqs.at (S1.out.r 0 rfl :)) (OwnEqs.at (S1.out.r 1 rfl :)) (eqS_same _ _ _)).mono ?_
  rintro e w10 ⟨rfl, hb10⟩
  have S2 := Lib.hid (S1.out.below hb10)
  clear cd15 cd16 cd17 cd18 cd19 cd20
  clear hb10
  have cd21 := S2.out.c 0 rfl
  have cd22 := S2.out.c 1 rfl
  have cd23 := S2.out.c 2 rfl
  go_wp2_with fail
  refine (markSystem _ _ _ _ _ _ _ _ _ _ (S2.out.r 0 rfl :) (by omega) (by have := HS.out; omega)).mono ?_
  rintro e w11 ⟨rfl, ho11, hn11⟩
  have S3 := Lib.hid ((S2.out.drop.only hn11 (by have y1 := HZ0.out; have zZ4 := Z4.out; have zZ5 := Z5.out; omega) (by have y1 := HZ0.out; have zZ4 := Z4.out; have zZ5 := Z5.out; intro x hx; simp only [List.mem_cons, List.not_mem_nil, or_false] at hx; rcases hx with rfl | rfl | rfl | rfl | rfl | rfl | rfl | rfl | rfl | rfl | rfl | rfl <;> (dsimp only; omega)) (by have y1 := HZ0.out; have zZ4 := Z4.out; have zZ5 := Z5.out; intro x hx; simp only [List.mem_cons, List.not_mem_nil, or_false] at hx; rcases hx with rfl | rfl <;> (dsimp only; omega))).cons (stab_ownEqs ho11) (ownEqs_le ho11))
  clear ho11 hn11
  clear cd21 cd22 cd23
  have K12 := Lib.hid (((S3.out.end.read (lives_eqs _ _) (S3.out.r 2 rfl :)).read (lives_ownEqs _ _ _ _ _) (S3.out.r 1 rfl :)).read (lives_ownEqs _ _ _ _ _) (S3.out.r 0 rfl :))
  have cd24 := K12.out.c 0 rfl
  have cd25 := K12.out.c 1 rfl
  have cd26 := K12.out.c 2 rfl
  go_wp2_with fail
  refine (heldSystem _ _ _ _ _ _ _ _ (OwnEqs.at (K12.out.r 0 rfl :)) (by omega) (by have := HS.out; omega)).mono ?_
  rintro e w13 ⟨rfl, hb13⟩
  have K13 := Lib.hid (K12.out.below hb13)
  clear cd24 cd25 cd26
  clear hb13
  have hposz : ¬ (1 + (opsSize tR0 : Int) < 0) := by omega
  -- the program's answer again
  have cd27 := K13.out.c 9 rfl
  have cd28 := K13.out.c 10 rfl
  have cd29 := K13.out.c 11 rfl
  go_wp2_with fail
  refine (toSystem _ _ _ _ _ _ _ (K13.out.r 2 rfl :) HLP1.out).mono ?_
  rintro e w14 ⟨a14, n14, c14, rfl, ho14, hb14⟩
  have K14 := Lib.hid ((K13.out.below hb14).read (lives_eqs _ _) (OwnEqs.at ho14))
  clear hb14 ho14
  clear cd27 cd28 cd29
  go_wp2_with fail
  refine (implReduceSystem _ _ _ _ _ _ xR0 yR0 tR0 cd _ (K14.out.r 0 rfl :) HI.out).mono ?_
  rintro e w15 ⟨a15, n15, c15, rfl, ho15, hb15⟩
  have K15 := Lib.hid (K14.out.below hb15)
  have K15h := Lib.hid ((K15.out.read (lives_ownEqs _ _ _ _ _) ho15).box3 w15.heap.size rfl (.int .i64 xR0) (.int .i64 yR0) (.slice a15 n15 c15) 30)
  clear ho15 hb15
  have cd30 := K15h.out.c 0 rfl
  have cd31 := K15h.out.c 1 rfl
  have cd32 := K15h.out.c 2 rfl
  have cd33 := K15h.out.c 9 rfl
  have cd34 := K15h.out.c 10 rfl
  have cd35 := K15h.out.c 11 rfl
  go_wp2_with fail
  refine (eqSystem' _ _ _ _ _ _ _ _ _ _ _ _ true _ (OwnEqs.at (K15h.out.r 0 rfl :)) (OwnEqs.at (K15h.out.r 3 rfl :)) (eqS_same _ _ _)).mono ?_
  rintro e w16 ⟨rfl, hb16⟩
  have K16 := Lib.hid (K15h.out.below hb16)
  clear cd30 cd31 cd32 cd33 cd34 cd35
  clear hb16
  have cd36 := K16.out.c 3 rfl
  have cd37 := K16.out.c 4 rfl
  have cd38 := K16.out.c 5 rfl
  go_wp2_with fail
  refine (heldSystem _ _ _ _ _ _ _ _ (OwnEqs.at (K16.out.r 2 rfl :)) (by omega) (by have := HS.out; omega)).mono ?_
  rintro e w17 ⟨rfl, hb17⟩
  have K17 := Lib.hid (K16.out.below hb17)
  clear cd36 cd37 cd38
  clear hb17
  go_wp2
  go_ret
  exact ⟨rfl, K17.out.bel⟩

end Go.Proofs.Ytnbgpeoceejolaa
