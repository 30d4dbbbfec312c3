/-
  FnExactSameOp: the walk over the law.
-/
import Derived.Test.YtpkmdieaifggoaaOpOk
import Derived.Test.YtpkmdieaifggoaaWrap
import Derived.Deep.RegionHeld3
namespace Go.Proofs.Ytpkmdieaifggoaa
open Go.RowKit

set_option maxHeartbeats 4000000 in
set_option maxRecDepth 100000 in
theorem lawSameOp (x1 : Int) (a1 : Option Addr) (n1 c1 : Nat) (t1 : List Int) (x2 : Int) (a2 : Option Addr) (n2 c2 : Nat) (t2 : List Int) (w : World) (h1 : RowAt w (.slice a1 n1 c1) t1) (h2 : RowAt w (.slice a2 n2 c2) t2) :
    Calls Try.prog 4 #[.agg #[.int .i64 x1, .slice a1 n1 c1], .agg #[.int .i64 x2, .slice a2 n2 c2]] w fun e w' => e = .returned (.bool true) ∧ Below w.heap.size w w' := by
  have K0 := Lib.hid (((((Kept.start w).read (lives_row _ _) h1).read (lives_row _ _) h2).box (w.heap.size) rfl (.int .i64 x1) (.slice a1 n1 c1) 24).box (w.heap.size + 1) (by simp) (.int .i64 x2) (.slice a2 n2 c2) 24)
  clear h1 h2
  by_cases hz1 : (1048576 : Int) < t1.length
  · have HF := Lib.hid (szF_no hz1)
    clear hz1
    go_enter Try.func4, Try.ntmps4
    go_wp2_with fail
    refine (szOp _ _ _ _ _ _ _ (K0.out.r 1 rfl :) (by omega) (by omega)).mono ?_
    rw [HF.out]
    rintro e w1 ⟨rfl, hb1⟩
    have KE := Lib.hid (K0.out.below hb1).bel
    clear hb1
    go_wp2
    go_ret
    exact ⟨rfl, KE.out⟩
  have HF1 := Lib.hid (szF_yes (t := t1.length) (l := 1048576) (by omega))
  have hp1 : ¬ (1048576 - (t1.length : Int) < 0) := by omega
  have hp1' : (1048576 - (t1.length : Int)) ≤ 1048576 := by omega
  by_cases hz2 : (1048576 - (t1.length : Int) : Int) < t2.length
  · have HF := Lib.hid (szF_no hz2)
    clear hz2
    go_enter Try.func4, Try.ntmps4
    go_wp2_with fail
    refine (szOp _ _ _ _ _ _ _ (K0.out.r 1 rfl :) (by omega) (by omega)).mono ?_
    rw [HF1.out]
    rintro e w1 ⟨rfl, hb1⟩
    have K1 := Lib.hid (K0.out.below hb1)
    clear hb1
    have cc0 := K1.out.c 0 rfl
    have cc1 := K1.out.c 1 rfl
    have cc2 := K1.out.c 2 rfl
    have cc3 := K1.out.c 3 rfl
    go_wp2_with fail
    refine (szOp _ _ _ _ _ _ _ (K1.out.r 0 rfl :) (by omega) (by omega)).mono ?_
    rw [HF.out]
    rintro e w2 ⟨rfl, hb2⟩
    have KE := Lib.hid (K1.out.below hb2).bel
    clear hb2
    go_wp2
    go_ret
    exact ⟨rfl, KE.out⟩
  have HF2 := Lib.hid (szF_yes (t := t2.length) (l := 1048576 - (t1.length : Int)) (by omega))
  have hp2 : ¬ (1048576 - (t1.length : Int) - (t2.length : Int) < 0) := by omega
  have hp2' : (1048576 - (t1.length : Int) - (t2.length : Int)) ≤ 1048576 := by omega
  have HL1 : Hid (t1.length ≤ 1048576) := by
    show _ ≤ _
    omega
  have HL2 : Hid (t2.length ≤ 1048576) := by
    show _ ≤ _
    omega
  obtain ⟨b, hi⟩ := SameOpIs.exists x1 t1 x2 t2
  have HI := Lib.hid hi
  clear hi hz1 hz2
  go_enter Try.func4, Try.ntmps4
  go_wp2_with fail
  refine (szOp _ _ _ _ _ _ _ (K0.out.r 1 rfl :) (by omega) (by omega)).mono ?_
  rw [HF1.out]
  rintro e w1 ⟨rfl, hb1⟩
  have K1 := Lib.hid (K0.out.below hb1)
  clear hb1
  have cc0 := K1.out.c 0 rfl
  have cc1 := K1.out.c 1 rfl
  have cc2 := K1.out.c 2 rfl
  have cc3 := K1.out.c 3 rfl
  go_wp2_with fail
  refine (szOp _ _ _ _ _ _ _ (K1.out.r 0 rfl :) (by omega) (by omega)).mono ?_
  rw [HF2.out]
  rintro e w2 ⟨rfl, hb2⟩
  have K2 := Lib.hid (K1.out.below hb2)
  clear hb2 cc0 cc1 cc2 cc3
  have cc0 := K2.out.c 0 rfl
  have cc1 := K2.out.c 1 rfl
  have cc2 := K2.out.c 2 rfl
  have cc3 := K2.out.c 3 rfl
  go_wp2_with fail
  -- the model's answer
  go_region_held3 (fun w' => w'.cell? ⟨w.heap.size + 1, 0, none⟩ = some (.int .i64 x2) ∧ w'.cell? ⟨w.heap.size + 1, 1, none⟩ = some (.slice a2 n2 c2) ∧ w'.cell? ⟨w.heap.size, 0, none⟩ = some (.int .i64 x1) ∧ w'.cell? ⟨w.heap.size, 1, none⟩ = some (.slice a1 n1 c1) ∧ Kept w [(⟨w.heap.size + 1, 0, none⟩, .int .i64 x2), (⟨w.heap.size + 1, 1, none⟩, .slice a2 n2 c2), (⟨w.heap.size, 0, none⟩, .int .i64 x1), (⟨w.heap.size, 1, none⟩, .slice a1 n1 c1)] [fun w => RowAt w (.slice a2 n2 c2) t2, fun w => RowAt w (.slice a1 n1 c1) t1] w')
    (first | exact two_below (by assumption) hb3 | exact two_below (by assumption) hb4 | exact two_below (by assumption) hb5 | exact K2.out.drew.two 0 2 rfl rfl rfl rfl)
    (first
      | (go_at_call_of 15 (Value.slice a1 n1 c1); refine (toOp _ _ _ _ _ _ (two_row (by assumption) 1 (by rfl)) HL1.out).mono ?_; rintro e w3 ⟨a3, n3, c3, rfl, ho3, hb3⟩; have G3 := Lib.hid (OwnRowE.at ho3); clear ho3)
      | (go_at_call_of 15 (Value.slice a2 n2 c2); refine (toOp _ _ _ _ _ _ (two_row (by assumption) 0 (by rfl)) HL2.out).mono ?_; rintro e w4 ⟨a4, n4, c4, rfl, ho4, hb4⟩; have G4 := Lib.hid (OwnRowE.at ho4); clear ho4)
      | (go_at_call 18; (first | refine (specSameOp _ _ _ _ _ _ _ _ _ _ b _ (G3.out.below hb4) G4.out HI.out).mono ?_ | refine (specSameOp _ _ _ _ _ _ _ _ _ _ b _ G3.out (G4.out.below hb3) HI.out).mono ?_); rintro e w5 ⟨rfl, hb5⟩))
  all_goals
    have K5 : Hid (Kept w _ _ w5) := Lib.hid (by first | exact ((K2.out.drew.below hb3).below hb4).below hb5 | exact ((K2.out.drew.below hb4).below hb3).below hb5)
    clear cc0 cc1 cc2 cc3
    clear hb3 hb4 G3 G4
    clear hb5
    have cd0 := K5.out.c 2 rfl
    have cd1 := K5.out.c 3 rfl
    go_wp2_with fail
    refine (toOp _ _ _ _ _ _ (K5.out.r 1 rfl :) HL1.out).mono ?_
    rintro e w6 ⟨a6, n6, c6, rfl, ho6, hb6⟩
    have K6 := Lib.hid ((K5.out.below hb6).read (lives_rowE _ _ _ _) (ho6.mono (B' := w5.heap.size) (by simp)))
    clear cd0 cd1
    have K6b := Lib.hid (K6.out.box w6.heap.size rfl (.int .i64 x1) (.slice a6 n6 c6) 27)
    clear hb6 ho6
    have cd2 := K6b.out.c 2 rfl
    have cd3 := K6b.out.c 3 rfl
    go_wp2_with fail
    refine (toOp _ _ _ _ _ _ (K6b.out.r 1 rfl :) HL2.out).mono ?_
    rintro e w7 ⟨a7, n7, c7, rfl, ho7, hb7⟩
    have K7 := Lib.hid ((K6b.out.below hb7).read (lives_rowE _ _ _ _) (ho7.mono (B' := w6.heap.size + 1) (by simp)))
    clear cd2 cd3
    have K7b := Lib.hid (K7.out.box w7.heap.size rfl (.int .i64 x2) (.slice a7 n7 c7) 27)
    clear hb7 ho7
    -- the program's answer
    have cd4 := K7b.out.c 2 rfl
    have cd5 := K7b.out.c 3 rfl
    have cd6 := K7b.out.c 0 rfl
    have cd7 := K7b.out.c 1 rfl
    go_wp2_with fail
    refine (implSameOp _ _ _ _ _ _ _ _ _ _ b _ (OwnRowE.at (K7b.out.r 1 rfl :)) (OwnRowE.at (K7b.out.r 0 rfl :)) HI.out).mono ?_
    rintro e w8 ⟨rfl, hb8⟩
    have K8 := Lib.hid (K7b.out.below hb8)
    clear cd4 cd5 cd6 cd7
    clear hb8
    -- the copies are as they were
    go_wp2_with fail
    go_region_held3 (fun w' => w'.cell? ⟨w6.heap.size, 0, none⟩ = some (.int .i64 x1) ∧ w'.cell? ⟨w6.heap.size, 1, none⟩ = some (.slice a6 n6 c6) ∧ w'.cell? ⟨w.heap.size, 0, none⟩ = some (.int .i64 x1) ∧ w'.cell? ⟨w.heap.size, 1, none⟩ = some (.slice a1 n1 c1) ∧ Kept w [(⟨w7.heap.size, 0, none⟩, .int .i64 x2), (⟨w7.heap.size, 1, none⟩, .slice a7 n7 c7), (⟨w6.heap.size, 0, none⟩, .int .i64 x1), (⟨w6.heap.size, 1, none⟩, .slice a6 n6 c6), (⟨w.heap.size + 1, 0, none⟩, .int .i64 x2), (⟨w.heap.size + 1, 1, none⟩, .slice a2 n2 c2), (⟨w.heap.size, 0, none⟩, .int .i64 x1), (⟨w.heap.size, 1, none⟩, .slice a1 n1 c1)] [fun w => OwnRowE w (w6.heap.size + 1) w7.heap.size (.slice a7 n7 c7) t2, fun w => OwnRowE w (w5.heap.size) w6.heap.size (.slice a6 n6 c6) t1, fun w => RowAt w (.slice a2 n2 c2) t2, fun w => RowAt w (.slice a1 n1 c1) t1] w')
      (first | exact two_below (by assumption) hb9 | exact two_below (by assumption) hb10 | exact K8.out.drew.two 2 6 rfl rfl rfl rfl)
      (first
        | (go_at_call 15; refine (toOp _ _ _ _ _ _ (two_row (by assumption) 3 (by rfl)) HL1.out).mono ?_; rintro e w9 ⟨a9, n9, c9, rfl, ho9, hb9⟩; have G9 := Lib.hid (OwnRowE.at ho9); clear ho9)
        | (go_at_call 17; refine (eqOp' _ _ _ _ _ _ _ _ _ _ true _ (OwnRowE.at (two_rowE (by assumption) 1 (by rfl))) G9.out (eqO_same _ _)).mono ?_; rintro e w10 ⟨rfl, hb10⟩))
    have K10 := Lib.hid ((K8.out.drew.below hb9).below hb10)
    clear hb9 hb10 G9
    go_wp2_with fail
    go_region_held3 (fun w' => w'.cell? ⟨w7.heap.size, 0, none⟩ = some (.int .i64 x2) ∧ w'.cell? ⟨w7.heap.size, 1, none⟩ = some (.slice a7 n7 c7) ∧ w'.cell? ⟨w.heap.size + 1, 0, none⟩ = some (.int .i64 x2) ∧ w'.cell? ⟨w.heap.size + 1, 1, none⟩ = some (.slice a2 n2 c2) ∧ Kept w [(⟨w7.heap.size, 0, none⟩, .int .i64 x2), (⟨w7.heap.size, 1, none⟩, .slice a7 n7 c7), (⟨w6.heap.size, 0, none⟩, .int .i64 x1), (⟨w6.heap.size, 1, none⟩, .slice a6 n6 c6), (⟨w.heap.size + 1, 0, none⟩, .int .i64 x2), (⟨w.heap.size + 1, 1, none⟩, .slice a2 n2 c2), (⟨w.heap.size, 0, none⟩, .int .i64 x1), (⟨w.heap.size, 1, none⟩, .slice a1 n1 c1)] [fun w => OwnRowE w (w6.heap.size + 1) w7.heap.size (.slice a7 n7 c7) t2, fun w => OwnRowE w (w5.heap.size) w6.heap.size (.slice a6 n6 c6) t1, fun w => RowAt w (.slice a2 n2 c2) t2, fun w => RowAt w (.slice a1 n1 c1) t1] w')
      (first | exact two_below (by assumption) hb11 | exact two_below (by assumption) hb12 | exact K10.out.drew.two 0 4 rfl rfl rfl rfl)
      (first
        | (go_at_call 15; refine (toOp _ _ _ _ _ _ (two_row (by assumption) 2 (by rfl)) HL2.out).mono ?_; rintro e w11 ⟨a11, n11, c11, rfl, ho11, hb11⟩; have G11 := Lib.hid (OwnRowE.at ho11); clear ho11)
        | (go_at_call 17; refine (eqOp' _ _ _ _ _ _ _ _ _ _ true _ (OwnRowE.at (two_rowE (by assumption) 0 (by rfl))) G11.out (eqO_same _ _)).mono ?_; rintro e w12 ⟨rfl, hb12⟩))
    have K12 := Lib.hid ((K10.out.drew.below hb11).below hb12)
    clear hb11 hb12 G11
    go_wp2
    go_ret
    exact ⟨rfl, K12.out.bel⟩

end Go.Proofs.Ytpkmdieaifggoaa
