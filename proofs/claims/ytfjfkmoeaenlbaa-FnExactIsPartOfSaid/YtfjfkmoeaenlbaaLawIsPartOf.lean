/-
  FnExactIsPartOf: the walk over the law.
-/
import Derived.Test.YtfjfkmoeaenlbaaPart2
import Derived.Test.YtfjfkmoeaenlbaaKept
import Derived.Deep.RegionHeld3
namespace Go.Proofs.Ytfjfkmoeaenlbaa
open Go.RowKit
set_option maxHeartbeats 4000000 in
set_option maxRecDepth 100000 in
theorem lawIsPartOf (size : Int) (x : Int) (a1 : Option Addr) (n1 c1 : Nat) (xs : List (List Int)) (y : Int) (a2 : Option Addr) (n2 c2 : Nat) (ys : List (List Int)) (w : World) (h1 : GridAt w (.slice a1 n1 c1) xs) (h2 : GridAt w (.slice a2 n2 c2) ys) :
    Calls Try.prog 8 #[.int .i64 size, .agg #[.int .i64 x, .slice a1 n1 c1], .agg #[.int .i64 y, .slice a2 n2 c2]] w fun e w' => e = .returned (.bool true) ∧ Below w.heap.size w w' := by
  have K0 := Lib.hid (((((Kept.start w).read (lives_grid _ _) h2).read (lives_grid _ _) h1).box w.heap.size rfl (.int .i64 x) (.slice a1 n1 c1) 24).box (w.heap.size + 1) (by simp) (.int .i64 y) (.slice a2 n2 c2) 24)
  clear h1 h2
  by_cases hl1 : (1048576 : Int) < gridSize xs
  · have HF := Lib.hid (szF_no hl1)
    clear hl1
    go_enter Try.func8, Try.ntmps8
    go_wp2_with fail
    refine (szRel _ _ _ _ _ _ _ (K0.out.grid 0 rfl) (by omega) (by omega)).mono ?_
    rw [HF.out]
    rintro e w1 ⟨rfl, hb1⟩
    have KE := Lib.hid (K0.out.below hb1).bel
    clear hb1
    go_wp2
    go_ret
    exact ⟨rfl, KE.out⟩
  have HF1 := Lib.hid (szF_yes (t := gridSize xs) (l := 1048576) (by omega))
  have hp1 : ¬ (1048576 - (gridSize xs : Int) < 0) := by omega
  have hp1' : (1048576 - (gridSize xs : Int)) ≤ 1048576 := by omega
  by_cases hl2 : (1048576 - (gridSize xs : Int)) < gridSize ys
  · have HF := Lib.hid (szF_no hl2)
    clear hl1 hl2
    go_enter Try.func8, Try.ntmps8
    go_wp2_with fail
    refine (szRel _ _ _ _ _ _ _ (K0.out.grid 0 rfl) (by omega) (by omega)).mono ?_
    rw [HF1.out]
    rintro e w1 ⟨rfl, hb1⟩
    have K1 := Lib.hid (K0.out.below hb1)
    have cc0 := K1.out.c 0 rfl
    have cc1 := K1.out.c 1 rfl
    clear hb1
    go_wp2_with fail
    refine (szRel _ _ _ _ _ _ _ (K1.out.grid 1 rfl) (by omega) (by omega)).mono ?_
    rw [HF.out]
    rintro e w2 ⟨rfl, hb2⟩
    have KE := Lib.hid (K1.out.below hb2).bel
    clear hb2 cc0 cc1
    go_wp2
    go_ret
    exact ⟨rfl, KE.out⟩
  have HF2 := Lib.hid (szF_yes (t := gridSize ys) (l := 1048576 - (gridSize xs : Int)) (by omega))
  have hp2 : ¬ (1048576 - (gridSize xs : Int) - (gridSize ys : Int) < 0) := by omega
  have HL1 : Hid (xs.length + (xs.map List.length).sum ≤ 1048576) := by
    show _ ≤ _
    unfold gridSize at hl1
    omega
  have HL2 : Hid (ys.length + (ys.map List.length).sum ≤ 1048576) := by
    show _ ≤ _
    unfold gridSize at hl2
    omega
  clear hl1 hl2
  obtain ⟨b, cd, hi⟩ := PartIs.exists size x xs y ys
  have HI := Lib.hid hi
  clear hi
  go_enter Try.func8, Try.ntmps8
  go_wp2_with fail
  refine (szRel _ _ _ _ _ _ _ (K0.out.grid 0 rfl) (by omega) (by omega)).mono ?_
  rw [HF1.out]
  rintro e w1 ⟨rfl, hb1⟩
  have K1 := Lib.hid (K0.out.below hb1)
  have cc0 := K1.out.c 0 rfl
  have cc1 := K1.out.c 1 rfl
  clear hb1
  go_wp2_with fail
  refine (szRel _ _ _ _ _ _ _ (K1.out.grid 1 rfl) (by omega) (by omega)).mono ?_
  rw [HF2.out]
  rintro e w2 ⟨rfl, hb2⟩
  have K2 := Lib.hid (K1.out.below hb2)
  clear hb2 cc0 cc1 HF1 HF2 K0 K1
  go_wp2_with fail
  -- the model's answer
  go_region_held3 (fun w' => w'.cell? ⟨w.heap.size + 1, 0, none⟩ = some (.int .i64 y) ∧ w'.cell? ⟨w.heap.size + 1, 1, none⟩ = some (.slice a2 n2 c2) ∧ w'.cell? ⟨w.heap.size, 0, none⟩ = some (.int .i64 x) ∧ w'.cell? ⟨w.heap.size, 1, none⟩ = some (.slice a1 n1 c1) ∧ Kept w [(⟨w.heap.size + 1, 0, none⟩, .int .i64 y), (⟨w.heap.size + 1, 1, none⟩, .slice a2 n2 c2), (⟨w.heap.size, 0, none⟩, .int .i64 x), (⟨w.heap.size, 1, none⟩, .slice a1 n1 c1)] [fun w => GridAt w (.slice a1 n1 c1) xs, fun w => GridAt w (.slice a2 n2 c2) ys] w')
    (first | exact two_below (by assumption) hb5 | exact two_below (by assumption) hb6 | exact two_below (by assumption) hb7 | exact K2.out.drew.two 0 2 rfl rfl rfl rfl)
    (first
      | (go_at_call_of 12 (Value.slice a1 n1 c1); refine (toRel _ _ _ _ _ _ (two_grid (by assumption) 0 (by rfl)) HL1.out).mono ?_; rintro e w5 ⟨a5, n5, c5, rfl, ho5, hb5⟩; have G5 := Lib.hid ho5.gridAt; clear ho5)
      | (go_at_call_of 12 (Value.slice a2 n2 c2); refine (toRel _ _ _ _ _ _ (two_grid (by assumption) 1 (by rfl)) HL2.out).mono ?_; rintro e w6 ⟨a6, n6, c6, rfl, ho6, hb6⟩; have G6 := Lib.hid ho6.gridAt; clear ho6)
      | (go_at_call 28; (first | refine (specIsPartOf _ _ _ _ _ _ _ _ _ _ _ b cd _ (G5.out.below hb6) G6.out HI.out).mono ?_ | refine (specIsPartOf _ _ _ _ _ _ _ _ _ _ _ b cd _ G5.out (G6.out.below hb5) HI.out).mono ?_); rintro e w7 ⟨rfl, hb7⟩))
  all_goals
    have K7 : Hid (Kept w _ _ w7) := Lib.hid (by first | exact ((K2.out.drew.below hb5).below hb6).below hb7 | exact ((K2.out.drew.below hb6).below hb5).below hb7)
    have cc2 := K7.out.c 2 rfl
    have cc3 := K7.out.c 3 rfl
    clear hb5 hb6 hb7 G5 G6
    go_wp2_with fail
    -- the arguments' copies
    refine (toRel _ _ _ _ _ _ (K7.out.grid 0 rfl) HL1.out).mono ?_
    rintro e w8 ⟨a8, n8, c8, rfl, ho8, hb8⟩
    have K8 := Lib.hid (((K7.out.below hb8).read (lives_grid _ _) ho8.gridAt).box w8.heap.size rfl (.int .i64 x) (.slice a8 n8 c8) 27)
    have cc0 := K8.out.c 2 rfl
    have cc1 := K8.out.c 3 rfl
    clear hb8 ho8 cc2 cc3
    go_wp2_with fail
    refine (toRel _ _ _ _ _ _ (K8.out.grid 2 rfl) HL2.out).mono ?_
    rintro e w9 ⟨a9, n9, c9, rfl, ho9, hb9⟩
    have K9 := Lib.hid (((K8.out.below hb9).read (lives_grid _ _) ho9.gridAt).box w9.heap.size rfl (.int .i64 y) (.slice a9 n9 c9) 27)
    have cc2 := K9.out.c 2 rfl
    have cc3 := K9.out.c 3 rfl
    clear hb9 ho9 cc0 cc1
    go_wp2_with fail
    -- the program's answer
    refine (implIsPartOf _ _ _ _ _ _ _ _ _ _ _ b cd _ (K9.out.grid 1 rfl) (K9.out.grid 0 rfl) HI.out).mono ?_
    rintro e w10 ⟨rfl, hb10⟩
    have K10 := Lib.hid (K9.out.below hb10)
    clear hb10 cc2 cc3
    go_wp2_with fail
    -- the first copy is as it was
    go_region_held3 (fun w' => w'.cell? ⟨w8.heap.size, 0, none⟩ = some (.int .i64 x) ∧ w'.cell? ⟨w8.heap.size, 1, none⟩ = some (.slice a8 n8 c8) ∧ w'.cell? ⟨w.heap.size, 0, none⟩ = some (.int .i64 x) ∧ w'.cell? ⟨w.heap.size, 1, none⟩ = some (.slice a1 n1 c1) ∧ Kept w [(⟨w9.heap.size, 0, none⟩, .int .i64 y), (⟨w9.heap.size, 1, none⟩, .slice a9 n9 c9), (⟨w8.heap.size, 0, none⟩, .int .i64 x), (⟨w8.heap.size, 1, none⟩, .slice a8 n8 c8), (⟨w.heap.size + 1, 0, none⟩, .int .i64 y), (⟨w.heap.size + 1, 1, none⟩, .slice a2 n2 c2), (⟨w.heap.size, 0, none⟩, .int .i64 x), (⟨w.heap.size, 1, none⟩, .slice a1 n1 c1)] [fun w => GridAt w (.slice a9 n9 c9) ys, fun w => GridAt w (.slice a8 n8 c8) xs, fun w => GridAt w (.slice a1 n1 c1) xs, fun w => GridAt w (.slice a2 n2 c2) ys] w')
      (first | exact two_below (by assumption) hb11 | exact two_below (by assumption) hb12 | exact K10.out.drew.two 2 6 rfl rfl rfl rfl)
      (first
        | (go_at_call 12; refine (toRel _ _ _ _ _ _ (two_grid (by assumption) 2 (by rfl)) HL1.out).mono ?_; rintro e w11 ⟨a11, n11, c11, rfl, ho11, hb11⟩; have G11 := Lib.hid ho11.gridAt; clear ho11)
        | (go_at_call 14; refine (eqRel' _ _ _ _ _ _ _ _ _ _ true _ (two_grid (by assumption) 1 (by rfl)) G11.out (eqR_same _ _)).mono ?_; rintro e w12 ⟨rfl, hb12⟩))
    have K12 := Lib.hid ((K10.out.drew.below hb11).below hb12)
    clear hb11 hb12 G11
    go_wp2_with fail
    -- the second copy is as it was
    go_region_held3 (fun w' => w'.cell? ⟨w9.heap.size, 0, none⟩ = some (.int .i64 y) ∧ w'.cell? ⟨w9.heap.size, 1, none⟩ = some (.slice a9 n9 c9) ∧ w'.cell? ⟨w.heap.size + 1, 0, none⟩ = some (.int .i64 y) ∧ w'.cell? ⟨w.heap.size + 1, 1, none⟩ = some (.slice a2 n2 c2) ∧ Kept w [(⟨w9.heap.size, 0, none⟩, .int .i64 y), (⟨w9.heap.size, 1, none⟩, .slice a9 n9 c9), (⟨w8.heap.size, 0, none⟩, .int .i64 x), (⟨w8.heap.size, 1, none⟩, .slice a8 n8 c8), (⟨w.heap.size + 1, 0, none⟩, .int .i64 y), (⟨w.heap.size + 1, 1, none⟩, .slice a2 n2 c2), (⟨w.heap.size, 0, none⟩, .int .i64 x), (⟨w.heap.size, 1, none⟩, .slice a1 n1 c1)] [fun w => GridAt w (.slice a9 n9 c9) ys, fun w => GridAt w (.slice a8 n8 c8) xs, fun w => GridAt w (.slice a1 n1 c1) xs, fun w => GridAt w (.slice a2 n2 c2) ys] w')
      (first | exact two_below (by assumption) hb13 | exact two_below (by assumption) hb14 | exact K12.out.drew.two 0 4 rfl rfl rfl rfl)
      (first
        | (go_at_call 12; refine (toRel _ _ _ _ _ _ (two_grid (by assumption) 3 (by rfl)) HL2.out).mono ?_; rintro e w13 ⟨a13, n13, c13, rfl, ho13, hb13⟩; have G13 := Lib.hid ho13.gridAt; clear ho13)
        | (go_at_call 14; refine (eqRel' _ _ _ _ _ _ _ _ _ _ true _ (two_grid (by assumption) 0 (by rfl)) G13.out (eqR_same _ _)).mono ?_; rintro e w14 ⟨rfl, hb14⟩))
    have K14 := Lib.hid ((K12.out.drew.below hb13).below hb14)
    clear hb13 hb14 G13
    go_wp2
    go_ret
    exact ⟨rfl, K14.out.bel⟩

end Go.Proofs.Ytfjfkmoeaenlbaa
