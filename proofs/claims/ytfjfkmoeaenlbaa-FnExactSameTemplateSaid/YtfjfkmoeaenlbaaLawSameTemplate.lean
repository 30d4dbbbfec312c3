/-
  FnExactSameTemplate: the walk over the law.
-/
import Derived.Test.YtfjfkmoeaenlbaaSameT
import Derived.Test.YtfjfkmoeaenlbaaLawValidTemplate
import Derived.Deep.RegionHeld3
namespace Go.Proofs.Ytfjfkmoeaenlbaa
open Go.RowKit
set_option maxHeartbeats 4000000 in
set_option maxRecDepth 100000 in
theorem lawSameTemplate (x : Int) (a1 : Option Addr) (n1 c1 : Nat) (xs : List (Int × List (List Int))) (y : Int) (a2 : Option Addr) (n2 c2 : Nat) (ys : List (Int × List (List Int))) (w : World) (h1 : RelsAt w (.slice a1 n1 c1) xs) (h2 : RelsAt w (.slice a2 n2 c2) ys) :
    Calls Try.prog 6 #[.agg #[.int .i64 x, .slice a1 n1 c1], .agg #[.int .i64 y, .slice a2 n2 c2]] w fun e w' => e = .returned (.bool true) ∧ Below w.heap.size w w' := by
  have K0 := Lib.hid (((((Kept.start w).read (lives_rels _ _) h2).read (lives_rels _ _) h1).box w.heap.size rfl (.int .i64 x) (.slice a1 n1 c1) 34).box (w.heap.size + 1) (by simp) (.int .i64 y) (.slice a2 n2 c2) 34)
  clear h1 h2
  by_cases hl1 : (1048576 : Int) < relsSize xs
  · have HF := Lib.hid (szF_no hl1)
    clear hl1
    go_enter Try.func6, Try.ntmps6
    go_wp2_with fail
    refine (szTemplate _ _ _ _ _ _ _ (K0.out.rels 0 rfl) (by omega) (by omega)).mono ?_
    rw [HF.out]
    rintro e w1 ⟨rfl, hb1⟩
    have KE := Lib.hid (K0.out.below hb1).bel
    clear hb1
    go_wp2
    go_ret
    exact ⟨rfl, KE.out⟩
  have HF1 := Lib.hid (szF_yes (t := relsSize xs) (l := 1048576) (by omega))
  have hp1 : ¬ (1048576 - (relsSize xs : Int) < 0) := by omega
  have hp1' : (1048576 - (relsSize xs : Int)) ≤ 1048576 := by omega
  by_cases hl2 : (1048576 - (relsSize xs : Int)) < relsSize ys
  · have HF := Lib.hid (szF_no hl2)
    clear hl1 hl2
    go_enter Try.func6, Try.ntmps6
    go_wp2_with fail
    refine (szTemplate _ _ _ _ _ _ _ (K0.out.rels 0 rfl) (by omega) (by omega)).mono ?_
    rw [HF1.out]
    rintro e w1 ⟨rfl, hb1⟩
    have K1 := Lib.hid (K0.out.below hb1)
    have cc0 := K1.out.c 0 rfl
    have cc1 := K1.out.c 1 rfl
    clear hb1
    go_wp2_with fail
    refine (szTemplate _ _ _ _ _ _ _ (K1.out.rels 1 rfl) (by omega) (by omega)).mono ?_
    rw [HF.out]
    rintro e w2 ⟨rfl, hb2⟩
    have KE := Lib.hid (K1.out.below hb2).bel
    clear hb2 cc0 cc1
    go_wp2
    go_ret
    exact ⟨rfl, KE.out⟩
  have HF2 := Lib.hid (szF_yes (t := relsSize ys) (l := 1048576 - (relsSize xs : Int)) (by omega))
  have hp2 : ¬ (1048576 - (relsSize xs : Int) - (relsSize ys : Int) < 0) := by omega
  have HL1 : Hid (relsSize xs ≤ 1048576) := by
    show _ ≤ _
    omega
  have HL2 : Hid (relsSize ys ≤ 1048576) := by
    show _ ≤ _
    omega
  clear hl1 hl2
  go_enter Try.func6, Try.ntmps6
  go_wp2_with fail
  refine (szTemplate _ _ _ _ _ _ _ (K0.out.rels 0 rfl) (by omega) (by omega)).mono ?_
  rw [HF1.out]
  rintro e w1 ⟨rfl, hb1⟩
  have K1 := Lib.hid (K0.out.below hb1)
  have cc0 := K1.out.c 0 rfl
  have cc1 := K1.out.c 1 rfl
  clear hb1
  go_wp2_with fail
  refine (szTemplate _ _ _ _ _ _ _ (K1.out.rels 1 rfl) (by omega) (by omega)).mono ?_
  rw [HF2.out]
  rintro e w2 ⟨rfl, hb2⟩
  have K2 := Lib.hid (K1.out.below hb2)
  clear hb2 cc0 cc1 HF1 HF2 K0 K1
  go_wp2_with fail
  -- the model's answer
  go_region_held3 (fun w' => w'.cell? ⟨w.heap.size + 1, 0, none⟩ = some (.int .i64 y) ∧ w'.cell? ⟨w.heap.size + 1, 1, none⟩ = some (.slice a2 n2 c2) ∧ w'.cell? ⟨w.heap.size, 0, none⟩ = some (.int .i64 x) ∧ w'.cell? ⟨w.heap.size, 1, none⟩ = some (.slice a1 n1 c1) ∧ Kept w [(⟨w.heap.size + 1, 0, none⟩, .int .i64 y), (⟨w.heap.size + 1, 1, none⟩, .slice a2 n2 c2), (⟨w.heap.size, 0, none⟩, .int .i64 x), (⟨w.heap.size, 1, none⟩, .slice a1 n1 c1)] [fun w => RelsAt w (.slice a1 n1 c1) xs, fun w => RelsAt w (.slice a2 n2 c2) ys] w')
    (first | exact two_below (by assumption) hb5 | exact two_below (by assumption) hb6 | exact two_below (by assumption) hb7 | exact K2.out.drew.two 0 2 rfl rfl rfl rfl)
    (first
      | (go_at_call_of 19 (Value.slice a1 n1 c1); refine (toTemplate _ _ _ _ _ _ (two_rels (by assumption) 0 (by rfl)) HL1.out).mono ?_; rintro e w5 ⟨a5, n5, c5, rfl, ho5, hb5⟩; have G5 := Lib.hid ho5.at; clear ho5)
      | (go_at_call_of 19 (Value.slice a2 n2 c2); refine (toTemplate _ _ _ _ _ _ (two_rels (by assumption) 1 (by rfl)) HL2.out).mono ?_; rintro e w6 ⟨a6, n6, c6, rfl, ho6, hb6⟩; have G6 := Lib.hid ho6.at; clear ho6)
      | (go_at_call 22; (first | refine (specSameTemplate _ _ _ _ _ _ _ _ _ _ _ (G5.out.below hb6) G6.out).mono ?_ | refine (specSameTemplate _ _ _ _ _ _ _ _ _ _ _ G5.out (G6.out.below hb5)).mono ?_); rintro e w7 ⟨rfl, hb7⟩))
  all_goals
    have K7 : Hid (Kept w _ _ w7) := Lib.hid (by first | exact ((K2.out.drew.below hb5).below hb6).below hb7 | exact ((K2.out.drew.below hb6).below hb5).below hb7)
    have cc2 := K7.out.c 2 rfl
    have cc3 := K7.out.c 3 rfl
    clear hb5 hb6 hb7 G5 G6
    go_wp2_with fail
    -- the arguments' copies
    refine (toTemplate _ _ _ _ _ _ (K7.out.rels 0 rfl) HL1.out).mono ?_
    rintro e w8 ⟨a8, n8, c8, rfl, ho8, hb8⟩
    have K8 := Lib.hid (((K7.out.below hb8).read (lives_rels _ _) ho8.at).box w8.heap.size rfl (.int .i64 x) (.slice a8 n8 c8) 39)
    have cc0 := K8.out.c 2 rfl
    have cc1 := K8.out.c 3 rfl
    clear hb8 ho8 cc2 cc3
    go_wp2_with fail
    refine (toTemplate _ _ _ _ _ _ (K8.out.rels 2 rfl) HL2.out).mono ?_
    rintro e w9 ⟨a9, n9, c9, rfl, ho9, hb9⟩
    have K9 := Lib.hid (((K8.out.below hb9).read (lives_rels _ _) ho9.at).box w9.heap.size rfl (.int .i64 y) (.slice a9 n9 c9) 39)
    have cc2 := K9.out.c 2 rfl
    have cc3 := K9.out.c 3 rfl
    clear hb9 ho9 cc0 cc1
    go_wp2_with fail
    -- the program's answer
    refine (implSameTemplate _ _ _ _ _ _ _ _ _ _ _ (K9.out.rels 1 rfl) (K9.out.rels 0 rfl)).mono ?_
    rintro e w10 ⟨rfl, hb10⟩
    have K10 := Lib.hid (K9.out.below hb10)
    clear hb10 cc2 cc3
    go_wp2_with fail
    -- the first copy is as it was
    go_region_held3 (fun w' => w'.cell? ⟨w8.heap.size, 0, none⟩ = some (.int .i64 x) ∧ w'.cell? ⟨w8.heap.size, 1, none⟩ = some (.slice a8 n8 c8) ∧ w'.cell? ⟨w.heap.size, 0, none⟩ = some (.int .i64 x) ∧ w'.cell? ⟨w.heap.size, 1, none⟩ = some (.slice a1 n1 c1) ∧ Kept w [(⟨w9.heap.size, 0, none⟩, .int .i64 y), (⟨w9.heap.size, 1, none⟩, .slice a9 n9 c9), (⟨w8.heap.size, 0, none⟩, .int .i64 x), (⟨w8.heap.size, 1, none⟩, .slice a8 n8 c8), (⟨w.heap.size + 1, 0, none⟩, .int .i64 y), (⟨w.heap.size + 1, 1, none⟩, .slice a2 n2 c2), (⟨w.heap.size, 0, none⟩, .int .i64 x), (⟨w.heap.size, 1, none⟩, .slice a1 n1 c1)] [fun w => RelsAt w (.slice a9 n9 c9) ys, fun w => RelsAt w (.slice a8 n8 c8) xs, fun w => RelsAt w (.slice a1 n1 c1) xs, fun w => RelsAt w (.slice a2 n2 c2) ys] w')
      (first | exact two_below (by assumption) hb11 | exact two_below (by assumption) hb12 | exact K10.out.drew.two 2 6 rfl rfl rfl rfl)
      (first
        | (go_at_call 19; refine (toTemplate _ _ _ _ _ _ (two_rels (by assumption) 2 (by rfl)) HL1.out).mono ?_; rintro e w11 ⟨a11, n11, c11, rfl, ho11, hb11⟩; have G11 := Lib.hid ho11.at; clear ho11)
        | (go_at_call 21; refine (eqTemplate' _ _ _ _ _ _ _ _ _ _ true _ (two_rels (by assumption) 1 (by rfl)) G11.out (eqT_same _ _)).mono ?_; rintro e w12 ⟨rfl, hb12⟩))
    have K12 := Lib.hid ((K10.out.drew.below hb11).below hb12)
    clear hb11 hb12 G11
    go_wp2_with fail
    -- the second copy is as it was
    go_region_held3 (fun w' => w'.cell? ⟨w9.heap.size, 0, none⟩ = some (.int .i64 y) ∧ w'.cell? ⟨w9.heap.size, 1, none⟩ = some (.slice a9 n9 c9) ∧ w'.cell? ⟨w.heap.size + 1, 0, none⟩ = some (.int .i64 y) ∧ w'.cell? ⟨w.heap.size + 1, 1, none⟩ = some (.slice a2 n2 c2) ∧ Kept w [(⟨w9.heap.size, 0, none⟩, .int .i64 y), (⟨w9.heap.size, 1, none⟩, .slice a9 n9 c9), (⟨w8.heap.size, 0, none⟩, .int .i64 x), (⟨w8.heap.size, 1, none⟩, .slice a8 n8 c8), (⟨w.heap.size + 1, 0, none⟩, .int .i64 y), (⟨w.heap.size + 1, 1, none⟩, .slice a2 n2 c2), (⟨w.heap.size, 0, none⟩, .int .i64 x), (⟨w.heap.size, 1, none⟩, .slice a1 n1 c1)] [fun w => RelsAt w (.slice a9 n9 c9) ys, fun w => RelsAt w (.slice a8 n8 c8) xs, fun w => RelsAt w (.slice a1 n1 c1) xs, fun w => RelsAt w (.slice a2 n2 c2) ys] w')
      (first | exact two_below (by assumption) hb13 | exact two_below (by assumption) hb14 | exact K12.out.drew.two 0 4 rfl rfl rfl rfl)
      (first
        | (go_at_call 19; refine (toTemplate _ _ _ _ _ _ (two_rels (by assumption) 3 (by rfl)) HL2.out).mono ?_; rintro e w13 ⟨a13, n13, c13, rfl, ho13, hb13⟩; have G13 := Lib.hid ho13.at; clear ho13)
        | (go_at_call 21; refine (eqTemplate' _ _ _ _ _ _ _ _ _ _ true _ (two_rels (by assumption) 0 (by rfl)) G13.out (eqT_same _ _)).mono ?_; rintro e w14 ⟨rfl, hb14⟩))
    have K14 := Lib.hid ((K12.out.drew.below hb13).below hb14)
    clear hb13 hb14 G13
    go_wp2
    go_ret
    exact ⟨rfl, K14.out.bel⟩

end Go.Proofs.Ytfjfkmoeaenlbaa
