/-
  FnExactIsMapOf: the walk over the law.
-/
import Derived.Test.YtfjfkmoeaenlbabMaps6
namespace Go.Proofs.Ytfjfkmoeaenlbab
open Go.RowKit

theorem two_rels {w w1 : World} {C : List (Addr × Value)} {R : List (World → Prop)} {a b a' b' : Addr} {x y x' y' : Value}
    (h : w1.cell? a = some x ∧ w1.cell? a' = some x' ∧ w1.cell? b = some y ∧ w1.cell? b' = some y' ∧ Kept w C R w1) (i : Nat) {v : Value} {rs : List (Int × List (List Int))} (hi : R[i]? = some (fun w => RelsAt w v rs)) : RelsAt w1 v rs := h.2.2.2.2.rels i hi

set_option maxHeartbeats 8000000 in
set_option maxRecDepth 100000 in
theorem lawIsMapOf (x : Int) (a1 : Option Addr) (n1 c1 : Nat) (xs : List (Int × List (List Int))) (y : Int) (a2 : Option Addr) (n2 c2 : Nat) (ys : List (Int × List (List Int))) (a3 : Option Addr) (n3 c3 : Nat) (to : List Int) (w : World) (h1 : RelsAt w (.slice a1 n1 c1) xs) (h2 : RelsAt w (.slice a2 n2 c2) ys) (h3 : RowAt w (.slice a3 n3 c3) to) :
    Calls Try.prog 3 #[.agg #[.int .i64 x, .slice a1 n1 c1], .agg #[.int .i64 y, .slice a2 n2 c2], .slice a3 n3 c3] w fun e w' => e = .returned (.bool true) ∧ Below w.heap.size w w' := by
  obtain ⟨a3x, c3x, hv3, hnt, hct⟩ := h3
  simp only [Value.slice.injEq] at hv3
  obtain ⟨rfl, rfl, rfl⟩ := hv3
  have K0 := Lib.hid ((((((Kept.start w).read (lives_row _ _) (show RowAt w (.slice a3 to.length c3) to from ⟨a3, c3, rfl, hnt, hct⟩)).read (lives_rels _ _) h2).read (lives_rels _ _) h1).box w.heap.size rfl (.int .i64 x) (.slice a1 n1 c1) 24).box (w.heap.size + 1) (by simp) (.int .i64 y) (.slice a2 n2 c2) 24)
  clear h1 h2 hct
  by_cases hlt : (1048576 : Int) < to.length
  · go_enter Try.func3, Try.ntmps3
    go_wp2
    go_ret
    exact ⟨rfl, K0.out.bel⟩
  have HL3 : Hid (to.length ≤ 1048576) := Lib.hid (by omega)
  by_cases hl1 : (1048576 : Int) < relsSize xs
  · have HF := Lib.hid (szF_no hl1)
    clear hl1
    go_enter Try.func3, Try.ntmps3
    go_wp2_with fail
    refine (szTemplate _ _ _ _ _ _ _ (K0.out.rels 0 rfl) (by omega) (by omega)).mono ?_
    rw [HF.out]
    rintro e w1 ⟨rfl, hb1⟩
    have KE := Lib.hid (K0.out.below hb1).bel
    clear hb1
    go_wp2
    go_ret
    exact ⟨rfl, KE.out⟩
  have HF1 := Lib.hid (szF_yes (t := relsSize xs) (l := 1048576) (by omega))
  have hp1 : ¬ (1048576 - (relsSize xs : Int) < 0) := by omega
  have hp1' : (1048576 - (relsSize xs : Int)) ≤ 1048576 := by omega
  by_cases hl2 : (1048576 - (relsSize xs : Int)) < relsSize ys
  · have HF := Lib.hid (szF_no hl2)
    clear hl1 hl2
    go_enter Try.func3, Try.ntmps3
    go_wp2_with fail
    refine (szTemplate _ _ _ _ _ _ _ (K0.out.rels 0 rfl) (by omega) (by omega)).mono ?_
    rw [HF1.out]
    rintro e w1 ⟨rfl, hb1⟩
    have K1 := Lib.hid (K0.out.below hb1)
    have cc0 := K1.out.c 0 rfl
    have cc1 := K1.out.c 1 rfl
    clear hb1
    go_wp2_with fail
    refine (szTemplate _ _ _ _ _ _ _ (K1.out.rels 1 rfl) (by omega) (by omega)).mono ?_
    rw [HF.out]
    rintro e w2 ⟨rfl, hb2⟩
    have KE := Lib.hid (K1.out.below hb2).bel
    clear hb2 cc0 cc1
    go_wp2
    go_ret
    exact ⟨rfl, KE.out⟩
  have HF2 := Lib.hid (szF_yes (t := relsSize ys) (l := 1048576 - (relsSize xs : Int)) (by omega))
  have hp2 : ¬ (1048576 - (relsSize xs : Int) - (relsSize ys : Int) < 0) := by omega
  have HL1 : Hid (relsSize xs ≤ 1048576) := Lib.hid (by omega)
  have HL2 : Hid (relsSize ys ≤ 1048576) := Lib.hid (by omega)
  clear hl1 hl2
  obtain ⟨b, cd, hi⟩ := MapIs.exists x xs y ys to
  have HI := Lib.hid hi
  clear hi
  go_enter Try.func3, Try.ntmps3
  go_wp2_with fail
  refine (szTemplate _ _ _ _ _ _ _ (K0.out.rels 0 rfl) (by omega) (by omega)).mono ?_
  rw [HF1.out]
  rintro e w1 ⟨rfl, hb1⟩
  have K1 := Lib.hid (K0.out.below hb1)
  have cc0 := K1.out.c 0 rfl
  have cc1 := K1.out.c 1 rfl
  clear hb1
  go_wp2_with fail
  refine (szTemplate _ _ _ _ _ _ _ (K1.out.rels 1 rfl) (by omega) (by omega)).mono ?_
  rw [HF2.out]
  rintro e w2 ⟨rfl, hb2⟩
  have K2 := Lib.hid (K1.out.below hb2)
  clear hb2 cc0 cc1 HF1 HF2 K0 K1
  go_wp2_with fail
  -- the model's answer
  go_region_held3 (fun w' => w'.cell? ⟨w.heap.size + 1, 0, none⟩ = some (.int .i64 y) ∧ w'.cell? ⟨w.heap.size + 1, 1, none⟩ = some (.slice a2 n2 c2) ∧ w'.cell? ⟨w.heap.size, 0, none⟩ = some (.int .i64 x) ∧ w'.cell? ⟨w.heap.size, 1, none⟩ = some (.slice a1 n1 c1) ∧ Kept w [(⟨w.heap.size + 1, 0, none⟩, .int .i64 y), (⟨w.heap.size + 1, 1, none⟩, .slice a2 n2 c2), (⟨w.heap.size, 0, none⟩, .int .i64 x), (⟨w.heap.size, 1, none⟩, .slice a1 n1 c1)] [fun w => RelsAt w (.slice a1 n1 c1) xs, fun w => RelsAt w (.slice a2 n2 c2) ys, fun w => RowAt w (.slice a3 to.length c3) to] w')
    (first | exact two_below (by assumption) hb5 | exact two_below (by assumption) hb6 | exact two_below (by assumption) hb7 | exact two_below (by assumption) hb8 | exact K2.out.drew.two 0 2 rfl rfl rfl rfl)
    (first
      | (go_at_call_of 7 (Value.slice a1 n1 c1); refine (toTemplate _ _ _ _ _ _ (two_rels (by assumption) 0 (by rfl)) HL1.out).mono ?_; rintro e w5 ⟨a5, n5, c5, rfl, ho5, hb5⟩; have G5 := Lib.hid ho5.at; clear ho5)
      | (go_at_call_of 7 (Value.slice a2 n2 c2); refine (toTemplate _ _ _ _ _ _ (two_rels (by assumption) 1 (by rfl)) HL2.out).mono ?_; rintro e w6 ⟨a6, n6, c6, rfl, ho6, hb6⟩; have G6 := Lib.hid ho6.at; clear ho6)
      | (go_at_call 8; refine (toRow _ _ _ (two_row (by assumption) 2 (by rfl)) HL3.out).mono ?_; rintro e w7 ⟨a7, n7, c7, rfl, ho7, hb7⟩; have G7 := Lib.hid ho7.rowAt; clear ho7)
      | (go_at_call 6; (first | refine (specIsMapOf _ _ _ _ _ _ _ _ _ _ _ _ b cd _ ((G5.out.below hb6).below hb7) (G6.out.below hb7) G7.out HI.out).mono ?_ | refine (specIsMapOf _ _ _ _ _ _ _ _ _ _ _ _ b cd _ ((G5.out.below hb7).below hb6) G6.out (G7.out.below hb6) HI.out).mono ?_ | refine (specIsMapOf _ _ _ _ _ _ _ _ _ _ _ _ b cd _ (G5.out.below hb7) ((G6.out.below hb5).below hb7) G7.out HI.out).mono ?_ | refine (specIsMapOf _ _ _ _ _ _ _ _ _ _ _ _ b cd _ G5.out ((G6.out.below hb7).below hb5) (G7.out.below hb5) HI.out).mono ?_ | refine (specIsMapOf _ _ _ _ _ _ _ _ _ _ _ _ b cd _ (G5.out.below hb6) G6.out ((G7.out.below hb5).below hb6) HI.out).mono ?_ | refine (specIsMapOf _ _ _ _ _ _ _ _ _ _ _ _ b cd _ G5.out (G6.out.below hb5) ((G7.out.below hb6).below hb5) HI.out).mono ?_); rintro e w8 ⟨rfl, hb8⟩))
  all_goals
    have K8 : Hid (Kept w _ _ w8) := Lib.hid (by first | exact (((K2.out.drew.below hb5).below hb6).below hb7).below hb8 | exact (((K2.out.drew.below hb5).below hb7).below hb6).below hb8 | exact (((K2.out.drew.below hb6).below hb5).below hb7).below hb8 | exact (((K2.out.drew.below hb6).below hb7).below hb5).below hb8 | exact (((K2.out.drew.below hb7).below hb5).below hb6).below hb8 | exact (((K2.out.drew.below hb7).below hb6).below hb5).below hb8)
    have cc2 := K8.out.c 2 rfl
    have cc3 := K8.out.c 3 rfl
    clear hb5 hb6 hb7 hb8 G5 G6 G7 K2
    go_wp2_with fail
    -- the arguments' copies
    refine (toTemplate _ _ _ _ _ _ (K8.out.rels 0 rfl) HL1.out).mono ?_
    rintro e w9 ⟨a9, n9, c9, rfl, ho9, hb9⟩
    have K9 := Lib.hid (((K8.out.below hb9).read (lives_rels _ _) ho9.at).box w9.heap.size rfl (.int .i64 x) (.slice a9 n9 c9) 31)
    have cc0 := K9.out.c 2 rfl
    have cc1 := K9.out.c 3 rfl
    clear hb9 ho9 cc2 cc3
    go_wp2_with fail
    refine (toTemplate _ _ _ _ _ _ (K9.out.rels 2 rfl) HL2.out).mono ?_
    rintro e w10 ⟨a10, n10, c10, rfl, ho10, hb10⟩
    have K10 := Lib.hid (((K9.out.below hb10).read (lives_rels _ _) ho10.at).box w10.heap.size rfl (.int .i64 y) (.slice a10 n10 c10) 31)
    clear hb10 ho10 cc0 cc1
    go_wp2_with fail
    refine (toRow _ _ _ (K10.out.row 4 rfl) HL3.out).mono ?_
    rintro e w11 ⟨a11, n11, c11, rfl, ho11, hb11⟩
    have K11 := Lib.hid ((K10.out.below hb11).read (lives_row _ _) ho11.rowAt)
    have cc0 := K11.out.c 0 rfl
    have cc1 := K11.out.c 1 rfl
    have cc2 := K11.out.c 2 rfl
    have cc3 := K11.out.c 3 rfl
    clear hb11 ho11
    go_wp2_with fail
    -- the program's answer
    refine (implIsMapOf _ _ _ _ _ _ _ _ _ _ _ _ b cd _ (K11.out.rels 2 rfl) (K11.out.rels 1 rfl) (K11.out.row 0 rfl) HI.out).mono ?_
    rintro e w12 ⟨rfl, hb12⟩
    have K12 := Lib.hid (K11.out.below hb12)
    clear hb12 cc0 cc1 cc2 cc3
    go_wp2_with fail
    -- the first copy is as it was
    go_region_held3 (fun w' => w'.cell? ⟨w9.heap.size, 0, none⟩ = some (.int .i64 x) ∧ w'.cell? ⟨w9.heap.size, 1, none⟩ = some (.slice a9 n9 c9) ∧ w'.cell? ⟨w.heap.size, 0, none⟩ = some (.int .i64 x) ∧ w'.cell? ⟨w.heap.size, 1, none⟩ = some (.slice a1 n1 c1) ∧ Kept w [(⟨w10.heap.size, 0, none⟩, .int .i64 y), (⟨w10.heap.size, 1, none⟩, .slice a10 n10 c10), (⟨w9.heap.size, 0, none⟩, .int .i64 x), (⟨w9.heap.size, 1, none⟩, .slice a9 n9 c9), (⟨w.heap.size + 1, 0, none⟩, .int .i64 y), (⟨w.heap.size + 1, 1, none⟩, .slice a2 n2 c2), (⟨w.heap.size, 0, none⟩, .int .i64 x), (⟨w.heap.size, 1, none⟩, .slice a1 n1 c1)] [fun w => RowAt w (.slice a11 n11 c11) to, fun w => RelsAt w (.slice a10 n10 c10) ys, fun w => RelsAt w (.slice a9 n9 c9) xs, fun w => RelsAt w (.slice a1 n1 c1) xs, fun w => RelsAt w (.slice a2 n2 c2) ys, fun w => RowAt w (.slice a3 to.length c3) to] w')
      (first | exact two_below (by assumption) hb13 | exact two_below (by assumption) hb14 | exact K12.out.drew.two 2 6 rfl rfl rfl rfl)
      (first
        | (go_at_call 7; refine (toTemplate _ _ _ _ _ _ (two_rels (by assumption) 3 (by rfl)) HL1.out).mono ?_; rintro e w13 ⟨a13, n13, c13, rfl, ho13, hb13⟩; have G13 := Lib.hid ho13.at; clear ho13)
        | (go_at_call 10; refine (eqTemplate' _ _ _ _ _ _ _ _ _ _ true _ (two_rels (by assumption) 2 (by rfl)) G13.out (eqT_same _ _)).mono ?_; rintro e w14 ⟨rfl, hb14⟩))
    have K14 := Lib.hid ((K12.out.drew.below hb13).below hb14)
    clear hb13 hb14 G13
    go_wp2_with fail
    -- the second copy is as it was
    go_region_held3 (fun w' => w'.cell? ⟨w10.heap.size, 0, none⟩ = some (.int .i64 y) ∧ w'.cell? ⟨w10.heap.size, 1, none⟩ = some (.slice a10 n10 c10) ∧ w'.cell? ⟨w.heap.size + 1, 0, none⟩ = some (.int .i64 y) ∧ w'.cell? ⟨w.heap.size + 1, 1, none⟩ = some (.slice a2 n2 c2) ∧ Kept w [(⟨w10.heap.size, 0, none⟩, .int .i64 y), (⟨w10.heap.size, 1, none⟩, .slice a10 n10 c10), (⟨w9.heap.size, 0, none⟩, .int .i64 x), (⟨w9.heap.size, 1, none⟩, .slice a9 n9 c9), (⟨w.heap.size + 1, 0, none⟩, .int .i64 y), (⟨w.heap.size + 1, 1, none⟩, .slice a2 n2 c2), (⟨w.heap.size, 0, none⟩, .int .i64 x), (⟨w.heap.size, 1, none⟩, .slice a1 n1 c1)] [fun w => RowAt w (.slice a11 n11 c11) to, fun w => RelsAt w (.slice a10 n10 c10) ys, fun w => RelsAt w (.slice a9 n9 c9) xs, fun w => RelsAt w (.slice a1 n1 c1) xs, fun w => RelsAt w (.slice a2 n2 c2) ys, fun w => RowAt w (.slice a3 to.length c3) to] w')
      (first | exact two_below (by assumption) hb15 | exact two_below (by assumption) hb16 | exact K14.out.drew.two 0 4 rfl rfl rfl rfl)
      (first
        | (go_at_call 7; refine (toTemplate _ _ _ _ _ _ (two_rels (by assumption) 4 (by rfl)) HL2.out).mono ?_; rintro e w15 ⟨a15, n15, c15, rfl, ho15, hb15⟩; have G15 := Lib.hid ho15.at; clear ho15)
        | (go_at_call 10; refine (eqTemplate' _ _ _ _ _ _ _ _ _ _ true _ (two_rels (by assumption) 1 (by rfl)) G15.out (eqT_same _ _)).mono ?_; rintro e w16 ⟨rfl, hb16⟩))
    have K16 := Lib.hid ((K14.out.drew.below hb15).below hb16)
    clear hb15 hb16 G15
    go_wp2_with fail
    -- the third copy is as it was
    refine (toRow _ _ _ (K16.out.row 5 rfl) HL3.out).mono ?_
    rintro e w17 ⟨a17, n17, c17, rfl, ho17, hb17⟩
    have K17 := Lib.hid ((K16.out.below hb17).read (lives_row _ _) ho17.rowAt)
    clear hb17 ho17
    go_wp2_with fail
    refine (eqRow' _ _ _ _ true _ (K17.out.row 1 rfl) (K17.out.row 0 rfl) (eqB_yes rfl)).mono ?_
    rintro e w18 ⟨rfl, hq18⟩
    have K18 := Lib.hid (K17.out.below hq18.bel)
    clear hq18
    go_wp2
    go_ret
    exact ⟨rfl, K18.out.bel⟩

end Go.Proofs.Ytfjfkmoeaenlbab
