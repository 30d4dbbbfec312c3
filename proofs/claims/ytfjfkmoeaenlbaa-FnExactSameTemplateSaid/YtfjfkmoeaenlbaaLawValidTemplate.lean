/-
  FnExactValidTemplate: the walk over the law.
-/
import Derived.Test.YtfjfkmoeaenlbaaValidT
import Derived.Deep.RegionHeld3
namespace Go.Proofs.Ytfjfkmoeaenlbaa
open Go.RowKit

theorem two_rels {w w1 : World} {C : List (Addr × Value)} {R : List (World → Prop)} {a b a' b' : Addr} {x y x' y' : Value}
    (h : w1.cell? a = some x ∧ w1.cell? a' = some x' ∧ w1.cell? b = some y ∧ w1.cell? b' = some y' ∧ Kept w C R w1) (i : Nat) {v : Value} {rs : List (Int × List (List Int))} (hi : R[i]? = some (fun w => RelsAt w v rs)) : RelsAt w1 v rs := h.2.2.2.2.rels i hi

set_option maxHeartbeats 4000000 in
set_option maxRecDepth 100000 in
theorem lawValidTemplate (x : Int) (a1 : Option Addr) (n1 c1 : Nat) (rs : List (Int × List (List Int))) (w : World) (h1 : RelsAt w (.slice a1 n1 c1) rs) :
    Calls Try.prog 5 #[.agg #[.int .i64 x, .slice a1 n1 c1]] w fun e w' => e = .returned (.bool true) ∧ Below w.heap.size w w' := by
  have K0 := Lib.hid (((Kept.start w).read (lives_rels _ _) h1).box w.heap.size rfl (.int .i64 x) (.slice a1 n1 c1) 34)
  clear h1
  by_cases hl1 : (1048576 : Int) < relsSize rs
  · have HF := Lib.hid (szF_no hl1)
    clear hl1
    go_enter Try.func5, Try.ntmps5
    go_wp2_with fail
    refine (szTemplate _ _ _ _ _ _ _ (K0.out.rels 0 rfl) (by omega) (by omega)).mono ?_
    rw [HF.out]
    rintro e w1 ⟨rfl, hb1⟩
    have KE := Lib.hid (K0.out.below hb1).bel
    clear hb1
    go_wp2
    go_ret
    exact ⟨rfl, KE.out⟩
  have HF1 := Lib.hid (szF_yes (t := relsSize rs) (l := 1048576) (by omega))
  have hp1 : ¬ (1048576 - (relsSize rs : Int) < 0) := by omega
  have HL1 : Hid (relsSize rs ≤ 1048576) := by
    show _ ≤ _
    omega
  clear hl1
  obtain ⟨b, hb⟩ : ∃ b, Tells b (TplOk x rs) := by
    by_cases hr : TplOk x rs
    · exact ⟨true, Tells.yes hr⟩
    · exact ⟨false, Tells.no hr⟩
  have HT := Lib.hid hb
  clear hb
  go_enter Try.func5, Try.ntmps5
  go_wp2_with fail
  refine (szTemplate _ _ _ _ _ _ _ (K0.out.rels 0 rfl) (by omega) (by omega)).mono ?_
  rw [HF1.out]
  rintro e w1 ⟨rfl, hb1⟩
  have K1 := Lib.hid (K0.out.below hb1)
  have cc0 := K1.out.c 0 rfl
  have cc1 := K1.out.c 1 rfl
  clear hb1
  go_wp2_with fail
  -- the model's answer
  refine (toTemplate _ _ _ _ _ _ (K1.out.rels 0 rfl) HL1.out).mono ?_
  rintro e w2 ⟨a2, n2, c2, rfl, ho2, hb2⟩
  have K2 := Lib.hid (K1.out.below hb2)
  have G2 := Lib.hid ho2.at
  clear ho2 hb2 cc0 cc1
  go_wp2_with fail
  refine (specValidTemplate _ _ _ _ _ b _ G2.out HT.out).mono ?_
  rintro e w3 ⟨rfl, hb3⟩
  have K3 := Lib.hid (K2.out.below hb3)
  have cc0 := K3.out.c 0 rfl
  have cc1 := K3.out.c 1 rfl
  clear hb3 G2
  go_wp2_with fail
  -- the argument's copy
  refine (toTemplate _ _ _ _ _ _ (K3.out.rels 0 rfl) HL1.out).mono ?_
  rintro e w4 ⟨a4, n4, c4, rfl, ho4, hb4⟩
  have K4 := Lib.hid (((K3.out.below hb4).read (lives_rels _ _) ho4.at).box w4.heap.size rfl (.int .i64 x) (.slice a4 n4 c4) 39)
  clear hb4 ho4 cc0 cc1
  go_wp2_with fail
  -- the program's answer
  refine (implValidTemplate _ _ _ _ _ b _ (K4.out.rels 0 rfl) HT.out).mono ?_
  rintro e w5 ⟨rfl, hb5⟩
  have K5 := Lib.hid (K4.out.below hb5)
  clear hb5
  go_wp2_with fail
  -- the copy is as it was
  go_region_held3 (fun w' => w'.cell? ⟨w4.heap.size, 0, none⟩ = some (.int .i64 x) ∧ w'.cell? ⟨w4.heap.size, 1, none⟩ = some (.slice a4 n4 c4) ∧ w'.cell? ⟨w.heap.size, 0, none⟩ = some (.int .i64 x) ∧ w'.cell? ⟨w.heap.size, 1, none⟩ = some (.slice a1 n1 c1) ∧ Kept w [(⟨w4.heap.size, 0, none⟩, .int .i64 x), (⟨w4.heap.size, 1, none⟩, .slice a4 n4 c4), (⟨w.heap.size, 0, none⟩, .int .i64 x), (⟨w.heap.size, 1, none⟩, .slice a1 n1 c1)] [fun w => RelsAt w (.slice a4 n4 c4) rs, fun w => RelsAt w (.slice a1 n1 c1) rs] w')
    (first | exact two_below (by assumption) hb6 | exact two_below (by assumption) hb7 | exact K5.out.drew.two 0 2 rfl rfl rfl rfl)
    (first
      | (go_at_call 19; refine (toTemplate _ _ _ _ _ _ (two_rels (by assumption) 1 (by rfl)) HL1.out).mono ?_; rintro e w6 ⟨a6, n6, c6, rfl, ho6, hb6⟩; have G6 := Lib.hid ho6.at; clear ho6)
      | (go_at_call 21; refine (eqTemplate' _ _ _ _ _ _ _ _ _ _ true _ (two_rels (by assumption) 0 (by rfl)) G6.out (eqT_same _ _)).mono ?_; rintro e w7 ⟨rfl, hb7⟩))
  all_goals
    have K7 := Lib.hid ((K5.out.drew.below hb6).below hb7)
    clear hb6 hb7 G6
    go_wp2
    go_ret
    exact ⟨rfl, K7.out.bel⟩

end Go.Proofs.Ytfjfkmoeaenlbaa
