/-
  FnExactHasTuple: the walk over the law.
-/
import Derived.Test.YtfjfkmoeaenlbaaHas
import Derived.Deep.RegionHeld3
namespace Go.Proofs.Ytfjfkmoeaenlbaa
open Go.RowKit

set_option maxHeartbeats 4000000 in
set_option maxRecDepth 100000 in
theorem lawHasTuple (size : Int) (ar : Int) (a : Option Addr) (n c : Nat) (xss : List (List Int)) (at' : Option Addr) (nt ct : Nat) (t : List Int) (w : World) (h : GridAt w (.slice a n c) xss) (ht : RowAt w (.slice at' nt ct) t) :
    Calls Try.prog 7 #[.int .i64 size, .agg #[.int .i64 ar, .slice a n c], .slice at' nt ct] w fun e w' => e = .returned (.bool true) ∧ Below w.heap.size w w' := by
  obtain rfl : nt = t.length := by obtain ⟨_, _, hv, _⟩ := ht; simp only [Value.slice.injEq] at hv; exact hv.2.1
  have hnt : t.length ≤ 9223372036854775807 := by obtain ⟨_, _, _, hn, _⟩ := ht; exact hn
  have K0 := Lib.hid ((((Kept.start w).read (lives_row _ _) ht).read (lives_grid _ _) h).box w.heap.size rfl (.int .i64 ar) (.slice a n c) 24)
  clear h ht
  by_cases hl0 : (1048576 : Int) < t.length
  · go_enter Try.func7, Try.ntmps7
    go_wp2
    go_ret
    exact ⟨rfl, K0.out.bel⟩
  by_cases hl : (1048576 : Int) < gridSize xss
  · have HF := Lib.hid (szF_no hl)
    clear hl
    go_enter Try.func7, Try.ntmps7
    go_wp2_with fail
    refine (szRel _ _ _ _ _ _ _ (K0.out.grid 0 rfl) (by omega) (by omega)).mono ?_
    rw [HF.out]
    rintro e w1 ⟨rfl, hb1⟩
    have KE := Lib.hid (K0.out.below hb1).bel
    clear hb1
    go_wp2
    go_ret
    exact ⟨rfl, KE.out⟩
  have HF := Lib.hid (szF_yes (t := gridSize xss) (l := 1048576) (by omega))
  have HL : Hid (xss.length + (xss.map List.length).sum ≤ 1048576) := by
    show _ ≤ _
    unfold gridSize at hl
    omega
  have HLT : Hid (t.length ≤ 1048576) := by show _ ≤ _; omega
  have hpos : ¬ (1048576 - (gridSize xss : Int) < 0) := by omega
  obtain ⟨b, cd, hi⟩ := HasIs.exists size ar xss t
  have HI := Lib.hid hi
  clear hl hi
  go_enter Try.func7, Try.ntmps7
  go_wp2_with fail
  refine (szRel _ _ _ _ _ _ _ (K0.out.grid 0 rfl) (by omega) (by omega)).mono ?_
  rw [HF.out]
  rintro e w1 ⟨rfl, hb1⟩
  have K1 := Lib.hid (K0.out.below hb1)
  have cc0 := K1.out.c 0 rfl
  have cc1 := K1.out.c 1 rfl
  clear hb1 K0 HF
  go_wp2_with fail
  -- the model's answer
  refine (toRel _ _ _ _ _ _ (K1.out.grid 0 rfl) HL.out).mono ?_
  rintro e w2 ⟨a2, n2, c2, rfl, ho2, hb2⟩
  have K2 := Lib.hid ((K1.out.below hb2).read (lives_grid _ _) ho2.gridAt)
  clear hb2 ho2 cc0 cc1
  go_wp2_with fail
  refine (toRow _ _ _ (K2.out.row 2 rfl) HLT.out).mono ?_
  rintro e w3 ⟨a3, n3, c3, rfl, ho3, hb3⟩
  have K3 := Lib.hid ((K2.out.below hb3).read (lives_row _ _) ho3.rowAt)
  clear hb3 ho3
  go_wp2_with fail
  refine (specHasTuple _ _ _ _ _ _ _ _ b cd _ (K3.out.grid 1 rfl) (K3.out.row 0 rfl) HI.out).mono ?_
  rintro e w4 ⟨rfl, hb4⟩
  have K4 := Lib.hid (K3.out.below hb4)
  have cc0 := K4.out.c 0 rfl
  have cc1 := K4.out.c 1 rfl
  clear hb4
  go_wp2_with fail
  -- the arguments' copies
  refine (toRel _ _ _ _ _ _ (K4.out.grid 2 rfl) HL.out).mono ?_
  rintro e w5 ⟨a5, n5, c5, rfl, ho5, hb5⟩
  have K5 := Lib.hid (((K4.out.below hb5).read (lives_grid _ _) ho5.gridAt).box w5.heap.size rfl (.int .i64 ar) (.slice a5 n5 c5) 27)
  clear hb5 ho5 cc0 cc1
  go_wp2_with fail
  refine (toRow _ _ _ (K5.out.row 4 rfl) HLT.out).mono ?_
  rintro e w6 ⟨a6, n6, c6, rfl, ho6, hb6⟩
  have K6 := Lib.hid ((K5.out.below hb6).read (lives_row _ _) ho6.rowAt)
  have cc0 := K6.out.c 0 rfl
  have cc1 := K6.out.c 1 rfl
  clear hb6 ho6
  go_wp2_with fail
  -- the program's answer
  refine (implHasTuple _ _ _ _ _ _ _ _ b cd _ (K6.out.grid 1 rfl) (K6.out.row 0 rfl) HI.out).mono ?_
  rintro e w7 ⟨rfl, hb7⟩
  have K7 := Lib.hid (K6.out.below hb7)
  clear hb7 cc0 cc1
  go_wp2_with fail
  go_region_held3 (fun w' => w'.cell? ⟨w5.heap.size, 0, none⟩ = some (.int .i64 ar) ∧ w'.cell? ⟨w5.heap.size, 1, none⟩ = some (.slice a5 n5 c5) ∧ w'.cell? ⟨w.heap.size, 0, none⟩ = some (.int .i64 ar) ∧ w'.cell? ⟨w.heap.size, 1, none⟩ = some (.slice a n c) ∧ Kept w [(⟨w5.heap.size, 0, none⟩, .int .i64 ar), (⟨w5.heap.size, 1, none⟩, .slice a5 n5 c5), (⟨w.heap.size, 0, none⟩, .int .i64 ar), (⟨w.heap.size, 1, none⟩, .slice a n c)] [fun w => RowAt w (.slice a6 n6 c6) t, fun w => GridAt w (.slice a5 n5 c5) xss, fun w => RowAt w (.slice a3 n3 c3) t, fun w => GridAt w (.slice a2 n2 c2) xss, fun w => GridAt w (.slice a n c) xss, fun w => RowAt w (.slice at' t.length ct) t] w')
    (first | exact two_below (by assumption) hb8 | exact two_below (by assumption) hb9 | exact K7.out.drew.two 0 2 rfl rfl rfl rfl)
    (first
      | (go_at_call 12; refine (toRel _ _ _ _ _ _ (two_grid (by assumption) 4 (by rfl)) HL.out).mono ?_; rintro e w8 ⟨a8, n8, c8, rfl, ho8, hb8⟩; have G8 := Lib.hid ho8.gridAt; clear ho8)
      | (go_at_call 14; refine (eqRel' _ _ _ _ _ _ _ _ _ _ true _ (two_grid (by assumption) 1 (by rfl)) G8.out (eqR_same _ _)).mono ?_; rintro e w9 ⟨rfl, hb9⟩))
  have K9 := Lib.hid ((K7.out.drew.below hb8).below hb9)
  clear hb8 hb9 G8
  go_wp2_with fail
  refine (toRow _ _ _ (K9.out.row 5 rfl) HLT.out).mono ?_
  rintro e w10 ⟨a10, n10, c10, rfl, ho10, hb10⟩
  have K10 := Lib.hid ((K9.out.below hb10).read (lives_row _ _) ho10.rowAt)
  clear hb10 ho10
  go_wp2_with fail
  refine (eqRow' _ _ _ _ true _ (K10.out.row 1 rfl) (K10.out.row 0 rfl) (eqB_yes rfl)).mono ?_
  rintro e w11 ⟨rfl, hq11⟩
  have K11 := Lib.hid (K10.out.below hq11.bel)
  clear hq11
  go_wp2
  go_ret
  exact ⟨rfl, K11.out.bel⟩

end Go.Proofs.Ytfjfkmoeaenlbaa
