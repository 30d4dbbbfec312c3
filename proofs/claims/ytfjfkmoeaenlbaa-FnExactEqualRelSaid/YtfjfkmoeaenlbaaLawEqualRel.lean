/-
  FnExactEqualRel: the walk over the law.
-/
import Derived.Test.YtfjfkmoeaenlbaaEqualRel
namespace Go.Proofs.Ytfjfkmoeaenlbaa
open Go.RowKit

set_option maxHeartbeats 4000000 in
set_option maxRecDepth 100000 in
theorem lawEqualRel (size : Int) (w : World) :
    Calls Try.prog 9 #[.int .i64 size] w fun e w' => e = .returned (.bool true) ∧ Below w.heap.size w w' := by
  obtain ⟨ar, xss, cd, hi⟩ := EqualIs.exists size
  have HI := Lib.hid hi
  have HS := Lib.hid hi.small
  clear hi
  go_enter Try.func9, Try.ntmps9
  go_wp2_with fail
  -- the model's answer
  refine (specEqual size ar xss cd _ HI.out).mono ?_
  rintro e w1 ⟨a1, n1, c1, rfl, ho1, hb1⟩
  have K1 := Lib.hid ((((Kept.start w).below hb1).read (lives_grid _ _) ho1.gridAt).box w1.heap.size rfl (.int .i64 ar) (.slice a1 n1 c1) 27)
  clear ho1 hb1
  go_wp2_with fail
  generalize hW : w1.alloc (.cells #[.int .i64 ar, .slice a1 n1 c1] 27) = wA at *
  have HW := Lib.hid hW
  clear hW
  -- the program's answer
  refine (implEqual size ar xss cd _ HI.out).mono ?_
  rintro e w2 ⟨a2, n2, c2, rfl, ho2, hb2⟩
  have K2 := Lib.hid (((K1.out.below hb2).read (lives_own _ _ _ _) ho2).box w2.heap.size rfl (.int .i64 ar) (.slice a2 n2 c2) 27)
  have HB2 := Lib.hid hb2
  have cc0 := K2.out.c 2 rfl
  have cc1 := K2.out.c 3 rfl
  clear ho2 hb2
  go_wp2_with fail
  refine (eqRel' _ _ _ _ _ _ _ _ _ _ true _ (K2.out.own 0 rfl).gridAt (K2.out.grid 1 rfl) (eqR_same _ _)).mono ?_
  rintro e w3 ⟨rfl, hb3⟩
  have K3 := Lib.hid (K2.out.below hb3)
  have HB3 := Lib.hid (((Below.refl w2.heap.size w2).alloc (Nat.le_refl _) (.cells #[.int .i64 ar, .slice a2 n2 c2] 27)).trans (hb3.mono (by simp)))
  clear hb3 cc0 cc1
  have cc0 := K3.out.c 0 rfl
  have cc1 := K3.out.c 1 rfl
  go_wp2_with fail
  -- marks in the program's answer
  refine (markRel _ _ _ _ _ _ _ _ _ (K3.out.own 0 rfl) (by omega) (by have := HS.out; omega)).mono ?_
  rintro e w4 ⟨rfl, ho4, hn4⟩
  have K4 := Lib.hid (K1.out.marked HB2.out HB3.out hn4 cc0 cc1 (lives_own _ _ _ _) ho4)
  clear ho4 hn4 cc0 cc1
  have cc0 := K4.out.c 0 rfl
  have cc1 := K4.out.c 1 rfl
  go_wp2_with fail
  refine (heldRel _ _ _ _ _ _ _ (K4.out.own 0 rfl).gridAt (by omega) (by have := HS.out; omega)).mono ?_
  rintro e w5 ⟨rfl, hb5⟩
  have K5 := Lib.hid (K4.out.below hb5)
  have hpos : ¬ (1 + ((xss.map List.length).sum : Int) < 0) := by omega
  clear hb5 cc0 cc1
  go_wp2_with fail
  -- the program's answer again
  refine (implEqual size ar xss cd _ HI.out).mono ?_
  rintro e w6 ⟨a6, n6, c6, rfl, ho6, hb6⟩
  have K6 := Lib.hid (((K5.out.below hb6).read (lives_grid _ _) ho6.gridAt).box w6.heap.size rfl (.int .i64 ar) (.slice a6 n6 c6) 27)
  have cc0 := K6.out.c 4 rfl
  have cc1 := K6.out.c 5 rfl
  clear ho6 hb6
  go_wp2_with fail
  refine (eqRel' _ _ _ _ _ _ _ _ _ _ true _ (K6.out.grid 0 rfl) (K6.out.grid 2 rfl) (eqR_same _ _)).mono ?_
  rintro e w7 ⟨rfl, hb7⟩
  have K7 := Lib.hid (K6.out.below hb7)
  clear hb7 cc0 cc1
  have cc0 := K7.out.c 2 rfl
  have cc1 := K7.out.c 3 rfl
  go_wp2_with fail
  refine (heldRel _ _ _ _ _ _ _ (K7.out.own 1 rfl).gridAt (by omega) (by have := HS.out; omega)).mono ?_
  rintro e w8 ⟨rfl, hb8⟩
  have K8 := Lib.hid (K7.out.below hb8)
  clear hb8 cc0 cc1
  go_wp2
  go_ret
  exact ⟨rfl, K8.out.bel⟩

end Go.Proofs.Ytfjfkmoeaenlbaa
