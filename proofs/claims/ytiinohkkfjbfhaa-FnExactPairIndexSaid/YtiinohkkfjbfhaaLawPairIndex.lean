/-
  FnExactPairIndex: the walk over the law.
-/
import Derived.Test.YtiinohkkfjbfhaaPairIx
import Derived.Test.YtiinohkkfjbfhaaGBase
import Derived.Test.YtiinohkkfjbfhaaReg
import Derived.Test.YtiinohkkfjbfhaaKept3
import Derived.Deep.CutRange
import Derived.Deep.RegionHeld3
namespace Go.Proofs.Ytiinohkkfjbfhaa
open Go.RowKit

set_option linter.unusedSimpArgs false in
set_option maxHeartbeats 4000000 in
set_option maxRecDepth 100000 in
theorem lawPairIndex (vars : Int) (i : Int) (j : Int) (w : World)  :
    Calls Try.prog 5 #[.int .i64 vars, .int .i64 i, .int .i64 j] w fun e w' => e = .returned (.bool true) ∧ Below w.heap.size w w' := by
  have K0 := Lib.hid (Kept.start w)
  obtain ⟨v, cd, hi⟩ := PairIndexIs.exists vars i j
  have HI := Lib.hid hi
  clear hi 
  go_enter Try.func5, Try.ntmps5
  go_wp2_with fail
  -- the model's answer
  refine (specPairIndex _ _ _ v cd _  HI.out).mono ?_
  rintro e w1 ⟨rfl, hb1⟩
  have K1 := Lib.hid (K0.out.below hb1)
  clear hb1
  -- copies
  -- the program's answer
  go_wp2_with fail
  refine (implPairIndex _ _ _ v cd _  HI.out).mono ?_
  rintro e w2 ⟨rfl, hb2⟩
  have K2 := Lib.hid (K1.out.below hb2)
  clear hb2
  -- the copies are as they were
  go_wp2
  go_ret
  exact ⟨rfl, K2.out.bel⟩

end Go.Proofs.Ytiinohkkfjbfhaa
