/-
  The iterator over the numbers of a set: (tupleBits).numbers's closure.
-/
import Derived.Test.YtnhamdjenmogjaaGSet
import Derived.RangeFuncNested
import Derived.RangeFuncBound
import Derived.RangeFuncCalls
import Derived.RangeFuncLeaves
import Derived.Shelf.Abstract
import Derived.Shelf.RegionOpen
import Derived.OwnWalkIn
import Derived.TacticsInMore
import Derived.LoopNIn
import Derived.LoopIn
namespace Go.Proofs.Ytnhamdjenmogjaa
open Go.RowKit
attribute [local go_sem] Oper.semAt_some

/-- A number below 256: a name that the walk's simp does not look behind. -/
def cut (x : Nat) : Nat := x % 256
theorem cut_lt (x : Nat) : cut x < 256 := Nat.mod_lt _ (by omega)
theorem cut_of {x : Nat} (h : x < 256) : cut x = x := Nat.mod_eq_of_lt h

end Go.Proofs.Ytnhamdjenmogjaa
