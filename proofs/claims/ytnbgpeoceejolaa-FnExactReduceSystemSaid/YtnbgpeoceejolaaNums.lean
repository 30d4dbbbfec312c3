/-
  The iterator over the numbers of a set: (tupleBits).numbers's closure.
-/
import Derived.Test.YtnbgpeoceejolaaGSet
import Derived.RangeFuncNested
import Derived.RangeFuncBound
import Derived.RangeFuncCalls
import Derived.RangeFuncLeaves
import Derived.Shelf.Abstract
import Derived.Shelf.RegionOpen
import Derived.OwnWalkIn
import Derived.TacticsInMore
import Derived.LoopNIn
import Derived.LoopIn
namespace Go.Proofs.Ytnbgpeoceejolaa
open Go.RowKit
attribute [local go_sem] Oper.semAt_some

theorem idx_bits (a b c d : Value) (q : Nat) (hq : q < 4) (w : World) : (Instr.index 180 (.agg #[a, b, c, d]) (.int .i64 q)).run Try.prog w = .ok (([a, b, c, d] : List Value).getD q undef) w := by
  have hu := Try.underlying180
  have h4 : q = 0 ∨ q = 1 ∨ q = 2 ∨ q = 3 := by omega
  rcases h4 with rfl | rfl | rfl | rfl <;> simp [Instr.index, run_underlying hu, asIntOf, go_sem, List.getD]

theorem idx_word (S : Nat → Bool) (q : Nat) (hq : q < 4) : ∀ w : World, (Instr.index 180 (.agg #[.int .u64 (word S 0), .int .u64 (word S 1), .int .u64 (word S 2), .int .u64 (word S 3)]) (.int .i64 q)).run Try.prog w = .ok (.int .u64 (word S q)) w := fun w => by
  rw [idx_bits _ _ _ _ q hq w]
  have h4 : q = 0 ∨ q = 1 ∨ q = 2 ∨ q = 3 := by omega
  rcases h4 with rfl | rfl | rfl | rfl <;> rfl

/-- A number below 256: a name that the walk's simp does not look behind. -/
def cut (x : Nat) : Nat := x % 256
theorem cut_lt (x : Nat) : cut x < 256 := Nat.mod_lt _ (by omega)
theorem cut_of {x : Nat} (h : x < 256) : cut x = x := Nat.mod_eq_of_lt h

end Go.Proofs.Ytnbgpeoceejolaa
