/-
  A call that starts nothing returns with every other goroutine ended: so it returns 'leaving' as well.
-/
import Derived.Conc.Holds
import Derived.Leaving
import Derived.Test.YtnbgpeoceejolabOpen
namespace Go.Proofs.Ytnbgpeoceejolab

theorem leavingOf {a : Assume} {C : Checked} {os : Os} {f : FuncId} {r : Reach} {Pre : World → Array Value → Prop} {Post : World → Array Value → Value → World → Prop} (h : ReturnsInHanded a C os f r Pre Post) : ReturnsInLeavingWide a C os f r Pre Post :=
  fun enter => ReturnsInOpen.mono (fun _ _ _ x => ⟨x.2.1, onlyLeaving_of_quiet x.1, x.2.2⟩) (fun _ x => x) (h enter)

end Go.Proofs.Ytnbgpeoceejolab
