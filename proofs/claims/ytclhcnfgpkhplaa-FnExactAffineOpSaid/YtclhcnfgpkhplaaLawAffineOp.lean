/-
  FnExactAffineOp: the walk over the law.
-/
import Derived.Test.YtclhcnfgpkhplaaAffine
import Derived.Test.YtclhcnfgpkhplaaGBase
import Derived.Test.YtclhcnfgpkhplaaReg
import Derived.Deep.CutRange
import Derived.Deep.RegionHeld3
namespace Go.Proofs.Ytclhcnfgpkhplaa
open Go.RowKit

set_option linter.unusedSimpArgs false in
set_option maxHeartbeats 4000000 in
set_option maxRecDepth 100000 in
theorem lawAffineOp (prime : Int) (w : World)  :
    Calls Try.prog 5 #[.int .i64 prime] w fun e w' => e = .returned (.bool true) ∧ Below w.heap.size w w' := by
  have K0 := Lib.hid (Kept.start w)
  obtain ⟨xR0, tR0, cd, hi⟩ := AffineOpIs.exists prime
  have HI := Lib.hid hi
  have HS := Lib.hid hi.small
  clear hi 
  go_enter Try.func5, Try.ntmps5
  go_wp2_with fail
  -- no copies
  -- the model's answer
  refine (specAffineOp _ xR0 tR0 cd _  HI.out).mono ?_
  rintro e w1 ⟨a1, n1, c1, rfl, ho1, hb1⟩
  have K1 := Lib.hid (K0.out.below hb1)
  obtain ⟨b0, hb0o⟩ : ∃ b0, OwnRowE w1 b0 w1.heap.size (.slice a1 n1 c1) tR0 := ⟨_, ho1⟩
  have HZ0 : Hid (w.heap.size ≤ w1.heap.size) := Lib.hid (K1.out.bel.size)
  have K1b := Lib.hid ((K1.out.read (lives_rowE _ _ _ _) hb0o).box w1.heap.size rfl (.int .i64 xR0) (.slice a1 n1 c1) 28)
  clear ho1 hb1 hb0o
  -- the program's answer
  go_wp2_with fail
  refine (implAffineOp _ xR0 tR0 cd _  HI.out).mono ?_
  rintro e w2 ⟨a2, n2, c2, rfl, ho2, hb2⟩
  have Z2 : Hid (w1.heap.size + 1 ≤ w2.heap.size) := Lib.hid (by have := hb2.size; simpa using this)
  have K2 := Lib.hid (((K1b.out.below hb2).read (lives_rowE _ _ _ _) (ho2.mono (B' := w1.heap.size + 1) (by simp))).box w2.heap.size rfl (.int .i64 xR0) (.slice a2 n2 c2) 28)
  clear hb2 ho2
  have cd0 := K2.out.c 0 rfl
  have cd1 := K2.out.c 1 rfl
  have cd2 := K2.out.c 2 rfl
  have cd3 := K2.out.c 3 rfl
  go_wp2_with fail
  refine (eqOp' _ _ _ _ _ _ _ _ _ _ true _ (OwnRowE.at (K2.out.r 0 rfl :)) (OwnRowE.at (K2.out.r 1 rfl :)) (eqO_same _ _)).mono ?_
  rintro e w3 ⟨rfl, hb3⟩
  have K3 := Lib.hid (K2.out.below hb3)
  clear cd0 cd1 cd2 cd3
  clear hb3
  -- marks
  have S0 := Lib.hid (((KeptS.start K3.out).cons (stab_rowE (K3.out.r 1 rfl :)) (ownRowE_le (K3.out.r 1 rfl :))).cons (stab_rowE (K3.out.r 0 rfl :)) (ownRowE_le (K3.out.r 0 rfl :)))
  have cd4 := S0.out.c 0 rfl
  have cd5 := S0.out.c 1 rfl
  go_wp2_with fail
  refine (markOp _ _ _ _ _ _ _ _ _ (S0.out.r 0 rfl :) (by omega) (by have := HS.out; omega)).mono ?_
  rintro e w4 ⟨rfl, ho4, hn4⟩
  have S1 := Lib.hid ((S0.out.drop.only hn4 (by have y1 := HZ0.out; have zZ2 := Z2.out; omega) (by have y1 := HZ0.out; have zZ2 := Z2.out; intro x hx; simp only [List.mem_cons, List.not_mem_nil, or_false] at hx; rcases hx with rfl | rfl | rfl | rfl <;> (dsimp only; omega)) (by have y1 := HZ0.out; have zZ2 := Z2.out; intro x hx; simp only [List.mem_cons, List.not_mem_nil, or_false] at hx; rcases hx with rfl <;> (dsimp only; omega))).cons (stab_rowE ho4) (ownRowE_le ho4))
  clear ho4 hn4
  clear cd4 cd5
  have K5 := Lib.hid ((S1.out.end.read (lives_rowE _ _ _ _) (S1.out.r 1 rfl :)).read (lives_rowE _ _ _ _) (S1.out.r 0 rfl :))
  have cd6 := K5.out.c 0 rfl
  have cd7 := K5.out.c 1 rfl
  go_wp2_with fail
  refine (heldOp _ _ _ _ _ _ _ (OwnRowE.at (K5.out.r 0 rfl :)) (by omega) (by have := HS.out; omega)).mono ?_
  rintro e w6 ⟨rfl, hb6⟩
  have K6 := Lib.hid (K5.out.below hb6)
  clear cd6 cd7
  clear hb6
  have hposz : ¬ (1 + (tR0.length : Int) < 0) := by omega
  -- the program's answer again
  go_wp2_with fail
  refine (implAffineOp _ xR0 tR0 cd _  HI.out).mono ?_
  rintro e w7 ⟨a7, n7, c7, rfl, ho7, hb7⟩
  have K7 := Lib.hid (K6.out.below hb7)
  have K7h := Lib.hid ((K7.out.read (lives_rowE _ _ _ _) ho7).box w7.heap.size rfl (.int .i64 xR0) (.slice a7 n7 c7) 28)
  clear ho7 hb7
  have cd8 := K7h.out.c 0 rfl
  have cd9 := K7h.out.c 1 rfl
  have cd10 := K7h.out.c 4 rfl
  have cd11 := K7h.out.c 5 rfl
  go_wp2_with fail
  refine (eqOp' _ _ _ _ _ _ _ _ _ _ true _ (OwnRowE.at (K7h.out.r 0 rfl :)) (OwnRowE.at (K7h.out.r 2 rfl :)) (eqO_same _ _)).mono ?_
  rintro e w8 ⟨rfl, hb8⟩
  have K8 := Lib.hid (K7h.out.below hb8)
  clear cd8 cd9 cd10 cd11
  clear hb8
  have cd12 := K8.out.c 2 rfl
  have cd13 := K8.out.c 3 rfl
  go_wp2_with fail
  refine (heldOp _ _ _ _ _ _ _ (OwnRowE.at (K8.out.r 1 rfl :)) (by omega) (by have := HS.out; omega)).mono ?_
  rintro e w9 ⟨rfl, hb9⟩
  have K9 := Lib.hid (K8.out.below hb9)
  clear cd12 cd13
  clear hb9
  go_wp2
  go_ret
  exact ⟨rfl, K9.out.bel⟩

end Go.Proofs.Ytclhcnfgpkhplaa
