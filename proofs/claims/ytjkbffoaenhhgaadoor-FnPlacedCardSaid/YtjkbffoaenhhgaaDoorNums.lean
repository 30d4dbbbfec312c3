/-
  The iterator over the numbers of a set: (tupleBits).numbers's closure.
-/
import Derived.Test.YtjkbffoaenhhgaaDoorGSet
import Derived.RangeFuncNested
import Derived.RangeFuncBound
import Derived.RangeFuncCalls
import Derived.RangeFuncLeaves
import Derived.Shelf.Abstract
import Derived.Shelf.RegionOpen
import Derived.OwnWalkIn
import Derived.TacticsInMore
import Derived.LoopNIn
import Derived.LoopIn
namespace Go.Proofs.YtjkbffoaenhhgaaDoor
open Go.RowKit
attribute [local go_sem] Oper.semAt_some

theorem idx_bits (a b c d : Value) (q : Nat) (hq : q < 4) (w : World) : (Instr.index 52 (.agg #[a, b, c, d]) (.int .i64 q)).run Tryd.prog w = .ok (([a, b, c, d] : List Value).getD q undef) w := by
  have hu := Tryd.underlying52
  have h4 : q = 0 ∨ q = 1 ∨ q = 2 ∨ q = 3 := by omega
  rcases h4 with rfl | rfl | rfl | rfl <;> simp [Instr.index, run_underlying hu, asIntOf, go_sem, List.getD]

theorem idx_word (S : Nat → Bool) (q : Nat) (hq : q < 4) : ∀ w : World, (Instr.index 52 (.agg #[.int .u64 (word S 0), .int .u64 (word S 1), .int .u64 (word S 2), .int .u64 (word S 3)]) (.int .i64 q)).run Tryd.prog w = .ok (.int .u64 (word S q)) w := fun w => by
  rw [idx_bits _ _ _ _ q hq w]
  have h4 : q = 0 ∨ q = 1 ∨ q = 2 ∨ q = 3 := by omega
  rcases h4 with rfl | rfl | rfl | rfl <;> rfl

theorem TzTab.keep {n₀ : Nat} {w w' : World} (h : TzTab w) (hg : 0 < n₀) (hb : Below n₀ w w') : TzTab w' := fun j hj => (hb.cell (p := ⟨0, j, none⟩) hg).trans (h j hj)

set_option maxRecDepth 100000 in
set_option maxHeartbeats 4000000 in
/-- At each number of the set, in order, the loop's body is run once. -/
theorem numbers1 (n : Nat) (hn : 1 ≤ n) (l Bs n₀ : Nat) (S : Nat → Bool) (J Jx : List Nat → World → Prop)
    (hY : ∀ (pre : List Nat) (x : Nat) (W : World), x < 256 → J pre W → pre.length < 256 → YieldAt Fence.wide (n - 1) Tryd.prog l #[.int .i64 (x : Int)] W fun e W' =>
      (e = .returned (.bool true) ∧ J (pre ++ [x]) W' ∧ Below n₀ W W') ∨ (e = .returned (.bool false) ∧ Jx (pre ++ [x]) W'))
    (W : World) (hb : BitsBox W Bs S) (hT : TzTab W) (hg : 0 < n₀) (h0 : J [] W) :
    CallsIn Fence.wide n Tryd.prog 54 #[.func (.yield l) #[] #[], .pointer (some ⟨Bs, 0, none⟩)] W fun e W' => (∃ v, e = .returned v) ∧
      ((∃ ys, ys = memb S 256 ∧ J ys W') ∨ (∃ pre, pre <+: memb S 256 ∧ Jx pre W')) := by
  have c0 := hb.cell 0 (by omega)
  have c1 := hb.cell 1 (by omega)
  have c2 := hb.cell 2 (by omega)
  have c3 := hb.cell 3 (by omega)
  have HY := Lib.hid hY
  have HT := Lib.hid hT
  clear hY hT hb
  refine callsIn_of_wp Tryd.func54 rfl trivial ?_ rfl
  simp only [Tryd.ntmps54, List.size_toArray, List.length_cons, List.length_nil, Nat.reduceAdd, Nat.reduceSub, Array.replicate_succ, Array.replicate_zero, List.push_toArray, List.append_toArray, List.nil_append, List.cons_append]
  gi_wp2
  gi_loopw [6] (fun i wr => ∃ k : Nat, k ≤ 4 ∧ i = .int .i64 k ∧ J (memb S (64 * k)) wr ∧ Below n₀ W wr) (fun i _ => 4 - (intOf i).toNat)
  case atStart => exact ⟨0, Nat.zero_le _, rfl, h0, Below.refl _ _⟩
  case round =>
    obtain ⟨k, hk, rfl, hJ, hB⟩ := hrel
    by_cases hlt : k < 4
    · have hlt' : (k : Int) < 4 := by omega
      have HJ := Lib.hid hJ
      have HB := Lib.hid hB
      have hX := idx_word S k hlt
      clear hJ hB
      gi_wp2
      rw [← rest_zero]
      gi_loopw [4] (fun v wr => ∃ t : Nat, t ≤ 64 ∧ v = .int .u64 (rest S k t : Nat) ∧ J (memb S (64 * k + t)) wr ∧ Below n₀ W wr) (fun v _ => (intOf v).toNat)
      case atStart => exact ⟨0, Nat.zero_le _, rfl, HJ.out, HB.out⟩
      case round =>
        obtain ⟨t, ht, rfl, hJ, hB⟩ := hrel
        by_cases h0 : rest S k t = 0
        · have HE := Lib.hid (rest_none S k t ht h0)
          rw [h0]
          gi_wp2
          go_roundw
          case rel => exact ⟨k + 1, by omega, by go_num, by rw [HE.out]; exact hJ, hB⟩
          case measure => simp [intOf]; omega
        · obtain ⟨r1, r2, r3, r4⟩ := rest_some S k t h0
          have hlt64 := rest_lt S k t
          have HTR := Lib.hid (trailing (rest S k t) hlt64 h0)
          have HCL := Lib.hid (rest_clear (rest S k t) hlt64 h0)
          have hlen := Nat.lt_of_le_of_lt (memb_len S (64 * k + t)) (show 64 * k + t < 256 by omega)
          obtain ⟨fn, tmps, assign, body, hy, hR⟩ := HY.out _ (64 * k + Lib.ctz 64 (rest S k t)) wr (by omega) hJ hlen
          have hne : ((rest S k t : Nat) : Int) ≠ 0 := by omega
          generalize Lib.ctz 64 (rest S k t) = z at *
          generalize hrr : rest S k t = x at *
          have HR3 := Lib.hid r3
          have HR4 := Lib.hid r4
          have HRR := Lib.hid hrr
          have HB := Lib.hid hB
          rw [show ((64 * k + z : Nat) : Int) = 64 * (k : Int) + (z : Int) by omega] at hy
          clear r3 r4 hrr hB hJ
          gi_wp2_with (refine ⟨trivial, ?_⟩; gi_at_call 55; refine (callsIn_wide.2 (HTR.out _ (HT.out.keep hg HB.out))).mono ?_; rintro e w' ⟨rfl, rfl⟩)
          refine hR.mono ?_
          rintro e W3 (⟨rfl, hJ3, hk3⟩ | ⟨rfl, hJx3⟩)
          · rw [← HR3.out] at hJ3
            have HJ3 := Lib.hid hJ3
            have HB3 := Lib.hid (HB.out.trans hk3)
            have HCX := HCL.out
            rw [show IntKind.u64.wrap ((x : Int) - 1) = (x : Int) - 1 by rw [IntKind.wrap_u64]; omega] at HCX
            have hless : rest S k (z + 1) < x := by
              have h1 : x &&& (x - 1) ≤ x - 1 := Nat.and_le_right
              rw [HR4.out] at h1
              omega
            rw [HR4.out] at HCX
            have HCY := Lib.hid HCX
            clear HCX
            clear hJ3 hk3 hy hR
            gi_wp2
            go_roundw
            case rel => exact ⟨z + 1, by omega, by rw [HCY.out], HJ3.out, HB3.out⟩
            case measure => rw [HCY.out]; simp [intOf]; omega
          · have hpre : memb S (64 * k + t) ++ [64 * k + z] <+: memb S 256 := by
              rw [← HR3.out]
              exact memb_prefix S (by omega)
            clear hy hR
            gi_wp2
            refine bodyPost_ret (results_none rfl _ _ _) rfl ?_
            exact ⟨⟨_, rfl⟩, .inr ⟨_, hpre, hJx3⟩⟩
    · obtain rfl : k = 4 := by omega
      gi_wp2
      go_end0
      exact ⟨⟨_, rfl⟩, .inl ⟨_, rfl, hJ⟩⟩

/-- A number below 256: a name that the walk's simp does not look behind. -/
def cut (x : Nat) : Nat := x % 256
theorem cut_lt (x : Nat) : cut x < 256 := Nat.mod_lt _ (by omega)
theorem cut_of {x : Nat} (h : x < 256) : cut x = x := Nat.mod_eq_of_lt h

/-- The numbers of a set, walked by a loop over a function. -/
theorem numbers_stops (n : Nat) (hn : 1 ≤ n) (Bs n₀ : Nat) (S : Nat → Bool) (w : World) (hb : BitsBox w Bs S) (hT : TzTab w) (hg : 0 < n₀) :
    SeqStopsK Fence.wide n Tryd.prog 54 #[.pointer (some ⟨Bs, 0, none⟩)] (fun x : Nat => #[Value.int .i64 (cut x : Int)]) (Below n₀) (fun ys => ys = memb S 256) (fun pre => pre <+: memb S 256) 256 w :=
  fun l J Jx W hW _ _ hY h0 => numbers1 n hn l Bs n₀ S J Jx (fun pre x W1 hx hJ hl => by have h := hY pre x W1 hJ hl; dsimp only at h; rwa [cut_of hx] at h) W (hb.below hW) (hT.below hW) hg h0

theorem numbers_in (S : Nat → Bool) (w : World) :
    Calls Tryd.prog 46 #[bitsV S] w fun e w' => e = .returned (.func (.func 54) #[] #[.pointer (some ⟨w.heap.size, 0, none⟩)]) ∧ w' = w.alloc (.cells (bitsC S).toArray 52) := by
  unfold bitsV
  go_enter Tryd.func46, Tryd.ntmps46
  go_wp2
  go_ret
  exact ⟨rfl, rfl⟩

end Go.Proofs.YtjkbffoaenhhgaaDoor
