/-
  The iterator over a tuple's places and values; the tuple with a number: placesOf, tupleOf of the program.
-/
import Derived.Test.YtnbgpeoceejolaaNums
import Derived.Test.YtnbgpeoceejolaaGSet
import Derived.Test.YtnbgpeoceejolaaGBase
namespace Go.Proofs.Ytnbgpeoceejolaa
open Go.RowKit
attribute [local go_sem] Oper.semAt_some

/-- Blocks of an interval lie as they lay. -/
structure KeepOver (B E : Nat) (W W' : World) : Prop where
  size : W.heap.size ≤ W'.heap.size
  same : ∀ k, B ≤ k → k < E → W'.heap[k]? = W.heap[k]?
theorem KeepOver.refl (B E : Nat) (W : World) : KeepOver B E W W := ⟨Nat.le_refl _, fun _ _ _ => rfl⟩
theorem KeepOver.trans {B E : Nat} {X Y Z : World} (h : KeepOver B E X Y) (k : KeepOver B E Y Z) : KeepOver B E X Z := ⟨Nat.le_trans h.size k.size, fun i h1 h2 => (k.same i h1 h2).trans (h.same i h1 h2)⟩
theorem KeepOver.drew {B E : Nat} {X Y : World} (h : KeepOver B E X Y) : KeepOver B E X Y.drew := ⟨h.size, h.same⟩
theorem KeepOver.cell {B E : Nat} {X Y : World} (h : KeepOver B E X Y) {p : Addr} {v : Value} (hc : X.cell? p = some v) (h1 : B ≤ p.block) (h2 : p.block < E) : Y.cell? p = some v := (World.cell?_of_block (h.same _ h1 h2)).trans hc

theorem range_prefix {n m : Nat} (h : n ≤ m) : List.range n <+: List.range m := by
  induction m with
  | zero => rw [Nat.le_zero.1 h]; exact List.prefix_refl _
  | succ m ih =>
    by_cases e : n = m + 1
    · rw [e]; exact List.prefix_refl _
    · rw [List.range_succ]
      exact (ih (by omega)).trans (List.prefix_append _ _)
theorem grownBy_drew' (w : World) : w.grownBy w.drew none := ⟨rfl, rfl, rfl, Nat.le_refl _, fun _ _ _ => rfl⟩

set_option maxRecDepth 100000 in
set_option maxHeartbeats 4000000 in
theorem places1 (n : Nat) (hn : 1 ≤ n) (l B : Nat) (size ar num : Nat) (h1 : 1 ≤ size) (h2 : size ≤ 4) (h4 : ar ≤ 4) (hnum : num < 256) (J Jx : List Nat → World → Prop)
    (hY : ∀ (pre : List Nat) (j : Nat) (W : World), j < ar → J pre W → pre.length < 4 → YieldAt Fence.wide (n - 1) Try.prog l #[.int .i64 (j : Int), .int .i64 (digN size ar num j : Int)] W fun e W' =>
      (e = .returned (.bool true) ∧ J (pre ++ [j]) W' ∧ KeepOver B (B + 3) W W') ∨ (e = .returned (.bool false) ∧ Jx (pre ++ [j]) W'))
    (W : World) (hJa : AbidesFrom W.heap.size J) (c0 : W.cell? ⟨B, 0, none⟩ = some (.int .i64 size)) (c1 : W.cell? ⟨B + 1, 0, none⟩ = some (.int .i64 ar)) (c2 : W.cell? ⟨B + 2, 0, none⟩ = some (.int .i64 num)) (h0 : J [] W) :
    CallsIn Fence.wide n Try.prog 192 #[.func (.yield l) #[] #[], .pointer (some ⟨B, 0, none⟩), .pointer (some ⟨B + 1, 0, none⟩), .pointer (some ⟨B + 2, 0, none⟩)] W fun e W' => (∃ v, e = .returned v) ∧
      ((∃ ys, ys = List.range ar ∧ J ys W') ∨ (∃ pre, pre <+: List.range ar ∧ Jx pre W')) := by
  have HY := Lib.hid hY
  clear hY
  refine callsIn_of_wp Try.func192 rfl trivial ?_ rfl
  simp only [Try.ntmps192, List.size_toArray, List.length_cons, List.length_nil, Nat.reduceAdd, Nat.reduceSub, Array.replicate_succ, Array.replicate_zero, List.push_toArray, List.append_toArray, List.nil_append, List.cons_append]
  gi_wp2_with (refine ⟨trivial, ?_⟩; gi_at_call 139; refine (callsIn_wide.2 (tupleCount size ar h1 h2 h4 _)).mono ?_; rintro e w' ⟨rfl, rfl⟩)
  gi_loopw [5, 11] (fun v i wr => ∃ k : Nat, k ≤ ar ∧ i = .int .i64 k ∧ v = .int .i64 ((size ^ (ar - k) : Nat) : Int) ∧ J (List.range k) wr ∧ KeepOver B (B + 3) W wr) (fun _ i _ => ar - (intOf i).toNat)
  case atStart => exact ⟨0, Nat.zero_le _, rfl, rfl, h0, KeepOver.refl _ _ _⟩
  case round =>
    obtain ⟨k, hk, rfl, rfl, hJ, hB⟩ := hrel
    by_cases hlt : k < ar
    · have hlt' : (k : Int) < (ar : Int) := by omega
      obtain ⟨fn, tmps, assign, body, hy, hR⟩ := HY.out _ k wr.drew hlt (hJa _ _ _ none hJ (grownBy_drew' wr) (fun r e => by cases e)) (by simp; omega)
      have hR2 := hR.mono (R' := fun e W' => ∃ b, e = .returned (.bool b) ∧ ((b = true ∧ J (List.range k ++ [k]) W' ∧ KeepOver B (B + 3) wr.drew W') ∨ (b = false ∧ Jx (List.range k ++ [k]) W'))) (by
        rintro e W' (⟨rfl, h⟩ | ⟨rfl, h⟩)
        · exact ⟨true, rfl, .inl ⟨rfl, h⟩⟩
        · exact ⟨false, rfl, .inr ⟨rfl, h⟩⟩)
      have d0 := hB.cell c0 (Nat.le_refl _) (by simp)
      have d2 := hB.cell c2 (by simp) (by simp)
      have HB := Lib.hid hB
      have e0 : size ^ (ar - k) = size ^ (ar - 1 - k) * size := by rw [← Nat.pow_succ]; congr 1; omega
      have hp := pow_le4 h1 h2 (ar - 1 - k) (by omega)
      have hp0 := pow_le4 h1 h2 (ar - k) (by omega)
      have ed : digN size ar num k = num / size ^ (ar - 1 - k) % size := rfl
      have e1 : size ^ (ar - (k + 1)) = size ^ (ar - 1 - k) := by congr 1; omega
      have HE1 := Lib.hid e1
      generalize hW1 : size ^ (ar - 1 - k) = W1 at *
      generalize size ^ (ar - k) = W0 at *
      generalize hd : digN size ar num k = d at *
      have hq : (W0 : Int) / (size : Int) = (W1 : Int) := by
        rw [e0]
        exact_mod_cast Nat.mul_div_cancel _ (by omega)
      have hdq : (num : Int) / (W1 : Int) = ((num / W1 : Nat) : Int) := by simp
      have hql : num / W1 < 256 := Nat.lt_of_le_of_lt (Nat.div_le_self _ _) hnum
      generalize num / W1 = Q at *
      have hdd : (Q : Int).tmod (size : Int) = (d : Int) := by rw [ed]; simp [Int.tmod]
      have hz1 : ((W1 : Int) == 0) = false := beq_eq_false_iff_ne.2 (by omega)
      have hz2 : ((size : Int) == 0) = false := beq_eq_false_iff_ne.2 (by omega)
      have hdl : d < 4 := by rw [ed]; exact Nat.lt_of_lt_of_le (Nat.mod_lt _ (by omega)) h2
      clear hJ hB e0 e1 ed hd hW1 hR
      have hmx : Try.prog.follows .mixedOrders = true := by kernel_rfl
      gi_wp2
      gi_region_with_o (refine hR2.mono ?_; rintro e W3 ⟨b, rfl, h3⟩)
      all_goals
        rcases h3 with ⟨rfl, hJ3, hk3⟩ | ⟨rfl, hJx3⟩
        · rw [← List.range_succ] at hJ3
          have HJ3 := Lib.hid hJ3
          have HB3 := Lib.hid (HB.out.drew.trans hk3)
          clear hJ3 hk3 hy hR2
          gi_wp2
          go_roundw
          case rel => exact ⟨k + 1, by omega, by go_num, by rw [HE1.out], HJ3.out, HB3.out⟩
          case measure => simp [intOf]; omega
        · have hpre : List.range k ++ [k] <+: List.range ar := by
            rw [← List.range_succ]
            exact range_prefix (by omega)
          clear hy hR2
          gi_wp2
          refine bodyPost_ret (results_none rfl _ _ _) rfl ?_
          exact ⟨⟨_, rfl⟩, .inr ⟨_, hpre, hJx3⟩⟩
    · obtain rfl : k = ar := by omega
      gi_wp2
      go_end0
      exact ⟨⟨_, rfl⟩, .inl ⟨_, rfl, hJ⟩⟩

/-- A tuple's places and values, walked by a loop over a function. -/
theorem places_stops (n : Nat) (hn : 1 ≤ n) (B : Nat) (size ar num : Nat) (h1 : 1 ≤ size) (h2 : size ≤ 4) (h4 : ar ≤ 4) (hnum : num < 256) (w : World)
    (c0 : w.cell? ⟨B, 0, none⟩ = some (.int .i64 size)) (c1 : w.cell? ⟨B + 1, 0, none⟩ = some (.int .i64 ar)) (c2 : w.cell? ⟨B + 2, 0, none⟩ = some (.int .i64 num)) :
    SeqStopsK Fence.wide n Try.prog 192 #[.pointer (some ⟨B, 0, none⟩), .pointer (some ⟨B + 1, 0, none⟩), .pointer (some ⟨B + 2, 0, none⟩)]
      (fun j : Nat => #[Value.int .i64 ((j % ar : Nat) : Int), Value.int .i64 (digN size ar num (j % ar) : Int)]) (KeepOver B (B + 3)) (fun ys => ys = List.range ar) (fun pre => pre <+: List.range ar) 4 w :=
  fun l J Jx W hW hJa _ hY h0 => places1 n hn l B size ar num h1 h2 h4 hnum J Jx (fun pre j W1 hj hJ hl => by have h := hY pre j W1 hJ hl; dsimp only at h; rwa [Nat.mod_eq_of_lt hj] at h) W hJa
    (below_cell hW c0) (below_cell hW c1) (below_cell hW c2) h0

theorem placesOf_in (size ar num : Int) (w : World) :
    Calls Try.prog 150 #[.int .i64 size, .int .i64 ar, .int .i64 num] w fun e w' =>
      e = .returned (.func (.func 192) #[] #[.pointer (some ⟨w.heap.size, 0, none⟩), .pointer (some ⟨w.heap.size + 1, 0, none⟩), .pointer (some ⟨w.heap.size + 2, 0, none⟩)]) ∧
        w' = ((w.alloc (.cells #[.int .i64 size] 2)).alloc (.cells #[.int .i64 ar] 2)).alloc (.cells #[.int .i64 num] 2) := by
  go_enter Try.func150, Try.ntmps150
  go_wp2
  go_ret
  exact ⟨by simp, rfl⟩

end Go.Proofs.Ytnbgpeoceejolaa
