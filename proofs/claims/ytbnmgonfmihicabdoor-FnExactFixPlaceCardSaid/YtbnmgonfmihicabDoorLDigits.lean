/-
  The list with a number: l01Digits of the model.
-/
import Derived.Test.YtbnmgonfmihicabDoorStab
import Derived.Test.YtbnmgonfmihicabDoorMark
import Derived.Test.YtbnmgonfmihicabDoorDigs
namespace Go.Proofs.YtbnmgonfmihicabDoor
open Go.RowKit

theorem mix_unset (n k : Nat) (F Z : Nat → Value) (u : Value) (hu : u = Z k) : (mix n (k + 1) F Z).set k u = mix n k F Z := by
  subst hu
  unfold mix
  apply List.ext_getElem?
  intro j
  rw [List.getElem?_set]
  by_cases hj : k = j
  · subst hj
    by_cases h : k < n <;> simp [h]
  · rw [if_neg hj]
    by_cases h : j < n
    · by_cases h1 : j < k
      · simp [h, h1, show j < k + 1 by omega]
      · simp [h, h1, show ¬ j < k + 1 by omega]
    · simp [h]

theorem digs_range (size ar n : Nat) : (digs size ar n).map (Value.int .i64) = (List.range ar).map fun i => Value.int .i64 (digN size ar n i : Int) := by
  unfold digs
  rw [List.map_map]
  rfl

set_option maxHeartbeats 1000000 in
theorem l01Digits (size ar num : Nat) (h1 : 1 ≤ size) (h2 : size ≤ 1000000) (h4 : ar ≤ 4) (hnum : num ≤ 1000000000000) (w : World) :
    Calls Tryd.prog 60 #[.int .i64 size, .int .i64 ar, .int .i64 num] w fun e w' => ∃ a c, e = .returned (.slice a ar c) ∧ OwnRow w' w.heap.size (.slice a ar c) (digs size ar num) ∧ Below w.heap.size w w' := by
  obtain ⟨i0, hi, hz0, hz1, hz2⟩ := info_parts info_int
  go_enter Tryd.func60, Tryd.ntmps60
  go_wp2_with (at_make; refine wpList_make_full _ rfl _ _ 25 rfl w.heap.size 2 i0 (.int .i64 0) 1 Tryd.underlying25 hi hz0 hz1 .i64 .i64 _ _ ar rfl rfl rfl rfl (by rw [hz2]; omega) (by unfold maxLen; omega) (Nat.le_refl _) ?_; intro w1 hown hgrow)
  have hown0 : w1.ownsRow w.heap.size 2 1 (.slice (some ⟨w.heap.size, 0, none⟩) ar ar) ar (mix ar ar (fun _ => .int .i64 0) (fun i => .int .i64 (digN size ar num i : Int))) := by
    have hu : mix ar ar (fun _ => Value.int .i64 0) (fun i => .int .i64 (digN size ar num i : Int)) = List.replicate ar (.int .i64 0) := by
      rw [mix_all]
      apply List.ext_getElem?
      intro j
      by_cases h : j < ar <;> simp [h]
    rw [hu, ← toList_madeCells_one]
    simpa [Value.cells] using hown
  have hb0 : Below w.heap.size w w1 := (Below.refl _ _).grown hgrow (Nat.le_refl _) (fun _ h => by simp at h)
  clear hown hgrow
  go_loopw [2, 8] (fun m i wr => ∃ (k : Nat) (i1 : Int) (m1 : Nat), k ≤ ar ∧ i1 = (k : Int) - 1 ∧ m1 = num / size ^ (ar - k) ∧ i = .int .i64 i1 ∧ m = .int .i64 m1 ∧ wr.ownsRow w.heap.size 2 1 (.slice (some ⟨w.heap.size, 0, none⟩) ar ar) ar (mix ar k (fun _ => .int .i64 0) (fun i => .int .i64 (digN size ar num i : Int))) ∧ Below w.heap.size w wr) (fun _ i _ => (intOf i + 1).toNat)
  case atStart => exact ⟨ar, _, num, Nat.le_refl _, rfl, by simp, rfl, rfl, hown0, hb0⟩
  case round =>
    obtain ⟨k, i1, m1, hk, hi1, hm1, rfl, rfl, hown, hbel⟩ := hrel
    clear hown0 hb0
    cases k with
    | zero =>
      obtain rfl : i1 = -1 := by omega
      have HE : Hid (OwnRow wr w.heap.size (.slice (some ⟨w.heap.size, 0, none⟩) ar ar) (digs size ar num)) := by
        show OwnRow _ _ _ _
        unfold OwnRow
        rw [digs_len, digs_range, ← mix_zero ar (fun _ => .int .i64 0)]
        exact hown
      have HW := Lib.hid hbel
      clear hown hbel hm1 hi1 hk
      go_wp2
      go_ret
      exact ⟨_, _, rfl, HE.out, HW.out⟩
    | succ j =>
      obtain rfl : i1 = (j : Int) := by omega
      have hj : j < ar := by omega
      have hc2 := hown.cellAt j (by omega)
      rw [mix_at _ _ _ _ _ hj, if_pos (by omega)] at hc2
      have hf2 := hown.frozenAt j
      have hdig : digN size ar num j = m1 % size := by unfold digN; rw [hm1, show ar - 1 - j = ar - (j + 1) by omega]
      have hst := Lib.hid (hown.stored j (.int .i64 ((m1 : Int) % (size : Int))))
      have HU : Hid ((mix ar (j + 1) (fun _ => .int .i64 0) (fun i => .int .i64 (digN size ar num i : Int))).set j (.int .i64 ((m1 : Int) % (size : Int))) = mix ar j (fun _ => .int .i64 0) (fun i => .int .i64 (digN size ar num i : Int))) := mix_unset _ _ _ _ _ (by rw [hdig]; simp)
      have HM : Hid (m1 / size = num / size ^ (ar - j)) := by
        show _ = _
        rw [hm1, Nat.div_div_eq_div_mul, ← Nat.pow_succ, show (ar - (j + 1)).succ = ar - j by omega]
      have hmb : m1 ≤ 1000000000000 := by rw [hm1]; exact Nat.le_trans (Nat.div_le_self _ _) hnum
      have hq0 : (0 : Int) ≤ (m1 : Int) / (size : Int) := Int.ediv_nonneg (by omega) (by omega)
      have hq1 : (m1 : Int) / (size : Int) ≤ 1000000000000 := by have h := Nat.div_le_self m1 size; rw [← Int.natCast_ediv]; omega
      have HW := Lib.hid hbel
      have hjI : (j : Int) < (ar : Int) := by omega
      clear hown hbel hm1 hdig hi1
      go_wp2
      go_roundw
      case rel => exact ⟨j, _, m1 / size, by omega, rfl, HM.out, rfl, by go_num, by have h := hst.out.1; rwa [HU.out] at h, HW.out.setCell (Nat.le_refl _) _⟩
      case measure => simp [intOf]

end Go.Proofs.YtbnmgonfmihicabDoor
