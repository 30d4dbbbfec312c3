/-
  The laws' measures of an argument: szInt64S, szInt64SS, szRel.
-/
import Derived.Test.YtbnmgonfmihicabDoorProg
import Derived.Test.YtbnmgonfmihicabDoorMem
namespace Go.Proofs.YtbnmgonfmihicabDoor
open Go.RowKit

/-- what the measures give: what is left of a bound, or -1 -/
def szF (total : Nat) (left : Int) : Int := if left < total then -1 else left - total
theorem szF_no {t : Nat} {l : Int} (h : l < t) : szF t l = -1 := by unfold szF; rw [if_pos h]
theorem szF_yes {t : Nat} {l : Int} (h : (t : Int) ≤ l) : szF t l = l - t := by unfold szF; rw [if_neg (by omega)]

def gridSize (xss : List (List Int)) : Nat := xss.length + (xss.map List.length).sum

def partSum (xss : List (List Int)) (k : Nat) : Nat := ((xss.take k).map List.length).sum

theorem partSum_zero (xss : List (List Int)) : partSum xss 0 = 0 := by simp [partSum]

theorem partSum_succ (xss : List (List Int)) (k : Nat) (h : k < xss.length) : partSum xss (k + 1) = partSum xss k + (rowN xss k).length := by
  unfold partSum
  rw [List.take_succ_eq_append_getElem h, rowN_at xss k h, List.map_append, List.sum_append]
  simp

theorem partSum_le (xss : List (List Int)) (k : Nat) : partSum xss k ≤ (xss.map List.length).sum := by
  unfold partSum
  have h : (xss.map List.length).sum = ((xss.take k).map List.length).sum + ((xss.drop k).map List.length).sum := by
    rw [← List.sum_append, ← List.map_append, List.take_append_drop]
  omega

theorem partSum_all (xss : List (List Int)) : partSum xss xss.length = (xss.map List.length).sum := by simp [partSum]

set_option maxHeartbeats 400000 in
theorem szRow (v : Value) (xs : List Int) (left : Int) (w : World) (h : RowAt w v xs) (h0 : 0 ≤ left) (h1 : left ≤ 1048576) :
    Calls Tryd.prog 57 #[v, .int .i64 left] w fun e w' => e = .returned (.int .i64 (szF xs.length left)) ∧ w = w' := by
  obtain ⟨a, c, rfl, hn, -⟩ := h
  by_cases hl : left < xs.length
  · have hf := Lib.hid (szF_no hl)
    have hl' : left - xs.length < 0 := by omega
    go_enter Tryd.func57, Tryd.ntmps57
    go_wp2
    go_ret
    exact ⟨ret_int hf.out.symm, rfl⟩
  · have hf := Lib.hid (szF_yes (t := xs.length) (l := left) (by omega))
    have hl' : ¬ left - xs.length < 0 := by omega
    go_enter Tryd.func57, Tryd.ntmps57
    go_wp2
    go_ret
    exact ⟨ret_int hf.out.symm, rfl⟩

set_option maxHeartbeats 400000 in
theorem szGrid (v : Value) (xss : List (List Int)) (left : Int) (w : World) (h : GridAt w v xss) (h0 : 0 ≤ left) (h1 : left ≤ 1048576) :
    Calls Tryd.prog 26 #[v, .int .i64 left] w fun e w' => e = .returned (.int .i64 (szF (gridSize xss) left)) ∧ w = w' := by
  obtain ⟨V, ⟨a, c, rfl, hn, hc⟩, hV⟩ := h
  by_cases hl : left < xss.length
  · have hf := Lib.hid (szF_no (t := gridSize xss) (l := left) (by unfold gridSize; omega))
    have hl' : left - xss.length < 0 := by omega
    clear hV hc
    go_enter Tryd.func26, Tryd.ntmps26
    go_wp2
    go_ret
    exact ⟨ret_int hf.out.symm, rfl⟩
  · have hl' : ¬ left - xss.length < 0 := by omega
    have HV := Lib.hid hV
    have HC := Lib.hid hc
    clear hV hc
    go_enter Tryd.func26, Tryd.ntmps26
    go_wp2
    go_loop [1, 5] (fun l i => ∃ k : Nat, k ≤ xss.length ∧ i = .int .i64 k ∧ (xss.length : Int) + partSum xss k ≤ left ∧ l = .int .i64 (left - xss.length - partSum xss k)) (fun _ i => xss.length - (intOf i).toNat)
    case atStart => exact ⟨0, Nat.zero_le _, rfl, by rw [partSum_zero]; omega, by rw [partSum_zero]; simp⟩
    case round =>
      obtain ⟨k, hk, rfl, hp, rfl⟩ := hrel
      by_cases hlt : k < xss.length
      · obtain ⟨b, off, ha, hcell⟩ := HC.out (by omega)
        subst ha
        have hk1 := hcell k hlt
        have hrow := Lib.hid (HV.out k hlt)
        have hs := Lib.hid (partSum_succ xss k hlt)
        have hle := partSum_le xss (k + 1)
        clear hcell
        by_cases hov : left - xss.length - partSum xss k < (rowN xss k).length
        · have hf := Lib.hid (szF_no (t := gridSize xss) (l := left) (by have := hs.out; unfold gridSize; omega))
          have hg := Lib.hid (szF_no (t := (rowN xss k).length) (l := left - xss.length - partSum xss k) hov)
          go_wp2_with (go_at_call 57; refine (szRow _ _ _ _ hrow.out (by omega) (by omega)).mono ?_; rw [hg.out]; rintro e w' ⟨rfl, rfl⟩)
          go_ret
          exact ⟨ret_int hf.out.symm, rfl⟩
        · have hg := Lib.hid (szF_yes (t := (rowN xss k).length) (l := left - xss.length - partSum xss k) (by omega))
          have hov' : ¬ left - xss.length - partSum xss k - (rowN xss k).length < 0 := by omega
          go_wp2_with (go_at_call 57; refine (szRow _ _ _ _ hrow.out (by omega) (by omega)).mono ?_; rw [hg.out]; rintro e w' ⟨rfl, rfl⟩)
          go_round
          case rel => exact ⟨k + 1, by omega, by go_num, by rw [hs.out]; omega, by rw [hs.out]; go_num⟩
          case measure => simp [intOf]; omega
      · obtain rfl : k = xss.length := by omega
        have hpa := partSum_all xss
        have hf := Lib.hid (szF_yes (t := gridSize xss) (l := left) (by unfold gridSize; omega))
        have hq : Hid (left - xss.length - partSum xss xss.length = left - gridSize xss) := Lib.hid (by unfold gridSize; omega)
        clear hpa
        go_wp2
        go_ret
        exact ⟨ret_int (by rw [hf.out, hq.out]), rfl⟩

end Go.Proofs.YtbnmgonfmihicabDoor
