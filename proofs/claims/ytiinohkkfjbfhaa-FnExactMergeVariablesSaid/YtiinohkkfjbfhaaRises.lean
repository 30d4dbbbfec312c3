/-
  Strictly increasing lists: of the model and of the program.
-/
import Derived.Test.YtiinohkkfjbfhaaGRel
namespace Go.Proofs.Ytiinohkkfjbfhaa
open Go.RowKit

def RisesAt (xs : List Int) (lim : Int) (k : Nat) : Prop := (0 ≤ intN xs k ∧ intN xs k < lim) ∧ (0 < k → intN xs (k - 1) < intN xs k)
def RisesP (xs : List Int) (lim : Int) : Prop := ∀ k, k < xs.length → RisesAt xs lim k

set_option maxHeartbeats 1000000 in
set_option maxRecDepth 100000 in
theorem l00Rises (v : Value) (xs : List Int) (lim hi : Int) (b : Bool) (w : World) (h : RowAt w v xs) (hh : hi = lim - 1) (hb : Tells b (RisesP xs lim)) :
    Calls Try.prog 95 #[v, .int .i64 0, .int .i64 hi] w fun e w' => e = .returned (.bool b) ∧ QW w w' := by
  obtain ⟨a, c, rfl, hn, hc⟩ := h
  have HC := Lib.hid hc
  have HB := Lib.hid hb
  have HH := Lib.hid hh
  clear hc hb hh
  go_enter Try.func95, Try.ntmps95
  go_wp2
  go_loopw [7] (fun i wr => ∃ k : Nat, k ≤ xs.length ∧ i = .int .i64 k ∧ (∀ j, j < k → RisesAt xs lim j) ∧ QW w wr) (fun i _ => xs.length - (intOf i).toNat)
  case atStart => exact ⟨0, Nat.zero_le _, rfl, fun j hj => absurd hj (Nat.not_lt_zero _), QW.refl _⟩
  case round =>
    obtain ⟨k, hk, rfl, hall, hq⟩ := hrel
    have HA := Lib.hid hall
    have HQ := Lib.hid hq
    clear hall hq
    by_cases hlt : k < xs.length
    · obtain ⟨b1, off1, ha1, hcell1⟩ := HC.out (by omega)
      subst ha1
      have hx1 := HQ.out.cell (hcell1 k hlt)
      have hlt' : (k : Int) < (xs.length : Int) := by omega
      by_cases hin : InP (intN xs k) 0 hi
      · have HI := Lib.hid (Tells.yes hin)
        have HIP : Hid (0 ≤ intN xs k ∧ intN xs k < lim) := Lib.hid (by have := HH.out; unfold InP at hin; omega)
        clear hin
        by_cases h0 : 0 < k
        · have hx2 := HQ.out.cell (hcell1 (k - 1) (by omega))
          have h0' : (0 : Int) < (k : Int) := nat_pos_int h0
          have hbnd : (k : Int) - 1 < (xs.length : Int) := by omega
          have hbnd0 : 0 ≤ (k : Int) - 1 := by omega
          have htn : ((k : Int) - 1).toNat = k - 1 := by omega
          have hd : decide ((0 : Int) < (k : Int)) = true := by simpa using h0
          clear hcell1
          by_cases hlp : intN xs (k - 1) < intN xs k
          · have hge : decide (intN xs k ≤ intN xs (k - 1)) = false := by simpa using hlp
            have HLP := Lib.hid hlp
            clear hlp
            go_wp2
            go_quiet ((go_at_call 75; exact QW.calls_same (l00In _ _ _ true _ HI.out)))
            go_wp2
            go_roundw
            case rel =>
              refine ⟨k + 1, by omega, by go_num, fun j hj => ?_, HQ.out.drewN _⟩
              by_cases hjk : j = k
              · subst hjk; exact ⟨HIP.out, fun _ => HLP.out⟩
              · exact HA.out j (by omega)
            case measure => simp [intOf]; omega
          · have hge : decide (intN xs k ≤ intN xs (k - 1)) = true := by simp; omega
            have HF := Lib.hid (HB.out.is_false fun h => hlp ((h k hlt).2 h0))
            clear hlp
            go_wp2
            go_quiet ((go_at_call 75; exact QW.calls_same (l00In _ _ _ true _ HI.out)))
            go_wp2
            go_ret
            exact ⟨ret_bool HF.out.symm, HQ.out.drewN _⟩
        · have hd : decide ((0 : Int) < (k : Int)) = false := by simpa using h0
          clear hcell1
          go_wp2
          go_quiet ((go_at_call 75; exact QW.calls_same (l00In _ _ _ true _ HI.out)))
          go_wp2
          go_roundw
          case rel =>
            refine ⟨k + 1, by omega, by go_num, fun j hj => ?_, HQ.out.drewN _⟩
            by_cases hjk : j = k
            · subst hjk; exact ⟨HIP.out, fun h => absurd h h0⟩
            · exact HA.out j (by omega)
          case measure => simp [intOf]; omega
      · have HI := Lib.hid (Tells.no hin)
        have HF := Lib.hid (HB.out.is_false fun h => hin (by have := (h k hlt).1; have := HH.out; unfold InP; omega))
        clear hin hcell1
        go_wp2
        go_quiet ((go_at_call 75; exact QW.calls_same (l00In _ _ _ false _ HI.out)))
        go_wp2
        go_ret
        exact ⟨ret_bool HF.out.symm, HQ.out.drewN _⟩
    · obtain rfl : k = xs.length := by omega
      have HF := Lib.hid (HB.out.is_true HA.out)
      go_wp2
      go_ret
      exact ⟨ret_bool HF.out.symm, HQ.out⟩

set_option maxHeartbeats 1000000 in
set_option maxRecDepth 100000 in
theorem isAscendingBelow (v : Value) (xs : List Int) (lim : Int) (b : Bool) (w : World) (h : RowAt w v xs) (hb : Tells b (RisesP xs lim)) :
    Calls Try.prog 89 #[v, .int .i64 lim] w fun e w' => e = .returned (.bool b) ∧ w = w' := by
  obtain ⟨a, c, rfl, hn, hc⟩ := h
  have HC := Lib.hid hc
  have HB := Lib.hid hb
  clear hc hb
  go_enter Try.func89, Try.ntmps89
  go_wp2
  go_loop [9] (fun i => ∃ k : Nat, k ≤ xs.length ∧ i = .int .i64 k ∧ (∀ j, j < k → RisesAt xs lim j)) (fun i => xs.length - (intOf i).toNat)
  case atStart => exact ⟨0, Nat.zero_le _, rfl, fun j hj => absurd hj (Nat.not_lt_zero _)⟩
  case round =>
    obtain ⟨k, hk, rfl, hall⟩ := hrel
    have HA := Lib.hid hall
    clear hall
    by_cases hlt : k < xs.length
    · obtain ⟨b1, off1, ha1, hcell1⟩ := HC.out (by omega)
      subst ha1
      have hx1 := hcell1 k hlt
      have hlt' : (k : Int) < (xs.length : Int) := by omega
      by_cases hin : 0 ≤ intN xs k
      · by_cases hin2 : intN xs k < lim
        · have HIP : Hid (0 ≤ intN xs k ∧ intN xs k < lim) := Lib.hid ⟨hin, hin2⟩
          by_cases h0 : 0 < k
          · have hx2 := hcell1 (k - 1) (by omega)
            have h0' : (0 : Int) < (k : Int) := nat_pos_int h0
            have hbnd : (k : Int) - 1 < (xs.length : Int) := by omega
            have hbnd0 : 0 ≤ (k : Int) - 1 := by omega
            have htn : ((k : Int) - 1).toNat = k - 1 := by omega
            clear hcell1
            by_cases hlp : intN xs (k - 1) < intN xs k
            · have HLP := Lib.hid hlp
              go_wp2
              go_round
              case rel =>
                refine ⟨k + 1, by omega, by go_num, fun j hj => ?_⟩
                by_cases hjk : j = k
                · subst hjk; exact ⟨HIP.out, fun _ => HLP.out⟩
                · exact HA.out j (by omega)
              case measure => simp [intOf]; omega
            · have HF := Lib.hid (HB.out.is_false fun h => hlp ((h k hlt).2 h0))
              have hge : intN xs k ≤ intN xs (k - 1) := by omega
              go_wp2
              go_ret
              exact ⟨ret_bool HF.out.symm, rfl⟩
          · have h0' : ¬ (0 : Int) < (k : Int) := by omega
            clear hcell1
            go_wp2
            go_round
            case rel =>
              refine ⟨k + 1, by omega, by go_num, fun j hj => ?_⟩
              by_cases hjk : j = k
              · subst hjk; exact ⟨HIP.out, fun h => absurd h h0⟩
              · exact HA.out j (by omega)
            case measure => simp [intOf]; omega
        · have HF := Lib.hid (HB.out.is_false fun h => hin2 (h k hlt).1.2)
          have hge : lim ≤ intN xs k := by omega
          clear hcell1
          go_wp2
          go_ret
          exact ⟨ret_bool HF.out.symm, rfl⟩
      · have HF := Lib.hid (HB.out.is_false fun h => hin (h k hlt).1.1)
        have hge : intN xs k < 0 := by omega
        clear hcell1
        go_wp2
        go_ret
        exact ⟨ret_bool HF.out.symm, rfl⟩
    · obtain rfl : k = xs.length := by omega
      have HF := Lib.hid (HB.out.is_true HA.out)
      go_wp2
      go_ret
      exact ⟨ret_bool HF.out.symm, rfl⟩

end Go.Proofs.Ytiinohkkfjbfhaa
