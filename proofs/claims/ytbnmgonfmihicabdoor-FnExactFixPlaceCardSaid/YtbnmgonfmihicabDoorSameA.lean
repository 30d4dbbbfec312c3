/-
  Equal relations: SameRel of the model and of the program, with what they call.
-/
import Derived.Test.YtbnmgonfmihicabDoorRelOk
namespace Go.Proofs.YtbnmgonfmihicabDoor
open Go.RowKit

set_option maxHeartbeats 400000 in
theorem l00Same (v1 v2 : Value) (xs ys : List Int) (w : World) (h1 : RowAt w v1 xs) (h2 : RowAt w v2 ys) :
    Calls Tryd.prog 68 #[v1, v2] w fun e w' => e = .returned (.bool (eqB xs ys)) ∧ QW w w' := by
  obtain ⟨a1, c1, rfl, hn1, hc1⟩ := h1
  obtain ⟨a2, c2, rfl, hn2, hc2⟩ := h2
  have HC1 := Lib.hid hc1
  have HC2 := Lib.hid hc2
  clear hc1 hc2
  by_cases hl : xs.length = ys.length
  · rw [← hl] at hn2 HC2 ⊢
    have HL := Lib.hid hl
    clear hl
    go_enter Tryd.func68, Tryd.ntmps68
    go_wp2
    go_loopw [5] (fun i wr => ∃ k : Nat, k ≤ xs.length ∧ i = .int .i64 k ∧ (∀ j, j < k → intN xs j = intN ys j) ∧ QW w wr) (fun i _ => xs.length - (intOf i).toNat)
    case atStart => exact ⟨0, Nat.zero_le _, rfl, fun j hj => absurd hj (Nat.not_lt_zero _), QW.refl _⟩
    case round =>
      obtain ⟨k, hk, rfl, hall, hq⟩ := hrel
      have HA := Lib.hid hall
      have HQ := Lib.hid hq
      clear hall hq
      by_cases hlt : k < xs.length
      · obtain ⟨b1, off1, ha1, hcell1⟩ := HC1.out (by omega)
        subst ha1
        obtain ⟨b2, off2, ha2, hcell2⟩ := HC2.out (by omega)
        subst ha2
        have hx1 := HQ.out.cell (hcell1 k hlt)
        have hx2 := HQ.out.cell (hcell2 k hlt)
        have hlt' : (k : Int) < (xs.length : Int) := by omega
        clear hcell1 hcell2
        by_cases he : intN xs k = intN ys k
        · have HE := Lib.hid he
          rw [← he] at hx2
          clear he
          go_wp2
          go_quiet (fail)
          go_wp2
          go_roundw
          case rel =>
            refine ⟨k + 1, by omega, by go_num, fun j hj => ?_, HQ.out.drewN _⟩
            by_cases hjk : j = k
            · subst hjk; exact HE.out
            · exact HA.out j (by omega)
          case measure => simp [intOf]; omega
        · have HF := Lib.hid (eqB_no (x := xs) (y := ys) (fun e => he (by rw [e])))
          have hne : (intN xs k == intN ys k) = false := by simpa using he
          go_wp2
          go_quiet (fail)
          go_wp2
          go_ret
          exact ⟨ret_bool HF.out.symm, HQ.out.drewN _⟩
      · obtain rfl : k = xs.length := by omega
        have HF := Lib.hid (eqB_yes (row_ext HL.out HA.out))
        go_wp2
        go_ret
        exact ⟨ret_bool HF.out.symm, HQ.out⟩
  · have HF := Lib.hid (eqB_no (x := xs) (y := ys) (fun e => hl (by rw [e])))
    have hlb : ((xs.length : Int) == ys.length) = false := beq_eq_false_iff_ne.2 (by omega)
    go_enter Tryd.func68, Tryd.ntmps68
    go_wp2
    go_ret
    exact ⟨ret_bool HF.out.symm, QW.refl _⟩

theorem l00Same' (v1 v2 : Value) (xs ys : List Int) (b : Bool) (w : World) (h1 : RowAt w v1 xs) (h2 : RowAt w v2 ys) (hb : eqB xs ys = b) :
    Calls Tryd.prog 68 #[v1, v2] w fun e w' => e = .returned (.bool b) ∧ QW w w' := hb ▸ l00Same v1 v2 xs ys w h1 h2

end Go.Proofs.YtbnmgonfmihicabDoor
