/-
  l07First of the model: the first number other than 0, or -1; l07Mod at small numbers.
-/
import Derived.Test.YtnbgpeoceejolaaGRel
namespace Go.Proofs.Ytnbgpeoceejolaa
open Go.RowKit

/-- The index of the first number other than 0, or -1. -/
def firstV (xs : List Int) : Int :=
  match xs.findIdx? (fun x => x != 0) with
  | some i => i
  | none => -1
theorem firstV_at {xs : List Int} {k : Nat} (hk : k < xs.length) (h : ∀ j, j < k → intN xs j = 0) (h0 : intN xs k ≠ 0) : firstV xs = k := by
  have e : xs.findIdx? (fun x => x != 0) = some k := by
    rw [List.findIdx?_eq_some_iff_getElem]
    refine ⟨hk, by rw [intN_at _ _ hk] at h0; simpa using h0, fun j hj => ?_⟩
    have := h j hj
    rw [intN_at _ _ (by omega)] at this
    simp [this]
  unfold firstV
  rw [e]
theorem firstV_none {xs : List Int} (h : ∀ j, j < xs.length → intN xs j = 0) : firstV xs = -1 := by
  have e : xs.findIdx? (fun x => x != 0) = none := by
    rw [List.findIdx?_eq_none_iff]
    intro x hx
    obtain ⟨j, hj, rfl⟩ := List.mem_iff_getElem.1 hx
    have := h j hj
    rw [intN_at _ _ hj] at this
    simp [this]
  unfold firstV
  rw [e]
theorem firstV_neg {xs : List Int} : firstV xs < 0 ↔ ∀ j, j < xs.length → intN xs j = 0 := by
  constructor
  · intro h
    unfold firstV at h
    cases e : xs.findIdx? (fun x => x != 0) with
    | some i => rw [e] at h; simp at h; omega
    | none =>
      intro j hj
      rw [List.findIdx?_eq_none_iff] at e
      have := e xs[j] (List.getElem_mem hj)
      rw [intN_at _ _ hj]
      simpa using this
  · intro h
    rw [firstV_none h]
    omega

set_option maxHeartbeats 400000 in
theorem l07First (v : Value) (xs : List Int) (w : World) (h : RowAt w v xs) :
    Calls Try.prog 91 #[v] w fun e w' => e = .returned (.int .i64 (firstV xs)) ∧ w = w' := by
  obtain ⟨a, c, rfl, hn, hc⟩ := h
  have HC := Lib.hid hc
  clear hc
  go_enter Try.func91, Try.ntmps91
  go_wp2
  go_loopw [3] (fun i wr => ∃ k : Nat, k ≤ xs.length ∧ i = .int .i64 k ∧ (∀ j, j < k → intN xs j = 0) ∧ w = wr) (fun i _ => xs.length - (intOf i).toNat)
  case atStart => exact ⟨0, Nat.zero_le _, rfl, fun j hj => absurd hj (Nat.not_lt_zero _), rfl⟩
  case round =>
    obtain ⟨k, hk, rfl, hall, rfl⟩ := hrel
    have HA := Lib.hid hall
    clear hall
    by_cases hlt : k < xs.length
    · obtain ⟨b, off, rfl, hcell⟩ := HC.out (by omega)
      have hx := hcell k hlt
      have hlt' : (k : Int) < (xs.length : Int) := by omega
      clear hcell
      by_cases h0 : intN xs k = 0
      · have HE := Lib.hid h0
        rw [h0] at hx
        clear h0
        go_wp2
        go_roundw
        case rel =>
          refine ⟨k + 1, by omega, by go_num, fun j hj => ?_, trivial⟩
          by_cases hjk : j = k
          · subst hjk; exact HE.out
          · exact HA.out j (by omega)
        case measure => simp [intOf]; omega
      · have HF := Lib.hid (firstV_at hlt HA.out h0)
        have hne : (intN xs k == 0) = false := beq_eq_false_iff_ne.2 h0
        have hne' : (intN xs k != 0) = true := bne_iff_ne.2 h0
        clear h0
        go_wp2
        go_ret
        exact ⟨ret_int HF.out.symm, rfl⟩
    · obtain rfl : k = xs.length := by omega
      have HF := Lib.hid (firstV_none HA.out)
      go_wp2
      go_ret
      exact ⟨ret_int HF.out.symm, rfl⟩

set_option linter.unusedSimpArgs false in
set_option maxHeartbeats 1000000 in
set_option maxRecDepth 100000 in
theorem l07ModW2 (a : Int) (ha : -9 ≤ a ∧ a ≤ 100) (w : World) : Calls Try.prog 189 #[.int .i64 a, .int .i64 2] w fun e w' => e = .returned (.int .i64 (a % 2)) ∧ w = w' := by
  obtain ⟨ha1, ha2⟩ := ha
  by_cases h0 : 0 ≤ a
  · go_enter Try.func189, Try.ntmps189
    go_wp2
    go_ret
    exact ⟨ret_int (by omega), rfl⟩
  obtain rfl | rfl | rfl | rfl | rfl | rfl | rfl | rfl | rfl : a = -9 ∨ a = -8 ∨ a = -7 ∨ a = -6 ∨ a = -5 ∨ a = -4 ∨ a = -3 ∨ a = -2 ∨ a = -1 := by omega
  all_goals
    go_enter Try.func189, Try.ntmps189
    go_wp2
    go_ret
    exact ⟨by rfl, rfl⟩

set_option linter.unusedSimpArgs false in
set_option maxHeartbeats 1000000 in
set_option maxRecDepth 100000 in
theorem l07ModW3 (a : Int) (ha : -9 ≤ a ∧ a ≤ 100) (w : World) : Calls Try.prog 189 #[.int .i64 a, .int .i64 3] w fun e w' => e = .returned (.int .i64 (a % 3)) ∧ w = w' := by
  obtain ⟨ha1, ha2⟩ := ha
  by_cases h0 : 0 ≤ a
  · go_enter Try.func189, Try.ntmps189
    go_wp2
    go_ret
    exact ⟨ret_int (by omega), rfl⟩
  obtain rfl | rfl | rfl | rfl | rfl | rfl | rfl | rfl | rfl : a = -9 ∨ a = -8 ∨ a = -7 ∨ a = -6 ∨ a = -5 ∨ a = -4 ∨ a = -3 ∨ a = -2 ∨ a = -1 := by omega
  all_goals
    go_enter Try.func189, Try.ntmps189
    go_wp2
    go_ret
    exact ⟨by rfl, rfl⟩

/-- l07Mod modulo a prime. -/
theorem l07ModP (p a : Int) (hp : p = 2 ∨ p = 3) (ha : -9 ≤ a ∧ a ≤ 100) (w : World) : Calls Try.prog 189 #[.int .i64 a, .int .i64 p] w fun e w' => e = .returned (.int .i64 (a % p)) ∧ w = w' := by
  rcases hp with rfl | rfl
  · exact l07ModW2 a ha w
  · exact l07ModW3 a ha w

end Go.Proofs.Ytnbgpeoceejolaa
