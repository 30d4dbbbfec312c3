/-
  How many lists there are: tupleCount of the program, l01Power of the model.
-/
import Derived.Test.YtbnmgonfmihicabDoorValid
namespace Go.Proofs.YtbnmgonfmihicabDoor
open Go.RowKit

theorem pow_le4 {size : Nat} (h1 : 1 ≤ size) (h2 : size ≤ 4) (k : Nat) (hk : k ≤ 4) : size ^ k ≤ 256 ∧ 1 ≤ size ^ k := by
  have hc : size = 1 ∨ size = 2 ∨ size = 3 ∨ size = 4 := by omega
  have hd : k = 0 ∨ k = 1 ∨ k = 2 ∨ k = 3 ∨ k = 4 := by omega
  rcases hc with rfl | rfl | rfl | rfl <;> rcases hd with rfl | rfl | rfl | rfl | rfl <;> decide

set_option maxHeartbeats 1000000 in
theorem tupleCount (size ar : Nat) (h1 : 1 ≤ size) (h2 : size ≤ 4) (h4 : ar ≤ 4) (w : World) :
    Calls Tryd.prog 36 #[.int .i64 size, .int .i64 ar] w fun e w' => e = .returned (.int .i64 ((size ^ ar : Nat) : Int)) ∧ w = w' := by
  go_enter Tryd.func36, Tryd.ntmps36
  go_wp2
  go_loop [5, 7] (fun p i => ∃ k : Nat, k ≤ ar ∧ i = .int .i64 k ∧ p = .int .i64 ((size ^ k : Nat) : Int)) (fun _ i => ar - (intOf i).toNat)
  case atStart => exact ⟨0, Nat.zero_le _, rfl, rfl⟩
  case round =>
    obtain ⟨k, hk, rfl, rfl⟩ := hrel
    by_cases hlt : k < ar
    · have hlt' : (k : Int) < (ar : Int) := by omega
      have hp := pow_le4 h1 h2 k (by omega)
      have hs := Nat.pow_succ (n := size) (m := k)
      have hs2 := (pow_le4 h1 h2 (k + 1) (by omega)).1
      generalize size ^ k = p at *
      generalize hqq : size ^ (k + 1) = q at *
      have hm : (p : Int) * (size : Int) = (q : Int) := by rw [hs, Int.natCast_mul]
      have HQ := Lib.hid hqq
      clear hs hqq
      go_wp2
      go_round
      case rel => exact ⟨k + 1, by omega, by go_num, by rw [HQ.out]⟩
      case measure => simp [intOf]; omega
    · obtain rfl : k = ar := by omega
      go_wp2
      go_ret
      exact ⟨rfl, rfl⟩

set_option maxHeartbeats 1000000 in
theorem l01Power (size ar : Nat) (h1 : 1 ≤ size) (h2 : size ≤ 4) (h4 : ar ≤ 4) (w : World) :
    Calls Tryd.prog 59 #[.int .i64 size, .int .i64 ar] w fun e w' => e = .returned (.int .i64 ((size ^ ar : Nat) : Int)) ∧ w = w' := by
  go_enter Tryd.func59, Tryd.ntmps59
  go_wp2
  go_loop [1, 5] (fun i p => ∃ k : Nat, k ≤ ar ∧ i = .int .i64 ((ar - k : Nat) : Int) ∧ p = .int .i64 ((size ^ k : Nat) : Int)) (fun i _ => (intOf i).toNat)
  case atStart => exact ⟨0, Nat.zero_le _, rfl, rfl⟩
  case round =>
    obtain ⟨k, hk, rfl, rfl⟩ := hrel
    by_cases hlt : k < ar
    · have hlt' : (0 : Int) < ((ar - k : Nat) : Int) := by omega
      have hp := pow_le4 h1 h2 k (by omega)
      have hs := Nat.pow_succ (n := size) (m := k)
      have hs2 := (pow_le4 h1 h2 (k + 1) (by omega)).1
      generalize size ^ k = p at *
      generalize hqq : size ^ (k + 1) = q at *
      have hm : (p : Int) * (size : Int) = (q : Int) := by rw [hs, Int.natCast_mul]
      have HQ := Lib.hid hqq
      have HD : Hid (((ar - k : Nat) : Int) - 1 = ((ar - (k + 1) : Nat) : Int)) := by show _ = _; omega
      clear hs hqq
      go_wp2
      go_round
      case rel => exact ⟨k + 1, by omega, by rw [HD.out], by rw [HQ.out]⟩
      case measure => simp [intOf]; omega
    · obtain rfl : k = ar := by omega
      have hz : k - k = 0 := Nat.sub_self k
      go_wp2
      go_ret
      exact ⟨rfl, rfl⟩

end Go.Proofs.YtbnmgonfmihicabDoor
