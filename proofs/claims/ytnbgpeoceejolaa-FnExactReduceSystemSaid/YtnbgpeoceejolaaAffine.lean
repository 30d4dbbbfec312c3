/-
  AffineOp of the program and of the model.
-/
import Derived.Test.YtnbgpeoceejolaaConstOp
import Derived.Test.YtnbgpeoceejolaaGSet
import Derived.Test.YtnbgpeoceejolaaDepends
import Derived.Deep.AppendLies
namespace Go.Proofs.Ytnbgpeoceejolaa
open Go.RowKit

/-- x - y + z of the digits of a number. -/
def affV (p n : Nat) : Int := ((digN p 3 n 0 : Int) - (digN p 3 n 1 : Int) + (digN p 3 n 2 : Int) + 6) % (p : Int)
def affL (p : Nat) : List Int := rowF (affV p) (p ^ 3)

set_option linter.unusedSimpArgs false in
set_option maxRecDepth 100000 in
theorem isPrimeC (p : Int) (b : Bool) (w : World) (hb : Tells b (p = 2 ∨ p = 3)) : Calls Try.prog 133 #[.int .i64 p] w fun e w' => e = .returned (.bool b) ∧ w = w' := by
  have HB := Lib.hid hb
  clear hb
  by_cases h2 : p = 2
  · subst h2
    have HF := Lib.hid (HB.out.is_true (.inl rfl))
    go_enter Try.func133, Try.ntmps133
    go_wp2
    go_ret
    exact ⟨ret_bool HF.out.symm, rfl⟩
  by_cases h3 : p = 3
  · subst h3
    have HF := Lib.hid (HB.out.is_true (.inr rfl))
    go_enter Try.func133, Try.ntmps133
    go_wp2
    go_ret
    exact ⟨ret_bool HF.out.symm, rfl⟩
  have n2 : (p == 2) = false := by simp [h2]
  have n3 : (p == 3) = false := by simp [h3]
  have HF := Lib.hid (HB.out.is_false fun h => by omega)
  clear h2 h3
  go_enter Try.func133, Try.ntmps133
  go_wp2
  go_ret
  exact ⟨ret_bool HF.out.symm, rfl⟩

set_option linter.unusedSimpArgs false in
set_option maxRecDepth 100000 in
theorem l07PrimeC (p : Int) (b : Bool) (w : World) (hb : Tells b (p = 2 ∨ p = 3)) : Calls Try.prog 130 #[.int .i64 p] w fun e w' => e = .returned (.bool b) ∧ w = w' := by
  have HB := Lib.hid hb
  clear hb
  by_cases h2 : p = 2
  · subst h2
    have HF := Lib.hid (HB.out.is_true (.inl rfl))
    go_enter Try.func130, Try.ntmps130
    go_wp2
    go_ret
    exact ⟨ret_bool HF.out.symm, rfl⟩
  by_cases h3 : p = 3
  · subst h3
    have HF := Lib.hid (HB.out.is_true (.inr rfl))
    go_enter Try.func130, Try.ntmps130
    go_wp2
    go_ret
    exact ⟨ret_bool HF.out.symm, rfl⟩
  have n2 : (p == 2) = false := by simp [h2]
  have n3 : (p == 3) = false := by simp [h3]
  have HF := Lib.hid (HB.out.is_false fun h => by omega)
  clear h2 h3
  go_enter Try.func130, Try.ntmps130
  go_wp2
  go_ret
  exact ⟨ret_bool HF.out.symm, rfl⟩


set_option linter.unusedSimpArgs false in
set_option maxRecDepth 100000 in
theorem l07Mod2 (a : Int) (ha : -2 ≤ a ∧ a ≤ 4) (w : World) : Calls Try.prog 189 #[.int .i64 a, .int .i64 2] w fun e w' => e = .returned (.int .i64 ((a + 6) % 2)) ∧ w = w' := by
  obtain rfl | rfl | rfl | rfl | rfl | rfl | rfl : a = -2 ∨ a = -1 ∨ a = 0 ∨ a = 1 ∨ a = 2 ∨ a = 3 ∨ a = 4 := by omega
  all_goals
    go_enter Try.func189, Try.ntmps189
    go_wp2
    go_ret
    exact ⟨by rfl, rfl⟩


set_option linter.unusedSimpArgs false in
set_option maxRecDepth 100000 in
theorem l07Mod3 (a : Int) (ha : -2 ≤ a ∧ a ≤ 4) (w : World) : Calls Try.prog 189 #[.int .i64 a, .int .i64 3] w fun e w' => e = .returned (.int .i64 ((a + 6) % 3)) ∧ w = w' := by
  obtain rfl | rfl | rfl | rfl | rfl | rfl | rfl : a = -2 ∨ a = -1 ∨ a = 0 ∨ a = 1 ∨ a = 2 ∨ a = 3 ∨ a = 4 := by omega
  all_goals
    go_enter Try.func189, Try.ntmps189
    go_wp2
    go_ret
    exact ⟨by rfl, rfl⟩


/-- What AffineOp answers. -/
def AffineOpIs (p : Int) (x : Int) (t : List Int) (cd : Int) : Prop := OpAns True (p = 2 ∨ p = 3) 3 (affL p.toNat) x t cd
theorem AffineOpIs.exists (p : Int) : ∃ x t cd, AffineOpIs p x t cd := OpAns.exists _ _ _ _
theorem AffineOpIs.small {p : Int} {x : Int} {t : List Int} {cd : Int} (h : AffineOpIs p x t cd) : t.length ≤ 1048576 :=
  OpAns.small h fun _ h2 => by
    unfold affL
    rw [rowF_len]
    rcases h2 with rfl | rfl <;> decide

end Go.Proofs.Ytnbgpeoceejolaa
