/-
  The closures of isMajority, isMinority and isMaltsev.
-/
import Derived.Test.YtclhcnfgpkhplaaKinds11
namespace Go.Proofs.Ytclhcnfgpkhplaa
open Go.RowKit

set_option linter.unusedSimpArgs false in
set_option maxRecDepth 100000 in
theorem isMajority1 (x y l m f : Int) (b : Bool) (w : World) (hb : Tells b (l = x ∧ m = x ∧ f = x)) :
    Calls Try.prog 174 #[.int .i64 x, .int .i64 y, .int .i64 l, .int .i64 m, .int .i64 f] w fun e w' => e = .returned (.bool b) ∧ w = w' := by
  have HB := Lib.hid hb
  clear hb
  by_cases e0 : l = x
  · have n0 : (l == x) = true := by simp [e0]
    by_cases e1 : m = x
    · have n1 : (m == x) = true := by simp [e1]
      by_cases e2 : f = x
      · have n2 : (f == x) = true := by simp [e2]
        have HF := Lib.hid (HB.out.is_true ⟨e0, e1, e2⟩)
        go_enter Try.func174, Try.ntmps174
        go_wp2
        go_ret
        exact ⟨ret_bool HF.out.symm, rfl⟩
      · have n2 : (f == x) = false := by simp [e2]
        have HF := Lib.hid (HB.out.is_false fun h => e2 h.2.2)
        go_enter Try.func174, Try.ntmps174
        go_wp2
        go_ret
        exact ⟨ret_bool HF.out.symm, rfl⟩
    · have n1 : (m == x) = false := by simp [e1]
      have HF := Lib.hid (HB.out.is_false fun h => e1 h.2.1)
      go_enter Try.func174, Try.ntmps174
      go_wp2
      go_ret
      exact ⟨ret_bool HF.out.symm, rfl⟩
  · have n0 : (l == x) = false := by simp [e0]
    have HF := Lib.hid (HB.out.is_false fun h => e0 h.1)
    go_enter Try.func174, Try.ntmps174
    go_wp2
    go_ret
    exact ⟨ret_bool HF.out.symm, rfl⟩

set_option linter.unusedSimpArgs false in
set_option maxRecDepth 100000 in
theorem isMinority1 (x y l m f : Int) (b : Bool) (w : World) (hb : Tells b (l = y ∧ m = y ∧ f = y)) :
    Calls Try.prog 175 #[.int .i64 x, .int .i64 y, .int .i64 l, .int .i64 m, .int .i64 f] w fun e w' => e = .returned (.bool b) ∧ w = w' := by
  have HB := Lib.hid hb
  clear hb
  by_cases e0 : l = y
  · have n0 : (l == y) = true := by simp [e0]
    by_cases e1 : m = y
    · have n1 : (m == y) = true := by simp [e1]
      by_cases e2 : f = y
      · have n2 : (f == y) = true := by simp [e2]
        have HF := Lib.hid (HB.out.is_true ⟨e0, e1, e2⟩)
        go_enter Try.func175, Try.ntmps175
        go_wp2
        go_ret
        exact ⟨ret_bool HF.out.symm, rfl⟩
      · have n2 : (f == y) = false := by simp [e2]
        have HF := Lib.hid (HB.out.is_false fun h => e2 h.2.2)
        go_enter Try.func175, Try.ntmps175
        go_wp2
        go_ret
        exact ⟨ret_bool HF.out.symm, rfl⟩
    · have n1 : (m == y) = false := by simp [e1]
      have HF := Lib.hid (HB.out.is_false fun h => e1 h.2.1)
      go_enter Try.func175, Try.ntmps175
      go_wp2
      go_ret
      exact ⟨ret_bool HF.out.symm, rfl⟩
  · have n0 : (l == y) = false := by simp [e0]
    have HF := Lib.hid (HB.out.is_false fun h => e0 h.1)
    go_enter Try.func175, Try.ntmps175
    go_wp2
    go_ret
    exact ⟨ret_bool HF.out.symm, rfl⟩

set_option linter.unusedSimpArgs false in
set_option maxRecDepth 100000 in
theorem isMaltsev1 (x y l m f : Int) (b : Bool) (w : World) (hb : Tells b (l = y ∧ f = y)) :
    Calls Try.prog 176 #[.int .i64 x, .int .i64 y, .int .i64 l, .int .i64 m, .int .i64 f] w fun e w' => e = .returned (.bool b) ∧ w = w' := by
  have HB := Lib.hid hb
  clear hb
  by_cases e0 : l = y
  · have n0 : (l == y) = true := by simp [e0]
    by_cases e1 : f = y
    · have n1 : (f == y) = true := by simp [e1]
      have HF := Lib.hid (HB.out.is_true ⟨e0, e1⟩)
      go_enter Try.func176, Try.ntmps176
      go_wp2
      go_ret
      exact ⟨ret_bool HF.out.symm, rfl⟩
    · have n1 : (f == y) = false := by simp [e1]
      have HF := Lib.hid (HB.out.is_false fun h => e1 h.2)
      go_enter Try.func176, Try.ntmps176
      go_wp2
      go_ret
      exact ⟨ret_bool HF.out.symm, rfl⟩
  · have n0 : (l == y) = false := by simp [e0]
    have HF := Lib.hid (HB.out.is_false fun h => e0 h.1)
    go_enter Try.func176, Try.ntmps176
    go_wp2
    go_ret
    exact ⟨ret_bool HF.out.symm, rfl⟩
end Go.Proofs.Ytclhcnfgpkhplaa
