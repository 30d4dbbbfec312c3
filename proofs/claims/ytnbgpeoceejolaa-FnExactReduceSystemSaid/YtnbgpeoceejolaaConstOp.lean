/-
  ConstantOp of the model and of the program; slices.Repeat of a list with one number.
-/
import Derived.Test.YtnbgpeoceejolaaTab
import Derived.Laws.CopyOwn
import Derived.Test.YtnbgpeoceejolaaReg
namespace Go.Proofs.Ytnbgpeoceejolaa
open Go.RowKit

theorem splice_same (q k m : Nat) (v : Int) (hk : k + m ≤ q) : splice (upto q k (fun _ => Value.int .i64 v) (.int .i64 0)) k (List.replicate m (Value.int .i64 v)) = upto q (k + m) (fun _ => Value.int .i64 v) (.int .i64 0) := by
  unfold splice
  apply List.ext_getElem?
  intro j
  have hl : (upto q k (fun _ => Value.int IntKind.i64 v) (Value.int IntKind.i64 0)).length = q := by simp [upto]
  rw [List.length_replicate]
  by_cases h1 : j < k
  · rw [List.getElem?_append_left (by rw [List.length_take, hl]; omega), List.getElem?_take_of_lt h1, upto_at _ _ _ _ _ (by omega), upto_at _ _ _ _ _ (by omega), if_pos h1, if_pos (by omega)]
  · rw [List.getElem?_append_right (by rw [List.length_take, hl]; omega), List.length_take, hl, show min k q = k by omega]
    by_cases h2 : j < k + m
    · rw [List.getElem?_append_left (by rw [List.length_replicate]; omega), upto_at _ _ _ _ _ (by omega), if_pos h2]
      simp [show j - k < m by omega]
    · rw [List.getElem?_append_right (by rw [List.length_replicate]; omega), List.length_replicate, List.getElem?_drop, show k + m + (j - k - m) = j by omega]
      by_cases h3 : j < q
      · rw [upto_at _ _ _ _ _ h3, upto_at _ _ _ _ _ h3, if_neg h1, if_neg h2]
      · rw [List.getElem?_eq_none (by rw [hl]; omega), List.getElem?_eq_none (by simp [upto]; omega)]

theorem pow_in {s r : Nat} (h1 : 1 ≤ s) (h2 : s ≤ 4) (h3 : 1 ≤ r) (h4 : r ≤ 3) : s ^ r ∈ [1, 2, 3, 4, 8, 9, 16, 27, 64] := by
  have hc : s = 1 ∨ s = 2 ∨ s = 3 ∨ s = 4 := by omega
  have hd : r = 1 ∨ r = 2 ∨ r = 3 := by omega
  rcases hc with rfl | rfl | rfl | rfl <;> rcases hd with rfl | rfl | rfl <;> decide

/-- What ConstantOp answers. -/
def ConstantOpIs (size ar v : Int) (x : Int) (t : List Int) (cd : Int) : Prop := OpAns (In14 size) (In13 ar ∧ InP v 0 (size - 1)) ar (rowF (fun _ => v) (size.toNat ^ ar.toNat)) x t cd
theorem ConstantOpIs.exists (size ar v : Int) : ∃ x t cd, ConstantOpIs size ar v x t cd := OpAns.exists _ _ _ _
theorem ConstantOpIs.small {size ar v : Int} {x : Int} {t : List Int} {cd : Int} (h : ConstantOpIs size ar v x t cd) : t.length ≤ 1048576 :=
  OpAns.small h fun h1 h2 => by
    have a := h1.1; have b := h1.2; have c := h2.1.2
    have := (pow_le3 (s := size.toNat) (r := ar.toNat) (by omega) (by omega) (by omega)).1
    rw [rowF_len]; omega
theorem own_awayC {w : World} {B e sz n : Nat} {v : Value} {xs : List Value} (h : w.ownsRow B e sz v n xs) (p : Nat) (hp : p < B) : v.ownBlock ≠ some p := fun e' => by have := (h.lt p e').1; omega


end Go.Proofs.Ytnbgpeoceejolaa
