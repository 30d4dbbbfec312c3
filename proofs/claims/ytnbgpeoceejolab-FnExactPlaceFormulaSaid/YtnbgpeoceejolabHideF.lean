/-
  HideVariable of the model and of the program.
-/
import Derived.Test.YtnbgpeoceejolabRenamed
import Derived.Test.YtnbgpeoceejolabAtomF
import Derived.Test.YtnbgpeoceejolabFormOk3
import Derived.Test.YtnbgpeoceejolabKept3
import Derived.Test.YtnbgpeoceejolabDepends
namespace Go.Proofs.Ytnbgpeoceejolab
open Go.RowKit

/-- What a variable becomes when the variable p of n is hidden; so far as the first k are done. -/
def hidR (n p v : Nat) : Int := if v = p then (n : Int) - 1 else if p < v then (v : Int) - 1 else (v : Int)
def hidK (p k v : Nat) : Int := if p < v ∧ v < k then (v : Int) - 1 else (v : Int)
theorem hidK_self (p k : Nat) : hidK p k k = (k : Int) := by simp [hidK]
theorem hidK_start (p m : Nat) : rowF (hidK p (p + 1)) m = cnts m := by
  unfold cnts
  refine rowF_congr (G := fun i => (i : Int)) fun i _ => ?_
  unfold hidK
  rw [if_neg (by omega)]
theorem hidK_step (p k : Nat) (h : p + 1 ≤ k) {m : Nat} : ∀ i, i < m → (if i = k then (k : Int) - 1 else hidK p k i) = hidK p (k + 1) i := by
  intro i _
  unfold hidK
  by_cases hik : i = k
  · subst hik; rw [if_pos rfl, if_pos ⟨by omega, by omega⟩]
  · rw [if_neg hik]
    by_cases h2 : p < i ∧ i < k
    · rw [if_pos h2, if_pos ⟨h2.1, by omega⟩]
    · rw [if_neg h2, if_neg (by omega)]
theorem hidK_end (p m : Nat) : ∀ i, i < m → (if i = p then (m : Int) - 1 else hidK p m i) = hidR m p i := by
  intro i hi
  unfold hidK hidR
  by_cases hip : i = p
  · rw [if_pos hip, if_pos hip]
  · rw [if_neg hip, if_neg hip]
    by_cases h2 : p < i
    · rw [if_pos ⟨h2, hi⟩, if_pos h2]
    · rw [if_neg (fun h => h2 h.1), if_neg h2]
theorem rowF_set (G : Nat → Int) (n k : Nat) (x : Int) : (rowF G n).set k x = rowF (fun i => if i = k then x else G i) n := by
  unfold rowF
  apply List.ext_getElem?
  intro j
  rw [List.getElem?_set]
  by_cases hj : k = j
  · subst hj
    by_cases h : k < n <;> simp [h]
  · rw [if_neg hj]
    by_cases h : j < n
    · simp [h, show ¬ j = k from fun e => hj e.symm]
    · simp [h]

/-- What HideVariable answers. -/
def HideVariableIs (sz : Int) (rs : List (Int × List (List Int))) (fr va : Int) (fs : List (Int × List Int)) (var x y : Int) (zs : List (Int × List Int)) (cd : Int) : Prop :=
  (FormOk sz rs fr va fs ∧ InP var 0 (fr - 1) ∧ fr ≠ 1 ∧ x = fr - 1 ∧ y = va ∧ zs = movedL fs (rowF (hidR va.toNat var.toNat) va.toNat) ∧ cd = 0)
  ∨ (FormOk sz rs fr va fs ∧ InP var 0 (fr - 1) ∧ fr = 1 ∧ x = 0 ∧ y = 0 ∧ zs = [] ∧ cd = 4)
  ∨ (FormOk sz rs fr va fs ∧ ¬ InP var 0 (fr - 1) ∧ x = 0 ∧ y = 0 ∧ zs = [] ∧ cd = 2)
  ∨ (¬ FormOk sz rs fr va fs ∧ x = 0 ∧ y = 0 ∧ zs = [] ∧ cd = 1)
theorem HideVariableIs.exists (sz : Int) (rs : List (Int × List (List Int))) (fr va : Int) (fs : List (Int × List Int)) (var : Int) : ∃ x y zs cd, HideVariableIs sz rs fr va fs var x y zs cd := by
  by_cases h : FormOk sz rs fr va fs
  · by_cases h2 : InP var 0 (fr - 1)
    · by_cases h3 : fr = 1
      · exact ⟨_, _, _, _, .inr (.inl ⟨h, h2, h3, rfl, rfl, rfl, rfl⟩)⟩
      · exact ⟨_, _, _, _, .inl ⟨h, h2, h3, rfl, rfl, rfl, rfl⟩⟩
    · exact ⟨_, _, _, _, .inr (.inr (.inl ⟨h, h2, rfl, rfl, rfl, rfl⟩))⟩
  · exact ⟨_, _, _, _, .inr (.inr (.inr ⟨h, rfl, rfl, rfl, rfl⟩))⟩
theorem rowO_movedL (rs : List (Int × List Int)) (q : List Int) (k : Nat) (h : k < rs.length) : rowO (movedL rs q) k = mapped q (rowO rs k) := by
  simp [rowO, movedL, List.getD, h]
theorem partO_mul (rs : List (Int × List Int)) (m n : Nat) (h : ∀ k, k < n → (rowO rs k).length ≤ m) : partO rs n ≤ n * m := by
  induction n with
  | zero => simp [partO]
  | succ n ih =>
    have h1 := ih fun k hk => h k (by omega)
    have h2 := h n (by omega)
    rw [partO_succ, Nat.succ_mul]
    omega
theorem HideVariableIs.small {sz : Int} {rs : List (Int × List (List Int))} {fr va : Int} {fs : List (Int × List Int)} {var x y : Int} {zs : List (Int × List Int)} {cd : Int} (h : HideVariableIs sz rs fr va fs var x y zs cd) : opsSize zs ≤ 1048576 := by
  rcases h with ⟨hf, -, -, -, -, rfl, -⟩ | ⟨-, -, -, -, -, rfl, -⟩ | ⟨-, -, -, -, rfl, -⟩ | ⟨-, -, -, rfl, -⟩
  · have hc := hf.2.1.2.2
    have h1 := partO_mul (movedL fs (rowF (hidR va.toNat var.toNat) va.toNat)) 4 fs.length fun k hk => by
      rw [rowO_movedL _ _ _ hk, mapped_len]
      have := (hf.text.2 k hk).2.1.2
      omega
    unfold opsSize
    rw [movedL_len]
    omega
  · simp [opsSize, partO]
  · simp [opsSize, partO]
  · simp [opsSize, partO]

end Go.Proofs.Ytnbgpeoceejolab
