/-
  What an operation makes of lists of tuples, number by number: digits, first numbers, and the sums that give the number of the tuple that is made. No program in this text.
-/
import Derived.Test.YtoojgaaggdnpiaaApplyT
import Derived.Test.YtoojgaaggdnpiaaGSet
namespace Go.Proofs.Ytoojgaaggdnpiaa
open Go.RowKit

/-- The digits of a number, the highest first. -/
def digL (n m j : Nat) : List Nat := (List.range m).map fun t => j / n ^ (m - 1 - t) % n
theorem digL_len (n m j : Nat) : (digL n m j).length = m := by simp [digL]
theorem digL_zero (n j : Nat) : digL n 0 j = [] := by simp [digL]
theorem digL_succ {n m i j : Nat} (hi : i < n) (hj : j < n ^ m) : digL n (m + 1) (i * n ^ m + j) = i :: digL n m j := by
  have hn : 0 < n := by omega
  unfold digL
  rw [List.range_succ_eq_map, List.map_cons, List.map_map]
  congr 1
  · have hp : 0 < n ^ m := Nat.pow_pos hn
    show (i * n ^ m + j) / n ^ (m + 1 - 1 - 0) % n = i
    rw [show m + 1 - 1 - 0 = m by omega, Nat.mul_comm i, Nat.mul_add_div hp, Nat.div_eq_of_lt hj, Nat.add_zero, Nat.mod_eq_of_lt hi]
  · apply List.map_congr_left
    intro t ht
    have htm : t < m := by simpa using ht
    show (i * n ^ m + j) / n ^ (m + 1 - 1 - (t + 1)) % n = _
    have hp : 0 < n ^ (m - 1 - t) := Nat.pow_pos hn
    have e : n ^ m = n ^ (m - 1 - t) * (n * n ^ t) := by
      rw [← Nat.pow_succ', ← Nat.pow_add]; congr 1; omega
    rw [show m + 1 - 1 - (t + 1) = m - 1 - t by omega]
    have e2 : i * n ^ m + j = n ^ (m - 1 - t) * (i * (n * n ^ t)) + j := by rw [e]; ac_rfl
    rw [e2, Nat.mul_add_div hp, show i * (n * n ^ t) = n * (i * n ^ t) by ac_rfl, Nat.mul_add_mod]
theorem digL_lt {n m j : Nat} (hn : 0 < n) : ∀ x, x ∈ digL n m j → x < n := by
  intro x hx
  obtain ⟨t, -, rfl⟩ := List.mem_map.1 hx
  exact Nat.mod_lt _ hn
/-- The first number below N with P, if there is one. -/
def FirstJ (P : Nat → Prop) (N : Nat) : Option Nat → Prop
  | some j => j < N ∧ P j ∧ ∀ i, i < j → ¬ P i
  | none => ∀ i, i < N → ¬ P i
theorem FirstJ.uniq {P : Nat → Prop} {N : Nat} {o o' : Option Nat} (h : FirstJ P N o) (h' : FirstJ P N o') : o = o' := by
  cases o with
  | none => cases o' with
    | none => rfl
    | some j => exact absurd h'.2.1 (h j h'.1)
  | some j => cases o' with
    | none => exact absurd h.2.1 (h' j h.1)
    | some j' =>
      rcases Nat.lt_trichotomy j j' with hl | rfl | hl
      · exact absurd h.2.1 (h'.2.2 j hl)
      · rfl
      · exact absurd h'.2.1 (h.2.2 j' hl)
theorem FirstJ.exists (P : Nat → Prop) (N : Nat) : ∃ o, FirstJ P N o := by
  induction N with
  | zero => exact ⟨none, fun i hi => absurd hi (Nat.not_lt_zero _)⟩
  | succ N ih =>
    obtain ⟨o, h⟩ := ih
    cases o with
    | some j => exact ⟨some j, by have := h.1; omega, h.2⟩
    | none =>
      by_cases hp : P N
      · exact ⟨some N, by omega, hp, h⟩
      · exact ⟨none, fun i hi => by
          by_cases he : i = N
          · subst he; exact hp
          · exact h i (by omega)⟩
theorem FirstJ.congr {P Q : Nat → Prop} {N : Nat} (h : ∀ i, i < N → (P i ↔ Q i)) {o : Option Nat} (hp : FirstJ P N o) : FirstJ Q N o := by
  cases o with
  | none => exact fun i hi hq => hp i hi ((h i hi).2 hq)
  | some j => exact ⟨hp.1, (h j hp.1).1 hp.2.1, fun i hi hq => hp.2.2 i hi ((h i (by have := hp.1; omega)).2 hq)⟩
theorem lt_split {n M a : Nat} (hM : 0 < M) (h : a < n * M) : ∃ i j, i < n ∧ j < M ∧ a = i * M + j :=
  ⟨a / M, a % M, (Nat.div_lt_iff_lt_mul hM).2 h, Nat.mod_lt _ hM, by rw [Nat.mul_comm]; exact (Nat.div_add_mod a M).symm⟩
/-- A list of more numbers is found in a round. -/
theorem FirstJ.found {P : Nat → Prop} {n M i j : Nat} (hi : i < n) (hall : ∀ i', i' < i → ∀ j', j' < M → ¬ P (i' * M + j')) (h : FirstJ (fun j => P (i * M + j)) M (some j)) : FirstJ P (n * M) (some (i * M + j)) := by
  obtain ⟨h1, h2, h3⟩ := h
  have hM : 0 < M := by omega
  have hle : (i + 1) * M ≤ n * M := Nat.mul_le_mul_right _ hi
  rw [Nat.succ_mul] at hle
  refine ⟨by omega, h2, fun a ha hp => ?_⟩
  obtain ⟨i', j', hi', hj', rfl⟩ := lt_split (n := n) hM (show a < n * M by omega)
  rcases Nat.lt_trichotomy i' i with hl | rfl | hl
  · exact hall i' hl j' hj' hp
  · exact h3 j' (by omega) hp
  · have : (i + 1) * M ≤ i' * M := Nat.mul_le_mul_right _ hl
    rw [Nat.succ_mul] at this
    omega
theorem FirstJ.none_of {P : Nat → Prop} {n M : Nat} (hM : 0 < M) (hall : ∀ i', i' < n → ∀ j', j' < M → ¬ P (i' * M + j')) : FirstJ P (n * M) none := fun a ha => by
  obtain ⟨i', j', hi', hj', rfl⟩ := lt_split hM ha
  exact hall i' hi' j' hj'

theorem code_snocK (size : Int) (xs : List Int) (a : Int) : code size (xs ++ [a]) = code size xs * size + a := by
  unfold code
  rw [List.length_append]
  show codeK size (xs ++ [a]) xs.length * size + intN (xs ++ [a]) xs.length = _
  rw [codeK_same (xs := xs ++ [a]) (ys := xs) xs.length (fun j hj => by simp [intN, List.getD, List.getElem?_append_left hj])]
  congr 1
  simp [intN]
theorem colN_snoc (xss : List (List Int)) (x : List Int) (p : Nat) : colN (xss ++ [x]) p = colN xss p ++ [intN x p] := by simp [colN]
/-- The number of the values of some tuples at a place. -/
def cpre (s : Nat) (rows : List (List Int)) (p : Nat) : Nat := codeN s (colN rows p)
theorem cpre_nil (s p : Nat) : cpre s [] p = 0 := rfl
theorem code_nonneg {s : Nat} {xs : List Int} (hs : 1 ≤ s) (h : ∀ k, k < xs.length → 0 ≤ intN xs k ∧ intN xs k < s) : 0 ≤ code s xs ∧ code s xs < (s : Int) ^ xs.length :=
  codeK_range (by omega) _ h
theorem colN_in {s : Nat} {rows : List (List Int)} {p : Nat} (h : ∀ x, x ∈ rows → 0 ≤ intN x p ∧ intN x p < s) : ∀ k, k < (colN rows p).length → 0 ≤ intN (colN rows p) k ∧ intN (colN rows p) k < s := fun k hk => by
  have hk' : k < rows.length := by simpa [colN] using hk
  rw [intN_at _ _ hk]
  simp only [colN, List.getElem_map]
  exact h _ (List.getElem_mem hk')
theorem cpre_lt {s : Nat} {rows : List (List Int)} {p : Nat} (hs : 1 ≤ s) (h : ∀ x, x ∈ rows → 0 ≤ intN x p ∧ intN x p < s) : cpre s rows p < s ^ rows.length := by
  obtain ⟨h0, h1⟩ := code_nonneg hs (colN_in h)
  have e : (colN rows p).length = rows.length := by simp [colN]
  rw [e] at h1
  have : ((cpre s rows p : Nat) : Int) = code s (colN rows p) := by unfold cpre codeN; omega
  have h2 : ((cpre s rows p : Nat) : Int) < ((s ^ rows.length : Nat) : Int) := by rw [this]; simpa using h1
  omega
theorem cpre_snoc {s : Nat} {rows : List (List Int)} {x : List Int} {p : Nat} (hs : 1 ≤ s) (h : ∀ y, y ∈ rows → 0 ≤ intN y p ∧ intN y p < s) (hx : 0 ≤ intN x p) : cpre s (rows ++ [x]) p = cpre s rows p * s + (intN x p).toNat := by
  obtain ⟨h0, -⟩ := code_nonneg hs (colN_in h)
  unfold cpre codeN
  rw [colN_snoc, code_snocK]
  have h1 : 0 ≤ code s (colN rows p) * s := Int.mul_nonneg h0 (by omega)
  rw [Int.toNat_add h1 hx, Int.toNat_mul h0 (by omega)]
  simp
/-- What a place adds to the number of the tuple that is made with a last value. -/
def sumV (s q : Nat) (tab : List Int) (rows : List (List Int)) (p v : Nat) : Int := if p < q ∧ v < s then intN tab (cpre s rows p * s + v) * (s ^ (q - 1 - p) : Nat) else 0
theorem made_len (size : Int) (tab : List Int) (xss : List (List Int)) (k : Nat) : (madeN size tab xss k).length = k := by simp [madeN]
theorem made_at (size : Int) (tab : List Int) (xss : List (List Int)) (k p : Nat) (h : p < k) : intN (madeN size tab xss k) p = intN tab (codeN size (colN xss p)) := by
  rw [intN_at _ _ (by simpa [made_len] using h)]
  simp [madeN]
theorem horner1 (s : Int) (xs : List Int) : codeK s xs 1 = intN xs 0 := by simp [codeK]
theorem horner2 (s : Int) (xs : List Int) : codeK s xs 2 = intN xs 0 * s + intN xs 1 := by simp [codeK]
theorem horner3 (s : Int) (xs : List Int) : codeK s xs 3 = intN xs 0 * (s * s) + intN xs 1 * s + intN xs 2 := by
  simp only [codeK, Int.zero_mul, Int.zero_add, Int.add_mul, Int.mul_assoc]
theorem horner4 (s : Int) (xs : List Int) : codeK s xs 4 = intN xs 0 * (s * s * s) + intN xs 1 * (s * s) + intN xs 2 * s + intN xs 3 := by
  simp only [codeK, Int.zero_mul, Int.zero_add, Int.add_mul, Int.mul_assoc]
theorem num_sum {s q : Nat} {tab : List Int} {rows : List (List Int)} {last : List Int} (h1 : 1 ≤ s) (h3 : 1 ≤ q) (h4 : q ≤ 4) (hr : ∀ x, x ∈ rows → TupP s q x) (hl : TupP s q last) (ht : ∀ k, 0 ≤ intN tab k) :
    sumV s q tab rows 0 (intN last 0).toNat + sumV s q tab rows 1 (intN last 1).toNat + sumV s q tab rows 2 (intN last 2).toNat + sumV s q tab rows 3 (intN last 3).toNat = (codeN s (madeN s tab (rows ++ [last]) q) : Nat) := by
  have hlen : last.length = q := by have := hl.1; omega
  have hv : ∀ p, p < q → sumV s q tab rows p (intN last p).toNat = intN (madeN s tab (rows ++ [last]) q) p * (s ^ (q - 1 - p) : Nat) := fun p hp => by
    have hb := hl.2 p (by omega)
    unfold sumV
    rw [if_pos ⟨hp, by omega⟩, made_at _ _ _ _ _ hp]
    congr 2
    exact (cpre_snoc h1 (fun y hy => (hr y hy).2 p (by have := (hr y hy).1; omega)) hb.1).symm
  have hz : ∀ p, ¬ p < q → sumV s q tab rows p (intN last p).toNat = 0 := fun p hp => by unfold sumV; rw [if_neg (fun h => hp h.1)]
  have hn : ∀ p, 0 ≤ intN (madeN s tab (rows ++ [last]) q) p := fun p => by
    by_cases hp : p < q
    · rw [made_at _ _ _ _ _ hp]; exact ht _
    · have : (madeN (↑s) tab (rows ++ [last]) q)[p]? = none := List.getElem?_eq_none (by rw [made_len]; omega)
      simp [intN, List.getD, this]
  generalize hM : madeN (s : Int) tab (rows ++ [last]) q = M at *
  have hML : M.length = q := by rw [← hM, made_len]
  have hcode : code s M = codeK s M q := by unfold code; rw [hML]
  have hs0 : 0 ≤ code s M := by
    unfold code
    rw [hML]
    have : ∀ k, 0 ≤ codeK s M k := fun k => by
      induction k with
      | zero => exact Int.le_refl _
      | succ k ih => unfold codeK; exact Int.add_nonneg (Int.mul_nonneg ih (by omega)) (hn k)
    exact this q
  have hc : ((codeN s M : Nat) : Int) = codeK s M q := by rw [← hcode]; unfold codeN; omega
  rw [hc]
  have e2 : ((s ^ 2 : Nat) : Int) = (s : Int) * s := by rw [Nat.pow_two]; simp
  have e3 : ((s ^ 3 : Nat) : Int) = (s : Int) * s * s := by rw [Nat.pow_succ, Nat.pow_two]; simp
  obtain rfl | rfl | rfl | rfl : q = 1 ∨ q = 2 ∨ q = 3 ∨ q = 4 := by omega
  · rw [hv 0 (by omega), hz 1 (by omega), hz 2 (by omega), hz 3 (by omega), horner1]; simp
  · rw [hv 0 (by omega), hv 1 (by omega), hz 2 (by omega), hz 3 (by omega), horner2]; simp
  · rw [hv 0 (by omega), hv 1 (by omega), hv 2 (by omega), hz 3 (by omega), horner3]
    simp only [show 3 - 1 - 0 = 2 by rfl, show 3 - 1 - 1 = 1 by rfl, show 3 - 1 - 2 = 0 by rfl, e2]; simp
  · rw [hv 0 (by omega), hv 1 (by omega), hv 2 (by omega), hv 3 (by omega), horner4]
    simp only [show 4 - 1 - 0 = 3 by rfl, show 4 - 1 - 1 = 2 by rfl, show 4 - 1 - 2 = 1 by rfl, show 4 - 1 - 3 = 0 by rfl, e2, e3]; simp

end Go.Proofs.Ytoojgaaggdnpiaa
