/-
  The order of tuples: l01Before of the model, slices.Compare of the library at []int64.
-/
import Derived.Test.YtpkmdieaifggoabDoorValid
namespace Go.Proofs.YtpkmdieaifggoabDoor
open Go.RowKit

/-- xs comes before ys, a list of its length. -/
def LtP (xs ys : List Int) : Prop := ∃ k, k < xs.length ∧ (∀ j, j < k → intN xs j = intN ys j) ∧ intN xs k < intN ys k

theorem LtP.not_of_eq {xs ys : List Int} (h : ∀ j, j < xs.length → intN xs j = intN ys j) : ¬ LtP xs ys := by
  rintro ⟨k, hk, _, hlt⟩
  have := h k hk
  omega

theorem LtP.decided {xs ys : List Int} {k : Nat} (hk : k < xs.length) (h : ∀ j, j < k → intN xs j = intN ys j) (hne : intN xs k ≠ intN ys k) : LtP xs ys ↔ intN xs k < intN ys k := by
  refine ⟨?_, fun hlt => ⟨k, hk, h, hlt⟩⟩
  rintro ⟨m, hm, hall, hlt⟩
  rcases Nat.lt_trichotomy m k with h1 | h1 | h1
  · have := h m h1
    omega
  · subst h1; exact hlt
  · exact absurd (hall k h1) hne

/-- what a comparison tells -/
def cmpI (x y : Int) : Int := if x < y then -1 else if y < x then 1 else 0

/-- c is what the comparison of two lists of one length tells: whether the first one comes before. -/
def CmpIs (c : Int) (xs ys : List Int) : Prop := (xs = ys → c = 0) ∧ ∀ k, k < xs.length → (∀ j, j < k → intN xs j = intN ys j) → intN xs k ≠ intN ys k → c = cmpI (intN xs k) (intN ys k)

theorem CmpIs.lt {c : Int} {xs ys : List Int} (h : CmpIs c xs ys) (k : LtP xs ys) : c = -1 := by
  obtain ⟨m, hm, hall, hlt⟩ := k
  rw [h.2 m hm hall (by omega)]
  unfold cmpI
  rw [if_pos hlt]

theorem first_apart {xs ys : List Int} (hl : xs.length = ys.length) (hne : xs ≠ ys) : ∃ k, k < xs.length ∧ (∀ j, j < k → intN xs j = intN ys j) ∧ intN xs k ≠ intN ys k := by
  have h : ∀ n, n ≤ xs.length → (∀ j, j < n → intN xs j = intN ys j) ∨ ∃ k, k < xs.length ∧ (∀ j, j < k → intN xs j = intN ys j) ∧ intN xs k ≠ intN ys k := by
    intro n
    induction n with
    | zero => intro _; exact .inl fun j hj => absurd hj (Nat.not_lt_zero _)
    | succ n ih =>
      intro hn
      rcases ih (by omega) with h1 | h1
      · by_cases he : intN xs n = intN ys n
        · refine .inl fun j hj => ?_
          by_cases hjn : j = n
          · subst hjn; exact he
          · exact h1 j (by omega)
        · exact .inr ⟨n, by omega, h1, he⟩
      · exact .inr h1
  rcases h xs.length (Nat.le_refl _) with h1 | h1
  · exact absurd (row_ext hl h1) hne
  · exact h1

theorem CmpIs.exists (xs ys : List Int) (hl : xs.length = ys.length) : ∃ c, CmpIs c xs ys ∧ (0 ≤ c ↔ ¬ LtP xs ys) ∧ -1 ≤ c ∧ c ≤ 1 := by
  by_cases he : xs = ys
  · subst he
    exact ⟨0, ⟨fun _ => rfl, fun k _ _ hne => absurd rfl hne⟩, ⟨fun _ => LtP.not_of_eq fun _ _ => rfl, fun _ => Int.le_refl _⟩, by omega, by omega⟩
  · obtain ⟨k, hk, hall, hne⟩ := first_apart hl he
    refine ⟨cmpI (intN xs k) (intN ys k), ⟨fun e => absurd e he, fun m hm hallm hnem => ?_⟩, ?_, ?_, ?_⟩
    · rcases Nat.lt_trichotomy m k with h1 | h1 | h1
      · exact absurd (hall m h1) hnem
      · subst h1; rfl
      · exact absurd (hallm k h1) hne
    · rw [LtP.decided hk hall hne]
      unfold cmpI
      by_cases h1 : intN xs k < intN ys k
      · simp [h1]
      · by_cases h2 : intN ys k < intN xs k
        · simp [h1, h2]
        · simp [h1, h2]
    · unfold cmpI; split <;> (try split) <;> omega
    · unfold cmpI; split <;> (try split) <;> omega

end Go.Proofs.YtpkmdieaifggoabDoor
