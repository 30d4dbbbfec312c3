/-
  Whether a relation is a part of another one: IsPartOf of the model and of the program, with what they call.
-/
import Derived.Test.YtbnmgonfmihicabDoorHas
import Derived.Deep.RegionHeld3
namespace Go.Proofs.YtbnmgonfmihicabDoor
open Go.RowKit

/-- The code of two relations that should be of one arity. -/
def TwoCode (size x : Int) (xs : List (List Int)) (y : Int) (ys : List (List Int)) (c : Int) : Prop :=
  (RelOk size x xs ∧ RelOk size y ys ∧ x = y ∧ c = 0) ∨ (RelOk size x xs ∧ RelOk size y ys ∧ x ≠ y ∧ c = 2) ∨ (RelOk size x xs ∧ ¬ RelOk size y ys ∧ c = 1) ∨ (¬ RelOk size x xs ∧ c = 1)
theorem TwoCode.exists (size x : Int) (xs : List (List Int)) (y : Int) (ys : List (List Int)) : ∃ c, TwoCode size x xs y ys c := by
  by_cases h1 : RelOk size x xs
  · by_cases h2 : RelOk size y ys
    · by_cases h3 : x = y
      · exact ⟨0, .inl ⟨h1, h2, h3, rfl⟩⟩
      · exact ⟨2, .inr (.inl ⟨h1, h2, h3, rfl⟩)⟩
    · exact ⟨1, .inr (.inr (.inl ⟨h1, h2, rfl⟩))⟩
  · exact ⟨1, .inr (.inr (.inr ⟨h1, rfl⟩))⟩

def PartP (xs ys : List (List Int)) : Prop := ∀ j, j < xs.length → HasP ys (rowN xs j)

/-- What IsPartOf answers. -/
def PartIs (size x : Int) (xs : List (List Int)) (y : Int) (ys : List (List Int)) (b : Bool) (c : Int) : Prop :=
  TwoCode size x xs y ys c ∧ ((c = 0 ∧ Tells b (PartP xs ys)) ∨ (c ≠ 0 ∧ b = false))
theorem PartIs.exists (size x : Int) (xs : List (List Int)) (y : Int) (ys : List (List Int)) : ∃ b c, PartIs size x xs y ys b c := by
  obtain ⟨c, hc⟩ := TwoCode.exists size x xs y ys
  by_cases h0 : c = 0
  · by_cases k : PartP xs ys
    · exact ⟨true, c, hc, .inl ⟨h0, Tells.yes k⟩⟩
    · exact ⟨false, c, hc, .inl ⟨h0, Tells.no k⟩⟩
  · exact ⟨false, c, hc, .inr ⟨h0, rfl⟩⟩
theorem TwoCode.ok {size x : Int} {xs : List (List Int)} {y : Int} {ys : List (List Int)} (h : TwoCode size x xs y ys 0) : RelOk size x xs ∧ RelOk size y ys ∧ x = y := by
  rcases h with ⟨r1, r2, hxy, _⟩ | ⟨_, _, _, h⟩ | ⟨_, _, h⟩ | ⟨_, h⟩
  · exact ⟨r1, r2, hxy⟩
  · exact absurd h (by decide)
  · exact absurd h (by decide)
  · exact absurd h (by decide)

end Go.Proofs.YtbnmgonfmihicabDoor
