/-
  The value of a list: ApplyOp of the model and of the program.
-/
import Derived.Test.YtnbgpeoceejolabOpOk
import Derived.Test.YtnbgpeoceejolabGSet
namespace Go.Proofs.Ytnbgpeoceejolab
open Go.RowKit

/-- What ApplyOp answers. -/
def ApplyOpIs (size ar : Int) (tab : List Int) (xs : List Int) (v cd : Int) : Prop :=
  (¬ OpOk size ar tab ∧ v = 0 ∧ cd = 1) ∨ (OpOk size ar tab ∧ ¬ TupP size ar xs ∧ v = 0 ∧ cd = 2) ∨ (OpOk size ar tab ∧ TupP size ar xs ∧ v = intN tab (codeN size xs) ∧ cd = 0)
theorem ApplyOpIs.exists (size ar : Int) (tab : List Int) (xs : List Int) : ∃ v cd, ApplyOpIs size ar tab xs v cd := by
  by_cases h : OpOk size ar tab
  · by_cases k : TupP size ar xs
    · exact ⟨_, _, .inr (.inr ⟨h, k, rfl, rfl⟩)⟩
    · exact ⟨_, _, .inr (.inl ⟨h, k, rfl, rfl⟩)⟩
  · exact ⟨_, _, .inl ⟨h, rfl, rfl⟩⟩

theorem In13.in14 {n : Int} (h : In13 n) : In14 n := ⟨h.1, by have := h.2; omega⟩

/-- The number of a list lies in the table. -/
theorem OpOk.lt {size ar : Int} {tab xs : List Int} (h : OpOk size ar tab) (k : TupP size ar xs) : codeN size xs < tab.length := by
  obtain ⟨hs, ha, ht⟩ := h
  obtain ⟨s, rfl⟩ : ∃ s : Nat, size = s := ⟨size.toNat, by have := hs.1; omega⟩
  obtain ⟨r, rfl⟩ : ∃ r : Nat, ar = r := ⟨ar.toNat, by have := ha.1; omega⟩
  have h1 : 1 ≤ s := by have := hs.1; omega
  have h2 := codeN_pow h1 k
  have h3 := ht.1
  simp only [Int.toNat_natCast] at h3
  omega

theorem SlAt.some_of {w : World} {a : Option Addr} {n c : Nat} {xs : List Int} (h : RowAt w (.slice a n c) xs) (k : Nat) (hk : k < xs.length) :
    ∃ b off, a = some ⟨b, off, none⟩ ∧ n = xs.length ∧ w.cell? ⟨b, off + k, none⟩ = some (.int .i64 (intN xs k)) := by
  obtain ⟨a', c', hv, hn, hc⟩ := h
  simp only [Value.slice.injEq] at hv
  obtain ⟨rfl, rfl, rfl⟩ := hv
  obtain ⟨b, off, ha, h⟩ := hc (by omega)
  exact ⟨b, off, ha, rfl, h k hk⟩

end Go.Proofs.Ytnbgpeoceejolab
