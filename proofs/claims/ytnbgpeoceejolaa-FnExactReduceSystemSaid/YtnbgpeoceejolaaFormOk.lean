/-
  Valid formulas: ValidFormula of the model and of the program.
-/
import Derived.Test.YtnbgpeoceejolaaFormula
import Derived.Test.YtnbgpeoceejolaaGMaps
import Derived.Test.YtnbgpeoceejolaaAtP
namespace Go.Proofs.Ytnbgpeoceejolaa
open Go.RowKit

/-- The arity of an atom; 0 if there is no such relation. -/
def arityOf (rs : List (Int × List (List Int))) (rel : Int) : Int := if rel = -1 then 2 else if 0 ≤ rel ∧ rel < rs.length then arN rs rel.toNat else 0
theorem arityOf_eq (rs : List (Int × List (List Int))) : arityOf rs (-1) = 2 := by simp [arityOf]
theorem arityOf_in {rs : List (Int × List (List Int))} {k : Nat} (h : k < rs.length) : arityOf rs (k : Int) = arN rs k := by
  unfold arityOf
  rw [if_neg (by omega), if_pos ⟨by omega, by omega⟩, Int.toNat_natCast]
theorem arityOf_out {rs : List (Int × List (List Int))} {rel : Int} (h1 : rel ≠ -1) (h2 : ¬ (0 ≤ rel ∧ rel < rs.length)) : arityOf rs rel = 0 := by
  unfold arityOf
  rw [if_neg h1, if_neg h2]
def AtomOk (rs : List (Int × List (List Int))) (va rel : Int) (args : List Int) : Prop := arityOf rs rel ≠ 0 ∧ (args.length : Int) = arityOf rs rel ∧ PlP args va
def CountsOk (fr va : Int) (n : Nat) : Prop := In14 fr ∧ InP va fr 8 ∧ n ≤ 16
def FormOk (sz : Int) (rs : List (Int × List (List Int))) (fr va : Int) (fs : List (Int × List Int)) : Prop := TplOk sz rs ∧ CountsOk fr va fs.length ∧ ∀ k, k < fs.length → AtomOk rs va (arO fs k) (rowO fs k)
def ValidFormulaIs (sz : Int) (rs : List (Int × List (List Int))) (fr va : Int) (fs : List (Int × List Int)) (b : Bool) : Prop := Tells b (FormOk sz rs fr va fs)
theorem Tells.exists' (p : Prop) : ∃ b, Tells b p := by
  by_cases h : p
  · exact ⟨true, Tells.yes h⟩
  · exact ⟨false, Tells.no h⟩
theorem ValidFormulaIs.exists (sz : Int) (rs : List (Int × List (List Int))) (fr va : Int) (fs : List (Int × List Int)) : ∃ b, ValidFormulaIs sz rs fr va fs b := Tells.exists' _

end Go.Proofs.Ytnbgpeoceejolaa
