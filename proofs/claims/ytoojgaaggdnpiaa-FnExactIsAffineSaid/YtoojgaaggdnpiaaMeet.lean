/-
  The tuples of both of two relations: l01Meet and MeetRels of the model, MeetRels of the program.
-/
import Derived.Test.YtoojgaaggdnpiaaGrowAt
import Derived.Test.YtoojgaaggdnpiaaJoinS
import Derived.Test.YtoojgaaggdnpiaaRelOf
import Derived.Test.YtoojgaaggdnpiaaReg
namespace Go.Proofs.Ytoojgaaggdnpiaa
open Go.RowKit

def meetL (xs ys : List (List Int)) : List (List Int) := xs.filter fun t => decide (t ∈ ys)
theorem meetL_nil (ys : List (List Int)) : meetL [] ys = [] := rfl
theorem meetL_snoc_in {xs ys : List (List Int)} {t : List Int} (h : t ∈ ys) : meetL (xs ++ [t]) ys = meetL xs ys ++ [t] := by simp [meetL, List.filter_append, h]
theorem meetL_snoc_out {xs ys : List (List Int)} {t : List Int} (h : ¬ t ∈ ys) : meetL (xs ++ [t]) ys = meetL xs ys := by simp [meetL, List.filter_append, h]
theorem meetL_len (xs ys : List (List Int)) : (meetL xs ys).length ≤ xs.length := List.length_filter_le _ _
theorem hasP_mem {xss : List (List Int)} {t : List Int} : HasP xss t ↔ t ∈ xss := mem_rowN.symm

theorem RelOk.few {size ar : Int} {xss : List (List Int)} (h : RelOk size ar xss) : xss.length ≤ 256 := by
  have e1 := h.1.1
  have e2 := h.1.2
  have e3 := h.2.1.1
  have e4 := h.2.1.2
  obtain ⟨s, rfl⟩ : ∃ s : Nat, size = s := ⟨size.toNat, by omega⟩
  obtain ⟨r, rfl⟩ : ∃ r : Nat, ar = r := ⟨ar.toNat, by omega⟩
  have := rowsS_asc (by omega) (by omega) (by omega) (by omega) h.tups h.asc
  rw [← this, rowsS_len]
  exact memb_len _ _

theorem meet_sets {s r : Nat} (h1 : 1 ≤ s) (h2 : s ≤ 4) (h3 : 1 ≤ r) (h4 : r ≤ 4) {xs ys : List (List Int)} (hx : RelOk s r xs) (hy : RelOk s r ys) : rowsS s r (opAll (· && ·) (setOf s xs) (setOf s ys)) 256 = meetL xs ys := by
  refine rowsS_of h1 h2 h3 h4 (fun x h => hx.tups x (List.mem_filter.1 h).1) (hx.asc.filter _) fun n _ => ?_
  unfold opAll
  rw [Bool.and_eq_true, setOf_iff, setOf_iff]
  constructor
  · rintro ⟨⟨x, mx, rfl⟩, y, my, e⟩
    obtain rfl := codeN_inj (hy.tups y my) (hx.tups x mx) hx.1 hx.2.1 e
    exact ⟨y, List.mem_filter.2 ⟨mx, by simpa using my⟩, rfl⟩
  · rintro ⟨x, mx, rfl⟩
    obtain ⟨a, b⟩ := List.mem_filter.1 mx
    exact ⟨⟨x, a, rfl⟩, x, by simpa using b, rfl⟩
theorem few_small {size ar : Int} {xs zs : List (List Int)} (h : RelOk size ar xs) (hs : ∀ z, z ∈ zs → z ∈ xs) (hl : zs.length ≤ xs.length) : (zs.map List.length).sum ≤ 1048576 := by
  have h1 := sum_map_le zs 4 fun z hz => (h.tups z (hs z hz)).len h.2.1
  have h2 := h.few
  omega

/-- What MeetRels answers. -/
def MeetRelsIs (size x : Int) (xs : List (List Int)) (y : Int) (ys : List (List Int)) (ar : Int) (zs : List (List Int)) (cd : Int) : Prop :=
  TwoCode size x xs y ys cd ∧ ((cd = 0 ∧ ar = x ∧ zs = meetL xs ys) ∨ (cd ≠ 0 ∧ ar = 0 ∧ zs = []))
theorem MeetRelsIs.exists (size x : Int) (xs : List (List Int)) (y : Int) (ys : List (List Int)) : ∃ ar zs cd, MeetRelsIs size x xs y ys ar zs cd := by
  obtain ⟨c, hc⟩ := TwoCode.exists size x xs y ys
  by_cases h : c = 0
  · exact ⟨_, _, c, hc, .inl ⟨h, rfl, rfl⟩⟩
  · exact ⟨_, _, c, hc, .inr ⟨h, rfl, rfl⟩⟩
theorem MeetRelsIs.small {size x : Int} {xs : List (List Int)} {y : Int} {ys : List (List Int)} {ar : Int} {zs : List (List Int)} {cd : Int} (h : MeetRelsIs size x xs y ys ar zs cd) : (zs.map List.length).sum ≤ 1048576 := by
  obtain ⟨hc, ⟨rfl, rfl, rfl⟩ | ⟨_, _, rfl⟩⟩ := h
  · exact few_small hc.ok.1 (fun z hz => (List.mem_filter.1 hz).1) (meetL_len _ _)
  · simp

end Go.Proofs.Ytoojgaaggdnpiaa
