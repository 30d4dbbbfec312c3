/-
  A list of what has a number and a row, of its own, to which one more is appended.
-/
import Derived.Test.YtnbgpeoceejolabPairs
import Derived.Test.YtnbgpeoceejolabBox
namespace Go.Proofs.Ytnbgpeoceejolab
open Go.RowKit

theorem arO_snoc (rs : List (Int × List Int)) (p : Int × List Int) (i : Nat) : arO (rs ++ [p]) i = if i < rs.length then arO rs i else if i = rs.length then p.1 else 0 := by
  unfold arO
  by_cases h : i < rs.length
  · simp [List.getD, List.getElem?_append_left h, h]
  · by_cases h2 : i = rs.length
    · subst h2; simp [List.getD]
    · simp [List.getD, h, h2, show ¬ i < rs.length + 1 by omega]
theorem rowO_snoc (rs : List (Int × List Int)) (p : Int × List Int) (i : Nat) : rowO (rs ++ [p]) i = if i < rs.length then rowO rs i else if i = rs.length then p.2 else [] := by
  unfold rowO
  by_cases h : i < rs.length
  · simp [List.getD, List.getElem?_append_left h, h]
  · by_cases h2 : i = rs.length
    · subst h2; simp [List.getD]
    · simp [List.getD, h, h2, show ¬ i < rs.length + 1 by omega]

theorem OwnOpsV.grow {T : TypeId} {w w2 w3 : World} {B n : Nat} {v v' r : Value} {V : Nat → Value} {rs : List (Int × List Int)} {xs : List Value} {rel : Int} {ys : List Int} (h : OwnOpsV T w B w.heap.size v n V rs) (hn : rs.length = n)
    (hxl : xs.length = n * 2) (hx : ∀ i, i < n → xs[i * 2]? = some (.int .i64 (arO rs i)) ∧ xs[i * 2 + 1]? = some (V i)) (hb : Below w.heap.size w w2) (hr : OwnRow w2 w.heap.size r ys) (hB : B ≤ w.heap.size)
    (ho : w3.ownsRow B T 2 v' (n + 1) (xs ++ [.int .i64 rel, r])) (hg : w2.grownBy w3 v.ownBlock) (htop : ∀ g, v'.ownBlock = some g → v.ownBlock = some g ∨ w2.heap.size ≤ g) :
    OwnOpsV T w3 B w3.heap.size v' (n + 1) (fun i => if i = n then r else V i) (rs ++ [(rel, ys)]) := by
  subst hn
  have hold : ∀ i, i < rs.length → OwnRow w3 B (V i) (rowO rs i) := fun i hi => by
    refine World.ownsRow.kept ((h.rows i hi).below hb) hg ?_
    cases hv : v.ownBlock with
    | none =>
      cases hv2 : (V i).ownBlock with
      | none => exact .inl rfl
      | some g => exact .inr (by simp)
    | some g => exact .inr fun e => h.top_ne i hi g hv e
  have hnew : OwnRow w3 B r ys := by
    refine OwnRow.mono (World.ownsRow.kept hr hg ?_) hB
    cases hv2 : r.ownBlock with
    | none => exact .inl rfl
    | some g =>
      refine .inr fun e => ?_
      have h1 := h.top g e.symm
      have h2 := (hr.lt g hv2).1
      omega
  have hrb : ∀ g, r.ownBlock = some g → w.heap.size ≤ g ∧ g < w2.heap.size := fun g e => hr.lt g e
  refine ⟨⟨_, ho, fun i hi => ?_⟩, Nat.le_refl _, fun g hg => (ho.lt g hg).2, fun i hi => ?_, fun i hi g hg => ?_, fun i j hij hj g hg => ?_, fun i hi g hg he => ?_⟩
  · by_cases hin : i = rs.length
    · subst hin
      rw [arO_snoc, if_neg (by omega), if_pos rfl, List.getElem?_append_right (by omega), List.getElem?_append_right (by omega), hxl]
      simp
    · obtain ⟨e1, e2⟩ := hx i (by omega)
      rw [arO_snoc, if_pos (by omega), if_neg hin, List.getElem?_append_left (by omega), List.getElem?_append_left (by omega)]
      exact ⟨e1, e2⟩
  · by_cases hin : i = rs.length
    · subst hin
      have e : rowO (rs ++ [(rel, ys)]) rs.length = ys := by rw [rowO_snoc, if_neg (by omega), if_pos rfl]
      rw [e]
      simpa using hnew
    · have e : rowO (rs ++ [(rel, ys)]) i = rowO rs i := by rw [rowO_snoc, if_pos (by omega)]
      rw [e]
      simpa [hin] using hold i (by omega)
  · by_cases hin : i = rs.length
    · simp only [hin, if_true] at hg; exact (hnew.lt g hg).2
    · simp only [hin, if_false] at hg; exact ((hold i (by omega)).lt g hg).2
  · simp only [show ¬ i = rs.length by omega, if_false] at hg
    by_cases hjn : j = rs.length
    · simp only [hjn, if_true]
      intro e
      have h1 := ((h.rows i (by omega)).lt g hg).2
      have h2 := (hr.lt g e).1
      omega
    · simp only [hjn, if_false]
      exact h.apart i j hij (by omega) g hg
  · rcases htop g hg with hv | hv
    · by_cases hin : i = rs.length
      · simp only [hin, if_true] at he
        have h1 := h.top g hv
        have h2 := (hrb g he).1
        omega
      · simp only [hin, if_false] at he
        exact h.top_ne i (by omega) g hv he
    · by_cases hin : i = rs.length
      · simp only [hin, if_true] at he
        have h2 := (hrb g he).2
        omega
      · simp only [hin, if_false] at he
        have h1 := ((h.rows i (by omega)).lt g he).2
        have := hb.size
        omega

/-- An empty list with a block. -/
theorem OwnOps.empty (T : TypeId) (w : World) : OwnOps T (w.alloc (.cells #[] T)) w.heap.size (w.alloc (.cells #[] T)).heap.size (.slice (some ⟨w.heap.size, 0, none⟩) 0 0) [] :=
  ⟨fun _ => .slice none 0 0, ⟨_, World.ownsRow_lit (e := T) (size := 2) w #[] 0 (Nat.le_refl _) (by unfold maxLen; omega) (by simp), fun i hi => absurd hi (by simp)⟩, Nat.le_refl _, fun g hg => by simp [Value.ownBlock] at hg; simp; omega, fun i hi => absurd hi (by simp), fun i hi => absurd hi (by simp), fun i j _ hj => absurd hj (by simp), fun i hi => absurd hi (by simp)⟩

end Go.Proofs.Ytnbgpeoceejolab
