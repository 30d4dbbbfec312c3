/-
  A list of equations of its own that grows while a box P lies among its blocks.
-/
import Derived.Test.YtnbgpeoceejolaaEqsT
import Derived.Test.YtnbgpeoceejolaaOpsGrow
namespace Go.Proofs.Ytnbgpeoceejolaa
open Go.RowKit

/-- n equations: the list v and its rows V, each in a block of its own, none of them P. -/
structure EqsK (T : TypeId) (w : World) (B P : Nat) (v : Value) (n : Nat) (V : Nat → Value) (rs : List (Int × List Int)) : Prop where
  outer : ∃ xs, w.ownsRow B T 2 v n xs ∧ ∀ i, i < n → xs[i * 2 + 1]? = some (.int .i64 (arO rs i)) ∧ xs[i * 2]? = some (V i)
  vp : v.ownBlock ≠ some P
  rows : ∀ i, i < n → OwnRow w B (V i) (rowO rs i)
  rp : ∀ i, i < n → (V i).ownBlock ≠ some P
  apart : ∀ i j, i < j → j < n → ∀ g, (V i).ownBlock = some g → (V j).ownBlock ≠ some g
  top_ne : ∀ i, i < n → ∀ g, v.ownBlock = some g → (V i).ownBlock ≠ some g

theorem EqsK.own {T : TypeId} {w : World} {B P : Nat} {v : Value} {V : Nat → Value} {rs : List (Int × List Int)} (h : EqsK T w B P v rs.length V rs) : OwnEqs T w B w.heap.size v rs := by
  obtain ⟨xs, ho, hx⟩ := h.outer
  exact ⟨V, ⟨xs, ho, hx⟩, Nat.le_refl _, fun g hg => (ho.lt g hg).2, h.rows, fun i hi g hg => ((h.rows i hi).lt g hg).2, h.apart, h.top_ne⟩
theorem EqsK.same {T : TypeId} {w w' : World} {B P n : Nat} {v : Value} {V : Nat → Value} {rs : List (Int × List Int)} (h : EqsK T w B P v n V rs) (hk : ∀ g, g < w.heap.size → g ≠ P → w'.heap[g]? = w.heap[g]?) : EqsK T w' B P v n V rs := by
  obtain ⟨xs, ho, hx⟩ := h.outer
  exact ⟨⟨xs, ownsRow_same ho fun g hg => hk g (ho.lt g hg).2 (fun e => h.vp (e ▸ hg)), hx⟩, h.vp, fun i hi => ownsRow_same (h.rows i hi) fun g hg => hk g ((h.rows i hi).lt g hg).2 (fun e => h.rp i hi (e ▸ hg)), h.rp, h.apart, h.top_ne⟩
theorem EqsK.below {T : TypeId} {w w' : World} {B P n : Nat} {v : Value} {V : Nat → Value} {rs : List (Int × List Int)} (h : EqsK T w B P v n V rs) (hb : Below w.heap.size w w') : EqsK T w' B P v n V rs := h.same fun g hg _ => hb.block g hg
theorem EqsK.storeP {T : TypeId} {w : World} {B P n : Nat} {v : Value} {V : Nat → Value} {rs : List (Int × List Int)} (h : EqsK T w B P v n V rs) (o : Nat) (u : Value) : EqsK T (w.setCell ⟨P, o, none⟩ u) B P v n V rs := h.same fun _ _ hne => Below.heap_setCell _ _ _ _ hne
theorem EqsK.stored {T : TypeId} {w : World} {B P n : Nat} {v : Value} {V : Nat → Value} {rs : List (Int × List Int)} (h : EqsK T w B P v n V rs) {p : Addr} (hp : p.block < B) (u : Value) : EqsK T (w.setCell p u) B P v n V rs := by
  obtain ⟨xs, ho, hx⟩ := h.outer
  exact ⟨⟨xs, ownsRow_same ho fun g hg => Below.heap_setCell _ _ _ _ (by have := (ho.lt g hg).1; omega), hx⟩, h.vp, fun i hi => ownsRow_same (h.rows i hi) fun g hg => Below.heap_setCell _ _ _ _ (by have := ((h.rows i hi).lt g hg).1; omega), h.rp, h.apart, h.top_ne⟩
theorem EqsK.congrV {T : TypeId} {w : World} {B P n : Nat} {v : Value} {V V' : Nat → Value} {rs : List (Int × List Int)} (h : EqsK T w B P v n V rs) (hV : ∀ i, i < n → V i = V' i) : EqsK T w B P v n V' rs := by
  obtain ⟨xs, ho, hx⟩ := h.outer
  exact ⟨⟨xs, ho, fun i hi => hV i hi ▸ hx i hi⟩, h.vp, fun i hi => hV i hi ▸ h.rows i hi, fun i hi => hV i hi ▸ h.rp i hi, fun i j hij hj g hg => hV j hj ▸ h.apart i j hij hj g (by rw [hV i (by omega)]; exact hg), fun i hi g hg => hV i hi ▸ h.top_ne i hi g hg⟩
theorem EqsK.nil (T : TypeId) {w : World} {B P lb : Nat} (h : Box T w lb #[]) (hB : B ≤ lb) (hP : lb ≠ P) (V : Nat → Value) : EqsK T w B P (.slice (some ⟨lb, 0, none⟩) 0 0) 0 V [] :=
  ⟨⟨[], ⟨rfl, .inr ⟨lb, 0, #[], rfl, hB, h, Nat.le_refl _, Nat.zero_le _, rfl, rfl⟩⟩, fun i hi => absurd hi (Nat.not_lt_zero i)⟩, fun e => hP (by simpa [Value.ownBlock] using e), fun i hi => absurd hi (Nat.not_lt_zero i), fun i hi => absurd hi (Nat.not_lt_zero i), fun i j _ hj => absurd hj (Nat.not_lt_zero j), fun i hi => absurd hi (Nat.not_lt_zero i)⟩
theorem EqsK.none (T : TypeId) (w : World) (B P : Nat) (V : Nat → Value) : EqsK T w B P (.slice none 0 0) 0 V [] :=
  ⟨⟨[], World.ownsRow_nil _ _ _ 2, fun i hi => absurd hi (Nat.not_lt_zero i)⟩, fun e => by simp [Value.ownBlock] at e, fun i hi => absurd hi (Nat.not_lt_zero i), fun i hi => absurd hi (Nat.not_lt_zero i), fun i j _ hj => absurd hj (Nat.not_lt_zero j), fun i hi => absurd hi (Nat.not_lt_zero i)⟩

/-- One equation more. -/
theorem EqsK.grow {T : TypeId} {w w2 w3 : World} {B P n : Nat} {v v' r : Value} {V : Nat → Value} {rs : List (Int × List Int)} {xs : List Value} {rel : Int} {ys : List Int} (h : EqsK T w B P v n V rs) (hn : rs.length = n)
    (hxl : xs.length = n * 2) (hx : ∀ i, i < n → xs[i * 2 + 1]? = some (.int .i64 (arO rs i)) ∧ xs[i * 2]? = some (V i)) (hb : Below w.heap.size w w2) (hr : OwnRow w2 B r ys) (hrP : r.ownBlock ≠ some P) (hrV : ∀ i, i < n → ∀ g, (V i).ownBlock = some g → r.ownBlock ≠ some g) (hrv : ∀ g, v.ownBlock = some g → r.ownBlock ≠ some g)
    (ho : w3.ownsRow B T 2 v' (n + 1) (xs ++ [r, .int .i64 rel])) (hg : w2.grownBy w3 v.ownBlock) (htop : ∀ g, v'.ownBlock = some g → v.ownBlock = some g ∨ w2.heap.size ≤ g) (hP : P < w2.heap.size) :
    EqsK T w3 B P v' (n + 1) (fun i => if i = n then r else V i) (rs ++ [(rel, ys)]) := by
  subst hn
  have hold : ∀ i, i < rs.length → OwnRow w3 B (V i) (rowO rs i) := fun i hi => by
    refine World.ownsRow.kept ((h.rows i hi).below hb) hg ?_
    cases hv : v.ownBlock with
    | none =>
      cases hv2 : (V i).ownBlock with
      | none => exact .inl rfl
      | some g => exact .inr (by simp)
    | some g => exact .inr fun e => h.top_ne i hi g hv e
  have hnew : OwnRow w3 B r ys := by
    refine World.ownsRow.kept hr hg ?_
    cases hv2 : r.ownBlock with
    | none => exact .inl rfl
    | some g =>
      refine .inr fun e => ?_
      exact hrv g e.symm hv2
  refine ⟨⟨_, ho, fun i hi => ?_⟩, fun e => ?_, fun i hi => ?_, fun i hi => ?_, fun i j hij hj g hg => ?_, fun i hi g hg he => ?_⟩
  · by_cases hin : i = rs.length
    · subst hin
      rw [arO_snoc, if_neg (by omega), if_pos rfl, List.getElem?_append_right (by omega), List.getElem?_append_right (by omega), hxl]
      simp
    · obtain ⟨e1, e2⟩ := hx i (by omega)
      rw [arO_snoc, if_pos (by omega), if_neg hin, List.getElem?_append_left (by omega), List.getElem?_append_left (by omega)]
      exact ⟨e1, e2⟩
  · rcases htop P e with k | k
    · exact h.vp k
    · omega
  · by_cases hin : i = rs.length
    · subst hin
      have e : rowO (rs ++ [(rel, ys)]) rs.length = ys := by rw [rowO_snoc, if_neg (by omega), if_pos rfl]
      rw [e]
      simpa using hnew
    · have e : rowO (rs ++ [(rel, ys)]) i = rowO rs i := by rw [rowO_snoc, if_pos (by omega)]
      rw [e]
      simpa [hin] using hold i (by omega)
  · by_cases hin : i = rs.length
    · simp only [hin, if_true]; exact hrP
    · simp only [hin, if_false]; exact h.rp i (by omega)
  · simp only [show ¬ i = rs.length by omega, if_false] at hg
    by_cases hjn : j = rs.length
    · simp only [hjn, if_true]
      exact hrV i (by omega) g hg
    · simp only [hjn, if_false]
      exact h.apart i j hij (by omega) g hg
  · by_cases hin : i = rs.length
    · simp only [hin, if_true] at he
      rcases htop g hg with k | k
      · exact hrv g k he
      · have := (hr.lt g he).2
        omega
    · simp only [hin, if_false] at he
      rcases htop g hg with k | k
      · exact h.top_ne i (by omega) g k he
      · have := ((h.rows i (by omega)).lt g he).2
        have := hb.size
        omega

end Go.Proofs.Ytnbgpeoceejolaa
