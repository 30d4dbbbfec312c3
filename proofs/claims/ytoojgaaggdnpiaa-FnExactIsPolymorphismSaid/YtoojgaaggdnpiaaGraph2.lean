/-
  The graph of an operation in the program, by the set of its numbers: GraphOfOp.
-/
import Derived.Test.YtoojgaaggdnpiaaGraph
import Derived.Test.YtoojgaaggdnpiaaRelOf
namespace Go.Proofs.Ytoojgaaggdnpiaa
open Go.RowKit

theorem codeK_left {size : Int} (xs ys : List Int) : ∀ k, k ≤ xs.length → codeK size (xs ++ ys) k = codeK size xs k := by
  intro k hk
  refine codeK_same k fun j hj => ?_
  rw [intN_at _ _ (by simp; omega), intN_at _ _ (by omega)]
  exact List.getElem_append_left (by omega)

theorem code_snoc (size : Int) (xs : List Int) (x : Int) : code size (xs ++ [x]) = code size xs * size + x := by
  unfold code
  rw [List.length_append]
  show codeK size (xs ++ [x]) xs.length * size + intN (xs ++ [x]) xs.length = _
  rw [codeK_left _ _ _ (Nat.le_refl _), intN_at _ _ (by simp)]
  simp

theorem graph_code (s r k : Nat) (x : Int) (h1 : 1 ≤ s) (hk : k < s ^ r) (h0 : 0 ≤ x) : codeN s (digs s r k ++ [x]) = k * s + x.toNat := by
  have hc := digs_codeK s r k hk r (Nat.le_refl _)
  have hl := digs_len s r k
  unfold codeN
  rw [code_snoc]
  unfold code
  rw [hl, hc]
  simp only [Nat.sub_self, Nat.pow_zero, Nat.div_one]
  have h2 : (0 : Int) ≤ (k : Int) * (s : Int) := Int.mul_nonneg (by omega) (by omega)
  have h3 : ((k : Int) * (s : Int)).toNat = k * s := by rw [← Int.natCast_mul]; exact Int.toNat_natCast _
  omega

theorem OpOk.at {s r : Nat} {tab : List Int} (ho : OpOk s r tab) (k : Nat) (hk : k < tab.length) : 0 ≤ intN tab k ∧ intN tab k < s := ho.2.2.2 k hk

theorem graph_tup {s r : Nat} {tab : List Int} (ho : OpOk s r tab) (k : Nat) (hk : k < tab.length) : TupP s ((r + 1 : Nat) : Int) (digs s r k ++ [intN tab k]) := by
  have h := digs_tup s r k (by have := ho.1.1; omega)
  have hl := digs_len s r k
  refine ⟨by rw [List.length_append, hl]; simp, fun i hi => ?_⟩
  rw [List.length_append, hl] at hi
  simp only [List.length_cons, List.length_nil] at hi
  by_cases hir : i < r
  · have h2 := h.2 i (by omega)
    rw [intN_at _ _ (by omega)] at h2
    rw [intN_at _ _ (by rw [List.length_append, hl]; simp; omega), List.getElem_append_left (by omega)]
    exact h2
  · obtain rfl : i = r := by omega
    rw [intN_at _ _ (by rw [List.length_append, hl]; simp), List.getElem_append_right (by omega)]
    simpa [hl] using ho.at k hk

theorem graph_rows {s r : Nat} {tab : List Int} (ho : OpOk s r tab) (hlen : tab.length = s ^ r) : rowsS s (r + 1) (setOf s (graphR s r tab tab.length)) 256 = graphR s r tab tab.length := by
  have hs1 : 1 ≤ s := by have := ho.1.1; omega
  have hs2 : s ≤ 4 := by have := ho.1.2; omega
  have hr1 := ho.2.1.1
  have hr2 := ho.2.1.2
  refine rowsS_of hs1 hs2 (by omega) (by omega) (fun x hx => ?_) (asc_pairs _ fun k hk => ?_) (fun n _ => setOf_iff n)
  · obtain ⟨j, hj, rfl⟩ := mem_rowN.1 hx
    rw [graphR_len] at hj
    rw [graphR_at _ _ _ _ _ hj]
    exact graph_tup ho j hj
  · rw [graphR_len] at hk
    rw [graphR_at _ _ _ _ _ (by omega), graphR_at _ _ _ _ _ hk]
    have h1 := ho.at k (by omega)
    have h2 := ho.at (k + 1) hk
    rw [graph_code s r k _ hs1 (by omega) h1.1, graph_code s r (k + 1) _ hs1 (by omega) h2.1, Nat.succ_mul]
    omega

theorem GraphOfOpIs.small {size ar : Int} {tab : List Int} {x : Int} {zs : List (List Int)} {cd : Int} (h : GraphOfOpIs size ar tab x zs cd) : (zs.map List.length).sum ≤ 1048576 := by
  rcases h with ⟨_, _, rfl, _⟩ | ⟨ho, _, rfl, _⟩
  · simp
  · obtain ⟨hs, har, htab⟩ := ho
    have h1 := hs.1
    have h2 := hs.2
    have h3 := har.2
    have hp := (pow_le4 (size := size.toNat) (by omega) (by omega) ar.toNat (by omega)).1
    have hl := htab.1
    have h4 := sum_map_le (graphR size.toNat ar.toNat tab tab.length) 4 fun x hx => by
      obtain ⟨j, hj, rfl⟩ := mem_rowN.1 hx
      rw [graphR_len] at hj
      rw [graphR_at _ _ _ _ _ hj, List.length_append, digs_len]
      simp
      omega
    rw [graphR_len] at h4
    omega

end Go.Proofs.Ytoojgaaggdnpiaa
