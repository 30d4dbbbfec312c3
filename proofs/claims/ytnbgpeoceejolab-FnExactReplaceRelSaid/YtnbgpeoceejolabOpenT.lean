/-
  The laws' arguments, opened: a template by value reads as a list of relations.
-/
import Derived.Test.YtnbgpeoceejolabOpen
import Derived.Test.YtnbgpeoceejolabGMaps
import Derived.Deep.SlicePairs
namespace Go.Proofs.Ytnbgpeoceejolab
open Go.ChangeShapes Go.WideShapes Go.ChangeAt Go.RowKit Go.Joins
open Go.Deep (open_slice_pairs choose_lt)

theorem cells_template : Try.prog.cellsOf 24 = 2 := by kernel_rfl

section
variable {H : Type} {enc : TypeId × Value → H} {w : World} {base : Nat} {held : Bool}

/-- A slice of relations that came in. -/
theorem open_rels {fuel : Nat} {v : Value} {x : DataW H × List MemPlace} (h : DataW.trod enc Try.prog w base (fun _ => true) held fuel 22 [v] = some x) :
    ∃ a n c rs, v = .slice a n c ∧ RelsAt w (.slice a n c) rs := by
  rcases open_slice_pairs Try.underlying22 Try.underlying88 cells_rel rfl rfl cells_int (by kernel_rfl) h with ⟨hcs, _⟩ | ⟨a, len, cap, m, n, V0, V1, D0, D1, P0, P1, hcs, _, hl, hm, hmm, _, hx⟩
  · obtain rfl : v = .slice none 0 0 := by simpa using hcs
    exact ⟨none, 0, 0, [], rfl, RelsAt.nil w⟩
  · obtain rfl : v = .slice (some a) len cap := by simpa using hcs
    simp only [if_true] at hmm
    subst hmm
    have each : ∀ i, i < m → ∃ y : Int × List (List Int), w.cell? (a.add (i * 2)) = some (.int .i64 y.1) ∧ ∃ a' n' c', w.cell? (a.add (i * 2 + 1)) = some (.slice a' n' c') ∧ GridAt w (.slice a' n' c') y.2 := by
      intro i hi
      obtain ⟨e0, e1, t0, t1⟩ := hx i hi
      obtain ⟨ar, q0, _, _⟩ := DataW.trod_int Try.underlying2 t0
      obtain ⟨a', n', c', xss, q1, hg⟩ := open_grid t1
      have q0' : V0 i = .int .i64 ar := by simpa using q0
      exact ⟨(ar, xss), by rw [e0, q0'], a', n', c', by rw [e1, q1], hg⟩
    obtain ⟨y, hy⟩ := choose_lt each
    have hlen : ((List.range len).map y).length = len := by simp
    refine ⟨some a, len, m, (List.range len).map y, rfl, some a, m, by rw [hlen], by rw [hlen]; unfold maxLen at hm; omega, fun h0 => ?_⟩
    rw [hlen] at h0 ⊢
    obtain ⟨b, off, rfl⟩ := add_none (by simpa using (hy 0 (by omega)).1)
    refine ⟨b, off, rfl, fun i hi => ?_⟩
    obtain ⟨c0, a', n', c', c1, hg⟩ := hy i (by omega)
    rw [add_plain] at c0 c1
    have e1 : arN ((List.range len).map y) i = (y i).1 := by simp [arN, List.getD, hi]
    have e2 : gridN ((List.range len).map y) i = (y i).2 := by simp [gridN, List.getD, hi]
    rw [e1, e2]
    exact ⟨c0, a', n', c', c1, hg⟩

set_option maxRecDepth 100000 in
/-- A template that came in, by value. -/
theorem open_template {r : Reach} {b0 : Nat} {v : Value} {d : DataW H} {p : List MemPlace} (hv : Value.okWide Try.prog w r b0 24 v)
    (h : DataW.Trod enc Try.prog w base (fun _ => true) held 24 v d p) : ∃ sz a n c rs, v = .agg #[.int .i64 sz, .slice a n c] ∧ RelsAt w (.slice a n c) rs := by
  obtain ⟨v0, v1, y0, y1, m, rfl, rfl, rfl, h0, h1⟩ := open_agg2 Try.underlying24 (by kernel_rfl) cells_template hv h
  obtain ⟨sz, e0, _, _⟩ := DataW.trod_int Try.underlying2 h0
  obtain ⟨a, n, c, rs, rfl, hg⟩ := open_rels h1
  simp at e0
  subst e0
  exact ⟨sz, a, n, c, rs, rfl, hg⟩

end
end Go.Proofs.Ytnbgpeoceejolab
