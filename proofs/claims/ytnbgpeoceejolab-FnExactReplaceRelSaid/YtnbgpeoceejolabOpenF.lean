/-
  The laws' arguments, opened: lists of atoms, and formulas by value.
-/
import Derived.Test.YtnbgpeoceejolabOpenOp
import Derived.Test.YtnbgpeoceejolabPairs
import Derived.Test.YtnbgpeoceejolabOpenT
namespace Go.Proofs.Ytnbgpeoceejolab
open Go.ChangeShapes Go.WideShapes Go.ChangeAt Go.RowKit Go.Joins
open Go.Deep (open_slice_pairs choose_lt)

theorem cells_atom : Try.prog.cellsOf 90 = 2 := by kernel_rfl
theorem cells_formula : Try.prog.cellsOf 27 = 3 := by kernel_rfl

section
variable {H : Type} {enc : TypeId × Value → H} {w : World} {base : Nat} {held : Bool}

/-- A slice of atoms that came in. -/
theorem open_atoms {fuel : Nat} {v : Value} {x : DataW H × List MemPlace} (h : DataW.trod enc Try.prog w base (fun _ => true) held fuel 25 [v] = some x) :
    ∃ a n c rs, v = .slice a n c ∧ OpsAt w (.slice a n c) rs := by
  rcases open_slice_pairs Try.underlying25 Try.underlying90 cells_atom rfl rfl cells_int (by kernel_rfl) h with ⟨hcs, _⟩ | ⟨a, len, cap, m, n, V0, V1, D0, D1, P0, P1, hcs, _, hl, hm, hmm, _, hx⟩
  · obtain rfl : v = .slice none 0 0 := by simpa using hcs
    exact ⟨none, 0, 0, [], rfl, OpsAt.nil w⟩
  · obtain rfl : v = .slice (some a) len cap := by simpa using hcs
    simp only [if_true] at hmm
    subst hmm
    have each : ∀ i, i < m → ∃ y : Int × List Int, w.cell? (a.add (i * 2)) = some (.int .i64 y.1) ∧ ∃ a' n' c', w.cell? (a.add (i * 2 + 1)) = some (.slice a' n' c') ∧ RowAt w (.slice a' n' c') y.2 := by
      intro i hi
      obtain ⟨e0, e1, t0, t1⟩ := hx i hi
      obtain ⟨ar, q0, _, _⟩ := DataW.trod_int Try.underlying2 t0
      obtain ⟨a', n', c', xss, q1, hg⟩ := open_rowT t1
      have q0' : V0 i = .int .i64 ar := by simpa using q0
      exact ⟨(ar, xss), by rw [e0, q0'], a', n', c', by rw [e1, q1], hg⟩
    obtain ⟨y, hy⟩ := choose_lt each
    have hlen : ((List.range len).map y).length = len := by simp
    refine ⟨some a, len, m, (List.range len).map y, rfl, some a, m, by rw [hlen], by rw [hlen]; unfold maxLen at hm; omega, fun h0 => ?_⟩
    rw [hlen] at h0 ⊢
    obtain ⟨b, off, rfl⟩ := add_none (by simpa using (hy 0 (by omega)).1)
    refine ⟨b, off, rfl, fun i hi => ?_⟩
    obtain ⟨c0, a', n', c', c1, hg⟩ := hy i (by omega)
    rw [add_plain] at c0 c1
    have e1 : arO ((List.range len).map y) i = (y i).1 := by simp [arO, List.getD, hi]
    have e2 : rowO ((List.range len).map y) i = (y i).2 := by simp [rowO, List.getD, hi]
    rw [e1, e2]
    exact ⟨c0, a', n', c', c1, hg⟩

set_option maxRecDepth 100000 in
/-- A formula that came in, by value. -/
theorem open_formula {r : Reach} {b0 : Nat} {v : Value} {d : DataW H} {p : List MemPlace} (hv : Value.okWide Try.prog w r b0 27 v)
    (h : DataW.Trod enc Try.prog w base (fun _ => true) held 27 v d p) : ∃ fr va a n c rs, v = .agg #[.int .i64 fr, .int .i64 va, .slice a n c] ∧ OpsAt w (.slice a n c) rs := by
  obtain ⟨v0, v1, v2, y0, y1, y2, m, rfl, rfl, rfl, h0, h1, h2⟩ := open_agg3 Try.underlying27 (by kernel_rfl) cells_formula hv h
  obtain ⟨fr, e0, _, _⟩ := DataW.trod_int Try.underlying2 h0
  obtain ⟨va, e1, _, _⟩ := DataW.trod_int Try.underlying2 h1
  obtain ⟨a, n, c, rs, rfl, hg⟩ := open_atoms h2
  simp at e0 e1
  subst e0
  subst e1
  exact ⟨fr, va, a, n, c, rs, rfl, hg⟩

end
end Go.Proofs.Ytnbgpeoceejolab
