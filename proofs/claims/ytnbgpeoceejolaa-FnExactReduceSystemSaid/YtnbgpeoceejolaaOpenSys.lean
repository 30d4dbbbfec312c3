/-
  The laws' arguments, opened: lists of equations, and systems by value.
-/
import Derived.Test.YtnbgpeoceejolaaOpenOp
import Derived.Test.YtnbgpeoceejolaaEqs
import Derived.Test.YtnbgpeoceejolaaOpenT
namespace Go.Proofs.Ytnbgpeoceejolaa
open Go.ChangeShapes Go.WideShapes Go.ChangeAt Go.RowKit Go.Joins
open Go.Deep (open_slice_pairs choose_lt)

theorem cells_equation : Try.prog.cellsOf 43 = 2 := by kernel_rfl
theorem cells_system : Try.prog.cellsOf 24 = 3 := by kernel_rfl

section
variable {H : Type} {enc : TypeId × Value → H} {w : World} {base : Nat} {held : Bool}

/-- A slice of equations that came in. -/
theorem open_equations {fuel : Nat} {v : Value} {x : DataW H × List MemPlace} (h : DataW.trod enc Try.prog w base (fun _ => true) held fuel 22 [v] = some x) :
    ∃ a n c rs, v = .slice a n c ∧ EqsAt w (.slice a n c) rs := by
  rcases open_slice_pairs Try.underlying22 Try.underlying43 cells_equation rfl rfl (by kernel_rfl) cells_int h with ⟨hcs, _⟩ | ⟨a, len, cap, m, n, V0, V1, D0, D1, P0, P1, hcs, _, hl, hm, hmm, _, hx⟩
  · obtain rfl : v = .slice none 0 0 := by simpa using hcs
    exact ⟨none, 0, 0, [], rfl, EqsAt.nil w⟩
  · obtain rfl : v = .slice (some a) len cap := by simpa using hcs
    simp only [if_true] at hmm
    subst hmm
    have each : ∀ i, i < m → ∃ y : Int × List Int, w.cell? (a.add (i * 2 + 1)) = some (.int .i64 y.1) ∧ ∃ a' n' c', w.cell? (a.add (i * 2)) = some (.slice a' n' c') ∧ RowAt w (.slice a' n' c') y.2 := by
      intro i hi
      obtain ⟨e0, e1, t0, t1⟩ := hx i hi
      obtain ⟨ar, q1, _, _⟩ := DataW.trod_int Try.underlying2 t1
      obtain ⟨a', n', c', xss, q0, hg⟩ := open_rowT t0
      have q1' : V1 i = .int .i64 ar := by simpa using q1
      exact ⟨(ar, xss), by rw [e1, q1'], a', n', c', by rw [e0, q0], hg⟩
    obtain ⟨y, hy⟩ := choose_lt each
    have hlen : ((List.range len).map y).length = len := by simp
    refine ⟨some a, len, m, (List.range len).map y, rfl, some a, m, by rw [hlen], by rw [hlen]; unfold maxLen at hm; omega, fun h0 => ?_⟩
    rw [hlen] at h0 ⊢
    obtain ⟨_, _, _, hb0, _⟩ := (hy 0 (by omega)).2
    obtain ⟨b, off, rfl⟩ := add_none (by simpa using hb0)
    refine ⟨b, off, rfl, fun i hi => ?_⟩
    obtain ⟨c0, a', n', c', c1, hg⟩ := hy i (by omega)
    rw [add_plain] at c0 c1
    have e1 : arO ((List.range len).map y) i = (y i).1 := by simp [arO, List.getD, hi]
    have e2 : rowO ((List.range len).map y) i = (y i).2 := by simp [rowO, List.getD, hi]
    rw [e1, e2]
    exact ⟨c0, a', n', c', c1, hg⟩

set_option maxRecDepth 100000 in
/-- A system that came in, by value. -/
theorem open_system {r : Reach} {b0 : Nat} {v : Value} {d : DataW H} {p : List MemPlace} (hv : Value.okWide Try.prog w r b0 24 v)
    (h : DataW.Trod enc Try.prog w base (fun _ => true) held 24 v d p) : ∃ fr va a n c rs, v = .agg #[.int .i64 fr, .int .i64 va, .slice a n c] ∧ EqsAt w (.slice a n c) rs := by
  obtain ⟨v0, v1, v2, y0, y1, y2, m, rfl, rfl, rfl, h0, h1, h2⟩ := open_agg3 Try.underlying24 (by kernel_rfl) cells_system hv h
  obtain ⟨fr, e0, _, _⟩ := DataW.trod_int Try.underlying2 h0
  obtain ⟨va, e1, _, _⟩ := DataW.trod_int Try.underlying2 h1
  obtain ⟨a, n, c, rs, rfl, hg⟩ := open_equations h2
  simp at e0 e1
  subst e0
  subst e1
  exact ⟨fr, va, a, n, c, rs, rfl, hg⟩

end
end Go.Proofs.Ytnbgpeoceejolaa
