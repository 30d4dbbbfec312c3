/-
  The laws' arguments, opened: a relation by value reads as a grid of rows.
-/
import Derived.Test.YtnbgpeoceejolabRows
import Derived.Test.YtnbgpeoceejolabGRel
import Derived.ShutString
import Derived.ChangeOld
namespace Go.Proofs.Ytnbgpeoceejolab
open Go.ChangeShapes Go.WideShapes Go.ChangeAt Go.RowKit Go.Joins
open Go.Deep (open_int_rows)

theorem own : ownKnob Try.prog.godebug = none := by kernel_rfl
theorem laidOut : laidOutB Try.prog = true := by kernel_rfl
theorem cells_int : Try.prog.cellsOf 2 = 1 := by kernel_rfl

theorem cells_row : Try.prog.cellsOf 45 = 1 := by kernel_rfl

theorem cells_rel : Try.prog.cellsOf 88 = 2 := by kernel_rfl

theorem add_none {a : Addr} {w : World} {v : Value} (h : w.cell? (a.add 0) = some v) : ∃ b off, a = ⟨b, off, none⟩ := by
  obtain ⟨b, off, spot⟩ := a
  have hs : spot = none := by simpa [Addr.add] using World.cell?_spot h
  exact ⟨b, off, by rw [hs]⟩

section
variable {H : Type} {enc : TypeId × Value → H} {w : World} {base : Nat} {held : Bool}

/-- A slice of slices of integers that came in. -/
theorem open_grid {fuel : Nat} {v : Value} {x : DataW H × List MemPlace} (h : DataW.trod enc Try.prog w base (fun _ => true) held fuel 79 [v] = some x) :
    ∃ a n c xss, v = .slice a n c ∧ GridAt w (.slice a n c) xss := by
  rcases open_int_rows Try.underlying79 Try.underlying45 Try.underlying2 cells_row cells_int h with ⟨hcs, _⟩ | ⟨a, len, cap, A, L, C, Z, hcs, _, hl, hm, _, hr⟩
  · obtain rfl : v = .slice none 0 0 := by simpa using hcs
    exact ⟨none, 0, 0, [], rfl, GridAt.nil w⟩
  · obtain rfl : v = .slice (some a) len cap := by simpa using hcs
    have hlen : ((List.range len).map fun r => (Z r).take (L r)).length = len := by simp
    refine ⟨some a, len, cap, (List.range len).map fun r => (Z r).take (L r), rfl, fun r => .slice (A r) (L r) (C r), ⟨some a, cap, by rw [hlen], ?_, fun h0 => ?_⟩, fun i hi => ?_⟩
    · rw [hlen]; unfold maxLen at hm; omega
    · rw [hlen] at h0 ⊢
      obtain ⟨b, off, rfl⟩ := add_none (hr 0 (by omega)).1
      exact ⟨b, off, rfl, fun i hi => by have := (hr i (by omega)).1; rwa [add_plain] at this⟩
    · rw [hlen] at hi
      obtain ⟨_, h1, h2, h3, _, h5, h6⟩ := hr i (by omega)
      have e : rowN ((List.range len).map fun r => (Z r).take (L r)) i = (Z i).take (L i) := by
        rw [rowN_at _ _ (by rw [hlen]; exact hi)]; simp
      rw [e]
      have hz : ((Z i).take (L i)).length = L i := by simp; omega
      refine ⟨A i, C i, by rw [hz], by rw [hz]; unfold maxLen at h2; omega, fun h0 => ?_⟩
      rw [hz] at h0 ⊢
      match hA : A i with
      | none => have := h5 hA; omega
      | some a' =>
        obtain ⟨_, hc⟩ := h6 a' hA
        obtain ⟨b, off, rfl⟩ := add_none (hc 0 (by omega))
        refine ⟨b, off, rfl, fun j hj => ?_⟩
        have := hc j (by omega)
        rw [add_plain] at this
        rw [this]
        show _ = some (Value.int .i64 (intN _ j))
        rw [intN_at _ _ (by rw [hz]; exact hj)]
        simp [List.getD, show j < (Z i).length by omega]

set_option maxRecDepth 100000 in
/-- A slice of integers that came in. -/
theorem open_row {r : Reach} {b0 : Nat} {v : Value} {d : DataW H} {p : List MemPlace} (hv : Value.okWide Try.prog w r b0 45 v)
    (h : DataW.Trod enc Try.prog w base (fun _ => true) held 45 v d p) : ∃ a n c xs, v = .slice a n c ∧ RowAt w (.slice a n c) xs := by
  obtain ⟨a0, len, cap, rfl⟩ := okWide_slice Try.underlying45 hv
  obtain ⟨fuel, hf⟩ := h
  rcases open_ints Try.underlying45 Try.underlying2 cells_int hf with ⟨hcs, _⟩ | ⟨a, len', cap', zs, hcs, _, hl, hm, hz, _, hcell, _⟩
  · simp [Value.cells] at hcs
    obtain ⟨rfl, rfl, rfl⟩ := hcs
    exact ⟨none, 0, 0, [], rfl, RowAt.nil w⟩
  · simp [Value.cells] at hcs
    obtain ⟨rfl, rfl, rfl⟩ := hcs
    simp only [if_true] at hz
    have hlen : (zs.take len).length = len := by simp; omega
    refine ⟨some a, len, cap, zs.take len, rfl, some a, cap, by rw [hlen], by rw [hlen]; unfold maxLen at hm; omega, fun h0 => ?_⟩
    rw [hlen] at h0 ⊢
    obtain ⟨b, off, rfl⟩ := add_none (hcell 0 (by omega))
    refine ⟨b, off, rfl, fun j hj => ?_⟩
    have := hcell j (by omega)
    rw [add_plain] at this
    rw [this]
    show _ = some (Value.int .i64 (intN _ j))
    rw [intN_at _ _ (by rw [hlen]; exact hj)]
    simp [List.getD, show j < zs.length by omega]

set_option maxRecDepth 100000 in
theorem open_gridV {r : Reach} {b0 : Nat} {v : Value} {d : DataW H} {p : List MemPlace} (hv : Value.okWide Try.prog w r b0 79 v)
    (h : DataW.Trod enc Try.prog w base (fun _ => true) held 79 v d p) : ∃ a n c xss, v = .slice a n c ∧ GridAt w (.slice a n c) xss := by
  obtain ⟨a0, len, cap, rfl⟩ := okWide_slice Try.underlying79 hv
  obtain ⟨fuel, hf⟩ := h
  exact open_grid hf

set_option maxRecDepth 100000 in
/-- A relation that came in, by value. -/
theorem open_rel {r : Reach} {b0 : Nat} {v : Value} {d : DataW H} {p : List MemPlace} (hv : Value.okWide Try.prog w r b0 88 v)
    (h : DataW.Trod enc Try.prog w base (fun _ => true) held 88 v d p) : ∃ ar a n c xss, v = .agg #[.int .i64 ar, .slice a n c] ∧ GridAt w (.slice a n c) xss := by
  obtain ⟨v0, v1, y0, y1, m, rfl, rfl, rfl, h0, h1⟩ := open_agg2 Try.underlying88 (by kernel_rfl) cells_rel hv h
  obtain ⟨ar, e0, _, _⟩ := DataW.trod_int Try.underlying2 h0
  obtain ⟨a, n, c, xss, rfl, hg⟩ := open_grid h1
  simp at e0
  subst e0
  exact ⟨ar, a, n, c, xss, rfl, hg⟩

end
end Go.Proofs.Ytnbgpeoceejolab
