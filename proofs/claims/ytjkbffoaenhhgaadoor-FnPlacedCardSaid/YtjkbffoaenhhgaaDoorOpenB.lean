/-
  The laws' arguments, opened: a slice of bytes.
-/
import Derived.Test.YtjkbffoaenhhgaaDoorSrc
import Derived.Test.YtjkbffoaenhhgaaDoorOpen
namespace Go.Proofs.YtjkbffoaenhhgaaDoor
open Go.ChangeShapes Go.WideShapes Go.ChangeAt Go.RowKit Go.Joins

theorem cells_byte : Tryd.prog.cellsOf 5 = 1 := by kernel_rfl

theorem byte_range {n : Int} (h : (Lit.int .u8 n).wf = true) : 0 ≤ n ∧ n < 256 := by
  simp only [Lit.wf, Bool.and_eq_true, decide_eq_true_eq] at h
  have h1 : IntKind.u8.min = 0 := by decide
  have h2 : IntKind.u8.max = 255 := by decide
  omega

section
variable {H : Type} {enc : TypeId × Value → H} {w : World} {base : Nat} {held : Bool}
set_option maxRecDepth 100000 in
theorem open_bytes {r : Reach} {b0 : Nat} {v : Value} {d : DataW H} {p : List MemPlace} (hv : Value.okWide Tryd.prog w r b0 22 v)
    (h : DataW.Trod enc Tryd.prog w base (fun _ => true) held 22 v d p) : ∃ a n c xs, v = .slice a n c ∧ BytesAt w (.slice a n c) xs := by
  obtain ⟨a0, len, cap, rfl⟩ := okWide_slice Tryd.underlying22 hv
  obtain ⟨fuel, hf⟩ := h
  rcases open_ints Tryd.underlying22 Tryd.underlying5 cells_byte hf with ⟨hcs, _⟩ | ⟨a, len', cap', zs, hcs, _, hl, hm, hz, _, hcell, hwf⟩
  · simp [Value.cells] at hcs
    obtain ⟨rfl, rfl, rfl⟩ := hcs
    exact ⟨none, 0, 0, [], rfl, BytesAt.nil w⟩
  · simp [Value.cells] at hcs
    obtain ⟨rfl, rfl, rfl⟩ := hcs
    simp only [if_true] at hz
    have hlen : (zs.take len).length = len := by simp; omega
    refine ⟨some a, len, cap, zs.take len, rfl, ⟨some a, cap, by rw [hlen], by rw [hlen]; unfold maxLen at hm; omega, fun h0 => ?_⟩, fun k hk => ?_, fun n c h => by simp at h⟩
    · rw [hlen] at h0 ⊢
      obtain ⟨b, off, rfl⟩ := add_none (hcell 0 (by omega))
      refine ⟨b, off, rfl, fun j hj => ?_⟩
      have := hcell j (by omega)
      rw [add_plain] at this
      rw [this]
      show _ = some (Value.int .u8 (intN _ j))
      rw [intN_at _ _ (by rw [hlen]; exact hj)]
      simp [List.getD, show j < zs.length by omega]
    · rw [intN_at _ _ hk]
      exact byte_range (hwf _ (List.mem_of_mem_take (List.getElem_mem hk)))
end
end Go.Proofs.YtjkbffoaenhhgaaDoor
