/-
  slices.Clone of a row of integers.
-/
import Derived.Test.YtnbgpeoceejolabGBase
import Derived.Test.YtnbgpeoceejolabAtomF
import Derived.Deep.AppendLies
namespace Go.Proofs.Ytnbgpeoceejolab
open Go.RowKit

set_option linter.unusedSimpArgs false in
set_option maxHeartbeats 800000 in
set_option maxRecDepth 100000 in
theorem cloneInts (v : Value) (xs : List Int) (w : World) (h : RowAt w v xs) (h0 : 0 < xs.length) (hl : xs.length ≤ 1000) :
    Calls Try.prog 62 #[v] w fun e w' => ∃ g c, e = .returned (.slice (some ⟨g, 0, none⟩) xs.length c) ∧ OwnRow w' w.heap.size (.slice (some ⟨g, 0, none⟩) xs.length c) xs ∧ Below w.heap.size w w' := by
  obtain ⟨i0, hi, hz0, hz1, hz2⟩ := info_parts info_int3
  obtain ⟨a1, c1, rfl, hn1, hc1⟩ := h
  obtain ⟨b, off, rfl, hcell⟩ := hc1 h0
  have HC := Lib.hid hcell
  clear hc1 hcell
  have hq : ∀ (w : World) (a : Option Addr) (n c n' c' : Nat), (binOp .eql 45 (.slice a n c) (.slice none n' c')).run Try.prog w = .ok (.bool a.isNone) w := fun w a n c n' c' => Lib.run_eql_slice_nil w _ _ a n c n' c' Try.underlying45
  have hlt : b < w.heap.size := cell_block_lt (HC.out 0 h0)
  have hown : (w.alloc (.cells #[] 2)).ownsRow w.heap.size 2 1 (.slice (some ⟨w.heap.size, 0, none⟩) 0 0) 0 [] := World.ownsRow_lit (e := 2) (size := 1) w #[] 0 (Nat.le_refl _) (by unfold maxLen; omega) (by simp)
  go_enter Try.func62, Try.ntmps62
  have hnews : ∀ j u, (xs.map (Value.int .i64))[j]? = some u → (w.alloc (.cells #[] 2)).cell? ((⟨b, off, none⟩ : Addr).add j) = some u := by
    intro j u hj
    have hjn : j < xs.length := by have := (List.getElem?_eq_some_iff.1 hj).1; simpa using this
    rw [Addr.add_lit]
    refine Lib.cell?_alloc_some _ ?_
    rw [HC.out j hjn]
    rw [← hj]
    simp [intN, List.getD, hjn]
  have hone : ∀ u ∈ xs.map (Value.int .i64), u.oneCell' = true := by intro u hu; obtain ⟨x, _, rfl⟩ := List.mem_map.1 hu; rfl
  have HN := Lib.hid hnews
  have HO := Lib.hid hone
  have HW := Lib.hid hown
  clear hnews hone hown
  go_wp2_with (at_builtin; refine wpList_append_lies _ rfl _ _ 45 rfl w.heap.size 2 i0 (.int .i64 0) 1 8 Try.underlying45 hi hz0 hz1 hz2 rfl (by decide) (.slice (some ⟨w.heap.size, 0, none⟩) 0 0) 0 [] rfl HW.out ⟨b, off, none⟩ xs.length c1 (xs.map (Value.int .i64)) rfl (by simp) HN.out HO.out h0 (by unfold maxLen; omega) (by omega) (by simp [go_sem]) _ rfl ?_; intro g5 cap5 w5 hown5 hgrow5 hat5 hlt5; have HR := Lib.hid hown5; have HB := Lib.hid ((((Below.refl w.heap.size w).alloc (Nat.le_refl _) (.cells #[] 2))).grown hgrow5 (by simp [go_sem]) (fun q hq => by simp [Value.ownBlock] at hq; omega)); clear hown5 hgrow5 hat5 hlt5)
  go_ret
  exact ⟨g5, cap5, by simp, by simpa [OwnRow] using HR.out, HB.out⟩

end Go.Proofs.Ytnbgpeoceejolab
