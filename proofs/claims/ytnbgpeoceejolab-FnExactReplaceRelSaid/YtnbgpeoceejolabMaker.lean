/-
  What a maker of formulas does: addVariable, addAtom, say.
-/
import Derived.Test.YtnbgpeoceejolabPanic
import Derived.Test.YtnbgpeoceejolabRenamed
import Derived.Test.YtnbgpeoceejolabAtomF
import Derived.Test.YtnbgpeoceejolabOpsGrow
import Derived.Test.YtnbgpeoceejolabReg
import Derived.Deep.AppendLies
namespace Go.Proofs.Ytnbgpeoceejolab
open Go.RowKit

set_option linter.unusedSimpArgs false in
set_option maxHeartbeats 800000 in
theorem addVariable_ok (w : World) (b : Nat) (x y : Int) (v : Value) (hB : Box 96 w b #[.int .i64 x, .int .i64 y, v, .int .i64 8, .int .i64 16]) (h0 : 0 ≤ y) (h8 : y < 8) :
    Calls Try.prog 63 #[.pointer (some ⟨b, 0, none⟩)] w fun e w' => e = .returned (.int .i64 y) ∧ w' = (w.setCell ⟨b, 1, none⟩ (.int .i64 (y + 1))).drew := by
  have hc3 : w.cell? ⟨b, 3, none⟩ = some (.int .i64 8) := hB.c 3 rfl
  have hc1 : w.cell? ⟨b, 1, none⟩ = some (.int .i64 y) := hB.c 1 rfl
  have hf1 := hB.free 1
  have hw1 : IntKind.i64.wrap (y + 1) = y + 1 := IntWalk.i64_in _ (by omega)
  have hw2 : IntKind.i64.wrap (y + 1 - 1) = y := by rw [IntWalk.i64_in _ (by omega)]; omega
  have hne : (y == 8) = false := by simp; omega
  go_enter Try.func63, Try.ntmps63
  go_wp2
  refine wp_region_noPanic ?_
  refine wp_region_late (S := (fun w' => w'.cell? ⟨b, 1, none⟩ = some (.int .i64 y) ∧ w'.cell? ⟨b, 3, none⟩ = some (.int .i64 8))) [] (by kernel_rfl) ?_ (fun hHeld => ?_)
  · exact ⟨hc1, hc3⟩
  refine wpAnyL_free (i := 0) (v := ?_) (some 3) rfl rfl (by kernel_rfl) (by kernel_rfl) (by kernel_rfl) (by decide) (fun _ _ _ h => h) (Or.inl ⟨by rfl, ?_⟩) (fun h0 => by assumption) ?_
  rotate_left
  · intro wS
    go_simp
    try with_reducible rfl
  try simp only [Act.put, List.setIfInBounds_toArray, List.set_cons_zero, List.set_cons_succ]
  refine wpAnyL_free (i := 1) (v := ?_) (some 4) rfl rfl (by kernel_rfl) (by kernel_rfl) (by kernel_rfl) (by decide) (fun _ _ _ h => h) (Or.inl ⟨by rfl, ?_⟩) (fun h0 => by assumption) ?_
  rotate_left
  · intro wS
    go_simp
    try with_reducible rfl
  try simp only [Act.put, List.setIfInBounds_toArray, List.set_cons_zero, List.set_cons_succ]
  refine wpAnyL_free (i := 2) (v := ?_) (some 5) rfl rfl (by kernel_rfl) (by kernel_rfl) (by kernel_rfl) (by decide) (fun _ _ _ h => h) (Or.inl ⟨by rfl, ?_⟩) (fun h0 => by assumption) ?_
  rotate_left
  · intro wS
    go_simp
    try with_reducible rfl
  try simp only [Act.put, List.setIfInBounds_toArray, List.set_cons_zero, List.set_cons_succ]
  refine wpAnyL_free (i := 3) (v := ?_) (some 6) rfl rfl (by kernel_rfl) (by kernel_rfl) (by kernel_rfl) (by decide) (fun _ _ _ h => h) (Or.inl ⟨by rfl, ?_⟩) (fun h0 => by assumption) ?_
  rotate_left
  · intro wS
    go_simp
    try with_reducible rfl
  try simp only [Act.put, List.setIfInBounds_toArray, List.set_cons_zero, List.set_cons_succ]
  refine wpAnyL_take (i := 4) (v := ?_) (some 7) rfl rfl (by kernel_rfl) (by kernel_rfl) (by kernel_rfl) (by kernel_rfl) (by kernel_rfl) (fun _ _ _ h => h) (Or.inl ⟨by rfl, ?_⟩) (by assumption) ?_
  rotate_left
  · intro wS hSw
    try dsimp only at hSw
    go_simp
    try with_reducible rfl
  try simp only [Act.put, List.setIfInBounds_toArray, List.set_cons_zero, List.set_cons_succ]
  refine wpAnyL_free (i := 5) (v := ?_) (some 8) rfl rfl (by kernel_rfl) (by kernel_rfl) (by kernel_rfl) (by decide) (fun _ _ _ h => h) (Or.inl ⟨by rfl, ?_⟩) (fun h0 => by assumption) ?_
  rotate_left
  · intro wS
    go_simp
    try with_reducible rfl
  try simp only [Act.put, List.setIfInBounds_toArray, List.set_cons_zero, List.set_cons_succ]
  refine wpAnyL_free (i := 6) (v := ?_) (some 9) rfl rfl (by kernel_rfl) (by kernel_rfl) (by kernel_rfl) (by decide) (fun _ _ _ h => h) (Or.inl ⟨by rfl, ?_⟩) (fun h0 => by assumption) ?_
  rotate_left
  · intro wS
    go_simp
    try with_reducible rfl
  try simp only [Act.put, List.setIfInBounds_toArray, List.set_cons_zero, List.set_cons_succ]
  refine wpAnyL_free (i := 7) (v := ?_) (some 10) rfl rfl (by kernel_rfl) (by kernel_rfl) (by kernel_rfl) (by decide) (fun _ _ _ h => h) (Or.inl ⟨by rfl, ?_⟩) (fun h0 => by assumption) ?_
  rotate_left
  · intro wS
    go_simp
    try with_reducible rfl
  try simp only [Act.put, List.setIfInBounds_toArray, List.set_cons_zero, List.set_cons_succ]
  refine wpAnyL_take (i := 8) (v := ?_) (some 11) rfl rfl (by kernel_rfl) (by kernel_rfl) (by kernel_rfl) (by kernel_rfl) (by kernel_rfl) (fun _ _ _ h => h) (Or.inl ⟨by rfl, ?_⟩) (by assumption) ?_
  rotate_left
  · intro wS hSw
    try dsimp only at hSw
    go_simp
    try with_reducible rfl
  try simp only [Act.put, List.setIfInBounds_toArray, List.set_cons_zero, List.set_cons_succ]
  refine wpAnyL_free (i := 9) (v := ?_) (some 12) rfl rfl (by kernel_rfl) (by kernel_rfl) (by kernel_rfl) (by decide) (fun _ _ _ h => h) (Or.inl ⟨by rfl, ?_⟩) (fun h0 => by assumption) ?_
  rotate_left
  · intro wS
    go_simp
    try with_reducible rfl
  try simp only [Act.put, List.setIfInBounds_toArray, List.set_cons_zero, List.set_cons_succ]
  refine wpAnyL_done (by kernel_rfl) ?_ _
  refine NoPanic.normal ?_
  clear hHeld
  go_wp2
  go_ret
  exact ⟨rfl, rfl⟩

set_option linter.unusedSimpArgs false in
set_option maxHeartbeats 800000 in
theorem addAtom_full (w : World) (b : Nat) (a : Option Addr) (c : Nat) (u : Array Value) (hc : w.cell? ⟨b, 2, none⟩ = some (.slice a 16 c)) (hd : w.cell? ⟨b, 4, none⟩ = some (.int .i64 16)) :
    Calls Try.prog 64 #[.pointer (some ⟨b, 0, none⟩), .agg u] w fun e w' => e = .panicked [{ v := tooBig, recovered := false }] ∧ w' = (w.alloc (.cells u 83)).drew := by
  have hb := cell_block_lt hc
  have hc1 : (w.alloc (.cells u 83)).cell? ⟨b, 2, none⟩ = some (.slice a 16 c) := by rw [World.cell?_alloc_past _ _ _ hb]; exact hc
  have hc4 : (w.alloc (.cells u 83)).cell? ⟨b, 4, none⟩ = some (.int .i64 16) := by rw [World.cell?_alloc_past _ _ _ hb]; exact hd
  go_enter Try.func64, Try.ntmps64
  go_wp2
  refine wp_region_noPanic ?_
  refine wp_region_late (S := (fun w' => w'.cell? ⟨b, 2, none⟩ = some (.slice a 16 c) ∧ w'.cell? ⟨b, 4, none⟩ = some (.int .i64 16))) [] (by kernel_rfl) ?_ (fun hHeld => ?_)
  · exact ⟨hc1, hc4⟩
  refine wpAnyL_free (i := 0) (v := ?_) (some 4) rfl rfl (by kernel_rfl) (by kernel_rfl) (by kernel_rfl) (by decide) (fun _ _ _ h => h) (Or.inl ⟨by rfl, ?_⟩) (fun h0 => by assumption) ?_
  rotate_left
  · intro wS
    go_simp
    try with_reducible rfl
  try simp only [Act.put, List.setIfInBounds_toArray, List.set_cons_zero, List.set_cons_succ]
  refine wpAnyL_free (i := 1) (v := ?_) (some 5) rfl rfl (by kernel_rfl) (by kernel_rfl) (by kernel_rfl) (by decide) (fun _ _ _ h => h) (Or.inl ⟨by rfl, ?_⟩) (fun h0 => by assumption) ?_
  rotate_left
  · intro wS
    go_simp
    try with_reducible rfl
  try simp only [Act.put, List.setIfInBounds_toArray, List.set_cons_zero, List.set_cons_succ]
  refine wpAnyL_free (i := 2) (v := ?_) (some 6) rfl rfl (by kernel_rfl) (by kernel_rfl) (by kernel_rfl) (by decide) (fun _ _ _ h => h) (Or.inl ⟨by rfl, ?_⟩) (fun h0 => by assumption) ?_
  rotate_left
  · intro wS
    go_simp
    try with_reducible rfl
  try simp only [Act.put, List.setIfInBounds_toArray, List.set_cons_zero, List.set_cons_succ]
  refine wpAnyL_free (i := 3) (v := ?_) (some 7) rfl rfl (by kernel_rfl) (by kernel_rfl) (by kernel_rfl) (by decide) (fun _ _ _ h => h) (Or.inl ⟨by rfl, ?_⟩) (fun h0 => by assumption) ?_
  rotate_left
  · intro wS
    go_simp
    try with_reducible rfl
  try simp only [Act.put, List.setIfInBounds_toArray, List.set_cons_zero, List.set_cons_succ]
  refine wpAnyL_take (i := 4) (v := ?_) (some 8) rfl rfl (by kernel_rfl) (by kernel_rfl) (by kernel_rfl) (by kernel_rfl) (by kernel_rfl) (fun _ _ _ h => h) (Or.inl ⟨by rfl, ?_⟩) (by assumption) ?_
  rotate_left
  · intro wS hSw
    try dsimp only at hSw
    go_simp
    try with_reducible rfl
  try simp only [Act.put, List.setIfInBounds_toArray, List.set_cons_zero, List.set_cons_succ]
  refine wpAnyL_free (i := 5) (v := ?_) (some 9) rfl rfl (by kernel_rfl) (by kernel_rfl) (by kernel_rfl) (by decide) (fun _ _ _ h => h) (Or.inl ⟨by rfl, ?_⟩) (fun h0 => by assumption) ?_
  rotate_left
  · intro wS
    go_simp
    try with_reducible rfl
  try simp only [Act.put, List.setIfInBounds_toArray, List.set_cons_zero, List.set_cons_succ]
  refine wpAnyL_free (i := 6) (v := ?_) (some 10) rfl rfl (by kernel_rfl) (by kernel_rfl) (by kernel_rfl) (by decide) (fun _ _ _ h => h) (Or.inl ⟨by rfl, ?_⟩) (fun h0 => by assumption) ?_
  rotate_left
  · intro wS
    go_simp
    try with_reducible rfl
  try simp only [Act.put, List.setIfInBounds_toArray, List.set_cons_zero, List.set_cons_succ]
  refine wpAnyL_free (i := 7) (v := ?_) (some 11) rfl rfl (by kernel_rfl) (by kernel_rfl) (by kernel_rfl) (by decide) (fun _ _ _ h => h) (Or.inl ⟨by rfl, ?_⟩) (fun h0 => by assumption) ?_
  rotate_left
  · intro wS
    go_simp
    try with_reducible rfl
  try simp only [Act.put, List.setIfInBounds_toArray, List.set_cons_zero, List.set_cons_succ]
  refine wpAnyL_free (i := 8) (v := ?_) (some 12) rfl rfl (by kernel_rfl) (by kernel_rfl) (by kernel_rfl) (by decide) (fun _ _ _ h => h) (Or.inl ⟨by rfl, ?_⟩) (fun h0 => by assumption) ?_
  rotate_left
  · intro wS
    go_simp
    try with_reducible rfl
  try simp only [Act.put, List.setIfInBounds_toArray, List.set_cons_zero, List.set_cons_succ]
  refine wpAnyL_take (i := 9) (v := ?_) (some 13) rfl rfl (by kernel_rfl) (by kernel_rfl) (by kernel_rfl) (by kernel_rfl) (by kernel_rfl) (fun _ _ _ h => h) (Or.inl ⟨by rfl, ?_⟩) (by assumption) ?_
  rotate_left
  · intro wS hSw
    try dsimp only at hSw
    go_simp
    try with_reducible rfl
  try simp only [Act.put, List.setIfInBounds_toArray, List.set_cons_zero, List.set_cons_succ]
  refine wpAnyL_free (i := 10) (v := ?_) (some 14) rfl rfl (by kernel_rfl) (by kernel_rfl) (by kernel_rfl) (by decide) (fun _ _ _ h => h) (Or.inl ⟨by rfl, ?_⟩) (fun h0 => by assumption) ?_
  rotate_left
  · intro wS
    go_simp
    try with_reducible rfl
  try simp only [Act.put, List.setIfInBounds_toArray, List.set_cons_zero, List.set_cons_succ]
  refine wpAnyL_done (by kernel_rfl) ?_ _
  refine NoPanic.normal ?_
  clear hHeld
  go_wp2
  exact ⟨rfl, rfl, rfl⟩

theorem Only.of_below {S : Nat → Prop} {w2 w3 : World} (w : World) (h : Below w.heap.size w w2) (k : Below w.heap.size w2 w3) : Only S w w3 :=
  ⟨k.os.trans h.os, k.tape.trans h.tape, k.output.trans h.output, Nat.le_trans h.size k.size, fun q hq _ => (k.block q hq).trans (h.block q hq)⟩

set_option linter.unusedSimpArgs false in
set_option maxHeartbeats 1000000 in
set_option maxRecDepth 100000 in
/-- The list of a maker grows by an atom. -/
theorem addAtom_ok (w0 w : World) (b B : Nat) (x y rel : Int) (a a3 : Option Addr) (n c n3 c3 : Nat) (rs : List (Int × List Int)) (ys : List Int) (hbx : Box 96 w b #[.int .i64 x, .int .i64 y, .slice a n c, .int .i64 8, .int .i64 16]) (hbB : b < B) (hB0 : B ≤ w0.heap.size)
    (h : OwnOps 83 w0 B w0.heap.size (.slice a n c) rs) (hb : Below w0.heap.size w0 w) (hr : OwnRow w w0.heap.size (.slice a3 n3 c3) ys) (hl : rs.length < 16) :
    Calls Try.prog 64 #[.pointer (some ⟨b, 0, none⟩), .agg #[.int .i64 rel, .slice a3 n3 c3]] w fun e w' => e = .returned (.tuple #[]) ∧ ∃ a' n' c', Box 96 w' b #[.int .i64 x, .int .i64 y, .slice a' n' c', .int .i64 8, .int .i64 16] ∧
      OwnOps 83 w' B w'.heap.size (.slice a' n' c') (rs ++ [(rel, ys)]) ∧ Only (fun k => k = b ∨ some k = (Value.slice a n c).ownBlock) w w' ∧ ∀ g, (Value.slice a' n' c').ownBlock = some g → (Value.slice a n c).ownBlock = some g ∨ w.heap.size ≤ g := by
  obtain ⟨i0, hi, hz0, hz1, hz2⟩ := info_parts info_Atom
  have hlt := hbx.lt
  have hne : n = rs.length := by
    obtain ⟨V, hV⟩ := h
    obtain ⟨xs, h1, _⟩ := hV.outer
    rcases ownsRow2_parts h1 with ⟨e1, e2, _⟩ | ⟨g, cc, e1, _⟩
    · simp only [Value.slice.injEq] at e1; omega
    · simp only [Value.slice.injEq] at e1; omega
  subst hne
  have HG := Lib.hid h
  clear h
  have hn16 : ((rs.length : Int) == 16) = false := by simp; omega
  have hk2 : w.cell? ⟨b, 2, none⟩ = some (.slice a rs.length c) := hbx.c 2 rfl
  have hc1 : (w.alloc (.cells #[.int .i64 rel, .slice a3 n3 c3] 83)).cell? ⟨b, 2, none⟩ = some (.slice a rs.length c) := by rw [World.cell?_alloc_past _ _ _ hlt]; exact hk2
  have hc2 : (w.alloc (.cells #[.int .i64 rel, .slice a3 n3 c3] 83)).cell? ⟨w.heap.size, 0, none⟩ = some (.int .i64 rel) := (Box.new 83 w #[.int .i64 rel, .slice a3 n3 c3]).c 0 rfl
  have hc3 : (w.alloc (.cells #[.int .i64 rel, .slice a3 n3 c3] 83)).cell? ⟨w.heap.size, 1, none⟩ = some (.slice a3 n3 c3) := (Box.new 83 w #[.int .i64 rel, .slice a3 n3 c3]).c 1 rfl
  have hc4 : (w.alloc (.cells #[.int .i64 rel, .slice a3 n3 c3] 83)).cell? ⟨b, 4, none⟩ = some (.int .i64 16) := by rw [World.cell?_alloc_past _ _ _ hlt]; exact hbx.c 4 rfl
  go_enter Try.func64, Try.ntmps64
  go_wp2
  refine wp_region_noPanic ?_
  refine wp_region_late (S := (fun w' => w'.cell? ⟨b, 2, none⟩ = some (.slice a rs.length c) ∧ w'.cell? ⟨b, 4, none⟩ = some (.int .i64 16))) [] (by kernel_rfl) ?_ (fun hHeld => ?_)
  · exact ⟨hc1, hc4⟩
  refine wpAnyL_free (i := 0) (v := ?_) (some 4) rfl rfl (by kernel_rfl) (by kernel_rfl) (by kernel_rfl) (by decide) (fun _ _ _ h => h) (Or.inl ⟨by rfl, ?_⟩) (fun h0 => by assumption) ?_
  rotate_left
  · intro wS
    go_simp
    try with_reducible rfl
  try simp only [Act.put, List.setIfInBounds_toArray, List.set_cons_zero, List.set_cons_succ]
  refine wpAnyL_free (i := 1) (v := ?_) (some 5) rfl rfl (by kernel_rfl) (by kernel_rfl) (by kernel_rfl) (by decide) (fun _ _ _ h => h) (Or.inl ⟨by rfl, ?_⟩) (fun h0 => by assumption) ?_
  rotate_left
  · intro wS
    go_simp
    try with_reducible rfl
  try simp only [Act.put, List.setIfInBounds_toArray, List.set_cons_zero, List.set_cons_succ]
  refine wpAnyL_free (i := 2) (v := ?_) (some 6) rfl rfl (by kernel_rfl) (by kernel_rfl) (by kernel_rfl) (by decide) (fun _ _ _ h => h) (Or.inl ⟨by rfl, ?_⟩) (fun h0 => by assumption) ?_
  rotate_left
  · intro wS
    go_simp
    try with_reducible rfl
  try simp only [Act.put, List.setIfInBounds_toArray, List.set_cons_zero, List.set_cons_succ]
  refine wpAnyL_free (i := 3) (v := ?_) (some 7) rfl rfl (by kernel_rfl) (by kernel_rfl) (by kernel_rfl) (by decide) (fun _ _ _ h => h) (Or.inl ⟨by rfl, ?_⟩) (fun h0 => by assumption) ?_
  rotate_left
  · intro wS
    go_simp
    try with_reducible rfl
  try simp only [Act.put, List.setIfInBounds_toArray, List.set_cons_zero, List.set_cons_succ]
  refine wpAnyL_take (i := 4) (v := ?_) (some 8) rfl rfl (by kernel_rfl) (by kernel_rfl) (by kernel_rfl) (by kernel_rfl) (by kernel_rfl) (fun _ _ _ h => h) (Or.inl ⟨by rfl, ?_⟩) (by assumption) ?_
  rotate_left
  · intro wS hSw
    try dsimp only at hSw
    go_simp
    try with_reducible rfl
  try simp only [Act.put, List.setIfInBounds_toArray, List.set_cons_zero, List.set_cons_succ]
  refine wpAnyL_free (i := 5) (v := ?_) (some 9) rfl rfl (by kernel_rfl) (by kernel_rfl) (by kernel_rfl) (by decide) (fun _ _ _ h => h) (Or.inl ⟨by rfl, ?_⟩) (fun h0 => by assumption) ?_
  rotate_left
  · intro wS
    go_simp
    try with_reducible rfl
  try simp only [Act.put, List.setIfInBounds_toArray, List.set_cons_zero, List.set_cons_succ]
  refine wpAnyL_free (i := 6) (v := ?_) (some 10) rfl rfl (by kernel_rfl) (by kernel_rfl) (by kernel_rfl) (by decide) (fun _ _ _ h => h) (Or.inl ⟨by rfl, ?_⟩) (fun h0 => by assumption) ?_
  rotate_left
  · intro wS
    go_simp
    try with_reducible rfl
  try simp only [Act.put, List.setIfInBounds_toArray, List.set_cons_zero, List.set_cons_succ]
  refine wpAnyL_free (i := 7) (v := ?_) (some 11) rfl rfl (by kernel_rfl) (by kernel_rfl) (by kernel_rfl) (by decide) (fun _ _ _ h => h) (Or.inl ⟨by rfl, ?_⟩) (fun h0 => by assumption) ?_
  rotate_left
  · intro wS
    go_simp
    try with_reducible rfl
  try simp only [Act.put, List.setIfInBounds_toArray, List.set_cons_zero, List.set_cons_succ]
  refine wpAnyL_free (i := 8) (v := ?_) (some 12) rfl rfl (by kernel_rfl) (by kernel_rfl) (by kernel_rfl) (by decide) (fun _ _ _ h => h) (Or.inl ⟨by rfl, ?_⟩) (fun h0 => by assumption) ?_
  rotate_left
  · intro wS
    go_simp
    try with_reducible rfl
  try simp only [Act.put, List.setIfInBounds_toArray, List.set_cons_zero, List.set_cons_succ]
  refine wpAnyL_take (i := 9) (v := ?_) (some 13) rfl rfl (by kernel_rfl) (by kernel_rfl) (by kernel_rfl) (by kernel_rfl) (by kernel_rfl) (fun _ _ _ h => h) (Or.inl ⟨by rfl, ?_⟩) (by assumption) ?_
  rotate_left
  · intro wS hSw
    try dsimp only at hSw
    go_simp
    try with_reducible rfl
  try simp only [Act.put, List.setIfInBounds_toArray, List.set_cons_zero, List.set_cons_succ]
  refine wpAnyL_free (i := 10) (v := ?_) (some 14) rfl rfl (by kernel_rfl) (by kernel_rfl) (by kernel_rfl) (by decide) (fun _ _ _ h => h) (Or.inl ⟨by rfl, ?_⟩) (fun h0 => by assumption) ?_
  rotate_left
  · intro wS
    go_simp
    try with_reducible rfl
  try simp only [Act.put, List.setIfInBounds_toArray, List.set_cons_zero, List.set_cons_succ]
  refine wpAnyL_done (by kernel_rfl) ?_ _
  refine NoPanic.normal ?_
  clear hHeld
  obtain ⟨wq, hwq⟩ : ∃ wq, (w.alloc (.cells #[.int .i64 rel, .slice a3 n3 c3] 83)).drew = wq := ⟨_, rfl⟩
  have HWQ : Hid (Below w.heap.size w wq) := Lib.hid (by rw [← hwq]; exact ((Below.refl _ _).alloc (Nat.le_refl _) _).drew)
  have HSQ : Hid (wq.heap.size = w.heap.size + 1) := Lib.hid (by rw [← hwq]; simp [go_sem])
  have hq1 : wq.cell? ⟨b, 2, none⟩ = some (.slice a rs.length c) := by rw [← hwq]; exact hc1
  have hq2 : wq.cell? ⟨w.heap.size, 0, none⟩ = some (.int .i64 rel) := by rw [← hwq]; exact hc2
  have hq3 : wq.cell? ⟨w.heap.size, 1, none⟩ = some (.slice a3 n3 c3) := by rw [← hwq]; exact hc3
  rw [show (w.alloc (.cells #[.int .i64 rel, .slice a3 n3 c3] 83)).drew = wq from hwq]
  clear hwq hc1 hc2 hc3 hc4
  go_wp2
  refine wp_region_noPanic ?_
  refine wp_region_late (S := (fun w' => w'.cell? ⟨b, 2, none⟩ = some (.slice a rs.length c) ∧ w'.cell? ⟨w.heap.size, 0, none⟩ = some (.int .i64 rel) ∧ w'.cell? ⟨w.heap.size, 1, none⟩ = some (.slice a3 n3 c3) ∧ Below wq.heap.size wq w')) [8, 12] (by kernel_rfl) ?_ (fun hHeld => ?_)
  · exact ⟨hq1, hq2, hq3, (QW.refl _).drew.below _⟩
  refine wpAnyL_free (i := 0) (v := ?_) (some 17) rfl rfl (by kernel_rfl) (by kernel_rfl) (by kernel_rfl) (by decide) (fun _ _ _ h => h) (Or.inl ⟨by rfl, ?_⟩) (fun h0 => by assumption) ?_
  rotate_left
  · intro wS
    go_simp
    try with_reducible rfl
  try simp only [Act.put, List.setIfInBounds_toArray, List.set_cons_zero, List.set_cons_succ]
  refine wpAnyL_free (i := 1) (v := ?_) (some 18) rfl rfl (by kernel_rfl) (by kernel_rfl) (by kernel_rfl) (by decide) (fun _ _ _ h => h) (Or.inl ⟨by rfl, ?_⟩) (fun h0 => by assumption) ?_
  rotate_left
  · intro wS
    go_simp
    try with_reducible rfl
  try simp only [Act.put, List.setIfInBounds_toArray, List.set_cons_zero, List.set_cons_succ]
  refine wpAnyL_free (i := 2) (v := ?_) (some 19) rfl rfl (by kernel_rfl) (by kernel_rfl) (by kernel_rfl) (by decide) (fun _ _ _ h => h) (Or.inl ⟨by rfl, ?_⟩) (fun h0 => by assumption) ?_
  rotate_left
  · intro wS
    go_simp
    try with_reducible rfl
  try simp only [Act.put, List.setIfInBounds_toArray, List.set_cons_zero, List.set_cons_succ]
  refine wpAnyL_free (i := 3) (v := ?_) (some 20) rfl rfl (by kernel_rfl) (by kernel_rfl) (by kernel_rfl) (by decide) (fun _ _ _ h => h) (Or.inl ⟨by rfl, ?_⟩) (fun h0 => by assumption) ?_
  rotate_left
  · intro wS
    go_simp
    try with_reducible rfl
  try simp only [Act.put, List.setIfInBounds_toArray, List.set_cons_zero, List.set_cons_succ]
  refine wpAnyL_free (i := 4) (v := ?_) (some 21) rfl rfl (by kernel_rfl) (by kernel_rfl) (by kernel_rfl) (by decide) (fun _ _ _ h => h) (Or.inl ⟨by rfl, ?_⟩) (fun h0 => by assumption) ?_
  rotate_left
  · intro wS
    go_simp
    try with_reducible rfl
  try simp only [Act.put, List.setIfInBounds_toArray, List.set_cons_zero, List.set_cons_succ]
  refine wpAnyL_take (i := 5) (v := ?_) (some 22) rfl rfl (by kernel_rfl) (by kernel_rfl) (by kernel_rfl) (by kernel_rfl) (by kernel_rfl) (fun _ _ _ h => h) (Or.inl ⟨by rfl, ?_⟩) (by assumption) ?_
  rotate_left
  · intro wS hSw
    try dsimp only at hSw
    go_simp
    try with_reducible rfl
  try simp only [Act.put, List.setIfInBounds_toArray, List.set_cons_zero, List.set_cons_succ]
  refine wpAnyL_take (i := 6) (v := ?_) (some 23) rfl rfl (by kernel_rfl) (by kernel_rfl) (by kernel_rfl) (by kernel_rfl) (by kernel_rfl) (fun _ _ _ h => h) (Or.inl ⟨by rfl, ?_⟩) (by assumption) ?_
  rotate_left
  · intro wS hSw
    try dsimp only at hSw
    go_simp
    try with_reducible rfl
  try simp only [Act.put, List.setIfInBounds_toArray, List.set_cons_zero, List.set_cons_succ]
  refine wpAnyL_ready (rs := [7]) (by kernel_rfl) (by simp) ?_
  refine AllReadyL.cons rfl (fun K hK => ?_) AllReadyL.nil
  go_simp
  refine hK.out _ _ ?_ (fun hHeld => ?_)
  · exact ⟨below_cell ((Below.refl _ _).alloc (Nat.le_refl _) _) hHeld.1, below_cell ((Below.refl _ _).alloc (Nat.le_refl _) _) hHeld.2.1, below_cell ((Below.refl _ _).alloc (Nat.le_refl _) _) hHeld.2.2.1, hHeld.2.2.2.trans (((Below.refl _ _).alloc (Nat.le_refl _) _).mono hHeld.2.2.2.size)⟩
  clear hK K
  try simp only [Act.put, List.setIfInBounds_toArray, List.set_cons_zero, List.set_cons_succ]
  refine wpAnyL_ready (rs := [8]) (by kernel_rfl) (by simp) ?_
  refine AllReadyL.last rfl (by kernel_rfl) (fun K hK => ?_) AllReadyL.nil
  have hw3 : Below w.heap.size w wq.drew := HWQ.out.drew
  have HS3 := Lib.hid hw3.size
  have HS0 := Lib.hid hb.size
  have HB3 := Lib.hid (hb.trans (hw3.mono hb.size))
  have HO3 := Lib.hid (OwnRow.below hr hw3)
  obtain ⟨V, hV⟩ := HG.out
  have hV' := hV
  obtain ⟨xs, hxo, hxx⟩ := hV'.outer
  have HV := Lib.hid hV
  have HX := Lib.hid hxx
  have hxl := ownsRow_len hxo
  have HXL := Lib.hid hxl
  have hal := (Below.refl wq.drew.heap.size wq.drew).alloc (Nat.le_refl _) (.cells #[.int .i64 rel, .slice a3 n3 c3] 83)
  have HAL := Lib.hid hal
  clear hV hV' hxx hxl hal
  have e3 : wq.drew.heap.size = w.heap.size + 1 := HSQ.out
  have hnew : (wq.drew.alloc (.cells #[.int .i64 rel, .slice a3 n3 c3] 83)).heap[wq.heap.size]? = _ := heap_alloc_new wq.drew (.cells #[.int .i64 rel, .slice a3 n3 c3] 83)
  have e6 : wq.heap.size = w.heap.size + 1 := HSQ.out
  have e4 : (wq.alloc (.cells #[.int .i64 rel, .slice a3 n3 c3] 83)).drew.heap.size = w.heap.size + 2 := by have := HSQ.out; simp [go_sem, this]
  have e5 : (wq.drew.alloc (.cells #[.int .i64 rel, .slice a3 n3 c3] 83)).heap.size = w.heap.size + 2 := by have := HSQ.out; simp [go_sem, this]
  refine step_append_lies _ (by rfl) _ _ 30 (by rfl) B 83 i0 (.agg #[.int .i64 0, .slice none 0 0]) 2 32 Try.underlying30 hi hz0 hz1 hz2 (by rfl) (by decide) (.slice a rs.length c) rs.length _ (by rfl) ((ownsRow_below hxo HB3.out).alloc _) _ 1 1 [.int .i64 rel, .slice a3 n3 c3] (by rfl) (by rfl) (fun j u hu => World.news_of_block hnew j u (by simpa using hu)) (by simp [Value.oneCell']) (by omega) (by unfold maxLen; omega) (by omega) (by have := HS3.out; have := HS0.out; simp; omega) _ rfl ?_; intro g5 cap5 w5 hown5 hgrow5 hat5 hlt5
  have HGM := Lib.hid (OwnOpsV.grow HV.out rfl HXL.out HX.out (HB3.out.trans (HAL.out.mono HB3.out.size)) (OwnRow.below HO3.out HAL.out) hB0 hown5 hgrow5 (fun g hg => by
    obtain rfl : g5 = g := by simpa [Value.ownBlock] using hg
    rcases hat5 with e | e
    · exact .inl e
    · exact .inr (by omega)))
  have HON := Lib.hid ((Only.of_below w hw3 (HAL.out.mono HS3.out)).trans (Only.of_grownBy hgrow5))
  have HTO := Lib.hid (show ∀ g, (Value.slice (some ⟨g5, 0, none⟩) (rs.length + 1) cap5).ownBlock = some g → (Value.slice a rs.length c).ownBlock = some g ∨ w.heap.size ≤ g from fun g hg => by
    obtain rfl : g5 = g := by simpa [Value.ownBlock] using hg
    rcases hat5 with e | e
    · exact .inl e
    · exact .inr (by omega))
  have HB5 := Lib.hid ((((hw3.trans (HAL.out.mono HS3.out)).mono (show B ≤ w.heap.size by have := HS0.out; omega))).grown hgrow5 (by have := HS3.out; have := HS0.out; simp; omega) (fun q hq => (hxo.lt q hq).1))
  have hb5 := hbx.same (HB5.out.block b hbB)
  have k2 : w5.cell? ⟨b, 2, none⟩ = some (.slice a rs.length c) := hb5.c 2 rfl
  have z2 := hb5.free 2
  have HBX := Lib.hid hb5
  clear hown5 hgrow5 hat5 hlt5 hxo hb5
  refine hK.out _ _ ?_
  clear hK K
  try simp only [Act.put, List.setIfInBounds_toArray, List.set_cons_zero, List.set_cons_succ]
  refine wpAnyL_free (i := 9) (v := ?_) (some 26) rfl rfl (by kernel_rfl) (by kernel_rfl) (by kernel_rfl) (by decide) (fun _ _ _ h => h) (Or.inl ⟨by rfl, ?_⟩) (fun h0 => absurd h0 (by decide)) ?_
  rotate_left
  · intro wS
    go_simp
    try with_reducible rfl
  try simp only [Act.put, List.setIfInBounds_toArray, List.set_cons_zero, List.set_cons_succ]
  refine wpAnyL_free (i := 10) (v := ?_) (some 27) rfl rfl (by kernel_rfl) (by kernel_rfl) (by kernel_rfl) (by decide) (fun _ _ _ h => h) (Or.inl ⟨by rfl, ?_⟩) (fun h0 => absurd h0 (by decide)) ?_
  rotate_left
  · intro wS
    go_simp
    try with_reducible rfl
  try simp only [Act.put, List.setIfInBounds_toArray, List.set_cons_zero, List.set_cons_succ]
  refine wpAnyL_free (i := 11) (v := ?_) (some 28) rfl rfl (by kernel_rfl) (by kernel_rfl) (by kernel_rfl) (by decide) (fun _ _ _ h => h) (Or.inl ⟨by rfl, ?_⟩) (fun h0 => absurd h0 (by decide)) ?_
  rotate_left
  · intro wS
    go_simp
    try with_reducible rfl
  try simp only [Act.put, List.setIfInBounds_toArray, List.set_cons_zero, List.set_cons_succ]
  refine wpAnyL_ready (rs := [12]) (by kernel_rfl) (by simp) ?_
  refine AllReadyL.last rfl (by kernel_rfl) (fun K hK => ?_) AllReadyL.nil
  go_simp
  refine hK.out _ _ ?_
  clear hK K
  try simp only [Act.put, List.setIfInBounds_toArray, List.set_cons_zero, List.set_cons_succ]
  refine wpAnyL_done (by kernel_rfl) ?_ _
  refine NoPanic.normal ?_
  go_wp2
  refine ⟨rfl, .tuple #[], by simp [results, Try.results64, go_sem], rfl, _, _, _, HBX.out.set 2 _, ?_, ?_, HTO.out⟩
  · have e : (rs ++ [(rel, ys)]).length = rs.length + 1 := by simp
    have hG2 : OwnOps 83 w5 B w5.heap.size (.slice (some ⟨g5, 0, none⟩) (rs.length + 1) cap5) (rs ++ [(rel, ys)]) := by
      show ∃ V, OwnOpsV _ _ _ _ _ (rs ++ [(rel, ys)]).length V _
      rw [e]
      exact ⟨_, HGM.out⟩
    simpa [go_sem] using hG2.stored (p := ⟨b, 2, none⟩) hbB (.slice (some ⟨g5, 0, none⟩) (rs.length + 1) cap5)
  · exact Only.setCell (HON.out.mono (fun k hk => .inr hk)) (.inl rfl) _

end Go.Proofs.Ytnbgpeoceejolab
