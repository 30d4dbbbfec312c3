/-
  Rows and atoms with other variables: replaced, renamed and renamedAll of the program.
-/
import Derived.Test.YtnbgpeoceejolabTab
import Derived.Test.YtnbgpeoceejolabMoved
import Derived.Test.YtnbgpeoceejolabApplyOp
import Derived.Test.YtnbgpeoceejolabAtomF
import Derived.Deep.CutRange
namespace Go.Proofs.Ytnbgpeoceejolab
open Go.RowKit

theorem mapped_vals (tos xs : List Int) : (mapped tos xs).map (Value.int .i64) = (List.range xs.length).map fun i => Value.int .i64 (intN tos (intN xs i).toNat) := by
  unfold mapped mapK
  rw [List.map_map]
  rfl

set_option linter.unusedSimpArgs false in
set_option maxHeartbeats 1000000 in
set_option maxRecDepth 100000 in
theorem replaced (v1 v2 : Value) (xs tos : List Int) (w : World) (h1 : RowAt w v1 xs) (h2 : RowAt w v2 tos) (hl : xs.length ≤ 1000) (hr : ∀ i, i < xs.length → 0 ≤ intN xs i ∧ intN xs i < tos.length) :
    Calls Try.prog 81 #[v1, v2] w fun e w' => ∃ g, e = .returned (.slice (some ⟨g, 0, none⟩) xs.length xs.length) ∧ OwnRow w' w.heap.size (.slice (some ⟨g, 0, none⟩) xs.length xs.length) (mapped tos xs) ∧ Below w.heap.size w w' := by
  obtain ⟨i0, hi, hz0, hz1, hz2⟩ := info_parts info_int
  obtain ⟨a1, c1, rfl, hn1, hc1⟩ := h1
  obtain ⟨a2, c2, rfl, hn2, hc2⟩ := h2
  have HC1 := Lib.hid hc1
  have HC2 := Lib.hid hc2
  have HRG := Lib.hid hr
  clear hc1 hc2 hr
  go_enter Try.func81, Try.ntmps81
  go_wp2_with (at_make; refine wpList_make_full _ rfl _ _ 45 rfl w.heap.size 2 i0 (.int .i64 0) 1 Try.underlying45 hi hz0 hz1 .i64 .i64 _ _ xs.length rfl rfl rfl rfl (by rw [hz2]; omega) (by unfold maxLen; omega) (Nat.le_refl _) ?_; intro w1 hown hgrow)
  have hu := upto_zero xs.length (fun i => .int .i64 (intN tos (intN xs i).toNat)) (.int .i64 0)
  have hown0 : w1.ownsRow w.heap.size 2 1 (.slice (some ⟨w.heap.size, 0, none⟩) xs.length xs.length) xs.length (upto xs.length 0 (fun i => .int .i64 (intN tos (intN xs i).toNat)) (.int .i64 0)) := by
    rw [hu, ← toList_madeCells_one]
    simpa [Value.cells] using hown
  have hb0 : Below w.heap.size w w1 := (Below.refl _ _).grown hgrow (Nat.le_refl _) (fun _ h => by simp at h)
  clear hu hown hgrow
  try go_wp2
  go_loopw [13] (fun i wr => ∃ k : Nat, k ≤ xs.length ∧ i = .int .i64 k ∧ wr.ownsRow w.heap.size 2 1 (.slice (some ⟨w.heap.size, 0, none⟩) xs.length xs.length) xs.length (upto xs.length k (fun i => .int .i64 (intN tos (intN xs i).toNat)) (.int .i64 0)) ∧ Below w.heap.size w wr) (fun i _ => xs.length - (intOf i).toNat)
  case atStart => exact ⟨0, Nat.zero_le _, rfl, hown0, hb0⟩
  case round =>
    obtain ⟨k, hk, rfl, hown, hbel⟩ := hrel
    by_cases hlt : k < xs.length
    · have hc2 := hown.cellAt k (by omega)
      rw [upto_at _ _ _ _ _ hlt, if_neg (by omega)] at hc2
      have hf2 := hown.frozenAt k
      obtain ⟨b1, off1, ha1, hcell1⟩ := HC1.out (by omega)
      subst ha1
      obtain ⟨g0, g1⟩ := HRG.out k hlt
      obtain ⟨b2, off2, ha2, hcell2⟩ := HC2.out (by omega)
      subst ha2
      have hx1 := below_cell hbel (hcell1 k hlt)
      have hx2 := below_cell hbel (hcell2 (intN xs k).toNat (by omega))
      have hst := Lib.hid (hown.stored k (.int .i64 (intN tos (intN xs k).toNat)))
      have hbl := Lib.hid hbel
      have hlt' : (k : Int) < (xs.length : Int) := by omega
      clear hown hbel hown0 hb0 hcell1 hcell2
      go_wp2
      go_roundw
      case rel => exact ⟨k + 1, by omega, by go_num, by have h := hst.out.1; rwa [upto_set _ _ _ _ _ rfl] at h, hbl.out.setCell (Nat.le_refl _) _⟩
      case measure => simp [intOf]; omega
    · obtain rfl : k = xs.length := by omega
      clear hown0 hb0
      rw [upto_all, ← mapped_vals] at hown
      have H : Hid (OwnRow wr w.heap.size (.slice (some ⟨w.heap.size, 0, none⟩) xs.length xs.length) (mapped tos xs)) := by
        show World.ownsRow _ _ _ _ _ _ _
        rw [mapped_len]
        exact hown
      have HB := Lib.hid hbel
      clear hown hbel
      go_wp2
      go_ret
      exact ⟨_, rfl, H.out, HB.out⟩

set_option linter.unusedSimpArgs false in
set_option maxHeartbeats 2000000 in
set_option maxRecDepth 100000 in
theorem renamed (rel : Int) (a : Option Addr) (n c : Nat) (v2 : Value) (xs tos : List Int) (w : World) (h1 : RowAt w (.slice a n c) xs) (h2 : RowAt w v2 tos) (hl : xs.length ≤ 1000) (hr : ∀ i, i < xs.length → 0 ≤ intN xs i ∧ intN xs i < tos.length) :
    Calls Try.prog 65 #[.agg #[.int .i64 rel, .slice a n c], v2] w (MadeOp w rel (mapped tos xs)) := by
  have HX := Lib.hid h1
  have HT := Lib.hid h2
  have HRG := Lib.hid hr
  have HW1 : Hid (Below w.heap.size w ((w.alloc (.cells #[.int .i64 rel, .slice a n c] 83)).alloc (.cells #[.int .i64 0, .slice none 0 0] 83))) := Lib.hid (((Below.refl _ _).alloc (Nat.le_refl _) _).alloc (by simp) _)
  have K0 := Lib.hid (((Kept.start w).box w.heap.size rfl (.int .i64 rel) (.slice a n c) 83).below ((Below.refl _ _).alloc (Nat.le_refl _) (.cells #[.int .i64 0, .slice none 0 0] 83)))
  have HR0 : Hid (Box 83 ((w.alloc (.cells #[.int .i64 rel, .slice a n c] 83)).alloc (.cells #[.int .i64 0, .slice none 0 0] 83)) (w.heap.size + 1) #[.int .i64 0, .slice none 0 0]) := Lib.hid (by
    have h := Box.new 83 (w.alloc (.cells #[.int .i64 rel, .slice a n c] 83)) #[.int .i64 0, .slice none 0 0]
    rwa [World.size_alloc] at h)
  have ck0 := K0.out.c 0 rfl
  have ck1 := K0.out.c 1 rfl
  clear h1 h2 hr
  go_enter Try.func65, Try.ntmps65
  go_upto_region 1 with fail
  refine wp_region_noPanic ?_
  refine wp_region_late (S := (fun w' => w'.cell? ⟨w.heap.size, 0, none⟩ = some (.int .i64 rel) ∧ w'.cell? ⟨w.heap.size, 1, none⟩ = some (.slice a n c) ∧ Below ((w.alloc (.cells #[.int .i64 rel, .slice a n c] 83)).alloc (.cells #[.int .i64 0, .slice none 0 0] 83)).heap.size ((w.alloc (.cells #[.int .i64 rel, .slice a n c] 83)).alloc (.cells #[.int .i64 0, .slice none 0 0] 83)) w')) [7] (by kernel_rfl) ?_ (fun hHeld => ?_)
  · exact ⟨ck0, ck1, (QW.refl _).drew.below _⟩
  refine wpAnyL_free (i := 0) (v := ?_) (some 5) rfl rfl (by kernel_rfl) (by kernel_rfl) (by kernel_rfl) (by decide) (fun _ _ _ h => h) (Or.inl ⟨by rfl, ?_⟩) (fun h0 => by assumption) ?_
  rotate_left
  · intro wS
    go_simp
    try with_reducible rfl
  try simp only [Act.put, List.setIfInBounds_toArray, List.set_cons_zero, List.set_cons_succ]
  refine wpAnyL_take (i := 1) (v := ?_) (some 6) rfl rfl (by kernel_rfl) (by kernel_rfl) (by kernel_rfl) (by kernel_rfl) (by kernel_rfl) (fun _ _ _ h => h) (Or.inl ⟨by rfl, ?_⟩) (by assumption) ?_
  rotate_left
  · intro wS hSw
    try dsimp only at hSw
    go_simp
    try with_reducible rfl
  try simp only [Act.put, List.setIfInBounds_toArray, List.set_cons_zero, List.set_cons_succ]
  refine wpAnyL_free (i := 2) (v := ?_) (some 7) rfl rfl (by kernel_rfl) (by kernel_rfl) (by kernel_rfl) (by decide) (fun _ _ _ h => h) (Or.inl ⟨by rfl, ?_⟩) (fun h0 => by assumption) ?_
  rotate_left
  · intro wS
    go_simp
    try with_reducible rfl
  try simp only [Act.put, List.setIfInBounds_toArray, List.set_cons_zero, List.set_cons_succ]
  refine wpAnyL_take (i := 3) (v := ?_) (some 8) rfl rfl (by kernel_rfl) (by kernel_rfl) (by kernel_rfl) (by kernel_rfl) (by kernel_rfl) (fun _ _ _ h => h) (Or.inl ⟨by rfl, ?_⟩) (by assumption) ?_
  rotate_left
  · intro wS hSw
    try dsimp only at hSw
    go_simp
    try with_reducible rfl
  try simp only [Act.put, List.setIfInBounds_toArray, List.set_cons_zero, List.set_cons_succ]
  refine wpAnyL_free (i := 4) (v := ?_) (some 9) rfl rfl (by kernel_rfl) (by kernel_rfl) (by kernel_rfl) (by decide) (fun _ _ _ h => h) (Or.inl ⟨by rfl, ?_⟩) (fun h0 => by assumption) ?_
  rotate_left
  · intro wS
    go_simp
    try with_reducible rfl
  try simp only [Act.put, List.setIfInBounds_toArray, List.set_cons_zero, List.set_cons_succ]
  refine wpAnyL_ready (rs := [5]) (by kernel_rfl) (by simp) ?_
  refine AllReadyL.cons rfl (fun K hK => ?_) AllReadyL.nil
  go_simp; go_at_call 81; refine (replaced _ _ xs tos _ ((HX.out.below HW1.out).below hHeld.2.2) ((HT.out.below HW1.out).below hHeld.2.2) hl HRG.out).mono ?_; rintro e w5 ⟨g5, rfl, ho5, hb5⟩
  have HO5 := Lib.hid (ho5.mono (B' := w.heap.size + 2) (by simp))
  have HB5 := Lib.hid (hHeld.2.2.trans (hb5.mono hHeld.2.2.size))
  have HR5 := Lib.hid (HR0.out.below HB5.out)
  have e0 := HR5.out.c 0 rfl
  have e1 := HR5.out.c 1 rfl
  have f0 := HR5.out.free 0
  have f1 := HR5.out.free 1
  refine hK.out _ _ ?_ (fun hHeld => ?_)
  · exact ⟨below_cell hb5 hHeld.1, below_cell hb5 hHeld.2.1, hHeld.2.2.trans (hb5.mono hHeld.2.2.size)⟩
  clear hK K
  try simp only [Act.put, List.setIfInBounds_toArray, List.set_cons_zero, List.set_cons_succ]
  refine wpAnyL_free (i := 6) (v := ?_) (some 11) rfl rfl (by kernel_rfl) (by kernel_rfl) (by kernel_rfl) (by decide) (fun _ _ _ h => h) (Or.inl ⟨by rfl, ?_⟩) (fun h0 => by assumption) ?_
  rotate_left
  · intro wS
    go_simp
    try with_reducible rfl
  try simp only [Act.put, List.setIfInBounds_toArray, List.set_cons_zero, List.set_cons_succ]
  refine wpAnyL_ready (rs := [7]) (by kernel_rfl) (by simp) ?_
  refine AllReadyL.last rfl (by kernel_rfl) (fun K hK => ?_) AllReadyL.nil
  go_simp
  refine hK.out _ _ ?_
  clear hK K
  try simp only [Act.put, List.setIfInBounds_toArray, List.set_cons_zero, List.set_cons_succ]
  refine wpAnyL_done (by kernel_rfl) ?_ _
  refine NoPanic.normal ?_
  go_wp2
  refine bodyPost_ret (v := .agg #[.int .i64 rel, .slice (some ⟨g5, 0, none⟩) xs.length xs.length]) (by simp [results, Try.results65, go_sem, e0, e1]) rfl ⟨_, _, _, rfl, ?_, ?_⟩
  · exact (((HO5.out.stored (by show w.heap.size + 1 < w.heap.size + 2; omega) _).stored (by show w.heap.size + 1 < w.heap.size + 2; omega) _).mono (by omega)).full
  · exact ((HW1.out.trans (HB5.out.mono HW1.out.size)).setCell (by show w.heap.size ≤ w.heap.size + 1; omega) _).setCell (by show w.heap.size ≤ w.heap.size + 1; omega) _

end Go.Proofs.Ytnbgpeoceejolab
