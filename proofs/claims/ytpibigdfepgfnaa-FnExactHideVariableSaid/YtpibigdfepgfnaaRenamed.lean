/-
  Rows and atoms with other variables: replaced, renamed and renamedAll of the program.
-/
import Derived.Test.YtpibigdfepgfnaaTab
import Derived.Test.YtpibigdfepgfnaaMoved
import Derived.Test.YtpibigdfepgfnaaApplyOp
import Derived.Test.YtpibigdfepgfnaaAtomF
import Derived.Deep.CutRange
namespace Go.Proofs.Ytpibigdfepgfnaa
open Go.RowKit

theorem mapped_vals (tos xs : List Int) : (mapped tos xs).map (Value.int .i64) = (List.range xs.length).map fun i => Value.int .i64 (intN tos (intN xs i).toNat) := by
  unfold mapped mapK
  rw [List.map_map]
  rfl

set_option linter.unusedSimpArgs false in
set_option maxHeartbeats 1000000 in
set_option maxRecDepth 100000 in
theorem replaced (v1 v2 : Value) (xs tos : List Int) (w : World) (h1 : RowAt w v1 xs) (h2 : RowAt w v2 tos) (hl : xs.length ≤ 1000) (hr : ∀ i, i < xs.length → 0 ≤ intN xs i ∧ intN xs i < tos.length) :
    Calls Try.prog 130 #[v1, v2] w fun e w' => ∃ g, e = .returned (.slice (some ⟨g, 0, none⟩) xs.length xs.length) ∧ OwnRow w' w.heap.size (.slice (some ⟨g, 0, none⟩) xs.length xs.length) (mapped tos xs) ∧ Below w.heap.size w w' := by
  obtain ⟨i0, hi, hz0, hz1, hz2⟩ := info_parts info_int
  obtain ⟨a1, c1, rfl, hn1, hc1⟩ := h1
  obtain ⟨a2, c2, rfl, hn2, hc2⟩ := h2
  have HC1 := Lib.hid hc1
  have HC2 := Lib.hid hc2
  have HRG := Lib.hid hr
  clear hc1 hc2 hr
  go_enter Try.func130, Try.ntmps130
  go_wp2_with (at_make; refine wpList_make_full _ rfl _ _ 22 rfl w.heap.size 2 i0 (.int .i64 0) 1 Try.underlying22 hi hz0 hz1 .i64 .i64 _ _ xs.length rfl rfl rfl rfl (by rw [hz2]; omega) (by unfold maxLen; omega) (Nat.le_refl _) ?_; intro w1 hown hgrow)
  have hu := upto_zero xs.length (fun i => .int .i64 (intN tos (intN xs i).toNat)) (.int .i64 0)
  have hown0 : w1.ownsRow w.heap.size 2 1 (.slice (some ⟨w.heap.size, 0, none⟩) xs.length xs.length) xs.length (upto xs.length 0 (fun i => .int .i64 (intN tos (intN xs i).toNat)) (.int .i64 0)) := by
    rw [hu, ← toList_madeCells_one]
    simpa [Value.cells] using hown
  have hb0 : Below w.heap.size w w1 := (Below.refl _ _).grown hgrow (Nat.le_refl _) (fun _ h => by simp at h)
  clear hu hown hgrow
  try go_wp2
  go_loopw [13] (fun i wr => ∃ k : Nat, k ≤ xs.length ∧ i = .int .i64 k ∧ wr.ownsRow w.heap.size 2 1 (.slice (some ⟨w.heap.size, 0, none⟩) xs.length xs.length) xs.length (upto xs.length k (fun i => .int .i64 (intN tos (intN xs i).toNat)) (.int .i64 0)) ∧ Below w.heap.size w wr) (fun i _ => xs.length - (intOf i).toNat)
  case atStart => exact ⟨0, Nat.zero_le _, rfl, hown0, hb0⟩
  case round =>
    obtain ⟨k, hk, rfl, hown, hbel⟩ := hrel
    by_cases hlt : k < xs.length
    · have hc2 := hown.cellAt k (by omega)
      rw [upto_at _ _ _ _ _ hlt, if_neg (by omega)] at hc2
      have hf2 := hown.frozenAt k
      obtain ⟨b1, off1, ha1, hcell1⟩ := HC1.out (by omega)
      subst ha1
      obtain ⟨g0, g1⟩ := HRG.out k hlt
      obtain ⟨b2, off2, ha2, hcell2⟩ := HC2.out (by omega)
      subst ha2
      have hx1 := below_cell hbel (hcell1 k hlt)
      have hx2 := below_cell hbel (hcell2 (intN xs k).toNat (by omega))
      have hst := Lib.hid (hown.stored k (.int .i64 (intN tos (intN xs k).toNat)))
      have hbl := Lib.hid hbel
      have hlt' : (k : Int) < (xs.length : Int) := by omega
      clear hown hbel hown0 hb0 hcell1 hcell2
      go_wp2
      go_roundw
      case rel => exact ⟨k + 1, by omega, by go_num, by have h := hst.out.1; rwa [upto_set _ _ _ _ _ rfl] at h, hbl.out.setCell (Nat.le_refl _) _⟩
      case measure => simp [intOf]; omega
    · obtain rfl : k = xs.length := by omega
      clear hown0 hb0
      rw [upto_all, ← mapped_vals] at hown
      have H : Hid (OwnRow wr w.heap.size (.slice (some ⟨w.heap.size, 0, none⟩) xs.length xs.length) (mapped tos xs)) := by
        show World.ownsRow _ _ _ _ _ _ _
        rw [mapped_len]
        exact hown
      have HB := Lib.hid hbel
      clear hown hbel
      go_wp2
      go_ret
      exact ⟨_, rfl, H.out, HB.out⟩

set_option linter.unusedSimpArgs false in
set_option maxHeartbeats 2000000 in
set_option maxRecDepth 100000 in
theorem renamed (rel : Int) (a : Option Addr) (n c : Nat) (v2 : Value) (xs tos : List Int) (w : World) (h1 : RowAt w (.slice a n c) xs) (h2 : RowAt w v2 tos) (hl : xs.length ≤ 1000) (hr : ∀ i, i < xs.length → 0 ≤ intN xs i ∧ intN xs i < tos.length) :
    Calls Try.prog 102 #[.agg #[.int .i64 rel, .slice a n c], v2] w (MadeOp w rel (mapped tos xs)) := by
  have HX := Lib.hid h1
  have HT := Lib.hid h2
  have HRG := Lib.hid hr
  have HW1 : Hid (Below w.heap.size w ((w.alloc (.cells #[.int .i64 rel, .slice a n c] 112)).alloc (.cells #[.int .i64 0, .slice none 0 0] 112))) := Lib.hid (((Below.refl _ _).alloc (Nat.le_refl _) _).alloc (by simp) _)
  have K0 := Lib.hid (((Kept.start w).box w.heap.size rfl (.int .i64 rel) (.slice a n c) 112).below ((Below.refl _ _).alloc (Nat.le_refl _) (.cells #[.int .i64 0, .slice none 0 0] 112)))
  have HR0 : Hid (Box 112 ((w.alloc (.cells #[.int .i64 rel, .slice a n c] 112)).alloc (.cells #[.int .i64 0, .slice none 0 0] 112)) (w.heap.size + 1) #[.int .i64 0, .slice none 0 0]) := Lib.hid (by
    have h := Box.new 112 (w.alloc (.cells #[.int .i64 rel, .slice a n c] 112)) #[.int .i64 0, .slice none 0 0]
    rwa [World.size_alloc] at h)
  have ck0 := K0.out.c 0 rfl
  have ck1 := K0.out.c 1 rfl
  clear h1 h2 hr
  go_enter Try.func102, Try.ntmps102
  go_upto_region 1 with fail
  refine wp_region_noPanic ?_
  refine wp_region_late (S := (fun w' => w'.cell? ⟨w.heap.size, 0, none⟩ = some (.int .i64 rel) ∧ w'.cell? ⟨w.heap.size, 1, none⟩ = some (.slice a n c) ∧ Below ((w.alloc (.cells #[.int .i64 rel, .slice a n c] 112)).alloc (.cells #[.int .i64 0, .slice none 0 0] 112)).heap.size ((w.alloc (.cells #[.int .i64 rel, .slice a n c] 112)).alloc (.cells #[.int .i64 0, .slice none 0 0] 112)) w')) [7] (by kernel_rfl) ?_ (fun hHeld => ?_)
  · exact ⟨ck0, ck1, (QW.refl _).drew.below _⟩
  refine wpAnyL_free (i := 0) (v := ?_) (some 5) rfl rfl (by kernel_rfl) (by kernel_rfl) (by kernel_rfl) (by decide) (fun _ _ _ h => h) (Or.inl ⟨by rfl, ?_⟩) (fun h0 => by assumption) ?_
  rotate_left
  · intro wS
    go_simp
    try with_reducible rfl
  try simp only [Act.put, List.setIfInBounds_toArray, List.set_cons_zero, List.set_cons_succ]
  refine wpAnyL_take (i := 1) (v := ?_) (some 6) rfl rfl (by kernel_rfl) (by kernel_rfl) (by kernel_rfl) (by kernel_rfl) (by kernel_rfl) (fun _ _ _ h => h) (Or.inl ⟨by rfl, ?_⟩) (by assumption) ?_
  rotate_left
  · intro wS hSw
    try dsimp only at hSw
    go_simp
    try with_reducible rfl
  try simp only [Act.put, List.setIfInBounds_toArray, List.set_cons_zero, List.set_cons_succ]
  refine wpAnyL_free (i := 2) (v := ?_) (some 7) rfl rfl (by kernel_rfl) (by kernel_rfl) (by kernel_rfl) (by decide) (fun _ _ _ h => h) (Or.inl ⟨by rfl, ?_⟩) (fun h0 => by assumption) ?_
  rotate_left
  · intro wS
    go_simp
    try with_reducible rfl
  try simp only [Act.put, List.setIfInBounds_toArray, List.set_cons_zero, List.set_cons_succ]
  refine wpAnyL_take (i := 3) (v := ?_) (some 8) rfl rfl (by kernel_rfl) (by kernel_rfl) (by kernel_rfl) (by kernel_rfl) (by kernel_rfl) (fun _ _ _ h => h) (Or.inl ⟨by rfl, ?_⟩) (by assumption) ?_
  rotate_left
  · intro wS hSw
    try dsimp only at hSw
    go_simp
    try with_reducible rfl
  try simp only [Act.put, List.setIfInBounds_toArray, List.set_cons_zero, List.set_cons_succ]
  refine wpAnyL_free (i := 4) (v := ?_) (some 9) rfl rfl (by kernel_rfl) (by kernel_rfl) (by kernel_rfl) (by decide) (fun _ _ _ h => h) (Or.inl ⟨by rfl, ?_⟩) (fun h0 => by assumption) ?_
  rotate_left
  · intro wS
    go_simp
    try with_reducible rfl
  try simp only [Act.put, List.setIfInBounds_toArray, List.set_cons_zero, List.set_cons_succ]
  refine wpAnyL_ready (rs := [5]) (by kernel_rfl) (by simp) ?_
  refine AllReadyL.cons rfl (fun K hK => ?_) AllReadyL.nil
  go_simp; go_at_call 130; refine (replaced _ _ xs tos _ ((HX.out.below HW1.out).below hHeld.2.2) ((HT.out.below HW1.out).below hHeld.2.2) hl HRG.out).mono ?_; rintro e w5 ⟨g5, rfl, ho5, hb5⟩
  have HO5 := Lib.hid (ho5.mono (B' := w.heap.size + 2) (by simp))
  have HB5 := Lib.hid (hHeld.2.2.trans (hb5.mono hHeld.2.2.size))
  have HR5 := Lib.hid (HR0.out.below HB5.out)
  have e0 := HR5.out.c 0 rfl
  have e1 := HR5.out.c 1 rfl
  have f0 := HR5.out.free 0
  have f1 := HR5.out.free 1
  refine hK.out _ _ ?_ (fun hHeld => ?_)
  · exact ⟨below_cell hb5 hHeld.1, below_cell hb5 hHeld.2.1, hHeld.2.2.trans (hb5.mono hHeld.2.2.size)⟩
  clear hK K
  try simp only [Act.put, List.setIfInBounds_toArray, List.set_cons_zero, List.set_cons_succ]
  refine wpAnyL_free (i := 6) (v := ?_) (some 11) rfl rfl (by kernel_rfl) (by kernel_rfl) (by kernel_rfl) (by decide) (fun _ _ _ h => h) (Or.inl ⟨by rfl, ?_⟩) (fun h0 => by assumption) ?_
  rotate_left
  · intro wS
    go_simp
    try with_reducible rfl
  try simp only [Act.put, List.setIfInBounds_toArray, List.set_cons_zero, List.set_cons_succ]
  refine wpAnyL_ready (rs := [7]) (by kernel_rfl) (by simp) ?_
  refine AllReadyL.last rfl (by kernel_rfl) (fun K hK => ?_) AllReadyL.nil
  go_simp
  refine hK.out _ _ ?_
  clear hK K
  try simp only [Act.put, List.setIfInBounds_toArray, List.set_cons_zero, List.set_cons_succ]
  refine wpAnyL_done (by kernel_rfl) ?_ _
  refine NoPanic.normal ?_
  go_wp2
  refine bodyPost_ret (v := .agg #[.int .i64 rel, .slice (some ⟨g5, 0, none⟩) xs.length xs.length]) (by simp [results, Try.results102, go_sem, e0, e1]) rfl ⟨_, _, _, rfl, ?_, ?_⟩
  · exact (((HO5.out.stored (by show w.heap.size + 1 < w.heap.size + 2; omega) _).stored (by show w.heap.size + 1 < w.heap.size + 2; omega) _).mono (by omega)).full
  · exact ((HW1.out.trans (HB5.out.mono HW1.out.size)).setCell (by show w.heap.size ≤ w.heap.size + 1; omega) _).setCell (by show w.heap.size ≤ w.heap.size + 1; omega) _

set_option linter.unusedSimpArgs false in
set_option maxHeartbeats 2000000 in
set_option maxRecDepth 100000 in
theorem renamedAll (v1 v2 : Value) (rs : List (Int × List Int)) (tos : List Int) (w : World) (h1 : OpsAt w v1 rs) (h2 : RowAt w v2 tos) (hl : ∀ k, k < rs.length → (rowO rs k).length ≤ 1000) (hr : ∀ k, k < rs.length → ∀ i, i < (rowO rs k).length → 0 ≤ intN (rowO rs k) i ∧ intN (rowO rs k) i < tos.length) (hm : rs.length ≤ 1000) :
    Calls Try.prog 62 #[v1, v2] w (MadeOps 112 w (movedL rs tos)) := by
  obtain ⟨i0, hi, hz0, hz1, hz2⟩ := info_parts info_Atom
  obtain ⟨a1, c1, rfl, hn1, hc1⟩ := h1
  have HC1 := Lib.hid hc1
  have HT0 := Lib.hid h2
  have HL := Lib.hid hl
  have HRR := Lib.hid hr
  clear hc1 h2 hl hr
  go_enter Try.func62, Try.ntmps62
  go_wp2
  go_loopw [5, 10] (fun v i wr => ∃ (k : Nat) (a : Option Addr) (n c : Nat), k ≤ rs.length ∧ i = .int .i64 k ∧ v = .slice a n c ∧ OwnOps 112 wr w.heap.size wr.heap.size (.slice a n c) (movedK rs tos k) ∧ Below w.heap.size w wr) (fun _ i _ => rs.length - (intOf i).toNat)
  case atStart => exact ⟨0, _, _, _, Nat.zero_le _, rfl, rfl, OwnOps.nil _ _ _ _ (Nat.le_refl _), Below.refl _ _⟩
  case round =>
    obtain ⟨k, a, n, c, hk, rfl, rfl, hg, hbr⟩ := hrel
    have HG := Lib.hid hg
    have HBR := Lib.hid hbr
    clear hg hbr
    by_cases hlt : k < rs.length
    · obtain ⟨b1, off1, ha1, hcell1⟩ := HC1.out (by omega)
      subst ha1
      obtain ⟨y0, a2, n2, c2, y1, hr0⟩ := hcell1 k hlt
      have HR0 := Lib.hid hr0
      have HRG := Lib.hid (HRR.out k hlt)
      have hl4 := HL.out k hlt
      have hlt' : (k : Int) < (rs.length : Int) := by omega
      have y0 := below_cell HBR.out y0
      have y1 := below_cell HBR.out y1
      have HAL0 := Lib.hid ((Below.refl wr.heap.size wr).alloc (Nat.le_refl _) (.cells #[.int .i64 (arO rs k), .slice a2 n2 c2] 112))
      clear hcell1 hr0
      go_wp2_with fail
      refine (renamed (arO rs k) a2 n2 c2 _ (rowO rs k) tos _ ((HR0.out.below HBR.out).below HAL0.out) ((HT0.out.below HBR.out).below HAL0.out) hl4 HRG.out).mono ?_
      rintro e w3 ⟨a3, n3, c3, rfl, ho3, hb3⟩
      have HB3 := Lib.hid (HAL0.out.trans (hb3.mono HAL0.out.size))
      have HO3 := Lib.hid (ho3.row.mono HAL0.out.size)
      obtain ⟨V, hV⟩ := HG.out
      have hV' := hV
      obtain ⟨xs, hxo, hxx⟩ := hV'.outer
      have HV := Lib.hid hV
      have HX := Lib.hid hxx
      have HXO := Lib.hid hxo
      have hxl := ownsRow_len hxo
      have HXL := Lib.hid hxl
      have hmk := movedK_len rs tos k (by omega)
      have HMK := Lib.hid hmk
      have HAL := Lib.hid ((Below.refl w3.heap.size w3).alloc (Nat.le_refl _) (.cells #[.int .i64 (arO rs k), .slice a3 n3 c3] 112))
      clear hV hV' hxx hxl hmk hxo ho3 hb3 y0 y1
      go_wp2_with (at_builtin; refine wpList_append_lies _ rfl _ _ 46 rfl w.heap.size 112 i0 (.agg #[.int .i64 0, .slice none 0 0]) 2 32 Try.underlying46 hi hz0 hz1 hz2 rfl (by decide) (.slice a n c) (movedK rs tos k).length _ rfl ((ownsRow_below HXO.out HB3.out).alloc _) _ 1 1 [.int .i64 (arO rs k), .slice a3 n3 c3] rfl rfl (fun j u hu => World.news_of_block (heap_alloc_new w3 _) j u (by simpa using hu)) (by simp [Value.oneCell']) (by omega) (by rw [HMK.out]; unfold maxLen; omega) (by rw [HMK.out]; omega) (by have := HB3.out.size; have := HBR.out.size; simp; omega) _ rfl ?_; intro g5 cap5 w5 hown5 hgrow5 hat5 hlt5; have HGM := Lib.hid (OwnOpsV.grow HV.out rfl HXL.out HX.out (HB3.out.trans (HAL.out.mono HB3.out.size)) (OwnRow.below HO3.out HAL.out) HBR.out.size hown5 hgrow5 (fun g hg => by obtain rfl : g5 = g := by { simpa [Value.ownBlock] using hg }; exact hat5.elim .inl (fun e => .inr (by omega)))); have HB5 := Lib.hid (((HBR.out.trans ((HB3.out.trans (HAL.out.mono HB3.out.size)).mono HBR.out.size))).grown hgrow5 (by have := HB3.out.size; have := HBR.out.size; simp; omega) (fun q hq => (HXO.out.lt q hq).1)); clear hown5 hgrow5 hat5 hlt5)
      go_roundw
      case rel =>
        refine ⟨k + 1, _, _, _, by omega, by go_num, rfl, ?_, HB5.out⟩
        rw [movedK_succ rs tos k hlt]
        have e : (movedK rs tos k ++ [(arO rs k, mapped tos (rowO rs k))]).length = (movedK rs tos k).length + 1 := by simp
        show ∃ V, OwnOpsV _ _ _ _ _ (movedK rs tos k ++ [(arO rs k, mapped tos (rowO rs k))]).length V _
        rw [e]
        exact ⟨_, HGM.out⟩
      case measure => simp [intOf]; omega
    · obtain rfl : k = rs.length := by omega
      go_wp2
      go_ret
      exact ⟨a, n, c, rfl, HG.out, HBR.out⟩

end Go.Proofs.Ytpibigdfepgfnaa
