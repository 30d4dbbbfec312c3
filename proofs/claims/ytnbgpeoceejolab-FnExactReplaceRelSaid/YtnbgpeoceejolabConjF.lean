/-
  ConjoinFormulas of the program.
-/
import Derived.Test.YtnbgpeoceejolabSay
import Derived.Test.YtnbgpeoceejolabFormOk3
namespace Go.Proofs.Ytnbgpeoceejolab
open Go.RowKit

set_option linter.unusedSimpArgs false in
set_option maxHeartbeats 2000000 in
set_option maxRecDepth 100000 in
theorem conjBody_ok (w wb : World) (b pf pg fr m1 m2 : Nat) (va vg : Int) (a2 : Option Addr) (n2 c2 : Nat) (a3 : Option Addr) (n3 c3 : Nat) (fs gs : List (Int × List Int))
    (hbx : Box 96 w b #[.int .i64 (fr : Int), .int .i64 ((fr : Int)), .slice none 0 0, .int .i64 8, .int .i64 16]) (hwb : wb.heap.size ≤ b) (hbel : Below wb.heap.size wb w)
    (hf0 : wb.cell? ⟨pf, 0, none⟩ = some (.int .i64 (fr : Int))) (hf1 : wb.cell? ⟨pf, 1, none⟩ = some (.int .i64 va)) (hf2 : wb.cell? ⟨pf, 2, none⟩ = some (.slice a2 n2 c2))
    (hg0 : wb.cell? ⟨pg, 0, none⟩ = some (.int .i64 (fr : Int))) (hg1 : wb.cell? ⟨pg, 1, none⟩ = some (.int .i64 vg)) (hg2 : wb.cell? ⟨pg, 2, none⟩ = some (.slice a3 n3 c3))
    (hf : OpsAt wb (.slice a2 n2 c2) fs) (hg : OpsAt wb (.slice a3 n3 c3) gs) (hfr0 : 0 < fr) (hfr4 : fr ≤ 4) (hva : va = fr + m1) (hvg : vg = fr + m2) (hy1 : fr + m1 ≤ 8) (hl1 : fs.length ≤ 16) (hy : fr + m1 + m2 ≤ 8) (hlen : fs.length + gs.length ≤ 16)
    (hfl : ∀ k, k < fs.length → (rowO fs k).length ≤ 1000) (hfr : ∀ k, k < fs.length → ∀ i, i < (rowO fs k).length → 0 ≤ intN (rowO fs k) i ∧ intN (rowO fs k) i < va)
    (hgl : ∀ k, k < gs.length → (rowO gs k).length ≤ 1000) (hgr : ∀ k, k < gs.length → ∀ i, i < (rowO gs k).length → 0 ≤ intN (rowO gs k) i ∧ intN (rowO gs k) i < vg) :
    Calls Try.prog 35 #[.pointer (some ⟨b, 0, none⟩), .pointer (some ⟨pf, 0, none⟩), .pointer (some ⟨pg, 0, none⟩)] w fun e w' => e = .returned (.tuple #[]) ∧ ∃ a' n' c', Box 96 w' b #[.int .i64 (fr : Int), .int .i64 (((fr + m1 + m2 : Nat) : Int)), .slice a' n' c', .int .i64 8, .int .i64 16] ∧ OwnOps 83 w' (b + 1) w'.heap.size (.slice a' n' c') (movedL fs (sayL (cnts fr) fr m1) ++ movedL gs (sayL (cnts fr) (fr + m1) m2)) ∧ Below b w w' := by
  have HBX := Lib.hid hbx
  have HBL := Lib.hid hbel
  have s0 := below_cell hbel hf0
  have s1 := below_cell hbel hf1
  have s2 := below_cell hbel hf2
  have hz0 : b + 1 ≤ w.heap.size := hbx.lt
  have HVA := Lib.hid hva
  have HVG := Lib.hid hvg
  have HF0 := Lib.hid hf0
  have HG0 := Lib.hid hg0
  have HG1 := Lib.hid hg1
  have HG2 := Lib.hid hg2
  have HF := Lib.hid hf
  have HG := Lib.hid hg
  have HFL := Lib.hid hfl
  have HFR := Lib.hid hfr
  have HGL := Lib.hid hgl
  have HGR := Lib.hid hgr
  clear hbx hbel hva hvg hf0 hf1 hf2 hg0 hg1 hg2 hf hg hfl hfr hgl hgr
  go_enter Try.func35, Try.ntmps35
  try go_wp2
  refine wp_region_noPanic ?_
  refine wp_region_late (S := (fun w' => w'.cell? ⟨pf, 0, none⟩ = some (.int .i64 (fr : Int)) ∧ w'.cell? ⟨pf, 1, none⟩ = some (.int .i64 va) ∧ w'.cell? ⟨pf, 2, none⟩ = some (.slice a2 n2 c2) ∧ Box 96 w' b #[.int .i64 (fr : Int), .int .i64 ((fr : Int)), .slice none 0 0, .int .i64 8, .int .i64 16] ∧ b + 1 ≤ w'.heap.size ∧ Below wb.heap.size wb w' ∧ Below b w w')) [5] (by kernel_rfl) ?_ (fun hHeld => ?_)
  · exact ⟨s0, s1, s2, HBX.out, hz0, HBL.out.trans ((QW.refl _).drew.below _), (QW.refl _).drew.below _⟩
  refine wpAnyL_free (i := 0) (v := ?_) (some 4) rfl rfl (by kernel_rfl) (by kernel_rfl) (by kernel_rfl) (by decide) (fun _ _ _ h => h) (Or.inl ⟨by rfl, ?_⟩) (fun h0 => by assumption) ?_
  rotate_left
  · intro wS
    go_simp
    try with_reducible rfl
  try simp only [Act.put, List.setIfInBounds_toArray, List.set_cons_zero, List.set_cons_succ]
  refine wpAnyL_take (i := 1) (v := ?_) (some 5) rfl rfl (by kernel_rfl) (by kernel_rfl) (by kernel_rfl) (by kernel_rfl) (by kernel_rfl) (fun _ _ _ h => h) (Or.inl ⟨by rfl, ?_⟩) (by assumption) ?_
  rotate_left
  · intro wS hSw
    try dsimp only at hSw
    go_simp
    try with_reducible rfl
  try simp only [Act.put, List.setIfInBounds_toArray, List.set_cons_zero, List.set_cons_succ]
  refine wpAnyL_free (i := 2) (v := ?_) (some 6) rfl rfl (by kernel_rfl) (by kernel_rfl) (by kernel_rfl) (by decide) (fun _ _ _ h => h) (Or.inl ⟨by rfl, ?_⟩) (fun h0 => by assumption) ?_
  rotate_left
  · intro wS
    go_simp
    try with_reducible rfl
  try simp only [Act.put, List.setIfInBounds_toArray, List.set_cons_zero, List.set_cons_succ]
  refine wpAnyL_take (i := 3) (v := ?_) (some 7) rfl rfl (by kernel_rfl) (by kernel_rfl) (by kernel_rfl) (by kernel_rfl) (by kernel_rfl) (fun _ _ _ h => h) (Or.inl ⟨by rfl, ?_⟩) (by assumption) ?_
  rotate_left
  · intro wS hSw
    try dsimp only at hSw
    go_simp
    try with_reducible rfl
  try simp only [Act.put, List.setIfInBounds_toArray, List.set_cons_zero, List.set_cons_succ]
  refine wpAnyL_ready (rs := [4]) (by kernel_rfl) (by simp) ?_
  refine AllReadyL.cons rfl (fun K hK => ?_) AllReadyL.nil
  go_simp; go_at_call 37; refine (numbersBelow fr (by omega) _).mono ?_; rintro e w5 ⟨a5, c5, rfl, ho5, hb5⟩
  have HP5 := Lib.hid ho5.rowAt
  clear ho5
  refine hK.out _ _ ?_ (fun hHeld => ?_)
  · exact ⟨below_cell hb5 hHeld.1, below_cell hb5 hHeld.2.1, below_cell hb5 hHeld.2.2.1, hHeld.2.2.2.1.below hb5, Nat.le_trans hHeld.2.2.2.2.1 hb5.size, hHeld.2.2.2.2.2.1.trans (hb5.mono hHeld.2.2.2.2.2.1.size), hHeld.2.2.2.2.2.2.trans (hb5.mono (by have := hHeld.2.2.2.2.1; omega))⟩
  clear hK K
  try simp only [Act.put, List.setIfInBounds_toArray, List.set_cons_zero, List.set_cons_succ]
  refine wpAnyL_ready (rs := [5]) (by kernel_rfl) (by simp) ?_
  refine AllReadyL.last rfl (by kernel_rfl) (fun K hK => ?_) AllReadyL.nil
  have hsy := say_ok _ b (b + 1) fr m1 va fr none 0 0 [] fs (.slice a2 n2 c2) (.slice a5 fr c5) (cnts fr) wb hHeld.2.2.2.1 (Nat.lt_succ_self _) hHeld.2.2.2.2.1 (OwnOps.nil _ _ _ _ (Nat.le_refl _)) hwb hHeld.2.2.2.2.2.1 HF.out HP5.out (by rw [cnts_len]; exact hfr0) (by rw [cnts_len]; exact HVA.out) (by rw [cnts_len]; omega) hy1 (by simpa using hl1) HFL.out HFR.out
  rw [cnts_len] at hsy
  go_simp; go_at_call 36; refine hsy.mono ?_; rintro e w6 ⟨rfl, a6, n6, c6, hx6, ho6, hb6⟩
  have HB6 := Lib.hid (hHeld.2.2.2.2.2.2.trans (hb6.mono (Nat.le_refl _)))
  have HBW6 := Lib.hid (hHeld.2.2.2.2.2.1.trans (hb6.mono hwb))
  have HX6 := Lib.hid hx6
  have HO6 := Lib.hid (show OwnOps 83 w6 (b + 1) w6.heap.size (.slice a6 n6 c6) (movedL fs (sayL (cnts fr) fr m1)) from by simpa using ho6)
  have hz6 : b + 1 ≤ w6.heap.size := Nat.lt_of_lt_of_le (by exact hx6.lt) (Nat.le_refl _)
  clear hx6 ho6 hb6 hsy
  refine hK.out _ _ ?_
  clear hK K
  try simp only [Act.put, List.setIfInBounds_toArray, List.set_cons_zero, List.set_cons_succ]
  refine wpAnyL_done (by kernel_rfl) ?_ _
  refine NoPanic.normal ?_
  have t0 := below_cell HBW6.out HG0.out
  have t1 := below_cell HBW6.out HG1.out
  have t2 := below_cell HBW6.out HG2.out
  have u0 := below_cell HBW6.out HF0.out
  go_wp2
  refine wp_region_noPanic ?_
  refine wp_region_late (S := (fun w' => w'.cell? ⟨pg, 0, none⟩ = some (.int .i64 (fr : Int)) ∧ w'.cell? ⟨pg, 1, none⟩ = some (.int .i64 vg) ∧ w'.cell? ⟨pg, 2, none⟩ = some (.slice a3 n3 c3) ∧ w'.cell? ⟨pf, 0, none⟩ = some (.int .i64 (fr : Int)) ∧ Box 96 w' b #[.int .i64 (fr : Int), .int .i64 (((fr + m1 : Nat) : Int)), .slice a6 n6 c6, .int .i64 8, .int .i64 16] ∧ OwnOps 83 w' (b + 1) w'.heap.size (.slice a6 n6 c6) (movedL fs (sayL (cnts fr) fr m1)) ∧ b + 1 ≤ w'.heap.size ∧ Below wb.heap.size wb w' ∧ Below b w w')) [5] (by kernel_rfl) ?_ (fun hHeld => ?_)
  · exact ⟨t0, t1, t2, u0, HX6.out.below ((QW.refl _).drew.below _), (HO6.out.below ((QW.refl _).drew.below _)).full, hz6, HBW6.out.trans ((QW.refl _).drew.below _), HB6.out.trans ((QW.refl _).drew.below _)⟩
  refine wpAnyL_free (i := 0) (v := ?_) (some 10) rfl rfl (by kernel_rfl) (by kernel_rfl) (by kernel_rfl) (by decide) (fun _ _ _ h => h) (Or.inl ⟨by rfl, ?_⟩) (fun h0 => by assumption) ?_
  rotate_left
  · intro wS
    go_simp
    try with_reducible rfl
  try simp only [Act.put, List.setIfInBounds_toArray, List.set_cons_zero, List.set_cons_succ]
  refine wpAnyL_take (i := 1) (v := ?_) (some 11) rfl rfl (by kernel_rfl) (by kernel_rfl) (by kernel_rfl) (by kernel_rfl) (by kernel_rfl) (fun _ _ _ h => h) (Or.inl ⟨by rfl, ?_⟩) (by assumption) ?_
  rotate_left
  · intro wS hSw
    try dsimp only at hSw
    go_simp
    try with_reducible rfl
  try simp only [Act.put, List.setIfInBounds_toArray, List.set_cons_zero, List.set_cons_succ]
  refine wpAnyL_free (i := 2) (v := ?_) (some 12) rfl rfl (by kernel_rfl) (by kernel_rfl) (by kernel_rfl) (by decide) (fun _ _ _ h => h) (Or.inl ⟨by rfl, ?_⟩) (fun h0 => by assumption) ?_
  rotate_left
  · intro wS
    go_simp
    try with_reducible rfl
  try simp only [Act.put, List.setIfInBounds_toArray, List.set_cons_zero, List.set_cons_succ]
  refine wpAnyL_take (i := 3) (v := ?_) (some 13) rfl rfl (by kernel_rfl) (by kernel_rfl) (by kernel_rfl) (by kernel_rfl) (by kernel_rfl) (fun _ _ _ h => h) (Or.inl ⟨by rfl, ?_⟩) (by assumption) ?_
  rotate_left
  · intro wS hSw
    try dsimp only at hSw
    go_simp
    try with_reducible rfl
  try simp only [Act.put, List.setIfInBounds_toArray, List.set_cons_zero, List.set_cons_succ]
  refine wpAnyL_ready (rs := [4]) (by kernel_rfl) (by simp) ?_
  refine AllReadyL.cons rfl (fun K hK => ?_) AllReadyL.nil
  go_simp; go_at_call 37; refine (numbersBelow fr (by omega) _).mono ?_; rintro e w5 ⟨a5, c5, rfl, ho5, hb5⟩
  have HP5b := Lib.hid ho5.rowAt
  clear ho5
  refine hK.out _ _ ?_ (fun hHeld => ?_)
  · exact ⟨below_cell hb5 hHeld.1, below_cell hb5 hHeld.2.1, below_cell hb5 hHeld.2.2.1, below_cell hb5 hHeld.2.2.2.1, hHeld.2.2.2.2.1.below hb5, (hHeld.2.2.2.2.2.1.below hb5).full, Nat.le_trans hHeld.2.2.2.2.2.2.1 hb5.size, hHeld.2.2.2.2.2.2.2.1.trans (hb5.mono hHeld.2.2.2.2.2.2.2.1.size), hHeld.2.2.2.2.2.2.2.2.trans (hb5.mono (by have := hHeld.2.2.2.2.2.2.1; omega))⟩
  clear hK K
  try simp only [Act.put, List.setIfInBounds_toArray, List.set_cons_zero, List.set_cons_succ]
  refine wpAnyL_ready (rs := [5]) (by kernel_rfl) (by simp) ?_
  refine AllReadyL.last rfl (by kernel_rfl) (fun K hK => ?_) AllReadyL.nil
  have hsy := say_ok _ b (b + 1) (fr + m1) m2 vg fr a6 n6 c6 (movedL fs (sayL (cnts fr) fr m1)) gs (.slice a3 n3 c3) (.slice a5 fr c5) (cnts fr) wb hHeld.2.2.2.2.1 (Nat.lt_succ_self _) hHeld.2.2.2.2.2.2.1 hHeld.2.2.2.2.2.1 hwb hHeld.2.2.2.2.2.2.2.1 HG.out HP5b.out (by rw [cnts_len]; exact hfr0) (by rw [cnts_len]; exact HVG.out) (by rw [cnts_len]; omega) (by omega) (by rw [movedL_len]; omega) HGL.out HGR.out
  rw [cnts_len] at hsy
  go_simp; go_at_call 36; refine hsy.mono ?_; rintro e w7 ⟨rfl, a7, n7, c7, hx7, ho7, hb7⟩
  have HB7 := Lib.hid (hHeld.2.2.2.2.2.2.2.2.trans (hb7.mono (Nat.le_refl _)))
  have HX7 := Lib.hid hx7
  have HO7 := Lib.hid ho7
  refine hK.out _ _ ?_
  clear hK K
  try simp only [Act.put, List.setIfInBounds_toArray, List.set_cons_zero, List.set_cons_succ]
  refine wpAnyL_done (by kernel_rfl) ?_ _
  refine NoPanic.normal ?_
  go_wp2
  exact ⟨rfl, .tuple #[], results_none rfl _ _ _, rfl, a7, n7, c7, HX7.out, HO7.out, HB7.out⟩

set_option linter.unusedSimpArgs false in
set_option maxHeartbeats 2000000 in
set_option maxRecDepth 100000 in
theorem conjBody_told (w wb : World) (b pf pg fr m1 m2 : Nat) (va vg : Int) (a2 : Option Addr) (n2 c2 : Nat) (a3 : Option Addr) (n3 c3 : Nat) (fs gs : List (Int × List Int))
    (hbx : Box 96 w b #[.int .i64 (fr : Int), .int .i64 ((fr : Int)), .slice none 0 0, .int .i64 8, .int .i64 16]) (hwb : wb.heap.size ≤ b) (hbel : Below wb.heap.size wb w)
    (hf0 : wb.cell? ⟨pf, 0, none⟩ = some (.int .i64 (fr : Int))) (hf1 : wb.cell? ⟨pf, 1, none⟩ = some (.int .i64 va)) (hf2 : wb.cell? ⟨pf, 2, none⟩ = some (.slice a2 n2 c2))
    (hg0 : wb.cell? ⟨pg, 0, none⟩ = some (.int .i64 (fr : Int))) (hg1 : wb.cell? ⟨pg, 1, none⟩ = some (.int .i64 vg)) (hg2 : wb.cell? ⟨pg, 2, none⟩ = some (.slice a3 n3 c3))
    (hf : OpsAt wb (.slice a2 n2 c2) fs) (hg : OpsAt wb (.slice a3 n3 c3) gs) (hfr0 : 0 < fr) (hfr4 : fr ≤ 4) (hva : va = fr + m1) (hvg : vg = fr + m2) (hy1 : fr + m1 ≤ 8) (hl1 : fs.length ≤ 16) (hm2 : m2 ≤ 8) (hbig : 8 < fr + m1 + m2 ∨ 16 < fs.length + gs.length)
    (hfl : ∀ k, k < fs.length → (rowO fs k).length ≤ 1000) (hfr : ∀ k, k < fs.length → ∀ i, i < (rowO fs k).length → 0 ≤ intN (rowO fs k) i ∧ intN (rowO fs k) i < va)
    (hgl : ∀ k, k < gs.length → (rowO gs k).length ≤ 1000) (hgr : ∀ k, k < gs.length → ∀ i, i < (rowO gs k).length → 0 ≤ intN (rowO gs k) i ∧ intN (rowO gs k) i < vg) :
    Calls Try.prog 35 #[.pointer (some ⟨b, 0, none⟩), .pointer (some ⟨pf, 0, none⟩), .pointer (some ⟨pg, 0, none⟩)] w fun e w' => e = .panicked [{ v := tooBig, recovered := false }] ∧ Below b w w' := by
  have HBX := Lib.hid hbx
  have HBL := Lib.hid hbel
  have s0 := below_cell hbel hf0
  have s1 := below_cell hbel hf1
  have s2 := below_cell hbel hf2
  have hz0 : b + 1 ≤ w.heap.size := hbx.lt
  have HVA := Lib.hid hva
  have HVG := Lib.hid hvg
  have HF0 := Lib.hid hf0
  have HG0 := Lib.hid hg0
  have HG1 := Lib.hid hg1
  have HG2 := Lib.hid hg2
  have HF := Lib.hid hf
  have HG := Lib.hid hg
  have HFL := Lib.hid hfl
  have HFR := Lib.hid hfr
  have HGL := Lib.hid hgl
  have HGR := Lib.hid hgr
  clear hbx hbel hva hvg hf0 hf1 hf2 hg0 hg1 hg2 hf hg hfl hfr hgl hgr
  go_enter Try.func35, Try.ntmps35
  try go_wp2
  refine wp_region_late (S := (fun w' => w'.cell? ⟨pf, 0, none⟩ = some (.int .i64 (fr : Int)) ∧ w'.cell? ⟨pf, 1, none⟩ = some (.int .i64 va) ∧ w'.cell? ⟨pf, 2, none⟩ = some (.slice a2 n2 c2) ∧ Box 96 w' b #[.int .i64 (fr : Int), .int .i64 ((fr : Int)), .slice none 0 0, .int .i64 8, .int .i64 16] ∧ b + 1 ≤ w'.heap.size ∧ Below wb.heap.size wb w' ∧ Below b w w')) [5] (by kernel_rfl) ?_ (fun hHeld => ?_)
  · exact ⟨s0, s1, s2, HBX.out, hz0, HBL.out.trans ((QW.refl _).drew.below _), (QW.refl _).drew.below _⟩
  refine wpAnyL_free (i := 0) (v := ?_) (some 4) rfl rfl (by kernel_rfl) (by kernel_rfl) (by kernel_rfl) (by decide) (fun _ _ _ h => h) (Or.inl ⟨by rfl, ?_⟩) (fun h0 => by assumption) ?_
  rotate_left
  · intro wS
    go_simp
    try with_reducible rfl
  try simp only [Act.put, List.setIfInBounds_toArray, List.set_cons_zero, List.set_cons_succ]
  refine wpAnyL_take (i := 1) (v := ?_) (some 5) rfl rfl (by kernel_rfl) (by kernel_rfl) (by kernel_rfl) (by kernel_rfl) (by kernel_rfl) (fun _ _ _ h => h) (Or.inl ⟨by rfl, ?_⟩) (by assumption) ?_
  rotate_left
  · intro wS hSw
    try dsimp only at hSw
    go_simp
    try with_reducible rfl
  try simp only [Act.put, List.setIfInBounds_toArray, List.set_cons_zero, List.set_cons_succ]
  refine wpAnyL_free (i := 2) (v := ?_) (some 6) rfl rfl (by kernel_rfl) (by kernel_rfl) (by kernel_rfl) (by decide) (fun _ _ _ h => h) (Or.inl ⟨by rfl, ?_⟩) (fun h0 => by assumption) ?_
  rotate_left
  · intro wS
    go_simp
    try with_reducible rfl
  try simp only [Act.put, List.setIfInBounds_toArray, List.set_cons_zero, List.set_cons_succ]
  refine wpAnyL_take (i := 3) (v := ?_) (some 7) rfl rfl (by kernel_rfl) (by kernel_rfl) (by kernel_rfl) (by kernel_rfl) (by kernel_rfl) (fun _ _ _ h => h) (Or.inl ⟨by rfl, ?_⟩) (by assumption) ?_
  rotate_left
  · intro wS hSw
    try dsimp only at hSw
    go_simp
    try with_reducible rfl
  try simp only [Act.put, List.setIfInBounds_toArray, List.set_cons_zero, List.set_cons_succ]
  refine wpAnyL_ready (rs := [4]) (by kernel_rfl) (by simp) ?_
  refine AllReadyL.cons rfl (fun K hK => ?_) AllReadyL.nil
  go_simp; go_at_call 37; refine (numbersBelow fr (by omega) _).mono ?_; rintro e w5 ⟨a5, c5, rfl, ho5, hb5⟩
  have HP5 := Lib.hid ho5.rowAt
  clear ho5
  refine hK.out _ _ ?_ (fun hHeld => ?_)
  · exact ⟨below_cell hb5 hHeld.1, below_cell hb5 hHeld.2.1, below_cell hb5 hHeld.2.2.1, hHeld.2.2.2.1.below hb5, Nat.le_trans hHeld.2.2.2.2.1 hb5.size, hHeld.2.2.2.2.2.1.trans (hb5.mono hHeld.2.2.2.2.2.1.size), hHeld.2.2.2.2.2.2.trans (hb5.mono (by have := hHeld.2.2.2.2.1; omega))⟩
  clear hK K
  try simp only [Act.put, List.setIfInBounds_toArray, List.set_cons_zero, List.set_cons_succ]
  refine wpAnyL_ready (rs := [5]) (by kernel_rfl) (by simp) ?_
  refine AllReadyL.last rfl (by kernel_rfl) (fun K hK => ?_) AllReadyL.nil
  have hsy := say_ok _ b (b + 1) fr m1 va fr none 0 0 [] fs (.slice a2 n2 c2) (.slice a5 fr c5) (cnts fr) wb hHeld.2.2.2.1 (Nat.lt_succ_self _) hHeld.2.2.2.2.1 (OwnOps.nil _ _ _ _ (Nat.le_refl _)) hwb hHeld.2.2.2.2.2.1 HF.out HP5.out (by rw [cnts_len]; exact hfr0) (by rw [cnts_len]; exact HVA.out) (by rw [cnts_len]; omega) hy1 (by simpa using hl1) HFL.out HFR.out
  rw [cnts_len] at hsy
  go_simp; go_at_call 36; refine hsy.mono ?_; rintro e w6 ⟨rfl, a6, n6, c6, hx6, ho6, hb6⟩
  have HB6 := Lib.hid (hHeld.2.2.2.2.2.2.trans (hb6.mono (Nat.le_refl _)))
  have HBW6 := Lib.hid (hHeld.2.2.2.2.2.1.trans (hb6.mono hwb))
  have HX6 := Lib.hid hx6
  have HO6 := Lib.hid (show OwnOps 83 w6 (b + 1) w6.heap.size (.slice a6 n6 c6) (movedL fs (sayL (cnts fr) fr m1)) from by simpa using ho6)
  have hz6 : b + 1 ≤ w6.heap.size := Nat.lt_of_lt_of_le (by exact hx6.lt) (Nat.le_refl _)
  clear hx6 ho6 hb6 hsy
  refine hK.out _ _ ?_
  clear hK K
  try simp only [Act.put, List.setIfInBounds_toArray, List.set_cons_zero, List.set_cons_succ]
  refine wpAnyL_done (by kernel_rfl) ?_ _
  have t0 := below_cell HBW6.out HG0.out
  have t1 := below_cell HBW6.out HG1.out
  have t2 := below_cell HBW6.out HG2.out
  have u0 := below_cell HBW6.out HF0.out
  go_wp2
  refine wp_region_late (S := (fun w' => w'.cell? ⟨pg, 0, none⟩ = some (.int .i64 (fr : Int)) ∧ w'.cell? ⟨pg, 1, none⟩ = some (.int .i64 vg) ∧ w'.cell? ⟨pg, 2, none⟩ = some (.slice a3 n3 c3) ∧ w'.cell? ⟨pf, 0, none⟩ = some (.int .i64 (fr : Int)) ∧ Box 96 w' b #[.int .i64 (fr : Int), .int .i64 (((fr + m1 : Nat) : Int)), .slice a6 n6 c6, .int .i64 8, .int .i64 16] ∧ OwnOps 83 w' (b + 1) w'.heap.size (.slice a6 n6 c6) (movedL fs (sayL (cnts fr) fr m1)) ∧ b + 1 ≤ w'.heap.size ∧ Below wb.heap.size wb w' ∧ Below b w w')) [5] (by kernel_rfl) ?_ (fun hHeld => ?_)
  · exact ⟨t0, t1, t2, u0, HX6.out.below ((QW.refl _).drew.below _), (HO6.out.below ((QW.refl _).drew.below _)).full, hz6, HBW6.out.trans ((QW.refl _).drew.below _), HB6.out.trans ((QW.refl _).drew.below _)⟩
  refine wpAnyL_free (i := 0) (v := ?_) (some 10) rfl rfl (by kernel_rfl) (by kernel_rfl) (by kernel_rfl) (by decide) (fun _ _ _ h => h) (Or.inl ⟨by rfl, ?_⟩) (fun h0 => by assumption) ?_
  rotate_left
  · intro wS
    go_simp
    try with_reducible rfl
  try simp only [Act.put, List.setIfInBounds_toArray, List.set_cons_zero, List.set_cons_succ]
  refine wpAnyL_take (i := 1) (v := ?_) (some 11) rfl rfl (by kernel_rfl) (by kernel_rfl) (by kernel_rfl) (by kernel_rfl) (by kernel_rfl) (fun _ _ _ h => h) (Or.inl ⟨by rfl, ?_⟩) (by assumption) ?_
  rotate_left
  · intro wS hSw
    try dsimp only at hSw
    go_simp
    try with_reducible rfl
  try simp only [Act.put, List.setIfInBounds_toArray, List.set_cons_zero, List.set_cons_succ]
  refine wpAnyL_free (i := 2) (v := ?_) (some 12) rfl rfl (by kernel_rfl) (by kernel_rfl) (by kernel_rfl) (by decide) (fun _ _ _ h => h) (Or.inl ⟨by rfl, ?_⟩) (fun h0 => by assumption) ?_
  rotate_left
  · intro wS
    go_simp
    try with_reducible rfl
  try simp only [Act.put, List.setIfInBounds_toArray, List.set_cons_zero, List.set_cons_succ]
  refine wpAnyL_take (i := 3) (v := ?_) (some 13) rfl rfl (by kernel_rfl) (by kernel_rfl) (by kernel_rfl) (by kernel_rfl) (by kernel_rfl) (fun _ _ _ h => h) (Or.inl ⟨by rfl, ?_⟩) (by assumption) ?_
  rotate_left
  · intro wS hSw
    try dsimp only at hSw
    go_simp
    try with_reducible rfl
  try simp only [Act.put, List.setIfInBounds_toArray, List.set_cons_zero, List.set_cons_succ]
  refine wpAnyL_ready (rs := [4]) (by kernel_rfl) (by simp) ?_
  refine AllReadyL.cons rfl (fun K hK => ?_) AllReadyL.nil
  go_simp; go_at_call 37; refine (numbersBelow fr (by omega) _).mono ?_; rintro e w5 ⟨a5, c5, rfl, ho5, hb5⟩
  have HP5b := Lib.hid ho5.rowAt
  clear ho5
  refine hK.out _ _ ?_ (fun hHeld => ?_)
  · exact ⟨below_cell hb5 hHeld.1, below_cell hb5 hHeld.2.1, below_cell hb5 hHeld.2.2.1, below_cell hb5 hHeld.2.2.2.1, hHeld.2.2.2.2.1.below hb5, (hHeld.2.2.2.2.2.1.below hb5).full, Nat.le_trans hHeld.2.2.2.2.2.2.1 hb5.size, hHeld.2.2.2.2.2.2.2.1.trans (hb5.mono hHeld.2.2.2.2.2.2.2.1.size), hHeld.2.2.2.2.2.2.2.2.trans (hb5.mono (by have := hHeld.2.2.2.2.2.2.1; omega))⟩
  clear hK K
  try simp only [Act.put, List.setIfInBounds_toArray, List.set_cons_zero, List.set_cons_succ]
  refine wpAnyL_ready (rs := [5]) (by kernel_rfl) (by simp) ?_
  refine AllReadyL.last rfl (by kernel_rfl) (fun K hK => ?_) AllReadyL.nil
  have hsy := say_told _ b (b + 1) (fr + m1) m2 vg fr a6 n6 c6 (movedL fs (sayL (cnts fr) fr m1)) gs (.slice a3 n3 c3) (.slice a5 fr c5) (cnts fr) wb hHeld.2.2.2.2.1 (Nat.lt_succ_self _) hHeld.2.2.2.2.2.2.1 hHeld.2.2.2.2.2.1 hwb hHeld.2.2.2.2.2.2.2.1 HG.out HP5b.out (by rw [cnts_len]; exact hfr0) (by rw [cnts_len]; exact HVG.out) (by rw [cnts_len]; omega) (by omega) (by omega) (by rw [movedL_len]; omega) (by rw [movedL_len]; omega) HGL.out HGR.out
  rw [cnts_len] at hsy
  go_simp; go_at_call 36; refine hsy.mono ?_; rintro e w7 ⟨rfl, hb7⟩
  have HB7 := Lib.hid (hHeld.2.2.2.2.2.2.2.2.trans (hb7.mono (Nat.le_refl _)))
  exact ⟨rfl, rfl, HB7.out⟩

/-- The code of two formulas. -/
def FormCode (sz : Int) (rs : List (Int × List (List Int))) (fr va : Int) (fs : List (Int × List Int)) (fr2 vg : Int) (gs : List (Int × List Int)) (cd : Int) : Prop :=
  (FormOk sz rs fr va fs ∧ FormOk sz rs fr2 vg gs ∧ fr = fr2 ∧ cd = 0) ∨ (FormOk sz rs fr va fs ∧ FormOk sz rs fr2 vg gs ∧ fr ≠ fr2 ∧ cd = 4) ∨ (¬ (FormOk sz rs fr va fs ∧ FormOk sz rs fr2 vg gs) ∧ cd = 1)

set_option maxHeartbeats 1000000 in
set_option maxRecDepth 100000 in
theorem formulasCode (sz : Int) (a1 : Option Addr) (n1 c1 : Nat) (rs : List (Int × List (List Int))) (fr va : Int) (a2 : Option Addr) (n2 c2 : Nat) (fs : List (Int × List Int)) (fr2 vg : Int) (a3 : Option Addr) (n3 c3 : Nat) (gs : List (Int × List Int)) (cd : Int) (w : World) (h1 : RelsAt w (.slice a1 n1 c1) rs) (h2 : OpsAt w (.slice a2 n2 c2) fs) (h3 : OpsAt w (.slice a3 n3 c3) gs) (hi : FormCode sz rs fr va fs fr2 vg gs cd) :
    Calls Try.prog 33 #[.agg #[.int .i64 sz, .slice a1 n1 c1], .agg #[.int .i64 fr, .int .i64 va, .slice a2 n2 c2], .agg #[.int .i64 fr2, .int .i64 vg, .slice a3 n3 c3]] w fun e w' => e = .returned (.int .i64 cd) ∧ Below w.heap.size w w' := by
  have K0 := Lib.hid ((((((((Kept.start w).read (lives_rels _ _) h1).read (lives_ops _ _) h2).read (lives_ops _ _) h3).box w.heap.size rfl (.int .i64 sz) (.slice a1 n1 c1) 37).box3 (w.heap.size + 1) (by simp) (.int .i64 fr) (.int .i64 va) (.slice a2 n2 c2) 32).box3 (w.heap.size + 2) (by simp) (.int .i64 fr2) (.int .i64 vg) (.slice a3 n3 c3) 32))
  clear h1 h2 h3
  rcases hi with ⟨hf, hg, rfl, rfl⟩ | ⟨hf, hg, hne, rfl⟩ | ⟨hno, rfl⟩
  · have HV := Lib.hid (Tells.yes hf)
    have HW := Lib.hid (Tells.yes hg)
    have heq : (fr == fr) = true := beq_iff_eq.2 rfl
    clear hf hg
    go_enter Try.func33, Try.ntmps33
    go_wp2_with fail
    refine (implValidFormula _ _ _ _ rs _ _ _ _ _ fs true _ (K0.out.r 2 rfl :) (K0.out.r 1 rfl :) HV.out).mono ?_
    rintro e w1 ⟨rfl, hb1⟩
    have K1 := Lib.hid (K0.out.below hb1)
    clear hb1
    have cc0 := K1.out.c 0 rfl
    have cc1 := K1.out.c 1 rfl
    have cc2 := K1.out.c 2 rfl
    have cc3 := K1.out.c 3 rfl
    have cc6 := K1.out.c 6 rfl
    have cc7 := K1.out.c 7 rfl
    go_wp2_with fail
    refine (implValidFormula _ _ _ _ rs _ _ _ _ _ gs true _ (K1.out.r 2 rfl :) (K1.out.r 0 rfl :) HW.out).mono ?_
    rintro e w2 ⟨rfl, hb2⟩
    have K2 := Lib.hid (K1.out.below hb2)
    clear hb2 cc0 cc1 cc2 cc3 cc6 cc7
    have cc0 := K2.out.c 0 rfl
    have cc3 := K2.out.c 3 rfl
    go_wp2
    go_ret
    exact ⟨rfl, K2.out.bel⟩
  · have HV := Lib.hid (Tells.yes hf)
    have HW := Lib.hid (Tells.yes hg)
    have hne1 : (fr == fr2) = false := beq_eq_false_iff_ne.2 hne
    have hne2 : (fr != fr2) = true := bne_iff_ne.2 hne
    clear hf hg hne
    go_enter Try.func33, Try.ntmps33
    go_wp2_with fail
    refine (implValidFormula _ _ _ _ rs _ _ _ _ _ fs true _ (K0.out.r 2 rfl :) (K0.out.r 1 rfl :) HV.out).mono ?_
    rintro e w1 ⟨rfl, hb1⟩
    have K1 := Lib.hid (K0.out.below hb1)
    clear hb1
    have cc0 := K1.out.c 0 rfl
    have cc1 := K1.out.c 1 rfl
    have cc2 := K1.out.c 2 rfl
    have cc3 := K1.out.c 3 rfl
    have cc6 := K1.out.c 6 rfl
    have cc7 := K1.out.c 7 rfl
    go_wp2_with fail
    refine (implValidFormula _ _ _ _ rs _ _ _ _ _ gs true _ (K1.out.r 2 rfl :) (K1.out.r 0 rfl :) HW.out).mono ?_
    rintro e w2 ⟨rfl, hb2⟩
    have K2 := Lib.hid (K1.out.below hb2)
    clear hb2 cc0 cc1 cc2 cc3 cc6 cc7
    have cc0 := K2.out.c 0 rfl
    have cc3 := K2.out.c 3 rfl
    go_wp2
    go_ret
    exact ⟨rfl, K2.out.bel⟩
  · by_cases hf : FormOk sz rs fr va fs
    · have HV := Lib.hid (Tells.yes hf)
      have HW := Lib.hid (Tells.no fun hg => hno ⟨hf, hg⟩)
      clear hf hno
      go_enter Try.func33, Try.ntmps33
      go_wp2_with fail
      refine (implValidFormula _ _ _ _ rs _ _ _ _ _ fs true _ (K0.out.r 2 rfl :) (K0.out.r 1 rfl :) HV.out).mono ?_
      rintro e w1 ⟨rfl, hb1⟩
      have K1 := Lib.hid (K0.out.below hb1)
      clear hb1
      have cc0 := K1.out.c 0 rfl
      have cc1 := K1.out.c 1 rfl
      have cc2 := K1.out.c 2 rfl
      have cc3 := K1.out.c 3 rfl
      have cc6 := K1.out.c 6 rfl
      have cc7 := K1.out.c 7 rfl
      go_wp2_with fail
      refine (implValidFormula _ _ _ _ rs _ _ _ _ _ gs false _ (K1.out.r 2 rfl :) (K1.out.r 0 rfl :) HW.out).mono ?_
      rintro e w2 ⟨rfl, hb2⟩
      have K2 := Lib.hid (K1.out.below hb2)
      clear hb2 cc0 cc1 cc2 cc3 cc6 cc7
      have cc0 := K2.out.c 0 rfl
      have cc3 := K2.out.c 3 rfl
      go_wp2
      go_ret
      exact ⟨rfl, K2.out.bel⟩
    · have HV := Lib.hid (Tells.no hf)
      clear hf hno
      go_enter Try.func33, Try.ntmps33
      go_wp2_with fail
      refine (implValidFormula _ _ _ _ rs _ _ _ _ _ fs false _ (K0.out.r 2 rfl :) (K0.out.r 1 rfl :) HV.out).mono ?_
      rintro e w1 ⟨rfl, hb1⟩
      have K1 := Lib.hid (K0.out.below hb1)
      clear hb1
      have cc0 := K1.out.c 0 rfl
      have cc1 := K1.out.c 1 rfl
      have cc2 := K1.out.c 2 rfl
      have cc3 := K1.out.c 3 rfl
      have cc6 := K1.out.c 6 rfl
      have cc7 := K1.out.c 7 rfl
      go_wp2
      go_ret
      exact ⟨rfl, K1.out.bel⟩

theorem conjMake_ok (w : World) (pf pg fr m1 m2 : Nat) (va vg : Int) (a2 : Option Addr) (n2 c2 : Nat) (a3 : Option Addr) (n3 c3 : Nat) (fs gs : List (Int × List Int))
    (hf0 : w.cell? ⟨pf, 0, none⟩ = some (.int .i64 (fr : Int))) (hf1 : w.cell? ⟨pf, 1, none⟩ = some (.int .i64 va)) (hf2 : w.cell? ⟨pf, 2, none⟩ = some (.slice a2 n2 c2))
    (hg0 : w.cell? ⟨pg, 0, none⟩ = some (.int .i64 (fr : Int))) (hg1 : w.cell? ⟨pg, 1, none⟩ = some (.int .i64 vg)) (hg2 : w.cell? ⟨pg, 2, none⟩ = some (.slice a3 n3 c3))
    (hf : OpsAt w (.slice a2 n2 c2) fs) (hg : OpsAt w (.slice a3 n3 c3) gs) (hfr0 : 0 < fr) (hfr4 : fr ≤ 4) (hva : va = fr + m1) (hvg : vg = fr + m2) (hy1 : fr + m1 ≤ 8) (hl1 : fs.length ≤ 16) (hy : fr + m1 + m2 ≤ 8) (hlen : fs.length + gs.length ≤ 16)
    (hfl : ∀ k, k < fs.length → (rowO fs k).length ≤ 1000) (hfr : ∀ k, k < fs.length → ∀ i, i < (rowO fs k).length → 0 ≤ intN (rowO fs k) i ∧ intN (rowO fs k) i < va)
    (hgl : ∀ k, k < gs.length → (rowO gs k).length ≤ 1000) (hgr : ∀ k, k < gs.length → ∀ i, i < (rowO gs k).length → 0 ≤ intN (rowO gs k) i ∧ intN (rowO gs k) i < vg) :
    Calls Try.prog 34 #[.int .i64 (fr : Int), .int .i64 (fr : Int), .func (.func 35) #[] #[.pointer (some ⟨pf, 0, none⟩), .pointer (some ⟨pg, 0, none⟩)]] w (MadeF w fr ((fr + m1 + m2 : Nat) : Int) (movedL fs (sayL (cnts fr) fr m1) ++ movedL gs (sayL (cnts fr) (fr + m1) m2)) 0) := by
  have hG : ∀ (args : Array Value) (w : World), (callFunc 35 args).run Try.prog w = .ok (.enter 35 args) w := fun args w => by simp [go_sem]
  refine (makeFormula_ok (R := fun x y a n c w2 => x = fr ∧ y = ((fr + m1 + m2 : Nat) : Int) ∧ OwnOps 83 w2 (w.heap.size + 8) w2.heap.size (.slice a n c) (movedL fs (sayL (cnts fr) fr m1) ++ movedL gs (sayL (cnts fr) (fr + m1) m2))) _ _ w fr fr hG fun wM b1 b2 b3 => ?_).mono ?_
  · refine (conjBody_ok wM w (w.heap.size + 7) pf pg fr m1 m2 va vg a2 n2 c2 a3 n3 c3 fs gs b3 (by omega) b1 hf0 hf1 hf2 hg0 hg1 hg2 hf hg hfr0 hfr4 hva hvg hy1 hl1 hy hlen hfl hfr hgl hgr).mono ?_
    rintro e w' ⟨rfl, a', n', c', g1, g2, g3⟩
    exact ⟨rfl, _, _, _, _, _, g1, g3, rfl, rfl, g2⟩
  · rintro e w' ⟨x, y, a, n, c, w2, ⟨rfl, rfl, g1⟩, g2, rfl, g3⟩
    refine ⟨a, n, c, rfl, ?_, g2.trans (g3.below g2.size (fun k hk => hk.1))⟩
    exact ((g1.same g3.size (fun g h4 _ => g3.block g (by omega) (fun h5 => by omega))).mono (by omega)).full

theorem conjMake_told (w : World) (pf pg fr m1 m2 : Nat) (va vg : Int) (a2 : Option Addr) (n2 c2 : Nat) (a3 : Option Addr) (n3 c3 : Nat) (fs gs : List (Int × List Int))
    (hf0 : w.cell? ⟨pf, 0, none⟩ = some (.int .i64 (fr : Int))) (hf1 : w.cell? ⟨pf, 1, none⟩ = some (.int .i64 va)) (hf2 : w.cell? ⟨pf, 2, none⟩ = some (.slice a2 n2 c2))
    (hg0 : w.cell? ⟨pg, 0, none⟩ = some (.int .i64 (fr : Int))) (hg1 : w.cell? ⟨pg, 1, none⟩ = some (.int .i64 vg)) (hg2 : w.cell? ⟨pg, 2, none⟩ = some (.slice a3 n3 c3))
    (hf : OpsAt w (.slice a2 n2 c2) fs) (hg : OpsAt w (.slice a3 n3 c3) gs) (hfr0 : 0 < fr) (hfr4 : fr ≤ 4) (hva : va = fr + m1) (hvg : vg = fr + m2) (hy1 : fr + m1 ≤ 8) (hl1 : fs.length ≤ 16) (hm2 : m2 ≤ 8) (hbig : 8 < fr + m1 + m2 ∨ 16 < fs.length + gs.length)
    (hfl : ∀ k, k < fs.length → (rowO fs k).length ≤ 1000) (hfr : ∀ k, k < fs.length → ∀ i, i < (rowO fs k).length → 0 ≤ intN (rowO fs k) i ∧ intN (rowO fs k) i < va)
    (hgl : ∀ k, k < gs.length → (rowO gs k).length ≤ 1000) (hgr : ∀ k, k < gs.length → ∀ i, i < (rowO gs k).length → 0 ≤ intN (rowO gs k) i ∧ intN (rowO gs k) i < vg) :
    Calls Try.prog 34 #[.int .i64 (fr : Int), .int .i64 (fr : Int), .func (.func 35) #[] #[.pointer (some ⟨pf, 0, none⟩), .pointer (some ⟨pg, 0, none⟩)]] w (MadeF w 0 0 [] 3) := by
  have hG : ∀ (args : Array Value) (w : World), (callFunc 35 args).run Try.prog w = .ok (.enter 35 args) w := fun args w => by simp [go_sem]
  refine (makeFormula_told _ _ w fr fr hG fun wM b1 b2 b3 => ?_).mono ?_
  · exact conjBody_told wM w (w.heap.size + 7) pf pg fr m1 m2 va vg a2 n2 c2 a3 n3 c3 fs gs b3 (by omega) b1 hf0 hf1 hf2 hg0 hg1 hg2 hf hg hfr0 hfr4 hva hvg hy1 hl1 hm2 hbig hfl hfr hgl hgr
  · rintro e w' ⟨rfl, g2⟩
    exact ⟨none, 0, 0, rfl, OwnOps.nil _ _ _ _ (Nat.le_refl _), g2⟩

/-- What ConjoinFormulas answers. -/
def ConjoinFormulasIs (sz : Int) (rs : List (Int × List (List Int))) (fr va : Int) (fs : List (Int × List Int)) (fr2 vg : Int) (gs : List (Int × List Int)) (x y : Int) (zs : List (Int × List Int)) (cd : Int) : Prop :=
  (FormOk sz rs fr va fs ∧ FormOk sz rs fr2 vg gs ∧ fr = fr2 ∧ (((va + (vg - fr) ≤ 8 ∧ fs.length + gs.length ≤ 16) ∧ fr = x ∧ y = va + (vg - fr) ∧ zs = movedL fs (sayL (cnts fr.toNat) fr.toNat (va - fr).toNat) ++ movedL gs (sayL (cnts fr.toNat) va.toNat (vg - fr).toNat) ∧ cd = 0) ∨ (¬ (va + (vg - fr) ≤ 8 ∧ fs.length + gs.length ≤ 16) ∧ x = 0 ∧ y = 0 ∧ zs = [] ∧ cd = 3)))
  ∨ (FormOk sz rs fr va fs ∧ FormOk sz rs fr2 vg gs ∧ fr ≠ fr2 ∧ x = 0 ∧ y = 0 ∧ zs = [] ∧ cd = 4)
  ∨ (¬ (FormOk sz rs fr va fs ∧ FormOk sz rs fr2 vg gs) ∧ x = 0 ∧ y = 0 ∧ zs = [] ∧ cd = 1)
theorem ConjoinFormulasIs.exists (sz : Int) (rs : List (Int × List (List Int))) (fr va : Int) (fs : List (Int × List Int)) (fr2 vg : Int) (gs : List (Int × List Int)) : ∃ x y zs cd, ConjoinFormulasIs sz rs fr va fs fr2 vg gs x y zs cd := by
  by_cases h : FormOk sz rs fr va fs ∧ FormOk sz rs fr2 vg gs
  · by_cases h2 : fr = fr2
    · by_cases h3 : (va + (vg - fr) ≤ 8 ∧ fs.length + gs.length ≤ 16)
      · exact ⟨_, _, _, _, .inl ⟨h.1, h.2, h2, .inl ⟨h3, rfl, rfl, rfl, rfl⟩⟩⟩
      · exact ⟨_, _, _, _, .inl ⟨h.1, h.2, h2, .inr ⟨h3, rfl, rfl, rfl, rfl⟩⟩⟩
    · exact ⟨_, _, _, _, .inr (.inl ⟨h.1, h.2, h2, rfl, rfl, rfl, rfl⟩)⟩
  · exact ⟨_, _, _, _, .inr (.inr ⟨h, rfl, rfl, rfl, rfl⟩)⟩

set_option linter.unusedSimpArgs false in
set_option maxHeartbeats 2000000 in
set_option maxRecDepth 100000 in
theorem implConjoinFormulas (sz : Int) (a1 : Option Addr) (n1 c1 : Nat) (rs : List (Int × List (List Int))) (fr va : Int) (a2 : Option Addr) (n2 c2 : Nat) (fs : List (Int × List Int)) (fr2 vg : Int) (a3 : Option Addr) (n3 c3 : Nat) (gs : List (Int × List Int)) (x y : Int) (zs : List (Int × List Int)) (cd : Int) (w : World) (h1 : RelsAt w (.slice a1 n1 c1) rs) (h2 : OpsAt w (.slice a2 n2 c2) fs) (h3 : OpsAt w (.slice a3 n3 c3) gs) (hi : ConjoinFormulasIs sz rs fr va fs fr2 vg gs x y zs cd) :
    Calls Try.prog 11 #[.agg #[.int .i64 sz, .slice a1 n1 c1], .agg #[.int .i64 fr, .int .i64 va, .slice a2 n2 c2], .agg #[.int .i64 fr2, .int .i64 vg, .slice a3 n3 c3]] w (MadeF w x y zs cd) := by
  have HR0 : Hid (Box 32 ((((w.alloc (.cells #[.int .i64 sz, .slice a1 n1 c1] 37)).alloc (.cells #[.int .i64 fr, .int .i64 va, .slice a2 n2 c2] 32)).alloc (.cells #[.int .i64 fr2, .int .i64 vg, .slice a3 n3 c3] 32)).alloc (.cells #[.int .i64 0, .int .i64 0, .slice none 0 0] 32)) (w.heap.size + 3) #[.int .i64 0, .int .i64 0, .slice none 0 0]) := Lib.hid (by
    have h := Box.new 32 (((w.alloc (.cells #[.int .i64 sz, .slice a1 n1 c1] 37)).alloc (.cells #[.int .i64 fr, .int .i64 va, .slice a2 n2 c2] 32)).alloc (.cells #[.int .i64 fr2, .int .i64 vg, .slice a3 n3 c3] 32)) #[.int .i64 0, .int .i64 0, .slice none 0 0]
    simp only [World.size_alloc] at h
    exact h)
  have K0 := Lib.hid (((((((((Kept.start w).read (lives_rels _ _) h1).read (lives_ops _ _) h2).read (lives_ops _ _) h3).box w.heap.size rfl (.int .i64 sz) (.slice a1 n1 c1) 37).box3 (w.heap.size + 1) (by simp) (.int .i64 fr) (.int .i64 va) (.slice a2 n2 c2) 32).box3 (w.heap.size + 2) (by simp) (.int .i64 fr2) (.int .i64 vg) (.slice a3 n3 c3) 32)).below ((Below.refl _ _).alloc (Nat.le_refl _) (.cells #[.int .i64 0, .int .i64 0, .slice none 0 0] 32)))
  clear h1 h2 h3
  rcases hi with ⟨hf, hg, rfl, hi2⟩ | ⟨hf, hg, hne, rfl, rfl, rfl, rfl⟩ | ⟨hno, rfl, rfl, rfl, rfl⟩
  · have HCD : Hid (FormCode sz rs fr va fs fr vg gs 0) := Lib.hid (.inl ⟨hf, hg, rfl, rfl⟩)
    obtain ⟨fr, rfl⟩ : ∃ q : Nat, fr = q := ⟨fr.toNat, by have := hf.2.1.1.1; omega⟩
    have hfr0 : 0 < fr := by have := hf.2.1.1.1; omega
    have hfr4 : fr ≤ 4 := by have := hf.2.1.1.2; omega
    obtain ⟨m1, hm1⟩ : ∃ m : Nat, (va - (fr : Int)) = m := ⟨(va - (fr : Int)).toNat, by have := hf.2.1.2.1.1; omega⟩
    obtain ⟨m2, hm2'⟩ : ∃ m : Nat, (vg - (fr : Int)) = m := ⟨(vg - (fr : Int)).toNat, by have := hg.2.1.2.1.1; omega⟩
    have HVA : Hid (va = fr + m1) := Lib.hid (by omega)
    have HVG : Hid (vg = fr + m2) := Lib.hid (by omega)
    have hy1 : fr + m1 ≤ 8 := by have := hf.2.1.2.1.2; omega
    have hm2 : m2 ≤ 8 := by have := hg.2.1.2.1.2; omega
    have hl1 : fs.length ≤ 16 := hf.2.1.2.2
    have HFL : Hid (∀ k, k < fs.length → (rowO fs k).length ≤ 1000) := Lib.hid (fun k hk => by have := (hf.text.2 k hk).2.1.2; omega)
    have HFR : Hid (∀ k, k < fs.length → ∀ i, i < (rowO fs k).length → 0 ≤ intN (rowO fs k) i ∧ intN (rowO fs k) i < va) := Lib.hid (fun k hk i hi => (hf.text.2 k hk).2.2.2 i hi)
    have HGL : Hid (∀ k, k < gs.length → (rowO gs k).length ≤ 1000) := Lib.hid (fun k hk => by have := (hg.text.2 k hk).2.1.2; omega)
    have HGR : Hid (∀ k, k < gs.length → ∀ i, i < (rowO gs k).length → 0 ≤ intN (rowO gs k) i ∧ intN (rowO gs k) i < vg) := Lib.hid (fun k hk i hi => (hg.text.2 k hk).2.2.2 i hi)
    clear hf hg
    rcases hi2 with ⟨⟨hy, hlen⟩, rfl, rfl, rfl, rfl⟩ | ⟨hbig, rfl, rfl, rfl, rfl⟩
    · have hy2 : fr + m1 + m2 ≤ 8 := by omega
      have hl2 := hlen
      have e1 : (va + (vg - (fr : Int))) = ((fr + m1 + m2 : Nat) : Int) := by omega
      have e2 : va.toNat = fr + m1 := by omega
      have e3 : (va - (fr : Int)).toNat = m1 := by omega
      have e4 : (vg - (fr : Int)).toNat = m2 := by omega
      rw [e1, e2, e3, e4, Int.toNat_natCast]
      clear e1 e2 e3 e4 hm1 hm2' hy hlen
      go_enter Try.func11, Try.ntmps11
      go_wp2_with fail
      refine (formulasCode _ _ _ _ rs _ _ _ _ _ fs _ _ _ _ _ gs 0 _ (K0.out.r 2 rfl :) (K0.out.r 1 rfl :) (K0.out.r 0 rfl :) HCD.out).mono ?_
      rintro e w1 ⟨rfl, hb1⟩
      have K1 := Lib.hid (K0.out.below hb1)
      have HR1 := Lib.hid (HR0.out.below hb1)
      have hz : w.heap.size + 4 ≤ w1.heap.size := by have := hb1.size; simpa using this
      clear hb1
      have e0 := HR1.out.c 0 rfl
      have f0 := HR1.out.free 0
      have e1 := HR1.out.c 1 rfl
      have f1 := HR1.out.free 1
      have e2 := HR1.out.c 2 rfl
      have f2 := HR1.out.free 2
      have cc3 := K1.out.c 3 rfl
      go_wp2_with (go_at_call 34; refine (conjMake_ok w1 (w.heap.size + 1) (w.heap.size + 2) fr m1 m2 _ _ a2 n2 c2 a3 n3 c3 fs gs (K1.out.c 3 rfl) (K1.out.c 4 rfl) (K1.out.c 5 rfl) (K1.out.c 0 rfl) (K1.out.c 1 rfl) (K1.out.c 2 rfl) (K1.out.r 1 rfl :) (K1.out.r 0 rfl :) hfr0 hfr4 HVA.out HVG.out hy1 hl1 hy2 hl2 HFL.out HFR.out HGL.out HGR.out).mono ?_; rintro e w5 ⟨a5, n5, c5, rfl, ho5, hb5⟩; have HO5 := Lib.hid ho5; have HB5 := Lib.hid hb5; have HR5 := Lib.hid (HR1.out.below hb5); clear e0 f0 e1 f1 e2 f2; have e0 := HR5.out.c 0 rfl; have f0 := HR5.out.free 0; have e1 := HR5.out.c 1 rfl; have f1 := HR5.out.free 1; have e2 := HR5.out.c 2 rfl; have f2 := HR5.out.free 2; clear ho5 hb5)
      refine bodyPost_ret (v := .tuple #[.agg #[.int .i64 (fr : Int), .int .i64 ((fr + m1 + m2 : Nat) : Int), .slice a5 n5 c5], .int .i64 0]) (by simp [results, Try.results11, go_sem, e0, e1, e2]) rfl ⟨a5, n5, c5, rfl, ?_, ?_⟩
      · exact ((((HO5.out.stored (by show w.heap.size + 3 < w1.heap.size; omega) _).stored (by show w.heap.size + 3 < w1.heap.size; omega) _).stored (by show w.heap.size + 3 < w1.heap.size; omega) _).mono (by omega)).full
      · exact ((((K1.out.bel.trans (HB5.out.mono K1.out.bel.size)).setCell (by show w.heap.size ≤ w.heap.size + 3; omega) _).setCell (by show w.heap.size ≤ w.heap.size + 3; omega) _).setCell (by show w.heap.size ≤ w.heap.size + 3; omega) _)
    · have HBIG : Hid (8 < fr + m1 + m2 ∨ 16 < fs.length + gs.length) := Lib.hid (Classical.byContradiction fun h => hbig ⟨by omega, by omega⟩)
      clear hm1 hm2' hbig
      go_enter Try.func11, Try.ntmps11
      go_wp2_with fail
      refine (formulasCode _ _ _ _ rs _ _ _ _ _ fs _ _ _ _ _ gs 0 _ (K0.out.r 2 rfl :) (K0.out.r 1 rfl :) (K0.out.r 0 rfl :) HCD.out).mono ?_
      rintro e w1 ⟨rfl, hb1⟩
      have K1 := Lib.hid (K0.out.below hb1)
      have HR1 := Lib.hid (HR0.out.below hb1)
      have hz : w.heap.size + 4 ≤ w1.heap.size := by have := hb1.size; simpa using this
      clear hb1
      have e0 := HR1.out.c 0 rfl
      have f0 := HR1.out.free 0
      have e1 := HR1.out.c 1 rfl
      have f1 := HR1.out.free 1
      have e2 := HR1.out.c 2 rfl
      have f2 := HR1.out.free 2
      have cc3 := K1.out.c 3 rfl
      go_wp2_with (go_at_call 34; refine (conjMake_told w1 (w.heap.size + 1) (w.heap.size + 2) fr m1 m2 _ _ a2 n2 c2 a3 n3 c3 fs gs (K1.out.c 3 rfl) (K1.out.c 4 rfl) (K1.out.c 5 rfl) (K1.out.c 0 rfl) (K1.out.c 1 rfl) (K1.out.c 2 rfl) (K1.out.r 1 rfl :) (K1.out.r 0 rfl :) hfr0 hfr4 HVA.out HVG.out hy1 hl1 hm2 HBIG.out HFL.out HFR.out HGL.out HGR.out).mono ?_; rintro e w5 ⟨a5, n5, c5, rfl, ho5, hb5⟩; have HO5 := Lib.hid ho5; have HB5 := Lib.hid hb5; have HR5 := Lib.hid (HR1.out.below hb5); clear e0 f0 e1 f1 e2 f2; have e0 := HR5.out.c 0 rfl; have f0 := HR5.out.free 0; have e1 := HR5.out.c 1 rfl; have f1 := HR5.out.free 1; have e2 := HR5.out.c 2 rfl; have f2 := HR5.out.free 2; clear ho5 hb5)
      refine bodyPost_ret (v := .tuple #[.agg #[.int .i64 0, .int .i64 0, .slice a5 n5 c5], .int .i64 3]) (by simp [results, Try.results11, go_sem, e0, e1, e2]) rfl ⟨a5, n5, c5, rfl, ?_, ?_⟩
      · exact ((((HO5.out.stored (by show w.heap.size + 3 < w1.heap.size; omega) _).stored (by show w.heap.size + 3 < w1.heap.size; omega) _).stored (by show w.heap.size + 3 < w1.heap.size; omega) _).mono (by omega)).full
      · exact ((((K1.out.bel.trans (HB5.out.mono K1.out.bel.size)).setCell (by show w.heap.size ≤ w.heap.size + 3; omega) _).setCell (by show w.heap.size ≤ w.heap.size + 3; omega) _).setCell (by show w.heap.size ≤ w.heap.size + 3; omega) _)
  · have HCD : Hid (FormCode sz rs fr va fs fr2 vg gs 4) := Lib.hid (.inr (.inl ⟨hf, hg, hne, rfl⟩))
    clear hf hg hne
    go_enter Try.func11, Try.ntmps11
    go_wp2_with fail
    refine (formulasCode _ _ _ _ rs _ _ _ _ _ fs _ _ _ _ _ gs 4 _ (K0.out.r 2 rfl :) (K0.out.r 1 rfl :) (K0.out.r 0 rfl :) HCD.out).mono ?_
    rintro e w1 ⟨rfl, hb1⟩
    have K1 := Lib.hid (K0.out.below hb1)
    have HR1 := Lib.hid (HR0.out.below hb1)
    have hz : w.heap.size + 4 ≤ w1.heap.size := by have := hb1.size; simpa using this
    clear hb1
    have e0 := HR1.out.c 0 rfl
    have f0 := HR1.out.free 0
    have e1 := HR1.out.c 1 rfl
    have f1 := HR1.out.free 1
    have e2 := HR1.out.c 2 rfl
    have f2 := HR1.out.free 2
    try go_wp2
    refine bodyPost_ret (v := .tuple #[.agg #[.int .i64 0, .int .i64 0, .slice none 0 0], .int .i64 4]) (by simp [results, Try.results11, go_sem, e0, e1, e2]) rfl ⟨_, _, _, rfl, OwnOps.nil _ _ _ _ (Nat.le_refl _), ?_⟩
    exact (((K1.out.bel.setCell (by show w.heap.size ≤ w.heap.size + 3; omega) _).setCell (by show w.heap.size ≤ w.heap.size + 3; omega) _).setCell (by show w.heap.size ≤ w.heap.size + 3; omega) _)
  · have HCD : Hid (FormCode sz rs fr va fs fr2 vg gs 1) := Lib.hid (.inr (.inr ⟨hno, rfl⟩))
    clear hno
    go_enter Try.func11, Try.ntmps11
    go_wp2_with fail
    refine (formulasCode _ _ _ _ rs _ _ _ _ _ fs _ _ _ _ _ gs 1 _ (K0.out.r 2 rfl :) (K0.out.r 1 rfl :) (K0.out.r 0 rfl :) HCD.out).mono ?_
    rintro e w1 ⟨rfl, hb1⟩
    have K1 := Lib.hid (K0.out.below hb1)
    have HR1 := Lib.hid (HR0.out.below hb1)
    have hz : w.heap.size + 4 ≤ w1.heap.size := by have := hb1.size; simpa using this
    clear hb1
    have e0 := HR1.out.c 0 rfl
    have f0 := HR1.out.free 0
    have e1 := HR1.out.c 1 rfl
    have f1 := HR1.out.free 1
    have e2 := HR1.out.c 2 rfl
    have f2 := HR1.out.free 2
    try go_wp2
    refine bodyPost_ret (v := .tuple #[.agg #[.int .i64 0, .int .i64 0, .slice none 0 0], .int .i64 1]) (by simp [results, Try.results11, go_sem, e0, e1, e2]) rfl ⟨_, _, _, rfl, OwnOps.nil _ _ _ _ (Nat.le_refl _), ?_⟩
    exact (((K1.out.bel.setCell (by show w.heap.size ≤ w.heap.size + 3; omega) _).setCell (by show w.heap.size ≤ w.heap.size + 3; omega) _).setCell (by show w.heap.size ≤ w.heap.size + 3; omega) _)

end Go.Proofs.Ytnbgpeoceejolab
