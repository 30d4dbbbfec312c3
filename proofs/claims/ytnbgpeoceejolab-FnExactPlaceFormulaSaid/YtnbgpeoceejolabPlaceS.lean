/-
  PlaceFormula of the model.
-/
import Derived.Test.YtnbgpeoceejolabPlaceF
import Derived.Test.YtnbgpeoceejolabHideF
import Derived.Test.YtnbgpeoceejolabTold
import Derived.Test.YtnbgpeoceejolabGrowAt
namespace Go.Proofs.Ytnbgpeoceejolab
open Go.RowKit

set_option linter.unusedSimpArgs false in
set_option maxHeartbeats 2000000 in
set_option maxRecDepth 100000 in
theorem specPlaceFormula0 (sz : Int) (a1 : Option Addr) (n1 c1 : Nat) (rs : List (Int × List (List Int))) (fr va : Int) (a2 : Option Addr) (n2 c2 : Nat) (fs : List (Int × List Int)) (free : Int) (a3 : Option Addr) (n3 c3 : Nat) (ps : List Int) (x y : Int) (zs : List (Int × List Int)) (cd : Int) (w : World)
    (h1 : RelsAt w (.slice a1 n1 c1) rs) (h2 : OpsAt w (.slice a2 n2 c2) fs) (h3 : RowAt w (.slice a3 n3 c3) ps) (hi : PlaceFormulaIs sz rs fr va fs free ps x y zs cd) :
    Calls Try.prog 17 #[.agg #[.int .i64 sz, .slice a1 n1 c1], .agg #[.int .i64 fr, .int .i64 va, .slice a2 n2 c2], .int .i64 free, .slice a3 n3 c3] w (MadeF w x y zs cd) := by
  obtain rfl : n1 = rs.length := by obtain ⟨_, _, hv, _⟩ := h1; simp only [Value.slice.injEq] at hv; exact hv.2.1
  obtain rfl : n2 = fs.length := by obtain ⟨_, _, hv, _⟩ := h2; simp only [Value.slice.injEq] at hv; exact hv.2.1
  obtain rfl : n3 = ps.length := by obtain ⟨_, _, hv, _⟩ := h3; simp only [Value.slice.injEq] at hv; exact hv.2.1
  have HR0 : Hid (Box 32 _ (w.heap.size + 2) #[.int .i64 0, .int .i64 0, .slice none 0 0]) := Lib.hid (by
    have h := Box.new 32 ((w.alloc (.cells #[.int .i64 sz, .slice a1 rs.length c1] 37)).alloc (.cells #[.int .i64 fr, .int .i64 va, .slice a2 fs.length c2] 32)) #[.int .i64 0, .int .i64 0, .slice none 0 0]
    simp only [World.size_alloc] at h
    exact h)
  have HTP := Lib.hid (((TplAt.new w sz a1 rs.length c1 rs 37 h1).below ((Below.refl _ _).alloc (Nat.le_refl _) (.cells #[.int .i64 fr, .int .i64 va, .slice a2 fs.length c2] 32))).below ((Below.refl _ _).alloc (Nat.le_refl _) (.cells #[.int .i64 0, .int .i64 0, .slice none 0 0] 32)))
  have HFP : Hid (FormAt _ (w.heap.size + 1) 0 fr va fs) := Lib.hid (by
    have h := (FormAt.new (w.alloc (.cells #[.int .i64 sz, .slice a1 rs.length c1] 37)) fr va a2 fs.length c2 fs 32 (h2.below ((Below.refl _ _).alloc (Nat.le_refl _) _))).below ((Below.refl _ _).alloc (Nat.le_refl _) (.cells #[.int .i64 0, .int .i64 0, .slice none 0 0] 32))
    rwa [World.size_alloc] at h)
  have K0 := Lib.hid ((((((Kept.start w).read (lives_rels _ _) h1).read (lives_ops _ _) h2).box w.heap.size rfl (.int .i64 sz) (.slice a1 rs.length c1) 37).box3 (w.heap.size + 1) (by simp) (.int .i64 fr) (.int .i64 va) (.slice a2 fs.length c2) 32).below ((Below.refl _ _).alloc (Nat.le_refl _) (.cells #[.int .i64 0, .int .i64 0, .slice none 0 0] 32)))
  have ck0 := K0.out.c 0 rfl
  have ck1 := K0.out.c 1 rfl
  have ck2 := K0.out.c 2 rfl
  have ck3 := K0.out.c 3 rfl
  have ck4 := K0.out.c 4 rfl
  have HP0 := Lib.hid h3
  clear h1 h2 h3
  rcases hi with ⟨hf, hA, hL, hfit, hx, rfl, rfl, rfl⟩ | ⟨hf, hA, hL, hbig, rfl, rfl, rfl, rfl⟩ | ⟨hf, hno, rfl, rfl, rfl, rfl⟩ | ⟨hf, rfl, rfl, rfl, rfl⟩
  · skip
    have HV : Hid (ValidFormulaIs sz rs fr va fs true) := Lib.hid (Tells.yes hf)
    have hc := hf.2.1
    obtain ⟨fz, rfl⟩ : ∃ fz : Nat, free = fz := ⟨free.toNat, by have := hA.1; omega⟩
    obtain rfl : (ps.length : Int) = fr := hL.1
    obtain ⟨m, hm⟩ : ∃ m : Nat, (va - (ps.length : Int)) = m := ⟨(va - (ps.length : Int)).toNat, by have := hc.2.1.1; omega⟩
    have hva : va = ps.length + m := by omega
    have hv8 : va ≤ 8 := hc.2.1.2
    have hm8 : m ≤ 8 := by have := hc.1.1; omega
    have hva0 : 0 ≤ va := by omega
    have hp4 : 1 ≤ (ps.length : Int) ∧ (ps.length : Int) ≤ 4 := ⟨hc.1.1, hc.1.2⟩
    have hfr1 : 1 ≤ (fz : Int) := hA.1
    have hfr4 : (fz : Int) ≤ 4 := hA.2
    have hm16 : fs.length ≤ 1000 := by have := hc.2.2; omega
    have hs16 : fs.length ≤ 16 := hc.2.2
    have HLEN : Hid (∀ k, k < fs.length → (rowO fs k).length ≤ 4) := Lib.hid (fun k hk => by have := (hf.text.2 k hk).2.1.2; omega)
    have HRNG : Hid (∀ k, k < fs.length → ∀ i, i < (rowO fs k).length → 0 ≤ intN (rowO fs k) i ∧ intN (rowO fs k) i < ((sayL ps fz m).length : Int)) := Lib.hid (fun k hk i hi => by
      have h := (hf.text.2 k hk).2.2.2 i hi
      rw [sayL_len]
      omega)
    have hA' : Tells true (In14 (fz : Int)) := Tells.yes hA
    have hL' : Tells true (PlP ps (fz : Int)) := Tells.yes hL.2
    obtain ⟨yy, hyy⟩ : ∃ yy : Int, yy = ((fz + m : Nat) : Int) := ⟨_, rfl⟩
    have e1 : ((fz : Int) + (va - (ps.length : Int))) = yy := by omega
    have hyy8 : yy ≤ 8 := by omega
    have HYY := Lib.hid hyy
    have e2 : (va - (ps.length : Int)).toNat = m := by omega
    subst hx
    rw [e1, e2, Int.toNat_natCast]
    clear e2
    have hne : ((ps.length : Int) != (ps.length : Int)) = false := by simp
    have HVA := Lib.hid hva
    have HM := Lib.hid hm
    clear hf hA hL hc hva hm e1 hyy hfit
    obtain ⟨i0, hi, hz0, hz1, hz2⟩ := info_parts info_int3
    go_enter Try.func17, Try.ntmps17
    go_wp2_with fail
    refine (l03Ok _ _ _ rs _ _ _ _ fs true _ HTP.out HFP.out HV.out).mono ?_
    rintro e w1 ⟨rfl, hq1⟩
    have hb1 : Below _ _ w1 := hq1.bel
    have hsz1 : w.heap.size + 3 ≤ w1.heap.size := by have := hb1.size; simpa using this
    have K1 := Lib.hid (K0.out.below hb1)
    have HR1 := Lib.hid (HR0.out.below hb1)
    have HP1 := Lib.hid (HP0.out.below K1.out.bel)
    have cc0 := K1.out.c 0 rfl
    have cc1 := K1.out.c 1 rfl
    have d0 := HR1.out.c 0 rfl
    have d1 := HR1.out.c 1 rfl
    have d2 := HR1.out.c 2 rfl
    have f0 := HR1.out.free 0
    have f1 := HR1.out.free 1
    have f2 := HR1.out.free 2
    clear hb1 ck0 ck1 ck2 ck3 ck4 hq1
    go_wp2_with (first | (go_at_call 44; refine (l01Arity _ true _ hA').mono ?_; rintro e w2 ⟨rfl, rfl⟩) | (go_at_call 45; refine (l01Places _ ps _ true _ HP1.out hfr1 hfr4 hL').mono ?_; rintro e w2 ⟨rfl, rfl⟩) | (go_at_call 46; refine (l00Own _ _ _ ps _ HP1.out (by omega) (by omega)).mono ?_; rintro e w2 ⟨a7, c7, rfl, ho7, hb7⟩; have HO7 := Lib.hid ho7; have HB7 := Lib.hid hb7; have kk0 := (K1.out.below hb7).c 0 rfl; have kk1 := (K1.out.below hb7).c 1 rfl; clear ho7 hb7))
    go_loopw [10, 11] (fun tv v wr => ∃ (k : Nat) (v0 : Int) (a : Option Addr) (n c : Nat), k ≤ m ∧ v0 = ((ps.length + k : Nat) : Int) ∧ v = .int .i64 v0 ∧ tv = .slice a n c ∧ OwnRow wr w1.heap.size (.slice a n c) (sayL ps fz k) ∧ Below w1.heap.size w1 wr) (fun _ v _ => va.toNat - (intOf v).toNat)
    case atStart => exact ⟨0, (ps.length : Int), a7, ps.length, c7, Nat.zero_le _, by simp, rfl, rfl, by rw [sayL_zero]; exact HO7.out, HB7.out⟩
    case round =>
      obtain ⟨k, v0, a, n, c, hk, hv0, rfl, rfl, hown, hbel⟩ := hrel
      obtain ⟨wo, rfl⟩ : ∃ wo : World, wo = wr := ⟨_, rfl⟩
      have HO := Lib.hid hown
      have HW := Lib.hid hbel
      have KR := Lib.hid (K1.out.below hbel)
      have g0 := KR.out.c 0 rfl
      have g1 := KR.out.c 1 rfl
      have hv0' : 0 ≤ v0 := by omega
      clear hown hbel
      by_cases hlt : k < m
      · have hlt' : v0 < va := by have := HVA.out; omega
        obtain ⟨z, hz⟩ : ∃ z : Int, z = ((fz + k : Nat) : Int) := ⟨_, rfl⟩
        have hw1 : IntKind.i64.wrap ((fz : Int) + v0) = (fz : Int) + v0 := IntWalk.i64_in _ (by omega)
        have hw2 : IntKind.i64.wrap ((fz : Int) + v0 - (ps.length : Int)) = z := by rw [IntWalk.i64_in _ (by omega)]; omega
        have hw3 : IntKind.i64.wrap (v0 + 1) = v0 + 1 := IntWalk.i64_in _ (by omega)
        have HZ := Lib.hid hz
        have HV0 := Lib.hid hv0
        have hc1 := cell_one_new wo (.int .i64 z) 2
        have HC1 := Lib.hid hc1
        clear hc1 hz hv0
        go_wp2_with (at_builtin; refine wpList_append_own _ rfl _ _ 45 rfl w1.heap.size 2 i0 (.int .i64 0) 1 8 Try.underlying45 hi hz0 hz1 hz2 rfl (by decide) (.slice a n c) (sayL ps fz k).length _ rfl ((show World.ownsRow _ _ _ _ _ _ _ from HO.out).alloc _) ⟨wo.heap.size, 0, none⟩ 1 1 [.int .i64 z] rfl rfl HC1.out (by simp [Value.oneCell']) (by rw [sayL_len]; unfold maxLen; omega) (by rw [sayL_len]; omega) (by have := HW.out.size; simp; omega) ?_; intro v' w3 hown' hgrow _; obtain ⟨g', c', rfl⟩ := ownsRow_succ hown'; have HG3 := Lib.hid hown'; have HR3 := Lib.hid hgrow; clear hown' hgrow)
        go_roundw
        case rel =>
          refine ⟨k + 1, v0 + 1, _, _, _, by omega, by rw [HV0.out]; omega, rfl, rfl, ?_, ((HW.out.alloc HW.out.size _).grown HR3.out (by have := HW.out.size; simp; omega) (fun q hq => (HO.out.lt q hq).1))⟩
          have e : (sayL ps fz (k + 1)).length = (sayL ps fz k).length + 1 := by rw [sayL_len, sayL_len]; omega
          unfold OwnRow
          rw [e, sayL_succ, List.map_append, ← HZ.out]
          exact HG3.out
        case measure => simp [intOf]; omega
      · have hkm : k = m := by omega
        subst hkm
        have hv1 : ¬ v0 < va := by have := HVA.out; omega
        have HTO := Lib.hid (OwnRow.rowAt HO.out)
        have HRR := Lib.hid (HR1.out.below HW.out)
        have hszr : w.heap.size + 3 ≤ wo.heap.size := by have := HW.out.size; omega
        have g2 := KR.out.c 2 rfl
        have hwa : IntKind.i64.wrap ((fz : Int) + va) = (fz : Int) + va := IntWalk.i64_in _ (by omega)
        have hwb : IntKind.i64.wrap ((fz : Int) + va - (ps.length : Int)) = yy := by rw [IntWalk.i64_in _ (by omega)]; have := HYY.out; have := HVA.out; omega
        have HV0 := Lib.hid hv0
        clear hv0 hlt hk d0 d1 d2 f0 f1 f2
        go_wp2
        refine wp_region_noPanic ?_
        refine wp_region_late (S := (fun w' => w'.cell? ⟨w.heap.size + 1, 0, none⟩ = some (.int .i64 (ps.length : Int)) ∧ w'.cell? ⟨w.heap.size + 1, 1, none⟩ = some (.int .i64 va) ∧ w'.cell? ⟨w.heap.size + 1, 2, none⟩ = some (.slice a2 fs.length c2) ∧ Below wo.heap.size wo w')) [16] (by kernel_rfl) ?_ (fun hHeld => ?_)
        · exact ⟨g0, g1, g2, (QW.refl wo).drew.below _⟩
        refine wpAnyL_free (i := 0) (v := ?_) (some 51) rfl rfl (by kernel_rfl) (by kernel_rfl) (by kernel_rfl) (by decide) (fun _ _ _ h => h) (Or.inl ⟨by rfl, ?_⟩) (fun h0 => by assumption) ?_
        rotate_left
        · intro wS
          go_simp
          try with_reducible rfl
        try simp only [Act.put, List.setIfInBounds_toArray, List.set_cons_zero, List.set_cons_succ]
        refine wpAnyL_free (i := 1) (v := ?_) (some 52) rfl rfl (by kernel_rfl) (by kernel_rfl) (by kernel_rfl) (by decide) (fun _ _ _ h => h) (Or.inl ⟨by rfl, ?_⟩) (fun h0 => by assumption) ?_
        rotate_left
        · intro wS
          go_simp
          try with_reducible rfl
        try simp only [Act.put, List.setIfInBounds_toArray, List.set_cons_zero, List.set_cons_succ]
        refine wpAnyL_free (i := 2) (v := ?_) (some 53) rfl rfl (by kernel_rfl) (by kernel_rfl) (by kernel_rfl) (by decide) (fun _ _ _ h => h) (Or.inl ⟨by rfl, ?_⟩) (fun h0 => by assumption) ?_
        rotate_left
        · intro wS
          go_simp
          try with_reducible rfl
        try simp only [Act.put, List.setIfInBounds_toArray, List.set_cons_zero, List.set_cons_succ]
        refine wpAnyL_take (i := 3) (v := ?_) (some 54) rfl rfl (by kernel_rfl) (by kernel_rfl) (by kernel_rfl) (by kernel_rfl) (by kernel_rfl) (fun _ _ _ h => h) (Or.inl ⟨by rfl, ?_⟩) (by assumption) ?_
        rotate_left
        · intro wS hSw
          try dsimp only at hSw
          go_simp
          try with_reducible rfl
        try simp only [Act.put, List.setIfInBounds_toArray, List.set_cons_zero, List.set_cons_succ]
        refine wpAnyL_free (i := 4) (v := ?_) (some 55) rfl rfl (by kernel_rfl) (by kernel_rfl) (by kernel_rfl) (by decide) (fun _ _ _ h => h) (Or.inl ⟨by rfl, ?_⟩) (fun h0 => by assumption) ?_
        rotate_left
        · intro wS
          go_simp
          try with_reducible rfl
        try simp only [Act.put, List.setIfInBounds_toArray, List.set_cons_zero, List.set_cons_succ]
        refine wpAnyL_free (i := 5) (v := ?_) (some 56) rfl rfl (by kernel_rfl) (by kernel_rfl) (by kernel_rfl) (by decide) (fun _ _ _ h => h) (Or.inl ⟨by rfl, ?_⟩) (fun h0 => by assumption) ?_
        rotate_left
        · intro wS
          go_simp
          try with_reducible rfl
        try simp only [Act.put, List.setIfInBounds_toArray, List.set_cons_zero, List.set_cons_succ]
        refine wpAnyL_take (i := 6) (v := ?_) (some 57) rfl rfl (by kernel_rfl) (by kernel_rfl) (by kernel_rfl) (by kernel_rfl) (by kernel_rfl) (fun _ _ _ h => h) (Or.inl ⟨by rfl, ?_⟩) (by assumption) ?_
        rotate_left
        · intro wS hSw
          try dsimp only at hSw
          go_simp
          try with_reducible rfl
        try simp only [Act.put, List.setIfInBounds_toArray, List.set_cons_zero, List.set_cons_succ]
        refine wpAnyL_free (i := 7) (v := ?_) (some 58) rfl rfl (by kernel_rfl) (by kernel_rfl) (by kernel_rfl) (by decide) (fun _ _ _ h => h) (Or.inl ⟨by rfl, ?_⟩) (fun h0 => by assumption) ?_
        rotate_left
        · intro wS
          go_simp
          try with_reducible rfl
        try simp only [Act.put, List.setIfInBounds_toArray, List.set_cons_zero, List.set_cons_succ]
        refine wpAnyL_free (i := 8) (v := ?_) (some 59) rfl rfl (by kernel_rfl) (by kernel_rfl) (by kernel_rfl) (by decide) (fun _ _ _ h => h) (Or.inl ⟨by rfl, ?_⟩) (fun h0 => by assumption) ?_
        rotate_left
        · intro wS
          go_simp
          try with_reducible rfl
        try simp only [Act.put, List.setIfInBounds_toArray, List.set_cons_zero, List.set_cons_succ]
        refine wpAnyL_take (i := 9) (v := ?_) (some 60) rfl rfl (by kernel_rfl) (by kernel_rfl) (by kernel_rfl) (by kernel_rfl) (by kernel_rfl) (fun _ _ _ h => h) (Or.inl ⟨by rfl, ?_⟩) (by assumption) ?_
        rotate_left
        · intro wS hSw
          try dsimp only at hSw
          go_simp
          try with_reducible rfl
        try simp only [Act.put, List.setIfInBounds_toArray, List.set_cons_zero, List.set_cons_succ]
        refine wpAnyL_free (i := 10) (v := ?_) (some 61) rfl rfl (by kernel_rfl) (by kernel_rfl) (by kernel_rfl) (by decide) (fun _ _ _ h => h) (Or.inl ⟨by rfl, ?_⟩) (fun h0 => by assumption) ?_
        rotate_left
        · intro wS
          go_simp
          try with_reducible rfl
        try simp only [Act.put, List.setIfInBounds_toArray, List.set_cons_zero, List.set_cons_succ]
        refine wpAnyL_ready (rs := [11]) (by kernel_rfl) (by simp) ?_
        refine AllReadyL.cons rfl (fun K hK => ?_) AllReadyL.nil
        go_simp; go_at_call 29; refine (l03Moved _ _ fs (sayL ps fz k) _ ((KR.out.r 0 rfl : OpsAt wo (.slice a2 fs.length c2) fs).below ((QW.refl wo).drew.below _)) (HTO.out.below ((QW.refl wo).drew.below _)) HLEN.out HRNG.out hm16).mono ?_; rintro e w5 ⟨a5, n5, c5, rfl, ho5, hb5⟩
        have HO5 := Lib.hid ho5
        have HB5 := Lib.hid (((QW.refl wo).drew.below wo.heap.size).trans hb5)
        have hn5 : n5 ≤ 16 := by
          obtain ⟨V, hV⟩ := ho5
          obtain ⟨zs, hz, _⟩ := hV.outer
          have hml := movedL_len fs (sayL ps fz k)
          rcases ownsRow2_parts hz with ⟨e1, e2, _⟩ | ⟨q, q2, e1, _⟩ <;> simp only [Value.slice.injEq] at e1 <;> omega
        refine hK.out _ _ ?_ (fun hHeld => ?_)
        · exact ⟨below_cell hb5 hHeld.1, below_cell hb5 hHeld.2.1, below_cell hb5 hHeld.2.2.1, hHeld.2.2.2.trans (hb5.mono hHeld.2.2.2.size)⟩
        clear hK K
        try simp only [Act.put, List.setIfInBounds_toArray, List.set_cons_zero, List.set_cons_succ]
        refine wpAnyL_free (i := 12) (v := ?_) (some 63) rfl rfl (by kernel_rfl) (by kernel_rfl) (by kernel_rfl) (by decide) (fun _ _ _ h => h) (Or.inl ⟨by rfl, ?_⟩) (fun h0 => by assumption) ?_
        rotate_left
        · intro wS
          go_simp
          try with_reducible rfl
        try simp only [Act.put, List.setIfInBounds_toArray, List.set_cons_zero, List.set_cons_succ]
        refine wpAnyL_ready (rs := [13]) (by kernel_rfl) (by simp) ?_
        refine AllReadyL.cons rfl (fun K hK => ?_) AllReadyL.nil
        go_simp; go_at_call 30; refine (l03Told_ok _ _ _ _ _ _ hyy8 hn5).mono ?_; rintro e w6 ⟨rfl, hb6⟩
        have HB6 := Lib.hid (HB5.out.trans (hb6.mono HB5.out.size))
        have HBX := Lib.hid hb6
        have HR6 := Lib.hid (HRR.out.below HB6.out)
        have e0 := HR6.out.c 0 rfl
        have e1 := HR6.out.c 1 rfl
        have e2 := HR6.out.c 2 rfl
        have f0 := HR6.out.free 0
        have f1 := HR6.out.free 1
        have f2 := HR6.out.free 2
        refine hK.out _ _ ?_ (fun hHeld => ?_)
        · exact ⟨below_cell hb6 hHeld.1, below_cell hb6 hHeld.2.1, below_cell hb6 hHeld.2.2.1, hHeld.2.2.2.trans (hb6.mono hHeld.2.2.2.size)⟩
        clear hK K
        try simp only [Act.put, List.setIfInBounds_toArray, List.set_cons_zero, List.set_cons_succ]
        refine wpAnyL_free (i := 14) (v := ?_) (some 65) rfl rfl (by kernel_rfl) (by kernel_rfl) (by kernel_rfl) (by decide) (fun _ _ _ h => h) (Or.inl ⟨by rfl, ?_⟩) (fun h0 => by assumption) ?_
        rotate_left
        · intro wS
          go_simp
          try with_reducible rfl
        try simp only [Act.put, List.setIfInBounds_toArray, List.set_cons_zero, List.set_cons_succ]
        refine wpAnyL_free (i := 15) (v := ?_) (some 66) rfl rfl (by kernel_rfl) (by kernel_rfl) (by kernel_rfl) (by decide) (fun _ _ _ h => h) (Or.inl ⟨by rfl, ?_⟩) (fun h0 => by assumption) ?_
        rotate_left
        · intro wS
          go_simp
          try with_reducible rfl
        try simp only [Act.put, List.setIfInBounds_toArray, List.set_cons_zero, List.set_cons_succ]
        refine wpAnyL_ready (rs := [16]) (by kernel_rfl) (by simp) ?_
        refine AllReadyL.last rfl (by kernel_rfl) (fun K hK => ?_) AllReadyL.nil
        go_simp
        refine hK.out _ _ ?_
        clear hK K
        try simp only [Act.put, List.setIfInBounds_toArray, List.set_cons_zero, List.set_cons_succ]
        refine wpAnyL_free (i := 17) (v := ?_) (some 9) rfl rfl (by kernel_rfl) (by kernel_rfl) (by kernel_rfl) (by decide) (fun _ _ _ h => h) (Or.inl ⟨by rfl, ?_⟩) (fun h0 => absurd h0 (by decide)) ?_
        rotate_left
        · intro wS
          go_simp
          try with_reducible rfl
        try simp only [Act.put, List.setIfInBounds_toArray, List.set_cons_zero, List.set_cons_succ]
        refine wpAnyL_done (by kernel_rfl) ?_ _
        refine NoPanic.normal ?_
        go_wp2
        refine bodyPost_ret (v := .tuple #[.agg #[.int .i64 fz, .int .i64 yy, .slice a5 n5 c5], .int .i64 0]) (by simp [results, Try.results17, go_sem, e0, e1, e2]) rfl ⟨_, _, _, rfl, ?_, ?_⟩
        · exact (((((HO5.out.below HBX.out).mono hszr).stored (by show w.heap.size + 2 < w.heap.size + 3; omega) _).stored (by show w.heap.size + 2 < w.heap.size + 3; omega) _).stored (by show w.heap.size + 2 < w.heap.size + 3; omega) _).mono (by omega) |>.full
        · exact ((((KR.out.bel.trans (HB6.out.mono KR.out.bel.size)).setCell (by show w.heap.size ≤ w.heap.size + 2; omega) _).setCell (by show w.heap.size ≤ w.heap.size + 2; omega) _).setCell (by show w.heap.size ≤ w.heap.size + 2; omega) _)
  · skip
    have HV : Hid (ValidFormulaIs sz rs fr va fs true) := Lib.hid (Tells.yes hf)
    have hc := hf.2.1
    obtain ⟨fz, rfl⟩ : ∃ fz : Nat, free = fz := ⟨free.toNat, by have := hA.1; omega⟩
    obtain rfl : (ps.length : Int) = fr := hL.1
    obtain ⟨m, hm⟩ : ∃ m : Nat, (va - (ps.length : Int)) = m := ⟨(va - (ps.length : Int)).toNat, by have := hc.2.1.1; omega⟩
    have hva : va = ps.length + m := by omega
    have hv8 : va ≤ 8 := hc.2.1.2
    have hm8 : m ≤ 8 := by have := hc.1.1; omega
    have hva0 : 0 ≤ va := by omega
    have hp4 : 1 ≤ (ps.length : Int) ∧ (ps.length : Int) ≤ 4 := ⟨hc.1.1, hc.1.2⟩
    have hfr1 : 1 ≤ (fz : Int) := hA.1
    have hfr4 : (fz : Int) ≤ 4 := hA.2
    have hm16 : fs.length ≤ 1000 := by have := hc.2.2; omega
    have hs16 : fs.length ≤ 16 := hc.2.2
    have HLEN : Hid (∀ k, k < fs.length → (rowO fs k).length ≤ 4) := Lib.hid (fun k hk => by have := (hf.text.2 k hk).2.1.2; omega)
    have HRNG : Hid (∀ k, k < fs.length → ∀ i, i < (rowO fs k).length → 0 ≤ intN (rowO fs k) i ∧ intN (rowO fs k) i < ((sayL ps fz m).length : Int)) := Lib.hid (fun k hk i hi => by
      have h := (hf.text.2 k hk).2.2.2 i hi
      rw [sayL_len]
      omega)
    have hA' : Tells true (In14 (fz : Int)) := Tells.yes hA
    have hL' : Tells true (PlP ps (fz : Int)) := Tells.yes hL.2
    obtain ⟨yy, hyy⟩ : ∃ yy : Int, yy = ((fz + m : Nat) : Int) := ⟨_, rfl⟩
    have e1 : ((fz : Int) + (va - (ps.length : Int))) = yy := by omega
    have hyy8 : 8 < yy := by omega
    have HYY := Lib.hid hyy
    have hne : ((ps.length : Int) != (ps.length : Int)) = false := by simp
    have HVA := Lib.hid hva
    have HM := Lib.hid hm
    clear hf hA hL hc hva hm e1 hyy hbig
    obtain ⟨i0, hi, hz0, hz1, hz2⟩ := info_parts info_int3
    go_enter Try.func17, Try.ntmps17
    go_wp2_with fail
    refine (l03Ok _ _ _ rs _ _ _ _ fs true _ HTP.out HFP.out HV.out).mono ?_
    rintro e w1 ⟨rfl, hq1⟩
    have hb1 : Below _ _ w1 := hq1.bel
    have hsz1 : w.heap.size + 3 ≤ w1.heap.size := by have := hb1.size; simpa using this
    have K1 := Lib.hid (K0.out.below hb1)
    have HR1 := Lib.hid (HR0.out.below hb1)
    have HP1 := Lib.hid (HP0.out.below K1.out.bel)
    have cc0 := K1.out.c 0 rfl
    have cc1 := K1.out.c 1 rfl
    have d0 := HR1.out.c 0 rfl
    have d1 := HR1.out.c 1 rfl
    have d2 := HR1.out.c 2 rfl
    have f0 := HR1.out.free 0
    have f1 := HR1.out.free 1
    have f2 := HR1.out.free 2
    clear hb1 ck0 ck1 ck2 ck3 ck4 hq1
    go_wp2_with (first | (go_at_call 44; refine (l01Arity _ true _ hA').mono ?_; rintro e w2 ⟨rfl, rfl⟩) | (go_at_call 45; refine (l01Places _ ps _ true _ HP1.out hfr1 hfr4 hL').mono ?_; rintro e w2 ⟨rfl, rfl⟩) | (go_at_call 46; refine (l00Own _ _ _ ps _ HP1.out (by omega) (by omega)).mono ?_; rintro e w2 ⟨a7, c7, rfl, ho7, hb7⟩; have HO7 := Lib.hid ho7; have HB7 := Lib.hid hb7; have kk0 := (K1.out.below hb7).c 0 rfl; have kk1 := (K1.out.below hb7).c 1 rfl; clear ho7 hb7))
    go_loopw [10, 11] (fun tv v wr => ∃ (k : Nat) (v0 : Int) (a : Option Addr) (n c : Nat), k ≤ m ∧ v0 = ((ps.length + k : Nat) : Int) ∧ v = .int .i64 v0 ∧ tv = .slice a n c ∧ OwnRow wr w1.heap.size (.slice a n c) (sayL ps fz k) ∧ Below w1.heap.size w1 wr) (fun _ v _ => va.toNat - (intOf v).toNat)
    case atStart => exact ⟨0, (ps.length : Int), a7, ps.length, c7, Nat.zero_le _, by simp, rfl, rfl, by rw [sayL_zero]; exact HO7.out, HB7.out⟩
    case round =>
      obtain ⟨k, v0, a, n, c, hk, hv0, rfl, rfl, hown, hbel⟩ := hrel
      obtain ⟨wo, rfl⟩ : ∃ wo : World, wo = wr := ⟨_, rfl⟩
      have HO := Lib.hid hown
      have HW := Lib.hid hbel
      have KR := Lib.hid (K1.out.below hbel)
      have g0 := KR.out.c 0 rfl
      have g1 := KR.out.c 1 rfl
      have hv0' : 0 ≤ v0 := by omega
      clear hown hbel
      by_cases hlt : k < m
      · have hlt' : v0 < va := by have := HVA.out; omega
        obtain ⟨z, hz⟩ : ∃ z : Int, z = ((fz + k : Nat) : Int) := ⟨_, rfl⟩
        have hw1 : IntKind.i64.wrap ((fz : Int) + v0) = (fz : Int) + v0 := IntWalk.i64_in _ (by omega)
        have hw2 : IntKind.i64.wrap ((fz : Int) + v0 - (ps.length : Int)) = z := by rw [IntWalk.i64_in _ (by omega)]; omega
        have hw3 : IntKind.i64.wrap (v0 + 1) = v0 + 1 := IntWalk.i64_in _ (by omega)
        have HZ := Lib.hid hz
        have HV0 := Lib.hid hv0
        have hc1 := cell_one_new wo (.int .i64 z) 2
        have HC1 := Lib.hid hc1
        clear hc1 hz hv0
        go_wp2_with (at_builtin; refine wpList_append_own _ rfl _ _ 45 rfl w1.heap.size 2 i0 (.int .i64 0) 1 8 Try.underlying45 hi hz0 hz1 hz2 rfl (by decide) (.slice a n c) (sayL ps fz k).length _ rfl ((show World.ownsRow _ _ _ _ _ _ _ from HO.out).alloc _) ⟨wo.heap.size, 0, none⟩ 1 1 [.int .i64 z] rfl rfl HC1.out (by simp [Value.oneCell']) (by rw [sayL_len]; unfold maxLen; omega) (by rw [sayL_len]; omega) (by have := HW.out.size; simp; omega) ?_; intro v' w3 hown' hgrow _; obtain ⟨g', c', rfl⟩ := ownsRow_succ hown'; have HG3 := Lib.hid hown'; have HR3 := Lib.hid hgrow; clear hown' hgrow)
        go_roundw
        case rel =>
          refine ⟨k + 1, v0 + 1, _, _, _, by omega, by rw [HV0.out]; omega, rfl, rfl, ?_, ((HW.out.alloc HW.out.size _).grown HR3.out (by have := HW.out.size; simp; omega) (fun q hq => (HO.out.lt q hq).1))⟩
          have e : (sayL ps fz (k + 1)).length = (sayL ps fz k).length + 1 := by rw [sayL_len, sayL_len]; omega
          unfold OwnRow
          rw [e, sayL_succ, List.map_append, ← HZ.out]
          exact HG3.out
        case measure => simp [intOf]; omega
      · have hkm : k = m := by omega
        subst hkm
        have hv1 : ¬ v0 < va := by have := HVA.out; omega
        have HTO := Lib.hid (OwnRow.rowAt HO.out)
        have HRR := Lib.hid (HR1.out.below HW.out)
        have hszr : w.heap.size + 3 ≤ wo.heap.size := by have := HW.out.size; omega
        have g2 := KR.out.c 2 rfl
        have hwa : IntKind.i64.wrap ((fz : Int) + va) = (fz : Int) + va := IntWalk.i64_in _ (by omega)
        have hwb : IntKind.i64.wrap ((fz : Int) + va - (ps.length : Int)) = yy := by rw [IntWalk.i64_in _ (by omega)]; have := HYY.out; have := HVA.out; omega
        have HV0 := Lib.hid hv0
        clear hv0 hlt hk d0 d1 d2 f0 f1 f2
        go_wp2
        refine wp_region_noPanic ?_
        refine wp_region_late (S := (fun w' => w'.cell? ⟨w.heap.size + 1, 0, none⟩ = some (.int .i64 (ps.length : Int)) ∧ w'.cell? ⟨w.heap.size + 1, 1, none⟩ = some (.int .i64 va) ∧ w'.cell? ⟨w.heap.size + 1, 2, none⟩ = some (.slice a2 fs.length c2) ∧ Below wo.heap.size wo w')) [16] (by kernel_rfl) ?_ (fun hHeld => ?_)
        · exact ⟨g0, g1, g2, (QW.refl wo).drew.below _⟩
        refine wpAnyL_free (i := 0) (v := ?_) (some 51) rfl rfl (by kernel_rfl) (by kernel_rfl) (by kernel_rfl) (by decide) (fun _ _ _ h => h) (Or.inl ⟨by rfl, ?_⟩) (fun h0 => by assumption) ?_
        rotate_left
        · intro wS
          go_simp
          try with_reducible rfl
        try simp only [Act.put, List.setIfInBounds_toArray, List.set_cons_zero, List.set_cons_succ]
        refine wpAnyL_free (i := 1) (v := ?_) (some 52) rfl rfl (by kernel_rfl) (by kernel_rfl) (by kernel_rfl) (by decide) (fun _ _ _ h => h) (Or.inl ⟨by rfl, ?_⟩) (fun h0 => by assumption) ?_
        rotate_left
        · intro wS
          go_simp
          try with_reducible rfl
        try simp only [Act.put, List.setIfInBounds_toArray, List.set_cons_zero, List.set_cons_succ]
        refine wpAnyL_free (i := 2) (v := ?_) (some 53) rfl rfl (by kernel_rfl) (by kernel_rfl) (by kernel_rfl) (by decide) (fun _ _ _ h => h) (Or.inl ⟨by rfl, ?_⟩) (fun h0 => by assumption) ?_
        rotate_left
        · intro wS
          go_simp
          try with_reducible rfl
        try simp only [Act.put, List.setIfInBounds_toArray, List.set_cons_zero, List.set_cons_succ]
        refine wpAnyL_take (i := 3) (v := ?_) (some 54) rfl rfl (by kernel_rfl) (by kernel_rfl) (by kernel_rfl) (by kernel_rfl) (by kernel_rfl) (fun _ _ _ h => h) (Or.inl ⟨by rfl, ?_⟩) (by assumption) ?_
        rotate_left
        · intro wS hSw
          try dsimp only at hSw
          go_simp
          try with_reducible rfl
        try simp only [Act.put, List.setIfInBounds_toArray, List.set_cons_zero, List.set_cons_succ]
        refine wpAnyL_free (i := 4) (v := ?_) (some 55) rfl rfl (by kernel_rfl) (by kernel_rfl) (by kernel_rfl) (by decide) (fun _ _ _ h => h) (Or.inl ⟨by rfl, ?_⟩) (fun h0 => by assumption) ?_
        rotate_left
        · intro wS
          go_simp
          try with_reducible rfl
        try simp only [Act.put, List.setIfInBounds_toArray, List.set_cons_zero, List.set_cons_succ]
        refine wpAnyL_free (i := 5) (v := ?_) (some 56) rfl rfl (by kernel_rfl) (by kernel_rfl) (by kernel_rfl) (by decide) (fun _ _ _ h => h) (Or.inl ⟨by rfl, ?_⟩) (fun h0 => by assumption) ?_
        rotate_left
        · intro wS
          go_simp
          try with_reducible rfl
        try simp only [Act.put, List.setIfInBounds_toArray, List.set_cons_zero, List.set_cons_succ]
        refine wpAnyL_take (i := 6) (v := ?_) (some 57) rfl rfl (by kernel_rfl) (by kernel_rfl) (by kernel_rfl) (by kernel_rfl) (by kernel_rfl) (fun _ _ _ h => h) (Or.inl ⟨by rfl, ?_⟩) (by assumption) ?_
        rotate_left
        · intro wS hSw
          try dsimp only at hSw
          go_simp
          try with_reducible rfl
        try simp only [Act.put, List.setIfInBounds_toArray, List.set_cons_zero, List.set_cons_succ]
        refine wpAnyL_free (i := 7) (v := ?_) (some 58) rfl rfl (by kernel_rfl) (by kernel_rfl) (by kernel_rfl) (by decide) (fun _ _ _ h => h) (Or.inl ⟨by rfl, ?_⟩) (fun h0 => by assumption) ?_
        rotate_left
        · intro wS
          go_simp
          try with_reducible rfl
        try simp only [Act.put, List.setIfInBounds_toArray, List.set_cons_zero, List.set_cons_succ]
        refine wpAnyL_free (i := 8) (v := ?_) (some 59) rfl rfl (by kernel_rfl) (by kernel_rfl) (by kernel_rfl) (by decide) (fun _ _ _ h => h) (Or.inl ⟨by rfl, ?_⟩) (fun h0 => by assumption) ?_
        rotate_left
        · intro wS
          go_simp
          try with_reducible rfl
        try simp only [Act.put, List.setIfInBounds_toArray, List.set_cons_zero, List.set_cons_succ]
        refine wpAnyL_take (i := 9) (v := ?_) (some 60) rfl rfl (by kernel_rfl) (by kernel_rfl) (by kernel_rfl) (by kernel_rfl) (by kernel_rfl) (fun _ _ _ h => h) (Or.inl ⟨by rfl, ?_⟩) (by assumption) ?_
        rotate_left
        · intro wS hSw
          try dsimp only at hSw
          go_simp
          try with_reducible rfl
        try simp only [Act.put, List.setIfInBounds_toArray, List.set_cons_zero, List.set_cons_succ]
        refine wpAnyL_free (i := 10) (v := ?_) (some 61) rfl rfl (by kernel_rfl) (by kernel_rfl) (by kernel_rfl) (by decide) (fun _ _ _ h => h) (Or.inl ⟨by rfl, ?_⟩) (fun h0 => by assumption) ?_
        rotate_left
        · intro wS
          go_simp
          try with_reducible rfl
        try simp only [Act.put, List.setIfInBounds_toArray, List.set_cons_zero, List.set_cons_succ]
        refine wpAnyL_ready (rs := [11]) (by kernel_rfl) (by simp) ?_
        refine AllReadyL.cons rfl (fun K hK => ?_) AllReadyL.nil
        go_simp; go_at_call 29; refine (l03Moved _ _ fs (sayL ps fz k) _ ((KR.out.r 0 rfl : OpsAt wo (.slice a2 fs.length c2) fs).below ((QW.refl wo).drew.below _)) (HTO.out.below ((QW.refl wo).drew.below _)) HLEN.out HRNG.out hm16).mono ?_; rintro e w5 ⟨a5, n5, c5, rfl, ho5, hb5⟩
        have HO5 := Lib.hid ho5
        have HB5 := Lib.hid (((QW.refl wo).drew.below wo.heap.size).trans hb5)
        have hn5 : n5 ≤ 16 := by
          obtain ⟨V, hV⟩ := ho5
          obtain ⟨zs, hz, _⟩ := hV.outer
          have hml := movedL_len fs (sayL ps fz k)
          rcases ownsRow2_parts hz with ⟨e1, e2, _⟩ | ⟨q, q2, e1, _⟩ <;> simp only [Value.slice.injEq] at e1 <;> omega
        refine hK.out _ _ ?_ (fun hHeld => ?_)
        · exact ⟨below_cell hb5 hHeld.1, below_cell hb5 hHeld.2.1, below_cell hb5 hHeld.2.2.1, hHeld.2.2.2.trans (hb5.mono hHeld.2.2.2.size)⟩
        clear hK K
        try simp only [Act.put, List.setIfInBounds_toArray, List.set_cons_zero, List.set_cons_succ]
        refine wpAnyL_free (i := 12) (v := ?_) (some 63) rfl rfl (by kernel_rfl) (by kernel_rfl) (by kernel_rfl) (by decide) (fun _ _ _ h => h) (Or.inl ⟨by rfl, ?_⟩) (fun h0 => by assumption) ?_
        rotate_left
        · intro wS
          go_simp
          try with_reducible rfl
        try simp only [Act.put, List.setIfInBounds_toArray, List.set_cons_zero, List.set_cons_succ]
        refine wpAnyL_ready (rs := [13]) (by kernel_rfl) (by simp) ?_
        refine AllReadyL.cons rfl (fun K hK => ?_) AllReadyL.nil
        go_simp; go_at_call 30; refine (l03Told_told1 _ _ _ _ _ _ hyy8).mono ?_; rintro e w6 ⟨rfl, hb6⟩
        have HB6 := Lib.hid (HB5.out.trans (hb6.mono HB5.out.size))
        have HBX := Lib.hid hb6
        have HR6 := Lib.hid (HRR.out.below HB6.out)
        have e0 := HR6.out.c 0 rfl
        have e1 := HR6.out.c 1 rfl
        have e2 := HR6.out.c 2 rfl
        have f0 := HR6.out.free 0
        have f1 := HR6.out.free 1
        have f2 := HR6.out.free 2
        refine hK.out _ _ ?_ (fun hHeld => ?_)
        · exact ⟨below_cell hb6 hHeld.1, below_cell hb6 hHeld.2.1, below_cell hb6 hHeld.2.2.1, hHeld.2.2.2.trans (hb6.mono hHeld.2.2.2.size)⟩
        clear hK K
        try simp only [Act.put, List.setIfInBounds_toArray, List.set_cons_zero, List.set_cons_succ]
        refine wpAnyL_free (i := 14) (v := ?_) (some 65) rfl rfl (by kernel_rfl) (by kernel_rfl) (by kernel_rfl) (by decide) (fun _ _ _ h => h) (Or.inl ⟨by rfl, ?_⟩) (fun h0 => by assumption) ?_
        rotate_left
        · intro wS
          go_simp
          try with_reducible rfl
        try simp only [Act.put, List.setIfInBounds_toArray, List.set_cons_zero, List.set_cons_succ]
        refine wpAnyL_free (i := 15) (v := ?_) (some 66) rfl rfl (by kernel_rfl) (by kernel_rfl) (by kernel_rfl) (by decide) (fun _ _ _ h => h) (Or.inl ⟨by rfl, ?_⟩) (fun h0 => by assumption) ?_
        rotate_left
        · intro wS
          go_simp
          try with_reducible rfl
        try simp only [Act.put, List.setIfInBounds_toArray, List.set_cons_zero, List.set_cons_succ]
        refine wpAnyL_ready (rs := [16]) (by kernel_rfl) (by simp) ?_
        refine AllReadyL.last rfl (by kernel_rfl) (fun K hK => ?_) AllReadyL.nil
        go_simp
        refine hK.out _ _ ?_
        clear hK K
        try simp only [Act.put, List.setIfInBounds_toArray, List.set_cons_zero, List.set_cons_succ]
        refine wpAnyL_free (i := 17) (v := ?_) (some 9) rfl rfl (by kernel_rfl) (by kernel_rfl) (by kernel_rfl) (by decide) (fun _ _ _ h => h) (Or.inl ⟨by rfl, ?_⟩) (fun h0 => absurd h0 (by decide)) ?_
        rotate_left
        · intro wS
          go_simp
          try with_reducible rfl
        try simp only [Act.put, List.setIfInBounds_toArray, List.set_cons_zero, List.set_cons_succ]
        refine wpAnyL_done (by kernel_rfl) ?_ _
        refine NoPanic.normal ?_
        go_wp2
        refine bodyPost_ret (v := .tuple #[.agg #[.int .i64 0, .int .i64 0, .slice none 0 0], .int .i64 3]) (by simp [results, Try.results17, go_sem, e0, e1, e2]) rfl ⟨_, _, _, rfl, ?_, ?_⟩
        · exact OwnOps.nil _ _ _ _ (Nat.le_refl _)
        · exact ((((KR.out.bel.trans (HB6.out.mono KR.out.bel.size)).setCell (by show w.heap.size ≤ w.heap.size + 2; omega) _).setCell (by show w.heap.size ≤ w.heap.size + 2; omega) _).setCell (by show w.heap.size ≤ w.heap.size + 2; omega) _)
  · have HV : Hid (ValidFormulaIs sz rs fr va fs true) := Lib.hid (Tells.yes hf)
    clear hf
    by_cases hin : In14 free
    · have hA' : Tells true (In14 free) := Tells.yes hin
      have hfr1 : 1 ≤ free := hin.1
      have hfr4 : free ≤ 4 := hin.2
      by_cases hlen : (ps.length : Int) = fr
      · have hL' : Tells false (PlP ps free) := Tells.no (fun h => hno ⟨hin, hlen, h⟩)
        have hne : ((ps.length : Int) != fr) = false := by simp [hlen]
        clear hin hno hlen
        go_enter Try.func17, Try.ntmps17
        go_wp2_with fail
        refine (l03Ok _ _ _ rs _ _ _ _ fs true _ HTP.out HFP.out HV.out).mono ?_
        rintro e w1 ⟨rfl, hq1⟩
        have hb1 : Below _ _ w1 := hq1.bel
        have hsz1 : w.heap.size + 3 ≤ w1.heap.size := by have := hb1.size; simpa using this
        have K1 := Lib.hid (K0.out.below hb1)
        have HR1 := Lib.hid (HR0.out.below hb1)
        have HP1 := Lib.hid (HP0.out.below K1.out.bel)
        have cc0 := K1.out.c 0 rfl
        have cc1 := K1.out.c 1 rfl
        have d0 := HR1.out.c 0 rfl
        have d1 := HR1.out.c 1 rfl
        have d2 := HR1.out.c 2 rfl
        have f0 := HR1.out.free 0
        have f1 := HR1.out.free 1
        have f2 := HR1.out.free 2
        clear hb1 ck0 ck1 ck2 ck3 ck4 hq1
        go_wp2_with (first | (go_at_call 44; refine (l01Arity _ true _ hA').mono ?_; rintro e w2 ⟨rfl, rfl⟩) | (go_at_call 45; refine (l01Places _ ps _ false _ HP1.out hfr1 hfr4 hL').mono ?_; rintro e w2 ⟨rfl, rfl⟩))
        refine bodyPost_ret (v := .tuple #[.agg #[.int .i64 0, .int .i64 0, .slice none 0 0], .int .i64 2]) (by simp [results, Try.results17, go_sem, d0, d1, d2]) rfl ⟨_, _, _, rfl, ?_, ?_⟩
        · exact OwnOps.nil _ _ _ _ (Nat.le_refl _)
        · exact ((K1.out.bel.setCell (by show w.heap.size ≤ w.heap.size + 2; omega) _).setCell (by show w.heap.size ≤ w.heap.size + 2; omega) _).setCell (by show w.heap.size ≤ w.heap.size + 2; omega) _
      · have hne : ((ps.length : Int) != fr) = true := by simpa using hlen
        clear hin hno hlen
        go_enter Try.func17, Try.ntmps17
        go_wp2_with fail
        refine (l03Ok _ _ _ rs _ _ _ _ fs true _ HTP.out HFP.out HV.out).mono ?_
        rintro e w1 ⟨rfl, hq1⟩
        have hb1 : Below _ _ w1 := hq1.bel
        have hsz1 : w.heap.size + 3 ≤ w1.heap.size := by have := hb1.size; simpa using this
        have K1 := Lib.hid (K0.out.below hb1)
        have HR1 := Lib.hid (HR0.out.below hb1)
        have HP1 := Lib.hid (HP0.out.below K1.out.bel)
        have cc0 := K1.out.c 0 rfl
        have cc1 := K1.out.c 1 rfl
        have d0 := HR1.out.c 0 rfl
        have d1 := HR1.out.c 1 rfl
        have d2 := HR1.out.c 2 rfl
        have f0 := HR1.out.free 0
        have f1 := HR1.out.free 1
        have f2 := HR1.out.free 2
        clear hb1 ck0 ck1 ck2 ck3 ck4 hq1
        go_wp2_with ((go_at_call 44; refine (l01Arity _ true _ hA').mono ?_; rintro e w2 ⟨rfl, rfl⟩))
        refine bodyPost_ret (v := .tuple #[.agg #[.int .i64 0, .int .i64 0, .slice none 0 0], .int .i64 2]) (by simp [results, Try.results17, go_sem, d0, d1, d2]) rfl ⟨_, _, _, rfl, ?_, ?_⟩
        · exact OwnOps.nil _ _ _ _ (Nat.le_refl _)
        · exact ((K1.out.bel.setCell (by show w.heap.size ≤ w.heap.size + 2; omega) _).setCell (by show w.heap.size ≤ w.heap.size + 2; omega) _).setCell (by show w.heap.size ≤ w.heap.size + 2; omega) _
    · have hA' : Tells false (In14 free) := Tells.no hin
      clear hin hno
      go_enter Try.func17, Try.ntmps17
      go_wp2_with fail
      refine (l03Ok _ _ _ rs _ _ _ _ fs true _ HTP.out HFP.out HV.out).mono ?_
      rintro e w1 ⟨rfl, hq1⟩
      have hb1 : Below _ _ w1 := hq1.bel
      have hsz1 : w.heap.size + 3 ≤ w1.heap.size := by have := hb1.size; simpa using this
      have K1 := Lib.hid (K0.out.below hb1)
      have HR1 := Lib.hid (HR0.out.below hb1)
      have HP1 := Lib.hid (HP0.out.below K1.out.bel)
      have cc0 := K1.out.c 0 rfl
      have cc1 := K1.out.c 1 rfl
      have d0 := HR1.out.c 0 rfl
      have d1 := HR1.out.c 1 rfl
      have d2 := HR1.out.c 2 rfl
      have f0 := HR1.out.free 0
      have f1 := HR1.out.free 1
      have f2 := HR1.out.free 2
      clear hb1 ck0 ck1 ck2 ck3 ck4 hq1
      go_wp2_with ((go_at_call 44; refine (l01Arity _ false _ hA').mono ?_; rintro e w2 ⟨rfl, rfl⟩))
      refine bodyPost_ret (v := .tuple #[.agg #[.int .i64 0, .int .i64 0, .slice none 0 0], .int .i64 2]) (by simp [results, Try.results17, go_sem, d0, d1, d2]) rfl ⟨_, _, _, rfl, ?_, ?_⟩
      · exact OwnOps.nil _ _ _ _ (Nat.le_refl _)
      · exact ((K1.out.bel.setCell (by show w.heap.size ≤ w.heap.size + 2; omega) _).setCell (by show w.heap.size ≤ w.heap.size + 2; omega) _).setCell (by show w.heap.size ≤ w.heap.size + 2; omega) _
  · have HV : Hid (ValidFormulaIs sz rs fr va fs false) := Lib.hid (Tells.no hf)
    clear hf
    go_enter Try.func17, Try.ntmps17
    go_wp2_with fail
    refine (l03Ok _ _ _ rs _ _ _ _ fs false _ HTP.out HFP.out HV.out).mono ?_
    rintro e w1 ⟨rfl, hq1⟩
    have hb1 : Below _ _ w1 := hq1.bel
    have hsz1 : w.heap.size + 3 ≤ w1.heap.size := by have := hb1.size; simpa using this
    have K1 := Lib.hid (K0.out.below hb1)
    have HR1 := Lib.hid (HR0.out.below hb1)
    have HP1 := Lib.hid (HP0.out.below K1.out.bel)
    have cc0 := K1.out.c 0 rfl
    have cc1 := K1.out.c 1 rfl
    have d0 := HR1.out.c 0 rfl
    have d1 := HR1.out.c 1 rfl
    have d2 := HR1.out.c 2 rfl
    have f0 := HR1.out.free 0
    have f1 := HR1.out.free 1
    have f2 := HR1.out.free 2
    clear hb1 ck0 ck1 ck2 ck3 ck4 hq1
    go_wp2
    refine bodyPost_ret (v := .tuple #[.agg #[.int .i64 0, .int .i64 0, .slice none 0 0], .int .i64 1]) (by simp [results, Try.results17, go_sem, d0, d1, d2]) rfl ⟨_, _, _, rfl, ?_, ?_⟩
    · exact OwnOps.nil _ _ _ _ (Nat.le_refl _)
    · exact ((K1.out.bel.setCell (by show w.heap.size ≤ w.heap.size + 2; omega) _).setCell (by show w.heap.size ≤ w.heap.size + 2; omega) _).setCell (by show w.heap.size ≤ w.heap.size + 2; omega) _

theorem specPlaceFormula (sz : Int) (a1 : Option Addr) (n1 c1 : Nat) (rs : List (Int × List (List Int))) (fr va : Int) (a2 : Option Addr) (n2 c2 : Nat) (fs : List (Int × List Int)) (free : Int) (v : Value) (ps : List Int) (x y : Int) (zs : List (Int × List Int)) (cd : Int) (w : World)
    (h1 : RelsAt w (.slice a1 n1 c1) rs) (h2 : OpsAt w (.slice a2 n2 c2) fs) (h3 : RowAt w v ps) (hi : PlaceFormulaIs sz rs fr va fs free ps x y zs cd) :
    Calls Try.prog 17 #[.agg #[.int .i64 sz, .slice a1 n1 c1], .agg #[.int .i64 fr, .int .i64 va, .slice a2 n2 c2], .int .i64 free, v] w (MadeF w x y zs cd) := by
  have h := h3
  obtain ⟨a3, c3, rfl, _⟩ := h
  exact specPlaceFormula0 sz a1 n1 c1 rs fr va a2 n2 c2 fs free a3 _ c3 ps x y zs cd w h1 h2 h3 hi
theorem implPlaceFormula (sz : Int) (a1 : Option Addr) (n1 c1 : Nat) (rs : List (Int × List (List Int))) (fr va : Int) (a2 : Option Addr) (n2 c2 : Nat) (fs : List (Int × List Int)) (free : Int) (v : Value) (ps : List Int) (x y : Int) (zs : List (Int × List Int)) (cd : Int) (w : World)
    (h1 : RelsAt w (.slice a1 n1 c1) rs) (h2 : OpsAt w (.slice a2 n2 c2) fs) (h3 : RowAt w v ps) (hi : PlaceFormulaIs sz rs fr va fs free ps x y zs cd) :
    Calls Try.prog 19 #[.agg #[.int .i64 sz, .slice a1 n1 c1], .agg #[.int .i64 fr, .int .i64 va, .slice a2 n2 c2], .int .i64 free, v] w (MadeF w x y zs cd) := by
  have h := h3
  obtain ⟨a3, c3, rfl, _⟩ := h
  exact implPlaceFormula0 sz a1 n1 c1 rs fr va a2 n2 c2 fs free a3 _ c3 ps x y zs cd w h1 h2 h3 hi
theorem PlaceFormulaIs.exists (sz : Int) (rs : List (Int × List (List Int))) (fr va : Int) (fs : List (Int × List Int)) (free : Int) (ps : List Int) : ∃ x y zs cd, PlaceFormulaIs sz rs fr va fs free ps x y zs cd := by
  by_cases h : FormOk sz rs fr va fs
  · by_cases h2 : In14 free ∧ TupP free fr ps
    · by_cases h3 : free + (va - fr) ≤ 8
      · exact ⟨_, _, _, _, .inl ⟨h, h2.1, h2.2, h3, rfl, rfl, rfl, rfl⟩⟩
      · exact ⟨_, _, _, _, .inr (.inl ⟨h, h2.1, h2.2, by omega, rfl, rfl, rfl, rfl⟩)⟩
    · exact ⟨_, _, _, _, .inr (.inr (.inl ⟨h, h2, rfl, rfl, rfl, rfl⟩))⟩
  · exact ⟨_, _, _, _, .inr (.inr (.inr ⟨h, rfl, rfl, rfl, rfl⟩))⟩
theorem PlaceFormulaIs.small {sz : Int} {rs : List (Int × List (List Int))} {fr va : Int} {fs : List (Int × List Int)} {free : Int} {ps : List Int} {x y : Int} {zs : List (Int × List Int)} {cd : Int} (h : PlaceFormulaIs sz rs fr va fs free ps x y zs cd) : opsSize zs ≤ 1048576 := by
  rcases h with ⟨hf, -, -, -, -, -, rfl, -⟩ | ⟨-, -, -, -, -, -, rfl, -⟩ | ⟨-, -, -, -, rfl, -⟩ | ⟨-, -, -, rfl, -⟩
  · have hc := hf.2.1.2.2
    have h1 := partO_mul (movedL fs (sayL ps free.toNat (va - fr).toNat)) 4 fs.length fun k hk => by
      rw [rowO_movedL _ _ _ hk, mapped_len]
      have := (hf.text.2 k hk).2.1.2
      omega
    unfold opsSize
    rw [movedL_len]
    omega
  · simp [opsSize, partO]
  · simp [opsSize, partO]
  · simp [opsSize, partO]

end Go.Proofs.Ytnbgpeoceejolab
