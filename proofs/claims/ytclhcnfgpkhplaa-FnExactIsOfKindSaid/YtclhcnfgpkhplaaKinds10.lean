/-
  The kinds of operations, of the program: isIdempotent.
-/
import Derived.Test.YtclhcnfgpkhplaaKinds9
import Derived.Test.YtclhcnfgpkhplaaConstOp
namespace Go.Proofs.Ytclhcnfgpkhplaa
open Go.RowKit

theorem rowF_rep (x : Int) (r : Nat) : rowF (fun _ => x) r = List.replicate r x := by
  unfold rowF
  apply List.ext_getElem?
  intro i
  by_cases h : i < r <;> simp [h]

set_option linter.unusedSimpArgs false in
set_option maxHeartbeats 1000000 in
set_option maxRecDepth 100000 in
theorem isIdempotent (s r b q : Nat) (G : Nat → Int) (tab : List Int) (bb : Bool) (w : World) (hT : TabAt w b G) (ho : OpOk s r tab) (hq : tab.length = q) (hG : ∀ i, i < q → G i = intN tab i) (hb : Tells bb (IdemP s r tab)) :
    Calls Try.prog 128 #[.agg #[.int .i64 s, .int .i64 r, .slice (some ⟨b, 0, none⟩) q q]] w fun e w' => e = .returned (.bool bb) ∧ Below w.heap.size w w' := by
  have h1 : 1 ≤ s := by have := ho.1.1; omega
  have hs4 : s ≤ 4 := by have := ho.1.2; omega
  have hr1 : 1 ≤ r := by have := ho.2.1.1; omega
  have hr3 : r ≤ 3 := by have := ho.2.1.2; omega
  have hs14 : In14 (s : Int) := ho.1
  have hr14 : In14 (r : Int) := ho.2.1.in14
  have hlen : tab.length = s ^ r := by have := ho.2.2.1; simp only [Int.toNat_natCast] at this; omega
  have hq64 : q ≤ 64 := by rw [← hq, hlen]; exact (pow_le3 h1 hs4 hr3).1
  have HRM : Hid (r ∈ [1, 2, 3, 4, 8, 9, 16, 27, 64]) := Lib.hid (by have : r = 1 ∨ r = 2 ∨ r = 3 := by omega
                                                                     rcases this with rfl | rfl | rfl <;> simp)
  have HTB := Lib.hid hT
  have HO := Lib.hid ho
  have HGG := Lib.hid hG
  have HB := Lib.hid hb
  have HLQ := Lib.hid hq
  have HA : Hid (Below w.heap.size w (w.alloc (.cells #[.int .i64 s, .int .i64 r, .slice (some ⟨b, 0, none⟩) q q] 105))) := Lib.hid ((Below.refl _ _).alloc (Nat.le_refl _) _)
  have HBX := Lib.hid (Box.new 105 w #[.int .i64 s, .int .i64 r, .slice (some ⟨b, 0, none⟩) q q])
  clear hT ho hq hG hb hlen
  go_enter Try.func128, Try.ntmps128
  go_wp2
  go_loopw [6] (fun i wr => ∃ x : Nat, x ≤ s ∧ i = .int .i64 x ∧ (∀ z : Nat, z < x → intN tab (codeN s (List.replicate r (z : Int))) = z) ∧ wr.cell? ⟨w.heap.size, 0, none⟩ = some (.int .i64 s) ∧ wr.cell? ⟨w.heap.size, 1, none⟩ = some (.int .i64 r) ∧ wr.cell? ⟨w.heap.size, 2, none⟩ = some (.slice (some ⟨b, 0, none⟩) q q) ∧ Below w.heap.size w wr) (fun i _ => s - (intOf i).toNat)
  case atStart => exact ⟨0, Nat.zero_le _, rfl, fun j hj => absurd hj (Nat.not_lt_zero _), HBX.out.c 0 rfl, HBX.out.c 1 rfl, HBX.out.c 2 rfl, HA.out⟩
  case round =>
    obtain ⟨x, hxs, rfl, hall, cb0, cb1, cb2, hbel⟩ := hrel
    have HX := Lib.hid hall
    have HW := Lib.hid hbel
    clear hall hbel
    by_cases hx : x < s
    · have hx' : (x : Int) < (s : Int) := by omega
      obtain ⟨v1, hv1⟩ : ∃ v, intN tab (codeN s (List.replicate r (x : Int))) = v := ⟨_, rfl⟩
      obtain ⟨m, hm⟩ : ∃ m, codeN s (List.replicate r (x : Int)) = m := ⟨_, rfl⟩
      have HTU : Hid (TupP s r (rowF (fun _ => (x : Int)) r)) := Lib.hid (by rw [rowF_rep]; exact rep_tup s r x hx)
      have HCM : Hid (codeN s (rowF (fun _ => (x : Int)) r) = m) := Lib.hid (by rw [rowF_rep]; exact hm)
      have hmq : m < q := by rw [← HLQ.out, ← hm]; exact HO.out.lt (rep_tup s r x hx)
      have HG1 : Hid (G m = v1) := Lib.hid (by rw [HGG.out m hmq, ← hm]; exact hv1)
      have hv1b : 0 ≤ v1 ∧ v1 < 256 := by
        have := HO.out.2.2.2 m (by rw [HLQ.out]; exact hmq)
        rw [← hm, hv1] at this
        omega
      have HV1 := Lib.hid hv1
      clear hv1 hm
      by_cases e1 : v1 = (x : Int)
      · have n1 : (v1 != (x : Int)) = false := by simp [e1]
        have HTH : Hid (intN tab (codeN s (List.replicate r (x : Int))) = x) := Lib.hid (HV1.out.trans e1)
        clear e1
        go_wp2
        refine wp_region_noPanic ?_
        refine wp_region_late (S := (fun w' => w'.cell? ⟨w.heap.size, 0, none⟩ = some (.int .i64 s) ∧ w'.cell? ⟨w.heap.size, 1, none⟩ = some (.int .i64 r) ∧ w'.cell? ⟨w.heap.size, 2, none⟩ = some (.slice (some ⟨b, 0, none⟩) q q) ∧ Below w.heap.size w w')) [] (by kernel_rfl) ?_ (fun hHeld => ?_)
        · exact ⟨cb0, cb1, cb2, HW.out.trans (((QW.refl wr).drew.below _).mono HW.out.size)⟩
        refine wpAnyL_take (i := 0) (v := ?_) (some 9) rfl rfl (by kernel_rfl) (by kernel_rfl) (by kernel_rfl) (by kernel_rfl) (by kernel_rfl) (fun _ _ _ h => h) (Or.inl ⟨by rfl, ?_⟩) (by assumption) ?_
        rotate_left
        · intro wS hSw
          try dsimp only at hSw
          go_simp
          try with_reducible rfl
        try simp only [Act.put, List.setIfInBounds_toArray, List.set_cons_zero, List.set_cons_succ]
        refine wpAnyL_free (i := 1) (v := ?_) (some 10) rfl rfl (by kernel_rfl) (by kernel_rfl) (by kernel_rfl) (by decide) (fun _ _ _ h => h) (Or.inl ⟨by rfl, ?_⟩) (fun h0 => by assumption) ?_
        rotate_left
        · intro wS
          go_simp
          try with_reducible rfl
        try simp only [Act.put, List.setIfInBounds_toArray, List.set_cons_zero, List.set_cons_succ]
        refine wpAnyL_free (i := 3) (v := ?_) (some 12) rfl rfl (by kernel_rfl) (by kernel_rfl) (by kernel_rfl) (by decide) (fun _ _ _ h => h) (Or.inl ⟨by rfl, ?_⟩) (fun h0 => by assumption) ?_
        rotate_left
        · intro wS
          go_simp
          try with_reducible rfl
        try simp only [Act.put, List.setIfInBounds_toArray, List.set_cons_zero, List.set_cons_succ]
        refine wpAnyL_take (i := 4) (v := ?_) (some 13) rfl rfl (by kernel_rfl) (by kernel_rfl) (by kernel_rfl) (by kernel_rfl) (by kernel_rfl) (fun _ _ _ h => h) (Or.inl ⟨by rfl, ?_⟩) (by assumption) ?_
        rotate_left
        · intro wS hSw
          try dsimp only at hSw
          go_simp
          try with_reducible rfl
        try simp only [Act.put, List.setIfInBounds_toArray, List.set_cons_zero, List.set_cons_succ]
        refine wpAnyL_free (i := 7) (v := ?_) (some 16) rfl rfl (by kernel_rfl) (by kernel_rfl) (by kernel_rfl) (by decide) (fun _ _ _ h => h) (Or.inl ⟨by rfl, ?_⟩) (fun h0 => by assumption) ?_
        rotate_left
        · intro wS
          go_simp
          try with_reducible rfl
        try simp only [Act.put, List.setIfInBounds_toArray, List.set_cons_zero, List.set_cons_succ]
        refine wpAnyL_ready (rs := [2]) (by kernel_rfl) (by simp) ?_
        refine AllReadyL.cons rfl (fun K hK => ?_) AllReadyL.nil
        go_simp
        refine hK.out _ _ ?_ (fun hHeld => ?_)
        · exact ⟨below_cell ((Below.refl _ _).alloc (Nat.le_refl _) _) hHeld.1, below_cell ((Below.refl _ _).alloc (Nat.le_refl _) _) hHeld.2.1, below_cell ((Below.refl _ _).alloc (Nat.le_refl _) _) hHeld.2.2.1, hHeld.2.2.2.trans (((Below.refl _ _).alloc (Nat.le_refl _) _).mono hHeld.2.2.2.size)⟩
        clear hK K
        try simp only [Act.put, List.setIfInBounds_toArray, List.set_cons_zero, List.set_cons_succ]
        refine wpAnyL_ready (rs := [5]) (by kernel_rfl) (by simp) ?_
        refine AllReadyL.cons rfl (fun K hK => ?_) AllReadyL.nil
        go_simp; go_at_call 170; refine (repeatOne (x : Int) _ _ _ r HRM.out _ (below_cell ((QW.refl _).drew.below _) ((Box.new 2 wr #[.int .i64 (x : Int)]).c 0 rfl))).mono ?_; rintro e w4 ⟨a4, n4, c4, rfl, ho4, hb4⟩
        have HR4 := Lib.hid ho4.rowAt
        refine hK.out _ _ ?_ (fun hHeld => ?_)
        · exact ⟨below_cell hb4 hHeld.1, below_cell hb4 hHeld.2.1, below_cell hb4 hHeld.2.2.1, hHeld.2.2.2.trans (hb4.mono hHeld.2.2.2.size)⟩
        clear hK K
        try simp only [Act.put, List.setIfInBounds_toArray, List.set_cons_zero, List.set_cons_succ]
        refine wpAnyL_ready (rs := [6]) (by kernel_rfl) (by simp) ?_
        refine AllReadyL.cons rfl (fun K hK => ?_) AllReadyL.nil
        go_simp; go_at_call 146; refine (opAt s r b q m G r _ (rowF (fun _ => (x : Int)) r) v1 _ (HTB.out.below hHeld.2.2.2) HR4.out hs14 hr14 HTU.out HCM.out hmq hq64 HG1.out hv1b).mono ?_; rintro e w5 ⟨rfl, hb5⟩
        refine hK.out _ _ ?_ (fun hHeld => ?_)
        · exact ⟨below_cell hb5 hHeld.1, below_cell hb5 hHeld.2.1, below_cell hb5 hHeld.2.2.1, hHeld.2.2.2.trans (hb5.mono hHeld.2.2.2.size)⟩
        clear hK K
        try simp only [Act.put, List.setIfInBounds_toArray, List.set_cons_zero, List.set_cons_succ]
        refine wpAnyL_free (i := 8) (v := ?_) (some 17) rfl rfl (by kernel_rfl) (by kernel_rfl) (by kernel_rfl) (by decide) (fun _ _ _ h => h) (Or.inl ⟨by rfl, ?_⟩) (fun h0 => by assumption) ?_
        rotate_left
        · intro wS
          go_simp
          try with_reducible rfl
        try simp only [Act.put, List.setIfInBounds_toArray, List.set_cons_zero, List.set_cons_succ]
        refine wpAnyL_done (by kernel_rfl) ?_ _
        refine NoPanic.normal ?_
        have HW5 := Lib.hid hHeld
        clear hHeld
        go_wp2
        go_roundw
        case rel =>
          refine ⟨x + 1, by omega, by go_num, fun z hz => ?_, HW5.out.1, HW5.out.2.1, HW5.out.2.2.1, HW5.out.2.2.2⟩
          by_cases hzx : z = x
          · subst hzx; exact HTH.out
          · exact HX.out z (by omega)
        case measure => simp [intOf]; omega

      · have n1 : (v1 != (x : Int)) = true := by simp [e1]
        have HF := Lib.hid (HB.out.is_false fun h => e1 (HV1.out.symm.trans (h x hx)))
        clear e1
        go_wp2
        refine wp_region_noPanic ?_
        refine wp_region_late (S := (fun w' => w'.cell? ⟨w.heap.size, 0, none⟩ = some (.int .i64 s) ∧ w'.cell? ⟨w.heap.size, 1, none⟩ = some (.int .i64 r) ∧ w'.cell? ⟨w.heap.size, 2, none⟩ = some (.slice (some ⟨b, 0, none⟩) q q) ∧ Below w.heap.size w w')) [] (by kernel_rfl) ?_ (fun hHeld => ?_)
        · exact ⟨cb0, cb1, cb2, HW.out.trans (((QW.refl wr).drew.below _).mono HW.out.size)⟩
        refine wpAnyL_take (i := 0) (v := ?_) (some 9) rfl rfl (by kernel_rfl) (by kernel_rfl) (by kernel_rfl) (by kernel_rfl) (by kernel_rfl) (fun _ _ _ h => h) (Or.inl ⟨by rfl, ?_⟩) (by assumption) ?_
        rotate_left
        · intro wS hSw
          try dsimp only at hSw
          go_simp
          try with_reducible rfl
        try simp only [Act.put, List.setIfInBounds_toArray, List.set_cons_zero, List.set_cons_succ]
        refine wpAnyL_free (i := 1) (v := ?_) (some 10) rfl rfl (by kernel_rfl) (by kernel_rfl) (by kernel_rfl) (by decide) (fun _ _ _ h => h) (Or.inl ⟨by rfl, ?_⟩) (fun h0 => by assumption) ?_
        rotate_left
        · intro wS
          go_simp
          try with_reducible rfl
        try simp only [Act.put, List.setIfInBounds_toArray, List.set_cons_zero, List.set_cons_succ]
        refine wpAnyL_free (i := 3) (v := ?_) (some 12) rfl rfl (by kernel_rfl) (by kernel_rfl) (by kernel_rfl) (by decide) (fun _ _ _ h => h) (Or.inl ⟨by rfl, ?_⟩) (fun h0 => by assumption) ?_
        rotate_left
        · intro wS
          go_simp
          try with_reducible rfl
        try simp only [Act.put, List.setIfInBounds_toArray, List.set_cons_zero, List.set_cons_succ]
        refine wpAnyL_take (i := 4) (v := ?_) (some 13) rfl rfl (by kernel_rfl) (by kernel_rfl) (by kernel_rfl) (by kernel_rfl) (by kernel_rfl) (fun _ _ _ h => h) (Or.inl ⟨by rfl, ?_⟩) (by assumption) ?_
        rotate_left
        · intro wS hSw
          try dsimp only at hSw
          go_simp
          try with_reducible rfl
        try simp only [Act.put, List.setIfInBounds_toArray, List.set_cons_zero, List.set_cons_succ]
        refine wpAnyL_free (i := 7) (v := ?_) (some 16) rfl rfl (by kernel_rfl) (by kernel_rfl) (by kernel_rfl) (by decide) (fun _ _ _ h => h) (Or.inl ⟨by rfl, ?_⟩) (fun h0 => by assumption) ?_
        rotate_left
        · intro wS
          go_simp
          try with_reducible rfl
        try simp only [Act.put, List.setIfInBounds_toArray, List.set_cons_zero, List.set_cons_succ]
        refine wpAnyL_ready (rs := [2]) (by kernel_rfl) (by simp) ?_
        refine AllReadyL.cons rfl (fun K hK => ?_) AllReadyL.nil
        go_simp
        refine hK.out _ _ ?_ (fun hHeld => ?_)
        · exact ⟨below_cell ((Below.refl _ _).alloc (Nat.le_refl _) _) hHeld.1, below_cell ((Below.refl _ _).alloc (Nat.le_refl _) _) hHeld.2.1, below_cell ((Below.refl _ _).alloc (Nat.le_refl _) _) hHeld.2.2.1, hHeld.2.2.2.trans (((Below.refl _ _).alloc (Nat.le_refl _) _).mono hHeld.2.2.2.size)⟩
        clear hK K
        try simp only [Act.put, List.setIfInBounds_toArray, List.set_cons_zero, List.set_cons_succ]
        refine wpAnyL_ready (rs := [5]) (by kernel_rfl) (by simp) ?_
        refine AllReadyL.cons rfl (fun K hK => ?_) AllReadyL.nil
        go_simp; go_at_call 170; refine (repeatOne (x : Int) _ _ _ r HRM.out _ (below_cell ((QW.refl _).drew.below _) ((Box.new 2 wr #[.int .i64 (x : Int)]).c 0 rfl))).mono ?_; rintro e w4 ⟨a4, n4, c4, rfl, ho4, hb4⟩
        have HR4 := Lib.hid ho4.rowAt
        refine hK.out _ _ ?_ (fun hHeld => ?_)
        · exact ⟨below_cell hb4 hHeld.1, below_cell hb4 hHeld.2.1, below_cell hb4 hHeld.2.2.1, hHeld.2.2.2.trans (hb4.mono hHeld.2.2.2.size)⟩
        clear hK K
        try simp only [Act.put, List.setIfInBounds_toArray, List.set_cons_zero, List.set_cons_succ]
        refine wpAnyL_ready (rs := [6]) (by kernel_rfl) (by simp) ?_
        refine AllReadyL.cons rfl (fun K hK => ?_) AllReadyL.nil
        go_simp; go_at_call 146; refine (opAt s r b q m G r _ (rowF (fun _ => (x : Int)) r) v1 _ (HTB.out.below hHeld.2.2.2) HR4.out hs14 hr14 HTU.out HCM.out hmq hq64 HG1.out hv1b).mono ?_; rintro e w5 ⟨rfl, hb5⟩
        refine hK.out _ _ ?_ (fun hHeld => ?_)
        · exact ⟨below_cell hb5 hHeld.1, below_cell hb5 hHeld.2.1, below_cell hb5 hHeld.2.2.1, hHeld.2.2.2.trans (hb5.mono hHeld.2.2.2.size)⟩
        clear hK K
        try simp only [Act.put, List.setIfInBounds_toArray, List.set_cons_zero, List.set_cons_succ]
        refine wpAnyL_free (i := 8) (v := ?_) (some 17) rfl rfl (by kernel_rfl) (by kernel_rfl) (by kernel_rfl) (by decide) (fun _ _ _ h => h) (Or.inl ⟨by rfl, ?_⟩) (fun h0 => by assumption) ?_
        rotate_left
        · intro wS
          go_simp
          try with_reducible rfl
        try simp only [Act.put, List.setIfInBounds_toArray, List.set_cons_zero, List.set_cons_succ]
        refine wpAnyL_done (by kernel_rfl) ?_ _
        refine NoPanic.normal ?_
        have HW5 := Lib.hid hHeld
        clear hHeld
        go_wp2
        go_ret
        exact ⟨ret_bool HF.out.symm, HW5.out.2.2.2⟩

    · obtain rfl : x = s := by omega
      have HF := Lib.hid (HB.out.is_true HX.out)
      go_wp2
      go_ret
      exact ⟨ret_bool HF.out.symm, HW.out⟩
end Go.Proofs.Ytclhcnfgpkhplaa
