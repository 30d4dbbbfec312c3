/-
  ValidFormula of the program.
-/
import Derived.Test.YtnbgpeoceejolabFormOk2
import Derived.Test.YtnbgpeoceejolabReg
import Derived.Deep.RegionHeld3
namespace Go.Proofs.Ytnbgpeoceejolab
open Go.RowKit

set_option maxHeartbeats 2000000 in
theorem isAtomOf (sz : Int) (a1 : Option Addr) (n1 c1 : Nat) (rs : List (Int × List (List Int))) (rel : Int) (a2 : Option Addr) (n2 c2 : Nat) (args : List Int) (b : Bool) (w : World) (h1 : RelsAt w (.slice a1 n1 c1) rs) (h2 : RowAt w (.slice a2 n2 c2) args) (ht : TplOk sz rs) (hb : Tells b (arityOf rs rel ≠ 0 ∧ (args.length : Int) = arityOf rs rel)) :
    Calls Try.prog 75 #[.agg #[.int .i64 sz, .slice a1 n1 c1], .agg #[.int .i64 rel, .slice a2 n2 c2]] w fun e w' => e = .returned (.bool b) ∧ Below w.heap.size w w' := by
  have hnl : n2 = args.length := by obtain ⟨_, _, hv, _⟩ := h2; simp only [Value.slice.injEq] at hv; exact hv.2.1
  have hal : args.length ≤ 9223372036854775807 := by obtain ⟨_, _, _, hn, _⟩ := h2; exact hn
  subst hnl
  have HBW := Lib.hid (((Below.refl w.heap.size w).alloc (Nat.le_refl _) (.cells #[.int .i64 sz, .slice a1 n1 c1] 37)).alloc (by simp) (.cells #[.int .i64 rel, .slice a2 args.length c2] 83))
  have K0 := Lib.hid (((Kept.start w).read (lives_rels _ _) h1).below HBW.out)
  have HT := Lib.hid ht
  have HB := Lib.hid hb
  obtain ⟨a1', c1', hv, hn, hc⟩ := h1
  simp only [Value.slice.injEq] at hv
  obtain ⟨rfl, rfl, rfl⟩ := hv
  have HC := Lib.hid hc
  clear h2 ht hb hc
  by_cases g1 : rel = -1
  · subst g1
    by_cases g2 : args.length = 2
    · have HF := Lib.hid (HB.out.is_true (by rw [arityOf_eq]; exact ⟨by omega, by omega⟩))
      have g2' : ((args.length : Int) == 2) = true := by simp [g2]
      clear g2
      go_enter Try.func75, Try.ntmps75
      go_wp2
      go_ret
      exact ⟨ret_bool (by first | exact HF.out.symm | simp [HF.out, g2']), HBW.out⟩
    · have HF := Lib.hid (HB.out.is_false (by rw [arityOf_eq]; exact fun h => g2 (by have := h.2; omega)))
      have g2' : ((args.length : Int) == 2) = false := beq_eq_false_iff_ne.2 (by omega)
      clear g2
      go_enter Try.func75, Try.ntmps75
      go_wp2
      go_ret
      exact ⟨ret_bool (by first | exact HF.out.symm | simp [HF.out, g2']), HBW.out⟩
  · have g1' : (rel == -1) = false := beq_eq_false_iff_ne.2 g1
    by_cases g3 : 0 ≤ rel ∧ rel < rs.length
    · have G3 := Lib.hid (Tells.yes g3)
      obtain ⟨k, rfl⟩ : ∃ k : Nat, rel = k := ⟨rel.toNat, by omega⟩
      have hk : k < rs.length := by omega
      obtain ⟨b1, off1, ha1, hcell1⟩ := HC.out (by omega)
      subst ha1
      obtain ⟨y0, -⟩ := (hcell1 k hk).below HBW.out
      have Y0 := Lib.hid y0
      have hlt' : (k : Int) < (rs.length : Int) := by omega
      have HA : Hid (arityOf rs (k : Int) = arN rs k) := Lib.hid (arityOf_in hk)
      have HR : Hid (In14 (arN rs k)) := Lib.hid (HT.out.2.2 k hk).2.1
      clear hcell1 g3 g1 y0
      by_cases g2 : (args.length : Int) = arN rs k
      · have HF := Lib.hid (HB.out.is_true (by rw [HA.out]; exact ⟨by have := HR.out; unfold In14 at this; omega, g2⟩))
        have g2' : ((args.length : Int) == arN rs k) = true := by simp [g2]
        clear g2
        go_enter Try.func75, Try.ntmps75
        go_wp2
        go_region_held3 (fun w' => w'.cell? ⟨w.heap.size + 1, 0, none⟩ = some (.int .i64 (k : Int)) ∧ w'.cell? ⟨w.heap.size + 1, 1, none⟩ = some (.slice a2 args.length c2) ∧ w'.cell? ⟨w.heap.size, 0, none⟩ = some (.int .i64 sz) ∧ w'.cell? ⟨w.heap.size, 1, none⟩ = some (.slice (some ⟨b1, off1, none⟩) rs.length c1) ∧ w'.cell? ⟨b1, off1 + k * 2, none⟩ = some (.int .i64 (arN rs k)) ∧ Kept w [] [fun w => RelsAt w (.slice (some ⟨b1, off1, none⟩) rs.length c1) rs] w')
          (first | exact five_below (by assumption) hb5 | exact ⟨by simp, by simp, by simp, by simp, Y0.out, K0.out.drew⟩)
          (first | (go_at_call 52; refine (isRelOf _ _ _ _ rs _ true _ ((by assumption : _ ∧ _ ∧ _ ∧ _ ∧ _ ∧ Kept w _ _ _).2.2.2.2.2.r 0 rfl :) G3.out).mono ?_; rintro e w5 ⟨rfl, hb5⟩))
        have HE := Lib.hid (K0.out.drew.below hb5).bel
        clear hb5
        go_wp2
        go_ret
        exact ⟨ret_bool (by first | exact HF.out.symm | simp [HF.out, g2']), HE.out⟩
      · have HF := Lib.hid (HB.out.is_false (by rw [HA.out]; exact fun h => g2 h.2))
        have g2' : ((args.length : Int) == arN rs k) = false := beq_eq_false_iff_ne.2 g2
        clear g2
        go_enter Try.func75, Try.ntmps75
        go_wp2
        go_region_held3 (fun w' => w'.cell? ⟨w.heap.size + 1, 0, none⟩ = some (.int .i64 (k : Int)) ∧ w'.cell? ⟨w.heap.size + 1, 1, none⟩ = some (.slice a2 args.length c2) ∧ w'.cell? ⟨w.heap.size, 0, none⟩ = some (.int .i64 sz) ∧ w'.cell? ⟨w.heap.size, 1, none⟩ = some (.slice (some ⟨b1, off1, none⟩) rs.length c1) ∧ w'.cell? ⟨b1, off1 + k * 2, none⟩ = some (.int .i64 (arN rs k)) ∧ Kept w [] [fun w => RelsAt w (.slice (some ⟨b1, off1, none⟩) rs.length c1) rs] w')
          (first | exact five_below (by assumption) hb5 | exact ⟨by simp, by simp, by simp, by simp, Y0.out, K0.out.drew⟩)
          (first | (go_at_call 52; refine (isRelOf _ _ _ _ rs _ true _ ((by assumption : _ ∧ _ ∧ _ ∧ _ ∧ _ ∧ Kept w _ _ _).2.2.2.2.2.r 0 rfl :) G3.out).mono ?_; rintro e w5 ⟨rfl, hb5⟩))
        have HE := Lib.hid (K0.out.drew.below hb5).bel
        clear hb5
        go_wp2
        go_ret
        exact ⟨ret_bool (by first | exact HF.out.symm | simp [HF.out, g2']), HE.out⟩
    · have G3 := Lib.hid (Tells.no g3)
      have HF := Lib.hid (HB.out.is_false fun h => h.1 (arityOf_out g1 g3))
      clear g3 g1
      go_enter Try.func75, Try.ntmps75
      go_wp2
      refine wp_region_noPanic ?_
      refine wp_region_late (S := (fun w' => w'.cell? ⟨w.heap.size + 1, 0, none⟩ = some (.int .i64 rel) ∧ w'.cell? ⟨w.heap.size, 0, none⟩ = some (.int .i64 sz) ∧ w'.cell? ⟨w.heap.size, 1, none⟩ = some (.slice a1 rs.length c1) ∧ Kept w [] [fun w => RelsAt w (.slice a1 rs.length c1) rs] w')) [] (by kernel_rfl) ?_ (fun hHeld => ?_)
      · exact ⟨by simp, by simp, by simp, K0.out.drew⟩
      refine wpAnyL_take (i := 0) (v := ?_) (some 12) rfl rfl (by kernel_rfl) (by kernel_rfl) (by kernel_rfl) (by kernel_rfl) (by kernel_rfl) (fun _ _ _ h => h) (Or.inl ⟨by rfl, ?_⟩) (by assumption) ?_
      rotate_left
      · intro wS hSw
        try dsimp only at hSw
        go_simp
        try with_reducible rfl
      try simp only [Act.put, List.setIfInBounds_toArray, List.set_cons_zero, List.set_cons_succ]
      refine wpAnyL_free (i := 1) (v := ?_) (some 13) rfl rfl (by kernel_rfl) (by kernel_rfl) (by kernel_rfl) (by decide) (fun _ _ _ h => h) (Or.inl ⟨by rfl, ?_⟩) (fun h0 => by assumption) ?_
      rotate_left
      · intro wS
        go_simp
        try with_reducible rfl
      try simp only [Act.put, List.setIfInBounds_toArray, List.set_cons_zero, List.set_cons_succ]
      refine wpAnyL_take (i := 2) (v := ?_) (some 14) rfl rfl (by kernel_rfl) (by kernel_rfl) (by kernel_rfl) (by kernel_rfl) (by kernel_rfl) (fun _ _ _ h => h) (Or.inl ⟨by rfl, ?_⟩) (by assumption) ?_
      rotate_left
      · intro wS hSw
        try dsimp only at hSw
        go_simp
        try with_reducible rfl
      try simp only [Act.put, List.setIfInBounds_toArray, List.set_cons_zero, List.set_cons_succ]
      refine wpAnyL_ready (rs := [3]) (by kernel_rfl) (by simp) ?_
      refine AllReadyL.cons rfl (fun K hK => ?_) AllReadyL.nil
      go_simp; go_at_call 52; refine (isRelOf _ _ _ _ rs _ false _ (hHeld.2.2.2.r 0 rfl :) G3.out).mono ?_; rintro e w5 ⟨rfl, hb5⟩
      refine hK.out _ _ ?_ (fun hHeld => ?_)
      · exact ⟨below_cell hb5 hHeld.1, below_cell hb5 hHeld.2.1, below_cell hb5 hHeld.2.2.1, hHeld.2.2.2.below hb5⟩
      clear hK K
      try simp only [Act.put, List.setIfInBounds_toArray, List.set_cons_zero, List.set_cons_succ]
      refine wpAnyL_free (i := 4) (v := ?_) (some 16) rfl rfl (by kernel_rfl) (by kernel_rfl) (by kernel_rfl) (by decide) (fun _ _ _ h => h) (Or.inl ⟨by rfl, ?_⟩) (fun h0 => by assumption) ?_
      rotate_left
      · intro wS
        go_simp
        try with_reducible rfl
      try simp only [Act.put, List.setIfInBounds_toArray, List.set_cons_zero, List.set_cons_succ]
      refine wpAnyL_free (i := 5) (v := undef) (some 17) rfl rfl (by kernel_rfl) (by kernel_rfl) (by kernel_rfl) (by decide) (fun _ _ _ h => h) (Or.inr ⟨by rfl, rfl⟩) (fun h0 => by assumption) ?_
      try simp only [Act.put, List.setIfInBounds_toArray, List.set_cons_zero, List.set_cons_succ]
      refine wpAnyL_free (i := 6) (v := undef) (some 18) rfl rfl (by kernel_rfl) (by kernel_rfl) (by kernel_rfl) (by decide) (fun _ _ _ h => h) (Or.inr ⟨by rfl, rfl⟩) (fun h0 => by assumption) ?_
      try simp only [Act.put, List.setIfInBounds_toArray, List.set_cons_zero, List.set_cons_succ]
      refine wpAnyL_free (i := 7) (v := undef) (some 19) rfl rfl (by kernel_rfl) (by kernel_rfl) (by kernel_rfl) (by decide) (fun _ _ _ h => h) (Or.inr ⟨by rfl, rfl⟩) (fun h0 => by assumption) ?_
      try simp only [Act.put, List.setIfInBounds_toArray, List.set_cons_zero, List.set_cons_succ]
      refine wpAnyL_free (i := 8) (v := undef) (some 20) rfl rfl (by kernel_rfl) (by kernel_rfl) (by kernel_rfl) (by decide) (fun _ _ _ h => h) (Or.inr ⟨by rfl, rfl⟩) (fun h0 => by assumption) ?_
      try simp only [Act.put, List.setIfInBounds_toArray, List.set_cons_zero, List.set_cons_succ]
      refine wpAnyL_free (i := 9) (v := undef) (some 21) rfl rfl (by kernel_rfl) (by kernel_rfl) (by kernel_rfl) (by decide) (fun _ _ _ h => h) (Or.inr ⟨by rfl, rfl⟩) (fun h0 => by assumption) ?_
      try simp only [Act.put, List.setIfInBounds_toArray, List.set_cons_zero, List.set_cons_succ]
      refine wpAnyL_free (i := 10) (v := undef) (some 22) rfl rfl (by kernel_rfl) (by kernel_rfl) (by kernel_rfl) (by decide) (fun _ _ _ h => h) (Or.inr ⟨by rfl, rfl⟩) (fun h0 => by assumption) ?_
      try simp only [Act.put, List.setIfInBounds_toArray, List.set_cons_zero, List.set_cons_succ]
      refine wpAnyL_free (i := 11) (v := undef) (some 23) rfl rfl (by kernel_rfl) (by kernel_rfl) (by kernel_rfl) (by decide) (fun _ _ _ h => h) (Or.inr ⟨by rfl, rfl⟩) (fun h0 => by assumption) ?_
      try simp only [Act.put, List.setIfInBounds_toArray, List.set_cons_zero, List.set_cons_succ]
      refine wpAnyL_free (i := 12) (v := undef) (some 24) rfl rfl (by kernel_rfl) (by kernel_rfl) (by kernel_rfl) (by decide) (fun _ _ _ h => h) (Or.inr ⟨by rfl, rfl⟩) (fun h0 => by assumption) ?_
      try simp only [Act.put, List.setIfInBounds_toArray, List.set_cons_zero, List.set_cons_succ]
      refine wpAnyL_free (i := 13) (v := undef) (some 25) rfl rfl (by kernel_rfl) (by kernel_rfl) (by kernel_rfl) (by decide) (fun _ _ _ h => h) (Or.inr ⟨by rfl, rfl⟩) (fun h0 => by assumption) ?_
      try simp only [Act.put, List.setIfInBounds_toArray, List.set_cons_zero, List.set_cons_succ]
      refine wpAnyL_free (i := 14) (v := undef) (some 26) rfl rfl (by kernel_rfl) (by kernel_rfl) (by kernel_rfl) (by decide) (fun _ _ _ h => h) (Or.inr ⟨by rfl, rfl⟩) (fun h0 => by assumption) ?_
      try simp only [Act.put, List.setIfInBounds_toArray, List.set_cons_zero, List.set_cons_succ]
      refine wpAnyL_free (i := 15) (v := undef) (some 27) rfl rfl (by kernel_rfl) (by kernel_rfl) (by kernel_rfl) (by decide) (fun _ _ _ h => h) (Or.inr ⟨by rfl, rfl⟩) (fun h0 => by assumption) ?_
      try simp only [Act.put, List.setIfInBounds_toArray, List.set_cons_zero, List.set_cons_succ]
      refine wpAnyL_free (i := 16) (v := ?_) (some 28) rfl rfl (by kernel_rfl) (by kernel_rfl) (by kernel_rfl) (by decide) (fun _ _ _ h => h) (Or.inl ⟨by rfl, ?_⟩) (fun h0 => by assumption) ?_
      rotate_left
      · intro wS
        go_simp
        try with_reducible rfl
      try simp only [Act.put, List.setIfInBounds_toArray, List.set_cons_zero, List.set_cons_succ]
      refine wpAnyL_free (i := 17) (v := ?_) (some 4) rfl rfl (by kernel_rfl) (by kernel_rfl) (by kernel_rfl) (by decide) (fun _ _ _ h => h) (Or.inl ⟨by rfl, ?_⟩) (fun h0 => by assumption) ?_
      rotate_left
      · intro wS
        go_simp
        try with_reducible rfl
      try simp only [Act.put, List.setIfInBounds_toArray, List.set_cons_zero, List.set_cons_succ]
      refine wpAnyL_done (by kernel_rfl) ?_ _
      refine NoPanic.normal ?_
      
      have HE := Lib.hid (K0.out.drew.below hb5).bel
      clear hb5
      go_wp2
      go_ret
      exact ⟨ret_bool HF.out.symm, HE.out⟩

set_option maxHeartbeats 2000000 in
set_option maxRecDepth 100000 in
theorem implValidFormula (sz : Int) (a1 : Option Addr) (n1 c1 : Nat) (rs : List (Int × List (List Int))) (fr va : Int) (a2 : Option Addr) (n2 c2 : Nat) (fs : List (Int × List Int)) (b : Bool) (w : World) (h1 : RelsAt w (.slice a1 n1 c1) rs) (h2 : OpsAt w (.slice a2 n2 c2) fs) (hb : ValidFormulaIs sz rs fr va fs b) :
    Calls Try.prog 47 #[.agg #[.int .i64 sz, .slice a1 n1 c1], .agg #[.int .i64 fr, .int .i64 va, .slice a2 n2 c2]] w fun e w' => e = .returned (.bool b) ∧ Below w.heap.size w w' := by
  have HB := Lib.hid hb
  have H2 := Lib.hid h2
  obtain ⟨a2', c2', hv, hn, -⟩ := h2
  simp only [Value.slice.injEq] at hv
  obtain ⟨rfl, rfl, rfl⟩ := hv
  have K0 := Lib.hid (((((Kept.start w).read (lives_rels _ _) h1).read (lives_ops _ _) H2.out).box w.heap.size rfl (.int .i64 sz) (.slice a1 n1 c1) 37).box3 (w.heap.size + 1) (by simp) (.int .i64 fr) (.int .i64 va) (.slice a2 fs.length c2) 32)
  clear h1 hb H2
  by_cases g1 : TplOk sz rs
  · have G1 := Lib.hid (Tells.yes g1)
    have GP1 := Lib.hid g1
    clear g1
    by_cases g2 : TextOk fr va fs
    · have G2 := Lib.hid (Tells.yes g2)
      have GP2 := Lib.hid g2
      clear g2
      go_enter Try.func47, Try.ntmps47
      go_wp2_with fail
      refine (implValidTemplate _ _ _ _ _ true _ (K0.out.r 1 rfl :) G1.out).mono ?_
      rintro e w1 ⟨rfl, hb1⟩
      have K1 := Lib.hid (K0.out.below hb1)
      have c0 := K1.out.c 0 rfl
      have c1' := K1.out.c 1 rfl
      have c2' := K1.out.c 2 rfl
      clear hb1
      go_wp2_with fail
      refine (hasText _ _ _ _ _ _ true _ (K1.out.r 0 rfl :) G2.out).mono ?_
      rintro e w2 ⟨rfl, hb2⟩
      have K2 := Lib.hid (K1.out.below hb2)
      clear c0 c1' c2' hb2
      have c2' := K2.out.c 2 rfl
      go_wp2
      clear c2'
      go_loopw [18] (fun i wr => ∃ k : Nat, k ≤ fs.length ∧ i = .int .i64 k ∧ (∀ j, j < k → arityOf rs (arO fs j) ≠ 0 ∧ ((rowO fs j).length : Int) = arityOf rs (arO fs j)) ∧ Below w2.heap.size w2 wr) (fun i _ => fs.length - (intOf i).toNat)
      case atStart => exact ⟨0, Nat.zero_le _, rfl, fun j hj => absurd hj (Nat.not_lt_zero _), Below.refl _ _⟩
      case round =>
        obtain ⟨k, hk, rfl, hall, hbr⟩ := hrel
        have HA := Lib.hid hall
        have KR := Lib.hid (K2.out.below hbr)
        have HBR := Lib.hid hbr
        clear hall hbr
        by_cases hlt : k < fs.length
        · obtain ⟨_, _, hv, -, hc⟩ := (KR.out.r 0 rfl : OpsAt wr (.slice a2 fs.length c2) fs)
          simp only [Value.slice.injEq] at hv
          obtain ⟨rfl, _, rfl⟩ := hv
          obtain ⟨b1, off1, ha1, hcell1⟩ := hc (by omega)
          subst ha1
          obtain ⟨y0, a3, n3, c3, y1, hr⟩ := hcell1 k hlt
          have hlt' : (k : Int) < (fs.length : Int) := by omega
          have HBA := Lib.hid ((Below.refl wr.heap.size wr).alloc (Nat.le_refl _) (.cells #[.int .i64 (arO fs k), .slice a3 n3 c3] 83))
          have HR := Lib.hid (hr.below HBA.out)
          have HS := Lib.hid ((KR.out.r 1 rfl : RelsAt wr (.slice a1 n1 c1) rs).below HBA.out)
          have q0 := below_cell HBA.out (KR.out.c 3 rfl)
          have q1 := below_cell HBA.out (KR.out.c 4 rfl)
          clear hcell1 hr hc
          by_cases g3 : arityOf rs (arO fs k) ≠ 0 ∧ ((rowO fs k).length : Int) = arityOf rs (arO fs k)
          · have G3 := Lib.hid (Tells.yes g3)
            have GP3 := Lib.hid g3
            clear g3
            go_wp2_with fail
            refine (isAtomOf _ _ _ _ _ _ _ _ _ _ true _ HS.out HR.out GP1.out G3.out).mono ?_
            rintro e w3 ⟨rfl, hb3⟩
            have HE := Lib.hid (HBR.out.trans ((HBA.out.trans (hb3.mono HBA.out.size)).mono HBR.out.size))
            clear hb3 q0 q1 y0 y1
            go_wp2
            go_roundw
            case rel =>
              refine ⟨k + 1, by omega, by go_num, fun j hj => ?_, HE.out⟩
              by_cases hjk : j = k
              · subst hjk; exact GP3.out
              · exact HA.out j (by omega)
            case measure => simp [intOf]; omega
          · have G3 := Lib.hid (Tells.no g3)
            have HF := Lib.hid (HB.out.is_false fun h => g3 ⟨(h.2.2 k hlt).1, (h.2.2 k hlt).2.1⟩)
            clear g3
            go_wp2_with fail
            refine (isAtomOf _ _ _ _ _ _ _ _ _ _ false _ HS.out HR.out GP1.out G3.out).mono ?_
            rintro e w3 ⟨rfl, hb3⟩
            have HE := Lib.hid (K2.out.bel.trans ((HBR.out.trans ((HBA.out.trans (hb3.mono HBA.out.size)).mono HBR.out.size)).mono K2.out.bel.size))
            clear hb3 q0 q1 y0 y1
            go_wp2
            go_ret
            exact ⟨ret_bool HF.out.symm, HE.out⟩
        · obtain rfl : k = fs.length := by omega
          have HF := Lib.hid (HB.out.is_true ⟨GP1.out, GP2.out.1, fun j hj => ⟨(HA.out j hj).1, (HA.out j hj).2, (GP2.out.2 j hj).2.2.2⟩⟩)
          have HE := Lib.hid KR.out.bel
          go_wp2
          go_ret
          exact ⟨ret_bool HF.out.symm, HE.out⟩
    · have G2 := Lib.hid (Tells.no g2)
      have HF := Lib.hid (HB.out.is_false fun h => g2 h.text)
      clear g2
      go_enter Try.func47, Try.ntmps47
      go_wp2_with fail
      refine (implValidTemplate _ _ _ _ _ true _ (K0.out.r 1 rfl :) G1.out).mono ?_
      rintro e w1 ⟨rfl, hb1⟩
      have K1 := Lib.hid (K0.out.below hb1)
      have c0 := K1.out.c 0 rfl
      have c1' := K1.out.c 1 rfl
      have c2' := K1.out.c 2 rfl
      clear hb1
      go_wp2_with fail
      refine (hasText _ _ _ _ _ _ false _ (K1.out.r 0 rfl :) G2.out).mono ?_
      rintro e w2 ⟨rfl, hb2⟩
      have K2 := Lib.hid (K1.out.below hb2)
      clear c0 c1' c2' hb2
      go_wp2
      go_ret
      exact ⟨ret_bool HF.out.symm, K2.out.bel⟩
  · have G1 := Lib.hid (Tells.no g1)
    have HF := Lib.hid (HB.out.is_false fun h => g1 h.1)
    clear g1
    go_enter Try.func47, Try.ntmps47
    go_wp2_with fail
    refine (implValidTemplate _ _ _ _ _ false _ (K0.out.r 1 rfl :) G1.out).mono ?_
    rintro e w1 ⟨rfl, hb1⟩
    have K1 := Lib.hid (K0.out.below hb1)
    clear hb1
    go_wp2
    go_ret
    exact ⟨ret_bool HF.out.symm, K1.out.bel⟩

end Go.Proofs.Ytnbgpeoceejolab
