/-
  ValidInstance of the program.
-/
import Derived.Test.YtiinohkkfjbfhaaInstOk
import Derived.Test.YtiinohkkfjbfhaaReg
import Derived.Deep.RegionHeld3
namespace Go.Proofs.Ytiinohkkfjbfhaa
open Go.RowKit

set_option maxHeartbeats 400000 in
theorem isVarCount (n : Int) (b : Bool) (w : World) (hb : Tells b (InP n 1 10)) :
    Calls Try.prog 79 #[.int .i64 n] w fun e w' => e = .returned (.bool b) ∧ w = w' := by
  have HB := Lib.hid hb
  clear hb
  by_cases h1 : 1 ≤ n
  · by_cases h2 : n ≤ 10
    · have HF := Lib.hid (HB.out.is_true ⟨h1, h2⟩)
      go_enter Try.func79, Try.ntmps79
      go_wp2
      go_ret
      exact ⟨ret_bool HF.out.symm, rfl⟩
    · have HF := Lib.hid (HB.out.is_false fun h => h2 h.2)
      go_enter Try.func79, Try.ntmps79
      go_wp2
      go_ret
      exact ⟨ret_bool HF.out.symm, rfl⟩
  · have HF := Lib.hid (HB.out.is_false fun h => h1 h.1)
    go_enter Try.func79, Try.ntmps79
    go_wp2
    go_ret
    exact ⟨ret_bool HF.out.symm, rfl⟩

/-- What has a text. -/
def TextAtI (va rel : Int) (args : List Int) : Prop := InP rel 0 5 ∧ In14 args.length ∧ TupP va args.length args
def TextOkI (va : Int) (cs : List (Int × List Int)) : Prop := InP va 1 10 ∧ cs.length ≤ 24 ∧ ∀ k, k < cs.length → TextAtI va (arO cs k) (rowO cs k)

set_option maxHeartbeats 2000000 in
set_option maxRecDepth 100000 in
theorem hasInstanceText (va : Int) (a : Option Addr) (n c : Nat) (cs : List (Int × List Int)) (b : Bool) (w : World) (h : OpsAt w (.slice a n c) cs) (hb : Tells b (TextOkI va cs)) :
    Calls Try.prog 67 #[.agg #[.int .i64 va, .slice a n c]] w fun e w' => e = .returned (.bool b) ∧ Below w.heap.size w w' := by
  have HBW := Lib.hid ((Below.refl w.heap.size w).alloc (Nat.le_refl _) (.cells #[.int .i64 va, .slice a n c] 37))
  obtain ⟨a', c', hv, hn, hc⟩ := h.below HBW.out
  clear h
  simp only [Value.slice.injEq] at hv
  obtain ⟨rfl, rfl, rfl⟩ := hv
  have HC := Lib.hid hc
  have HB := Lib.hid hb
  clear hc hb
  by_cases h1 : InP va 1 10
  · have H1 := Lib.hid (Tells.yes h1)
    have HP1 := Lib.hid h1
    clear h1
    by_cases h4 : cs.length ≤ 24
    · have h4' : ¬ (24 : Int) < (cs.length : Int) := by omega
      have k1 : (w.alloc (.cells #[.int .i64 va, .slice a cs.length c] 37)).cell? ⟨w.heap.size, 0, none⟩ = some (.int .i64 va) := by simp
      have hz0 : (w.alloc (.cells #[.int .i64 va, .slice a cs.length c] 37)).heap.size = w.heap.size + 1 := by simp
      go_enter Try.func67, Try.ntmps67
      go_wp2_with (go_at_call 79; refine (isVarCount _ true _ H1.out).mono ?_; rintro e w' ⟨rfl, rfl⟩)
      go_loopw [19] (fun i wr => ∃ k : Nat, k ≤ cs.length ∧ i = .int .i64 k ∧ (∀ j, j < k → TextAtI va (arO cs j) (rowO cs j)) ∧ Below (w.alloc (.cells #[.int .i64 va, .slice a cs.length c] 37)).heap.size (w.alloc (.cells #[.int .i64 va, .slice a cs.length c] 37)) wr) (fun i _ => cs.length - (intOf i).toNat)
      case atStart => exact ⟨0, Nat.zero_le _, rfl, fun j hj => absurd hj (Nat.not_lt_zero _), Below.refl _ _⟩
      case round =>
        obtain ⟨k, hk, rfl, hall, hbr⟩ := hrel
        have HA := Lib.hid hall
        have HBR := Lib.hid hbr
        have q1 := below_cell HBR.out k1
        have hsz := HBR.out.size
        clear hall hbr
        rw [hz0] at hsz
        by_cases hlt : k < cs.length
        · obtain ⟨b1, off1, ha1, hcell1⟩ := HC.out (by omega)
          subst ha1
          obtain ⟨y0, a2, n2, c2, y1, hr⟩ := (hcell1 k hlt).below HBR.out
          have hnl : n2 = (rowO cs k).length := by obtain ⟨_, _, hv, _⟩ := hr; simp only [Value.slice.injEq] at hv; exact hv.2.1
          subst hnl
          have hlt' : (k : Int) < (cs.length : Int) := by omega
          have HBA := Lib.hid ((Below.refl wr.heap.size wr).alloc (Nat.le_refl _) (.cells #[.int .i64 (arO cs k), .slice a2 (rowO cs k).length c2] 95))
          have HR := Lib.hid (hr.below HBA.out)
          have q2 := below_cell HBA.out q1
          have hne : w.heap.size ≠ wr.heap.size := by omega
          have hne2 : ¬ wr.heap.size = w.heap.size := by omega
          have HE := Lib.hid (HBW.out.trans ((HBR.out.trans (HBA.out.mono HBR.out.size)).mono (by simp)))
          clear hcell1 hr
          by_cases g1 : 0 ≤ arO cs k
          · have g1' : ¬ arO cs k < 0 := by omega
            by_cases g2 : arO cs k < 6
            · have g2' : ¬ 6 ≤ arO cs k := by omega
              by_cases g3 : In14 ((rowO cs k).length : Int)
              · have G3 := Lib.hid (Tells.yes g3)
                have HP3 := Lib.hid g3
                clear g3
                by_cases g4 : TupP va (rowO cs k).length (rowO cs k)
                · have G4 := Lib.hid (Tells.yes g4)
                  have HP4 : Hid (TextAtI va (arO cs k) (rowO cs k)) := Lib.hid ⟨⟨g1, by omega⟩, HP3.out, g4⟩
                  clear g4
                  go_wp2_with (first | (go_at_call 103; refine (isArity _ true _ G3.out).mono ?_; rintro e w' ⟨rfl, rfl⟩) | (go_at_call 92; refine (isListBelow _ _ _ _ true _ HR.out G4.out).mono ?_; rintro e w' ⟨rfl, rfl⟩))
                  go_roundw
                  case rel =>
                    refine ⟨k + 1, by omega, by go_num, fun j hj => ?_, HBR.out.trans (HBA.out.mono HBR.out.size)⟩
                    by_cases hjk : j = k
                    · subst hjk; exact HP4.out
                    · exact HA.out j (by omega)
                  case measure => simp [intOf]; omega
                · have G4 := Lib.hid (Tells.no g4)
                  have HF := Lib.hid (HB.out.is_false fun h => g4 (h.2.2 k hlt).2.2)
                  clear g4
                  go_wp2_with (first | (go_at_call 103; refine (isArity _ true _ G3.out).mono ?_; rintro e w' ⟨rfl, rfl⟩) | (go_at_call 92; refine (isListBelow _ _ _ _ false _ HR.out G4.out).mono ?_; rintro e w' ⟨rfl, rfl⟩))
                  go_ret
                  exact ⟨ret_bool HF.out.symm, HE.out⟩
              · have G3 := Lib.hid (Tells.no g3)
                have HF := Lib.hid (HB.out.is_false fun h => g3 (h.2.2 k hlt).2.1)
                clear g3
                go_wp2_with (go_at_call 103; refine (isArity _ false _ G3.out).mono ?_; rintro e w' ⟨rfl, rfl⟩)
                go_ret
                exact ⟨ret_bool HF.out.symm, HE.out⟩
            · have HF := Lib.hid (HB.out.is_false fun h => g2 (by have := (h.2.2 k hlt).1.2; omega))
              have g2' : 6 ≤ arO cs k := by omega
              go_wp2
              go_ret
              exact ⟨ret_bool HF.out.symm, HE.out⟩
          · have HF := Lib.hid (HB.out.is_false fun h => g1 (h.2.2 k hlt).1.1)
            have g1' : arO cs k < 0 := by omega
            go_wp2
            go_ret
            exact ⟨ret_bool HF.out.symm, HE.out⟩
        · obtain rfl : k = cs.length := by omega
          have HF := Lib.hid (HB.out.is_true ⟨HP1.out, h4, HA.out⟩)
          have HE := Lib.hid (HBW.out.trans (HBR.out.mono (by simp)))
          go_wp2
          go_ret
          exact ⟨ret_bool HF.out.symm, HE.out⟩
    · have HF := Lib.hid (HB.out.is_false fun h => h4 h.2.1)
      have h4' : (24 : Int) < (cs.length : Int) := by omega
      go_enter Try.func67, Try.ntmps67
      go_wp2_with (go_at_call 79; refine (isVarCount _ true _ H1.out).mono ?_; rintro e w' ⟨rfl, rfl⟩)
      go_ret
      exact ⟨ret_bool HF.out.symm, HBW.out⟩
  · have H1 := Lib.hid (Tells.no h1)
    have HF := Lib.hid (HB.out.is_false fun h => h1 h.1)
    clear h1
    go_enter Try.func67, Try.ntmps67
    go_wp2_with (go_at_call 79; refine (isVarCount _ false _ H1.out).mono ?_; rintro e w' ⟨rfl, rfl⟩)
    go_ret
    exact ⟨ret_bool HF.out.symm, HBW.out⟩

theorem InstOk.text {sz : Int} {rs : List (Int × List (List Int))} {va : Int} {cs : List (Int × List Int)} (h : InstOk sz rs va cs) : TextOkI va cs := by
  refine ⟨h.2.1, h.2.2.1, fun k hk => ?_⟩
  obtain ⟨h1, h2, h3⟩ := h.2.2.2 k hk
  obtain ⟨m, hm⟩ : ∃ m : Nat, arO cs k = m := ⟨(arO cs k).toNat, by have := h1.1; omega⟩
  rw [hm] at h1 h2 ⊢
  have hmr : m < rs.length := by have := h1.2; omega
  rw [Int.toNat_natCast] at h2
  exact ⟨⟨by omega, by have := h.1.2.1; omega⟩, h2 ▸ (h.1.2.2 m hmr).2.1, rfl, h3⟩

set_option maxHeartbeats 2000000 in
set_option maxRecDepth 100000 in
theorem implValidInstance (sz : Int) (a1 : Option Addr) (n1 c1 : Nat) (rs : List (Int × List (List Int))) (va : Int) (a2 : Option Addr) (n2 c2 : Nat) (cs : List (Int × List Int)) (b : Bool) (w : World) (h1 : RelsAt w (.slice a1 n1 c1) rs) (h2 : OpsAt w (.slice a2 n2 c2) cs) (hb : ValidInstanceIs sz rs va cs b) :
    Calls Try.prog 20 #[.agg #[.int .i64 sz, .slice a1 n1 c1], .agg #[.int .i64 va, .slice a2 n2 c2]] w fun e w' => e = .returned (.bool b) ∧ Below w.heap.size w w' := by
  have HB := Lib.hid hb
  have H2 := Lib.hid h2
  obtain ⟨a2', c2', hv, hn, -⟩ := h2
  simp only [Value.slice.injEq] at hv
  obtain ⟨rfl, rfl, rfl⟩ := hv
  have hn1 : n1 = rs.length := by obtain ⟨_, _, hv, _⟩ := h1; simp only [Value.slice.injEq] at hv; exact hv.2.1
  subst hn1
  have K0 := Lib.hid (((((Kept.start w).read (lives_rels _ _) h1).read (lives_ops _ _) H2.out).box w.heap.size rfl (.int .i64 sz) (.slice a1 rs.length c1) 33).box (w.heap.size + 1) (by simp) (.int .i64 va) (.slice a2 cs.length c2) 37)
  clear h1 hb H2
  by_cases g1 : TplOk sz rs
  · have G1 := Lib.hid (Tells.yes g1)
    have GP1 := Lib.hid g1
    clear g1
    by_cases g2 : TextOkI va cs
    · have G2 := Lib.hid (Tells.yes g2)
      have GP2 := Lib.hid g2
      clear g2
      go_enter Try.func20, Try.ntmps20
      go_wp2_with fail
      refine (implValidTemplate _ _ _ _ _ true _ (K0.out.r 1 rfl :) G1.out).mono ?_
      rintro e w1 ⟨rfl, hb1⟩
      have K1 := Lib.hid (K0.out.below hb1)
      have c0 := K1.out.c 0 rfl
      have c1' := K1.out.c 1 rfl
      clear hb1
      go_wp2_with fail
      refine (hasInstanceText _ _ _ _ _ true _ (K1.out.r 0 rfl :) G2.out).mono ?_
      rintro e w2 ⟨rfl, hb2⟩
      have K2 := Lib.hid (K1.out.below hb2)
      clear c0 c1' hb2
      have c1' := K2.out.c 1 rfl
      go_wp2
      clear c1'
      go_loopw [18] (fun i wr => ∃ k : Nat, k ≤ cs.length ∧ i = .int .i64 k ∧ (∀ j, j < k → InP (arO cs j) 0 ((rs.length : Int) - 1) ∧ ((rowO cs j).length : Int) = arN rs (arO cs j).toNat) ∧ Below w2.heap.size w2 wr) (fun i _ => cs.length - (intOf i).toNat)
      case atStart => exact ⟨0, Nat.zero_le _, rfl, fun j hj => absurd hj (Nat.not_lt_zero _), Below.refl _ _⟩
      case round =>
        obtain ⟨k, hk, rfl, hall, hbr⟩ := hrel
        have HA := Lib.hid hall
        have KR := Lib.hid (K2.out.below hbr)
        have HBR := Lib.hid hbr
        clear hall hbr
        by_cases hlt : k < cs.length
        · obtain ⟨_, _, hv, -, hc⟩ := (KR.out.r 0 rfl : OpsAt wr (.slice a2 cs.length c2) cs)
          simp only [Value.slice.injEq] at hv
          obtain ⟨rfl, _, rfl⟩ := hv
          obtain ⟨b1, off1, ha1, hcell1⟩ := hc (by omega)
          subst ha1
          obtain ⟨y0, a3, n3, c3, y1, hr⟩ := hcell1 k hlt
          have hnl : n3 = (rowO cs k).length := by obtain ⟨_, _, hv, _⟩ := hr; simp only [Value.slice.injEq] at hv; exact hv.2.1
          subst hnl
          have hlt' : (k : Int) < (cs.length : Int) := by omega
          clear hcell1 hr hc
          by_cases g3 : 0 ≤ arO cs k ∧ arO cs k < rs.length
          · have G3 := Lib.hid (Tells.yes g3)
            obtain ⟨m, hm⟩ : ∃ m : Nat, arO cs k = m := ⟨(arO cs k).toNat, by omega⟩
            have hmr : m < rs.length := by omega
            have hmr' : (m : Int) < (rs.length : Int) := by omega
            have HIN : Hid (InP (arO cs k) 0 ((rs.length : Int) - 1)) := Lib.hid ⟨by omega, by omega⟩
            have HMM := Lib.hid hm
            rw [hm] at G3 y0
            clear g3 hm
            have KA := Lib.hid (KR.out.box wr.heap.size rfl (.int .i64 (m : Int)) (.slice a3 (rowO cs k).length c3) 95)
            have HBA : Hid (Below w2.heap.size w2 (wr.alloc (.cells #[.int .i64 (m : Int), .slice a3 (rowO cs k).length c3] 95)).drew) := Lib.hid ((HBR.out.trans (((Below.refl wr.heap.size wr).alloc (Nat.le_refl _) _).mono HBR.out.size)).trans ((QW.refl _).drew.below _))
            obtain ⟨_, _, hv, -, hc3⟩ := (KA.out.drew.r 1 rfl : RelsAt (wr.alloc (.cells #[.int .i64 (m : Int), .slice a3 (rowO cs k).length c3] 95)).drew (.slice a1 rs.length c1) rs)
            simp only [Value.slice.injEq] at hv
            obtain ⟨rfl, _, rfl⟩ := hv
            obtain ⟨b3, off3, ha3, hcell3⟩ := hc3 (by omega)
            subst ha3
            obtain ⟨z0, -⟩ := hcell3 m hmr
            have Z0 := Lib.hid z0
            clear hcell3 hc3 z0
            by_cases g4 : ((rowO cs k).length : Int) = arN rs m
            · have g4' : (((rowO cs k).length : Int) == arN rs m) = true := beq_iff_eq.2 g4
              have g4'' : (((rowO cs k).length : Int) != arN rs m) = false := by simp [g4]
              have GP3 : Hid (InP (arO cs k) 0 ((rs.length : Int) - 1) ∧ ((rowO cs k).length : Int) = arN rs (arO cs k).toNat) := Lib.hid ⟨HIN.out, by rw [HMM.out]; exact g4⟩
              clear g4
              go_wp2
              refine wp_region_noPanic ?_
              refine wp_region_late (S := (fun w' => w'.cell? ⟨wr.heap.size, 0, none⟩ = some (.int .i64 (m : Int)) ∧ w'.cell? ⟨wr.heap.size, 1, none⟩ = some (.slice a3 (rowO cs k).length c3) ∧ w'.cell? ⟨w.heap.size, 0, none⟩ = some (.int .i64 sz) ∧ w'.cell? ⟨w.heap.size, 1, none⟩ = some (.slice (some ⟨b3, off3, none⟩) rs.length c1) ∧ w'.cell? ⟨b3, off3 + m * 2, none⟩ = some (.int .i64 (arN rs m)) ∧ RelsAt w' (.slice (some ⟨b3, off3, none⟩) rs.length c1) rs ∧ Below w2.heap.size w2 w')) [] (by kernel_rfl) ?_ (fun hHeld => ?_)
              · exact ⟨KA.out.drew.c 0 rfl, KA.out.drew.c 1 rfl, KA.out.drew.c 4 rfl, KA.out.drew.c 5 rfl, Z0.out, (KA.out.drew.r 1 rfl :), HBA.out⟩
              refine wpAnyL_take (i := 0) (v := ?_) (some 22) rfl rfl (by kernel_rfl) (by kernel_rfl) (by kernel_rfl) (by kernel_rfl) (by kernel_rfl) (fun _ _ _ h => h) (Or.inl ⟨by rfl, ?_⟩) (by assumption) ?_
              rotate_left
              · intro wS hSw
                try dsimp only at hSw
                go_simp
                try with_reducible rfl
              try simp only [Act.put, List.setIfInBounds_toArray, List.set_cons_zero, List.set_cons_succ]
              refine wpAnyL_free (i := 1) (v := ?_) (some 23) rfl rfl (by kernel_rfl) (by kernel_rfl) (by kernel_rfl) (by decide) (fun _ _ _ h => h) (Or.inl ⟨by rfl, ?_⟩) (fun h0 => by assumption) ?_
              rotate_left
              · intro wS
                go_simp
                try with_reducible rfl
              try simp only [Act.put, List.setIfInBounds_toArray, List.set_cons_zero, List.set_cons_succ]
              refine wpAnyL_take (i := 2) (v := ?_) (some 24) rfl rfl (by kernel_rfl) (by kernel_rfl) (by kernel_rfl) (by kernel_rfl) (by kernel_rfl) (fun _ _ _ h => h) (Or.inl ⟨by rfl, ?_⟩) (by assumption) ?_
              rotate_left
              · intro wS hSw
                try dsimp only at hSw
                go_simp
                try with_reducible rfl
              try simp only [Act.put, List.setIfInBounds_toArray, List.set_cons_zero, List.set_cons_succ]
              refine wpAnyL_ready (rs := [3]) (by kernel_rfl) (by simp) ?_
              refine AllReadyL.cons rfl (fun K hK => ?_) AllReadyL.nil
              go_simp; go_at_call 68; refine (isRelOf _ _ _ _ rs _ true _ hHeld.2.2.2.2.2.1 G3.out).mono ?_; rintro e w5 ⟨rfl, hb5⟩
              refine hK.out _ _ ?_ (fun hHeld => ?_)
              · exact ⟨below_cell hb5 hHeld.1, below_cell hb5 hHeld.2.1, below_cell hb5 hHeld.2.2.1, below_cell hb5 hHeld.2.2.2.1, below_cell hb5 hHeld.2.2.2.2.1, hHeld.2.2.2.2.2.1.below hb5, hHeld.2.2.2.2.2.2.trans (hb5.mono hHeld.2.2.2.2.2.2.size)⟩
              clear hK K
              try simp only [Act.put, List.setIfInBounds_toArray, List.set_cons_zero, List.set_cons_succ]
              refine wpAnyL_free (i := 4) (v := ?_) (some 26) rfl rfl (by kernel_rfl) (by kernel_rfl) (by kernel_rfl) (by decide) (fun _ _ _ h => h) (Or.inl ⟨by rfl, ?_⟩) (fun h0 => by assumption) ?_
              rotate_left
              · intro wS
                go_simp
                try with_reducible rfl
              try simp only [Act.put, List.setIfInBounds_toArray, List.set_cons_zero, List.set_cons_succ]
              refine wpAnyL_free (i := 5) (v := ?_) (some 27) rfl rfl (by kernel_rfl) (by kernel_rfl) (by kernel_rfl) (by decide) (fun _ _ _ h => h) (Or.inl ⟨by rfl, ?_⟩) (fun h0 => by assumption) ?_
              rotate_left
              · intro wS
                go_simp
                try with_reducible rfl
              try simp only [Act.put, List.setIfInBounds_toArray, List.set_cons_zero, List.set_cons_succ]
              refine wpAnyL_free (i := 6) (v := ?_) (some 28) rfl rfl (by kernel_rfl) (by kernel_rfl) (by kernel_rfl) (by decide) (fun _ _ _ h => h) (Or.inl ⟨by rfl, ?_⟩) (fun h0 => by assumption) ?_
              rotate_left
              · intro wS
                go_simp
                try with_reducible rfl
              try simp only [Act.put, List.setIfInBounds_toArray, List.set_cons_zero, List.set_cons_succ]
              refine wpAnyL_take (i := 7) (v := ?_) (some 29) rfl rfl (by kernel_rfl) (by kernel_rfl) (by kernel_rfl) (by kernel_rfl) (by kernel_rfl) (fun _ _ _ h => h) (Or.inl ⟨by rfl, ?_⟩) (by assumption) ?_
              rotate_left
              · intro wS hSw
                try dsimp only at hSw
                go_simp
                try with_reducible rfl
              try simp only [Act.put, List.setIfInBounds_toArray, List.set_cons_zero, List.set_cons_succ]
              refine wpAnyL_free (i := 8) (v := ?_) (some 30) rfl rfl (by kernel_rfl) (by kernel_rfl) (by kernel_rfl) (by decide) (fun _ _ _ h => h) (Or.inl ⟨by rfl, ?_⟩) (fun h0 => by assumption) ?_
              rotate_left
              · intro wS
                go_simp
                try with_reducible rfl
              try simp only [Act.put, List.setIfInBounds_toArray, List.set_cons_zero, List.set_cons_succ]
              refine wpAnyL_free (i := 9) (v := ?_) (some 31) rfl rfl (by kernel_rfl) (by kernel_rfl) (by kernel_rfl) (by decide) (fun _ _ _ h => h) (Or.inl ⟨by rfl, ?_⟩) (fun h0 => by assumption) ?_
              rotate_left
              · intro wS
                go_simp
                try with_reducible rfl
              try simp only [Act.put, List.setIfInBounds_toArray, List.set_cons_zero, List.set_cons_succ]
              refine wpAnyL_take (i := 10) (v := ?_) (some 32) rfl rfl (by kernel_rfl) (by kernel_rfl) (by kernel_rfl) (by kernel_rfl) (by kernel_rfl) (fun _ _ _ h => h) (Or.inl ⟨by rfl, ?_⟩) (by assumption) ?_
              rotate_left
              · intro wS hSw
                try dsimp only at hSw
                go_simp
                try with_reducible rfl
              try simp only [Act.put, List.setIfInBounds_toArray, List.set_cons_zero, List.set_cons_succ]
              refine wpAnyL_free (i := 11) (v := ?_) (some 33) rfl rfl (by kernel_rfl) (by kernel_rfl) (by kernel_rfl) (by decide) (fun _ _ _ h => h) (Or.inl ⟨by rfl, ?_⟩) (fun h0 => by assumption) ?_
              rotate_left
              · intro wS
                go_simp
                try with_reducible rfl
              try simp only [Act.put, List.setIfInBounds_toArray, List.set_cons_zero, List.set_cons_succ]
              refine wpAnyL_take (i := 12) (v := ?_) (some 34) rfl rfl (by kernel_rfl) (by kernel_rfl) (by kernel_rfl) (by kernel_rfl) (by kernel_rfl) (fun _ _ _ h => h) (Or.inl ⟨by rfl, ?_⟩) (by assumption) ?_
              rotate_left
              · intro wS hSw
                try dsimp only at hSw
                go_simp
                try with_reducible rfl
              try simp only [Act.put, List.setIfInBounds_toArray, List.set_cons_zero, List.set_cons_succ]
              refine wpAnyL_free (i := 13) (v := ?_) (some 35) rfl rfl (by kernel_rfl) (by kernel_rfl) (by kernel_rfl) (by decide) (fun _ _ _ h => h) (Or.inl ⟨by rfl, ?_⟩) (fun h0 => by assumption) ?_
              rotate_left
              · intro wS
                go_simp
                try with_reducible rfl
              try simp only [Act.put, List.setIfInBounds_toArray, List.set_cons_zero, List.set_cons_succ]
              refine wpAnyL_free (i := 14) (v := ?_) (some 36) rfl rfl (by kernel_rfl) (by kernel_rfl) (by kernel_rfl) (by decide) (fun _ _ _ h => h) (Or.inl ⟨by rfl, ?_⟩) (fun h0 => by assumption) ?_
              rotate_left
              · intro wS
                go_simp
                try with_reducible rfl
              try simp only [Act.put, List.setIfInBounds_toArray, List.set_cons_zero, List.set_cons_succ]
              refine wpAnyL_take (i := 15) (v := ?_) (some 37) rfl rfl (by kernel_rfl) (by kernel_rfl) (by kernel_rfl) (by kernel_rfl) (by kernel_rfl) (fun _ _ _ h => h) (Or.inl ⟨by rfl, ?_⟩) (by assumption) ?_
              rotate_left
              · intro wS hSw
                try dsimp only at hSw
                go_simp
                try with_reducible rfl
              try simp only [Act.put, List.setIfInBounds_toArray, List.set_cons_zero, List.set_cons_succ]
              refine wpAnyL_free (i := 16) (v := ?_) (some 38) rfl rfl (by kernel_rfl) (by kernel_rfl) (by kernel_rfl) (by decide) (fun _ _ _ h => h) (Or.inl ⟨by rfl, ?_⟩) (fun h0 => by assumption) ?_
              rotate_left
              · intro wS
                go_simp
                try with_reducible rfl
              try simp only [Act.put, List.setIfInBounds_toArray, List.set_cons_zero, List.set_cons_succ]
              refine wpAnyL_free (i := 17) (v := ?_) (some 39) rfl rfl (by kernel_rfl) (by kernel_rfl) (by kernel_rfl) (by decide) (fun _ _ _ h => h) (Or.inl ⟨by rfl, ?_⟩) (fun h0 => by assumption) ?_
              rotate_left
              · intro wS
                go_simp
                try with_reducible rfl
              try simp only [Act.put, List.setIfInBounds_toArray, List.set_cons_zero, List.set_cons_succ]
              refine wpAnyL_done (by kernel_rfl) ?_ _
              refine NoPanic.normal ?_
              have HE := Lib.hid hHeld.2.2.2.2.2.2
              clear hHeld hb5
              go_wp2
              go_roundw
              case rel =>
                refine ⟨k + 1, by omega, by go_num, fun j hj => ?_, HE.out⟩
                by_cases hjk : j = k
                · subst hjk; exact GP3.out
                · exact HA.out j (by omega)
              case measure => simp [intOf]; omega
            · have g4' : (((rowO cs k).length : Int) == arN rs m) = false := beq_eq_false_iff_ne.2 g4
              have g4'' : (((rowO cs k).length : Int) != arN rs m) = true := bne_iff_ne.2 g4
              have HF := Lib.hid (HB.out.is_false fun h => g4 (by have := (h.2.2.2 k hlt).2.1; rw [HMM.out] at this; exact this))
              clear g4
              go_wp2
              refine wp_region_noPanic ?_
              refine wp_region_late (S := (fun w' => w'.cell? ⟨wr.heap.size, 0, none⟩ = some (.int .i64 (m : Int)) ∧ w'.cell? ⟨wr.heap.size, 1, none⟩ = some (.slice a3 (rowO cs k).length c3) ∧ w'.cell? ⟨w.heap.size, 0, none⟩ = some (.int .i64 sz) ∧ w'.cell? ⟨w.heap.size, 1, none⟩ = some (.slice (some ⟨b3, off3, none⟩) rs.length c1) ∧ w'.cell? ⟨b3, off3 + m * 2, none⟩ = some (.int .i64 (arN rs m)) ∧ RelsAt w' (.slice (some ⟨b3, off3, none⟩) rs.length c1) rs ∧ Below w2.heap.size w2 w')) [] (by kernel_rfl) ?_ (fun hHeld => ?_)
              · exact ⟨KA.out.drew.c 0 rfl, KA.out.drew.c 1 rfl, KA.out.drew.c 4 rfl, KA.out.drew.c 5 rfl, Z0.out, (KA.out.drew.r 1 rfl :), HBA.out⟩
              refine wpAnyL_take (i := 0) (v := ?_) (some 22) rfl rfl (by kernel_rfl) (by kernel_rfl) (by kernel_rfl) (by kernel_rfl) (by kernel_rfl) (fun _ _ _ h => h) (Or.inl ⟨by rfl, ?_⟩) (by assumption) ?_
              rotate_left
              · intro wS hSw
                try dsimp only at hSw
                go_simp
                try with_reducible rfl
              try simp only [Act.put, List.setIfInBounds_toArray, List.set_cons_zero, List.set_cons_succ]
              refine wpAnyL_free (i := 1) (v := ?_) (some 23) rfl rfl (by kernel_rfl) (by kernel_rfl) (by kernel_rfl) (by decide) (fun _ _ _ h => h) (Or.inl ⟨by rfl, ?_⟩) (fun h0 => by assumption) ?_
              rotate_left
              · intro wS
                go_simp
                try with_reducible rfl
              try simp only [Act.put, List.setIfInBounds_toArray, List.set_cons_zero, List.set_cons_succ]
              refine wpAnyL_take (i := 2) (v := ?_) (some 24) rfl rfl (by kernel_rfl) (by kernel_rfl) (by kernel_rfl) (by kernel_rfl) (by kernel_rfl) (fun _ _ _ h => h) (Or.inl ⟨by rfl, ?_⟩) (by assumption) ?_
              rotate_left
              · intro wS hSw
                try dsimp only at hSw
                go_simp
                try with_reducible rfl
              try simp only [Act.put, List.setIfInBounds_toArray, List.set_cons_zero, List.set_cons_succ]
              refine wpAnyL_ready (rs := [3]) (by kernel_rfl) (by simp) ?_
              refine AllReadyL.cons rfl (fun K hK => ?_) AllReadyL.nil
              go_simp; go_at_call 68; refine (isRelOf _ _ _ _ rs _ true _ hHeld.2.2.2.2.2.1 G3.out).mono ?_; rintro e w5 ⟨rfl, hb5⟩
              refine hK.out _ _ ?_ (fun hHeld => ?_)
              · exact ⟨below_cell hb5 hHeld.1, below_cell hb5 hHeld.2.1, below_cell hb5 hHeld.2.2.1, below_cell hb5 hHeld.2.2.2.1, below_cell hb5 hHeld.2.2.2.2.1, hHeld.2.2.2.2.2.1.below hb5, hHeld.2.2.2.2.2.2.trans (hb5.mono hHeld.2.2.2.2.2.2.size)⟩
              clear hK K
              try simp only [Act.put, List.setIfInBounds_toArray, List.set_cons_zero, List.set_cons_succ]
              refine wpAnyL_free (i := 4) (v := ?_) (some 26) rfl rfl (by kernel_rfl) (by kernel_rfl) (by kernel_rfl) (by decide) (fun _ _ _ h => h) (Or.inl ⟨by rfl, ?_⟩) (fun h0 => by assumption) ?_
              rotate_left
              · intro wS
                go_simp
                try with_reducible rfl
              try simp only [Act.put, List.setIfInBounds_toArray, List.set_cons_zero, List.set_cons_succ]
              refine wpAnyL_free (i := 5) (v := ?_) (some 27) rfl rfl (by kernel_rfl) (by kernel_rfl) (by kernel_rfl) (by decide) (fun _ _ _ h => h) (Or.inl ⟨by rfl, ?_⟩) (fun h0 => by assumption) ?_
              rotate_left
              · intro wS
                go_simp
                try with_reducible rfl
              try simp only [Act.put, List.setIfInBounds_toArray, List.set_cons_zero, List.set_cons_succ]
              refine wpAnyL_free (i := 6) (v := ?_) (some 28) rfl rfl (by kernel_rfl) (by kernel_rfl) (by kernel_rfl) (by decide) (fun _ _ _ h => h) (Or.inl ⟨by rfl, ?_⟩) (fun h0 => by assumption) ?_
              rotate_left
              · intro wS
                go_simp
                try with_reducible rfl
              try simp only [Act.put, List.setIfInBounds_toArray, List.set_cons_zero, List.set_cons_succ]
              refine wpAnyL_take (i := 7) (v := ?_) (some 29) rfl rfl (by kernel_rfl) (by kernel_rfl) (by kernel_rfl) (by kernel_rfl) (by kernel_rfl) (fun _ _ _ h => h) (Or.inl ⟨by rfl, ?_⟩) (by assumption) ?_
              rotate_left
              · intro wS hSw
                try dsimp only at hSw
                go_simp
                try with_reducible rfl
              try simp only [Act.put, List.setIfInBounds_toArray, List.set_cons_zero, List.set_cons_succ]
              refine wpAnyL_free (i := 8) (v := ?_) (some 30) rfl rfl (by kernel_rfl) (by kernel_rfl) (by kernel_rfl) (by decide) (fun _ _ _ h => h) (Or.inl ⟨by rfl, ?_⟩) (fun h0 => by assumption) ?_
              rotate_left
              · intro wS
                go_simp
                try with_reducible rfl
              try simp only [Act.put, List.setIfInBounds_toArray, List.set_cons_zero, List.set_cons_succ]
              refine wpAnyL_free (i := 9) (v := ?_) (some 31) rfl rfl (by kernel_rfl) (by kernel_rfl) (by kernel_rfl) (by decide) (fun _ _ _ h => h) (Or.inl ⟨by rfl, ?_⟩) (fun h0 => by assumption) ?_
              rotate_left
              · intro wS
                go_simp
                try with_reducible rfl
              try simp only [Act.put, List.setIfInBounds_toArray, List.set_cons_zero, List.set_cons_succ]
              refine wpAnyL_take (i := 10) (v := ?_) (some 32) rfl rfl (by kernel_rfl) (by kernel_rfl) (by kernel_rfl) (by kernel_rfl) (by kernel_rfl) (fun _ _ _ h => h) (Or.inl ⟨by rfl, ?_⟩) (by assumption) ?_
              rotate_left
              · intro wS hSw
                try dsimp only at hSw
                go_simp
                try with_reducible rfl
              try simp only [Act.put, List.setIfInBounds_toArray, List.set_cons_zero, List.set_cons_succ]
              refine wpAnyL_free (i := 11) (v := ?_) (some 33) rfl rfl (by kernel_rfl) (by kernel_rfl) (by kernel_rfl) (by decide) (fun _ _ _ h => h) (Or.inl ⟨by rfl, ?_⟩) (fun h0 => by assumption) ?_
              rotate_left
              · intro wS
                go_simp
                try with_reducible rfl
              try simp only [Act.put, List.setIfInBounds_toArray, List.set_cons_zero, List.set_cons_succ]
              refine wpAnyL_take (i := 12) (v := ?_) (some 34) rfl rfl (by kernel_rfl) (by kernel_rfl) (by kernel_rfl) (by kernel_rfl) (by kernel_rfl) (fun _ _ _ h => h) (Or.inl ⟨by rfl, ?_⟩) (by assumption) ?_
              rotate_left
              · intro wS hSw
                try dsimp only at hSw
                go_simp
                try with_reducible rfl
              try simp only [Act.put, List.setIfInBounds_toArray, List.set_cons_zero, List.set_cons_succ]
              refine wpAnyL_free (i := 13) (v := ?_) (some 35) rfl rfl (by kernel_rfl) (by kernel_rfl) (by kernel_rfl) (by decide) (fun _ _ _ h => h) (Or.inl ⟨by rfl, ?_⟩) (fun h0 => by assumption) ?_
              rotate_left
              · intro wS
                go_simp
                try with_reducible rfl
              try simp only [Act.put, List.setIfInBounds_toArray, List.set_cons_zero, List.set_cons_succ]
              refine wpAnyL_free (i := 14) (v := ?_) (some 36) rfl rfl (by kernel_rfl) (by kernel_rfl) (by kernel_rfl) (by decide) (fun _ _ _ h => h) (Or.inl ⟨by rfl, ?_⟩) (fun h0 => by assumption) ?_
              rotate_left
              · intro wS
                go_simp
                try with_reducible rfl
              try simp only [Act.put, List.setIfInBounds_toArray, List.set_cons_zero, List.set_cons_succ]
              refine wpAnyL_take (i := 15) (v := ?_) (some 37) rfl rfl (by kernel_rfl) (by kernel_rfl) (by kernel_rfl) (by kernel_rfl) (by kernel_rfl) (fun _ _ _ h => h) (Or.inl ⟨by rfl, ?_⟩) (by assumption) ?_
              rotate_left
              · intro wS hSw
                try dsimp only at hSw
                go_simp
                try with_reducible rfl
              try simp only [Act.put, List.setIfInBounds_toArray, List.set_cons_zero, List.set_cons_succ]
              refine wpAnyL_free (i := 16) (v := ?_) (some 38) rfl rfl (by kernel_rfl) (by kernel_rfl) (by kernel_rfl) (by decide) (fun _ _ _ h => h) (Or.inl ⟨by rfl, ?_⟩) (fun h0 => by assumption) ?_
              rotate_left
              · intro wS
                go_simp
                try with_reducible rfl
              try simp only [Act.put, List.setIfInBounds_toArray, List.set_cons_zero, List.set_cons_succ]
              refine wpAnyL_free (i := 17) (v := ?_) (some 39) rfl rfl (by kernel_rfl) (by kernel_rfl) (by kernel_rfl) (by decide) (fun _ _ _ h => h) (Or.inl ⟨by rfl, ?_⟩) (fun h0 => by assumption) ?_
              rotate_left
              · intro wS
                go_simp
                try with_reducible rfl
              try simp only [Act.put, List.setIfInBounds_toArray, List.set_cons_zero, List.set_cons_succ]
              refine wpAnyL_done (by kernel_rfl) ?_ _
              refine NoPanic.normal ?_
              have HE := Lib.hid hHeld.2.2.2.2.2.2
              clear hHeld hb5
              go_wp2
              go_ret
              exact ⟨ret_bool HF.out.symm, K2.out.bel.trans (HE.out.mono K2.out.bel.size)⟩
          · have G3 := Lib.hid (Tells.no g3)
            have HF := Lib.hid (HB.out.is_false fun h => g3 (by have := (h.2.2.2 k hlt).1; unfold InP at this; omega))
            clear g3
            have KA := Lib.hid (KR.out.box wr.heap.size rfl (.int .i64 (arO cs k)) (.slice a3 (rowO cs k).length c3) 95)
            have HBA : Hid (Below w2.heap.size w2 (wr.alloc (.cells #[.int .i64 (arO cs k), .slice a3 (rowO cs k).length c3] 95)).drew) := Lib.hid ((HBR.out.trans (((Below.refl wr.heap.size wr).alloc (Nat.le_refl _) _).mono HBR.out.size)).trans ((QW.refl _).drew.below _))
            go_wp2
            refine wp_region_noPanic ?_
            refine wp_region_late (S := (fun w' => w'.cell? ⟨wr.heap.size, 0, none⟩ = some (.int .i64 (arO cs k)) ∧ w'.cell? ⟨wr.heap.size, 1, none⟩ = some (.slice a3 (rowO cs k).length c3) ∧ w'.cell? ⟨w.heap.size, 0, none⟩ = some (.int .i64 sz) ∧ w'.cell? ⟨w.heap.size, 1, none⟩ = some (.slice a1 rs.length c1) ∧ RelsAt w' (.slice a1 rs.length c1) rs ∧ Below w2.heap.size w2 w')) [] (by kernel_rfl) ?_ (fun hHeld => ?_)
            · exact ⟨KA.out.drew.c 0 rfl, KA.out.drew.c 1 rfl, KA.out.drew.c 4 rfl, KA.out.drew.c 5 rfl, (KA.out.drew.r 1 rfl :), HBA.out⟩
            refine wpAnyL_take (i := 0) (v := ?_) (some 22) rfl rfl (by kernel_rfl) (by kernel_rfl) (by kernel_rfl) (by kernel_rfl) (by kernel_rfl) (fun _ _ _ h => h) (Or.inl ⟨by rfl, ?_⟩) (by assumption) ?_
            rotate_left
            · intro wS hSw
              try dsimp only at hSw
              go_simp
              try with_reducible rfl
            try simp only [Act.put, List.setIfInBounds_toArray, List.set_cons_zero, List.set_cons_succ]
            refine wpAnyL_free (i := 1) (v := ?_) (some 23) rfl rfl (by kernel_rfl) (by kernel_rfl) (by kernel_rfl) (by decide) (fun _ _ _ h => h) (Or.inl ⟨by rfl, ?_⟩) (fun h0 => by assumption) ?_
            rotate_left
            · intro wS
              go_simp
              try with_reducible rfl
            try simp only [Act.put, List.setIfInBounds_toArray, List.set_cons_zero, List.set_cons_succ]
            refine wpAnyL_take (i := 2) (v := ?_) (some 24) rfl rfl (by kernel_rfl) (by kernel_rfl) (by kernel_rfl) (by kernel_rfl) (by kernel_rfl) (fun _ _ _ h => h) (Or.inl ⟨by rfl, ?_⟩) (by assumption) ?_
            rotate_left
            · intro wS hSw
              try dsimp only at hSw
              go_simp
              try with_reducible rfl
            try simp only [Act.put, List.setIfInBounds_toArray, List.set_cons_zero, List.set_cons_succ]
            refine wpAnyL_ready (rs := [3]) (by kernel_rfl) (by simp) ?_
            refine AllReadyL.cons rfl (fun K hK => ?_) AllReadyL.nil
            go_simp; go_at_call 68; refine (isRelOf _ _ _ _ rs _ false _ hHeld.2.2.2.2.1 G3.out).mono ?_; rintro e w5 ⟨rfl, hb5⟩
            refine hK.out _ _ ?_ (fun hHeld => ?_)
            · exact ⟨below_cell hb5 hHeld.1, below_cell hb5 hHeld.2.1, below_cell hb5 hHeld.2.2.1, below_cell hb5 hHeld.2.2.2.1, hHeld.2.2.2.2.1.below hb5, hHeld.2.2.2.2.2.trans (hb5.mono hHeld.2.2.2.2.2.size)⟩
            clear hK K
            try simp only [Act.put, List.setIfInBounds_toArray, List.set_cons_zero, List.set_cons_succ]
            refine wpAnyL_free (i := 4) (v := ?_) (some 26) rfl rfl (by kernel_rfl) (by kernel_rfl) (by kernel_rfl) (by decide) (fun _ _ _ h => h) (Or.inl ⟨by rfl, ?_⟩) (fun h0 => by assumption) ?_
            rotate_left
            · intro wS
              go_simp
              try with_reducible rfl
            try simp only [Act.put, List.setIfInBounds_toArray, List.set_cons_zero, List.set_cons_succ]
            refine wpAnyL_free (i := 5) (v := ?_) (some 27) rfl rfl (by kernel_rfl) (by kernel_rfl) (by kernel_rfl) (by decide) (fun _ _ _ h => h) (Or.inl ⟨by rfl, ?_⟩) (fun h0 => by assumption) ?_
            rotate_left
            · intro wS
              go_simp
              try with_reducible rfl
            try simp only [Act.put, List.setIfInBounds_toArray, List.set_cons_zero, List.set_cons_succ]
            refine wpAnyL_free (i := 6) (v := undef) (some 28) rfl rfl (by kernel_rfl) (by kernel_rfl) (by kernel_rfl) (by decide) (fun _ _ _ h => h) (Or.inr ⟨by rfl, rfl⟩) (fun h0 => by assumption) ?_
            try simp only [Act.put, List.setIfInBounds_toArray, List.set_cons_zero, List.set_cons_succ]
            refine wpAnyL_free (i := 7) (v := undef) (some 29) rfl rfl (by kernel_rfl) (by kernel_rfl) (by kernel_rfl) (by decide) (fun _ _ _ h => h) (Or.inr ⟨by rfl, rfl⟩) (fun h0 => by assumption) ?_
            try simp only [Act.put, List.setIfInBounds_toArray, List.set_cons_zero, List.set_cons_succ]
            refine wpAnyL_free (i := 8) (v := undef) (some 30) rfl rfl (by kernel_rfl) (by kernel_rfl) (by kernel_rfl) (by decide) (fun _ _ _ h => h) (Or.inr ⟨by rfl, rfl⟩) (fun h0 => by assumption) ?_
            try simp only [Act.put, List.setIfInBounds_toArray, List.set_cons_zero, List.set_cons_succ]
            refine wpAnyL_free (i := 9) (v := undef) (some 31) rfl rfl (by kernel_rfl) (by kernel_rfl) (by kernel_rfl) (by decide) (fun _ _ _ h => h) (Or.inr ⟨by rfl, rfl⟩) (fun h0 => by assumption) ?_
            try simp only [Act.put, List.setIfInBounds_toArray, List.set_cons_zero, List.set_cons_succ]
            refine wpAnyL_free (i := 10) (v := undef) (some 32) rfl rfl (by kernel_rfl) (by kernel_rfl) (by kernel_rfl) (by decide) (fun _ _ _ h => h) (Or.inr ⟨by rfl, rfl⟩) (fun h0 => by assumption) ?_
            try simp only [Act.put, List.setIfInBounds_toArray, List.set_cons_zero, List.set_cons_succ]
            refine wpAnyL_free (i := 11) (v := undef) (some 33) rfl rfl (by kernel_rfl) (by kernel_rfl) (by kernel_rfl) (by decide) (fun _ _ _ h => h) (Or.inr ⟨by rfl, rfl⟩) (fun h0 => by assumption) ?_
            try simp only [Act.put, List.setIfInBounds_toArray, List.set_cons_zero, List.set_cons_succ]
            refine wpAnyL_free (i := 12) (v := undef) (some 34) rfl rfl (by kernel_rfl) (by kernel_rfl) (by kernel_rfl) (by decide) (fun _ _ _ h => h) (Or.inr ⟨by rfl, rfl⟩) (fun h0 => by assumption) ?_
            try simp only [Act.put, List.setIfInBounds_toArray, List.set_cons_zero, List.set_cons_succ]
            refine wpAnyL_free (i := 13) (v := undef) (some 35) rfl rfl (by kernel_rfl) (by kernel_rfl) (by kernel_rfl) (by decide) (fun _ _ _ h => h) (Or.inr ⟨by rfl, rfl⟩) (fun h0 => by assumption) ?_
            try simp only [Act.put, List.setIfInBounds_toArray, List.set_cons_zero, List.set_cons_succ]
            refine wpAnyL_free (i := 14) (v := undef) (some 36) rfl rfl (by kernel_rfl) (by kernel_rfl) (by kernel_rfl) (by decide) (fun _ _ _ h => h) (Or.inr ⟨by rfl, rfl⟩) (fun h0 => by assumption) ?_
            try simp only [Act.put, List.setIfInBounds_toArray, List.set_cons_zero, List.set_cons_succ]
            refine wpAnyL_free (i := 15) (v := undef) (some 37) rfl rfl (by kernel_rfl) (by kernel_rfl) (by kernel_rfl) (by decide) (fun _ _ _ h => h) (Or.inr ⟨by rfl, rfl⟩) (fun h0 => by assumption) ?_
            try simp only [Act.put, List.setIfInBounds_toArray, List.set_cons_zero, List.set_cons_succ]
            refine wpAnyL_free (i := 16) (v := undef) (some 38) rfl rfl (by kernel_rfl) (by kernel_rfl) (by kernel_rfl) (by decide) (fun _ _ _ h => h) (Or.inr ⟨by rfl, rfl⟩) (fun h0 => by assumption) ?_
            try simp only [Act.put, List.setIfInBounds_toArray, List.set_cons_zero, List.set_cons_succ]
            refine wpAnyL_free (i := 17) (v := ?_) (some 39) rfl rfl (by kernel_rfl) (by kernel_rfl) (by kernel_rfl) (by decide) (fun _ _ _ h => h) (Or.inl ⟨by rfl, ?_⟩) (fun h0 => by assumption) ?_
            rotate_left
            · intro wS
              go_simp
              try with_reducible rfl
            try simp only [Act.put, List.setIfInBounds_toArray, List.set_cons_zero, List.set_cons_succ]
            refine wpAnyL_done (by kernel_rfl) ?_ _
            refine NoPanic.normal ?_
            have HE := Lib.hid hHeld.2.2.2.2.2
            clear hHeld hb5
            go_wp2
            go_ret
            exact ⟨ret_bool HF.out.symm, K2.out.bel.trans (HE.out.mono K2.out.bel.size)⟩
        · obtain rfl : k = cs.length := by omega
          have HF := Lib.hid (HB.out.is_true ⟨GP1.out, GP2.out.1, GP2.out.2.1, fun j hj => ⟨(HA.out j hj).1, (HA.out j hj).2, (GP2.out.2.2 j hj).2.2.2⟩⟩)
          have HE := Lib.hid KR.out.bel
          go_wp2
          go_ret
          exact ⟨ret_bool HF.out.symm, HE.out⟩
    · have G2 := Lib.hid (Tells.no g2)
      have HF := Lib.hid (HB.out.is_false fun h => g2 h.text)
      clear g2
      go_enter Try.func20, Try.ntmps20
      go_wp2_with fail
      refine (implValidTemplate _ _ _ _ _ true _ (K0.out.r 1 rfl :) G1.out).mono ?_
      rintro e w1 ⟨rfl, hb1⟩
      have K1 := Lib.hid (K0.out.below hb1)
      have c0 := K1.out.c 0 rfl
      have c1' := K1.out.c 1 rfl
      clear hb1
      go_wp2_with fail
      refine (hasInstanceText _ _ _ _ _ false _ (K1.out.r 0 rfl :) G2.out).mono ?_
      rintro e w2 ⟨rfl, hb2⟩
      have K2 := Lib.hid (K1.out.below hb2)
      clear c0 c1' hb2
      go_wp2
      go_ret
      exact ⟨ret_bool HF.out.symm, K2.out.bel⟩
  · have G1 := Lib.hid (Tells.no g1)
    have HF := Lib.hid (HB.out.is_false fun h => g1 h.1)
    clear g1
    go_enter Try.func20, Try.ntmps20
    go_wp2_with fail
    refine (implValidTemplate _ _ _ _ _ false _ (K0.out.r 1 rfl :) G1.out).mono ?_
    rintro e w1 ⟨rfl, hb1⟩
    have K1 := Lib.hid (K0.out.below hb1)
    clear hb1
    go_wp2
    go_ret
    exact ⟨ret_bool HF.out.symm, K1.out.bel⟩

end Go.Proofs.Ytiinohkkfjbfhaa
