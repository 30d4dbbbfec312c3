/-
  SameVerdict of the model.
-/
import Derived.Test.YtclhcnfgpkhplaaVerd
import Derived.Test.YtclhcnfgpkhplaaSameV
namespace Go.Proofs.Ytclhcnfgpkhplaa
open Go.RowKit

set_option linter.unusedSimpArgs false in
set_option maxHeartbeats 1600000 in
set_option maxRecDepth 100000 in
theorem l06Same (k : Int) (a1 : Option Addr) (n1 c1 : Nat) (vs : List Int) (a2 : Option Addr) (n2 c2 : Nat) (mA : Nat) (ts : List Int) (a3 : Option Addr) (n3 c3 : Nat) (mP : Nat) (ps : List Int) (a4 : Option Addr) (n4 c4 : Nat) (us : List Int) (k' : Int) (a1' : Option Addr) (n1' c1' : Nat) (vs' : List Int) (a2' : Option Addr) (n2' c2' : Nat) (mA' : Nat) (ts' : List Int) (a3' : Option Addr) (n3' c3' : Nat) (mP' : Nat) (ps' : List Int) (a4' : Option Addr) (n4' c4' : Nat) (us' : List Int) (p1 p2 : Nat) (bb : Bool) (w : World) (hX : Box 74 w p1 #[.int .i64 k, .slice a1 n1 c1, .slice a2 n2 c2, .slice a3 n3 c3, .slice a4 n4 c4]) (hY : Box 74 w p2 #[.int .i64 k', .slice a1' n1' c1', .slice a2' n2' c2', .slice a3' n3' c3', .slice a4' n4' c4']) (h1 : RowAt w (.slice a1 n1 c1) vs) (h2 : TripAt w (.slice a2 n2 c2) mA ts) (h3 : TripAt w (.slice a3 n3 c3) mP ps) (h4 : RowAt w (.slice a4 n4 c4) us) (h1' : RowAt w (.slice a1' n1' c1') vs') (h2' : TripAt w (.slice a2' n2' c2') mA' ts') (h3' : TripAt w (.slice a3' n3' c3') mP' ps') (h4' : RowAt w (.slice a4' n4' c4') us') (hb : eqV k vs ts ps us k' vs' ts' ps' us' = bb) :
    Calls Try.prog 89 #[.pointer (some ⟨p1, 0, none⟩), .pointer (some ⟨p2, 0, none⟩)] w fun e w' => e = .returned (.bool bb) ∧ QW w w' := by
  obtain ⟨_, _, e2, l2, b2, g2⟩ := h2
  cases e2
  obtain ⟨_, _, e3, l3, b3, g3⟩ := h3
  cases e3
  obtain ⟨_, _, e2', l2', b2', g2'⟩ := h2'
  cases e2'
  obtain ⟨_, _, e3', l3', b3', g3'⟩ := h3'
  cases e3'
  have x0 := hX.c 0 rfl
  have y0 := hY.c 0 rfl
  have x1 := hX.c 1 rfl
  have y1 := hY.c 1 rfl
  have x2 := hX.c 2 rfl
  have y2 := hY.c 2 rfl
  have x3 := hX.c 3 rfl
  have y3 := hY.c 3 rfl
  have x4 := hX.c 4 rfl
  have y4 := hY.c 4 rfl
  have H1 := Lib.hid h1
  have H1' := Lib.hid h1'
  have H4 := Lib.hid h4
  have H4' := Lib.hid h4'
  have L2 := Lib.hid l2
  have G2 := Lib.hid g2
  have L3 := Lib.hid l3
  have G3 := Lib.hid g3
  have L2' := Lib.hid l2'
  have G2' := Lib.hid g2'
  have L3' := Lib.hid l3'
  have G3' := Lib.hid g3'
  have HB := Lib.hid hb
  clear h1 h1' h4 h4' l2 l2' l3 l3' g2 g2' g3 g3' hX hY hb
  by_cases hk : k = k'
  case neg =>
    have HF : Hid (bb = false) := Lib.hid (by rw [← HB.out]; simp [eqV, eqB, hk])
    have m1 : (k == k') = false := beq_eq_false_iff_ne.2 hk
    have m2 : (k != k') = true := bne_iff_ne.2 hk
    clear hk
    go_enter Try.func89, Try.ntmps89
    go_wp2
    go_quiet (fail)
    go_wp2
    go_ret
    exact ⟨ret_bool HF.out.symm, (QW.refl _).drewN _⟩
  subst hk
  cases e1 : eqB vs vs' with
  | false =>
    have E1 := Lib.hid e1
    have HF : Hid (bb = false) := Lib.hid (by rw [← HB.out]; unfold eqV; rw [e1]; simp)
    clear e1
    go_enter Try.func89, Try.ntmps89
    go_wp2
    go_quiet ((go_at_call 147; exact QW.calls (l00Same' _ _ _ _ false _ (((QW.refl _).drewN _).row H1.out) (((QW.refl _).drewN _).row H1'.out) E1.out)))
    go_wp2
    go_ret
    exact ⟨ret_bool HF.out.symm, (QW.refl _).drewN _⟩
  | true =>
  have E1 := Lib.hid e1
  cases e4 : eqB us us' with
  | false =>
    have E4 := Lib.hid e4
    have HF : Hid (bb = false) := Lib.hid (by rw [← HB.out]; unfold eqV; rw [e4]; simp)
    clear e1 e4
    go_enter Try.func89, Try.ntmps89
    go_wp2
    go_quiet ((first
      | (go_at_call 147; exact QW.calls (l00Same' _ _ _ _ true _ (((QW.refl _).drewN _).row H1.out) (((QW.refl _).drewN _).row H1'.out) E1.out))
      | (go_at_call 147; exact QW.calls (l00Same' _ _ _ _ false _ (((QW.refl _).drewN _).row H4.out) (((QW.refl _).drewN _).row H4'.out) E4.out))))
    go_wp2
    go_ret
    exact ⟨ret_bool HF.out.symm, (QW.refl _).drewN _⟩
  | true =>
  have E4 := Lib.hid e4
  by_cases hm2 : n2 = n2'
  case neg =>
    have HF : Hid (bb = false) := Lib.hid (by
      have e : eqB ts ts' = false := eqB_no fun e => hm2 (by have h1 := L2.out; have h2 := L2'.out; rw [e] at h1; omega)
      rw [← HB.out]; unfold eqV; rw [e]; simp)
    have hi : ¬ (n2 : Int) = (n2' : Int) := by omega
    have m1 : ((n2 : Int) == (n2' : Int)) = false := beq_eq_false_iff_ne.2 hi
    have m2 : ((n2 : Int) != (n2' : Int)) = true := bne_iff_ne.2 hi
    clear e1 e4 hi hm2
    go_enter Try.func89, Try.ntmps89
    go_wp2
    go_quiet ((first
      | (go_at_call 147; exact QW.calls (l00Same' _ _ _ _ true _ (((QW.refl _).drewN _).row H1.out) (((QW.refl _).drewN _).row H1'.out) E1.out))
      | (go_at_call 147; exact QW.calls (l00Same' _ _ _ _ true _ (((QW.refl _).drewN _).row H4.out) (((QW.refl _).drewN _).row H4'.out) E4.out))))
    go_wp2
    go_ret
    exact ⟨ret_bool HF.out.symm, (QW.refl _).drewN _⟩
  subst hm2
  by_cases hm3 : n3 = n3'
  case neg =>
    have HF : Hid (bb = false) := Lib.hid (by
      have e : eqB ps ps' = false := eqB_no fun e => hm3 (by have h1 := L3.out; have h2 := L3'.out; rw [e] at h1; omega)
      rw [← HB.out]; unfold eqV; rw [e]; simp)
    have hi : ¬ (n3 : Int) = (n3' : Int) := by omega
    have m1 : ((n3 : Int) == (n3' : Int)) = false := beq_eq_false_iff_ne.2 hi
    have m2 : ((n3 : Int) != (n3' : Int)) = true := bne_iff_ne.2 hi
    clear e1 e4 hi hm3
    go_enter Try.func89, Try.ntmps89
    go_wp2
    go_quiet ((first
      | (go_at_call 147; exact QW.calls (l00Same' _ _ _ _ true _ (((QW.refl _).drewN _).row H1.out) (((QW.refl _).drewN _).row H1'.out) E1.out))
      | (go_at_call 147; exact QW.calls (l00Same' _ _ _ _ true _ (((QW.refl _).drewN _).row H4.out) (((QW.refl _).drewN _).row H4'.out) E4.out))))
    go_wp2
    go_ret
    exact ⟨ret_bool HF.out.symm, (QW.refl _).drewN _⟩
  subst hm3
  clear e1 e4
  go_enter Try.func89, Try.ntmps89
  go_wp2
  go_quiet ((first
  | (go_at_call 147; exact QW.calls (l00Same' _ _ _ _ true _ (((QW.refl _).drewN _).row H1.out) (((QW.refl _).drewN _).row H1'.out) E1.out))
  | (go_at_call 147; exact QW.calls (l00Same' _ _ _ _ true _ (((QW.refl _).drewN _).row H4.out) (((QW.refl _).drewN _).row H4'.out) E4.out))))
  go_wp2
  go_loopw [5] (fun i wr => ∃ j : Nat, j ≤ n2 ∧ i = .int .i64 j ∧ (∀ q, q < j → intN ts (q * 3) = intN ts' (q * 3) ∧ intN ts (q * 3 + 1) = intN ts' (q * 3 + 1) ∧ intN ts (q * 3 + 2) = intN ts' (q * 3 + 2)) ∧ QW w wr) (fun i _ => n2 - (intOf i).toNat)
  case atStart => exact ⟨0, Nat.zero_le _, rfl, fun q hq => absurd hq (Nat.not_lt_zero _), (QW.refl _).drewN _⟩
  case round =>
    obtain ⟨j, hj, rfl, hall, hq⟩ := hrel
    have HA := Lib.hid hall
    have HQ := Lib.hid hq
    clear hall hq
    have u2 := HQ.out.cell x2
    have v2 := HQ.out.cell y2
    have hn1 : (j : Int) ≤ n2 := by omega
    by_cases hlt : j < n2
    · obtain ⟨b1, off1, ha1, hcell1⟩ := G2.out (by omega)
      subst ha1
      obtain ⟨b2, off2, ha2, hcell2⟩ := G2'.out (by omega)
      subst ha2
      have g0 := HQ.out.cell (hcell1 (j * 3) (by omega))
      have g1 := HQ.out.cell (hcell1 (j * 3 + 1) (by omega))
      have g2 := HQ.out.cell (hcell1 (j * 3 + 2) (by omega))
      have f0 := HQ.out.cell (hcell2 (j * 3) (by omega))
      have f1 := HQ.out.cell (hcell2 (j * 3 + 1) (by omega))
      have f2 := HQ.out.cell (hcell2 (j * 3 + 2) (by omega))
      rw [← Nat.add_assoc] at g1 g2 f1 f2
      have hlt' : (j : Int) < (n2 : Int) := by omega
      have hgd := fun (op : BinOp) (a b : Operand) (u v : Array Value) (w : World) => run_eqGuard_agg w op 132 a b u v guardT_ArcStep
      clear hcell1 hcell2
      by_cases he : intN ts (j * 3) = intN ts' (j * 3) ∧ intN ts (j * 3 + 1) = intN ts' (j * 3 + 1) ∧ intN ts (j * 3 + 2) = intN ts' (j * 3 + 2)
      · have HE := Lib.hid he
        rw [← he.1] at f0
        rw [← he.2.1] at f1
        rw [← he.2.2] at f2
        have hne := neq_ArcStep_same (intN ts (j * 3)) (intN ts (j * 3 + 1)) (intN ts (j * 3 + 2))
        clear he
        generalize intN ts (j * 3) = x at g0 f0 hne
        generalize intN ts (j * 3 + 1) = y at g1 f1 hne
        generalize intN ts (j * 3 + 2) = z at g2 f2 hne
        go_wp2
        go_quiet (fail)
        go_wp2
        go_roundw
        case rel =>
          refine ⟨j + 1, by omega, by go_num, fun q hq => ?_, HQ.out.drewN _⟩
          by_cases hjk : q = j
          · subst hjk; exact HE.out
          · exact HA.out q (by omega)
        case measure => simp [intOf]; omega
      · have HF : Hid (bb = false) := Lib.hid (by
          have e : eqB ts ts' = false := eqB_no fun e => he (by rw [e]; exact ⟨rfl, rfl, rfl⟩)
          rw [← HB.out]; unfold eqV; rw [e]; simp)
        have hne := neq_ArcStep_other _ _ _ _ _ _ he
        clear he
        generalize intN ts (j * 3) = x at g0 hne
        generalize intN ts (j * 3 + 1) = y at g1 hne
        generalize intN ts (j * 3 + 2) = z at g2 hne
        generalize intN ts' (j * 3) = x2 at f0 hne
        generalize intN ts' (j * 3 + 1) = y2 at f1 hne
        generalize intN ts' (j * 3 + 2) = z2 at f2 hne
        go_wp2
        go_quiet (fail)
        go_wp2
        go_ret
        exact ⟨ret_bool HF.out.symm, HQ.out.drewN _⟩
    · obtain rfl : j = n2 := by omega
      have ET := Lib.hid (eqB_yes (trip_ext L2.out L2'.out rfl HA.out))
      have EA := ET
      clear ET
      have HQ9 := HQ
      clear HQ HA
      go_wp2
      clear u2 v2
      go_loopw [6] (fun i wr => ∃ j : Nat, j ≤ n3 ∧ i = .int .i64 j ∧ (∀ q, q < j → intN ps (q * 3) = intN ps' (q * 3) ∧ intN ps (q * 3 + 1) = intN ps' (q * 3 + 1) ∧ intN ps (q * 3 + 2) = intN ps' (q * 3 + 2)) ∧ QW w wr) (fun i _ => n3 - (intOf i).toNat)
      case atStart => exact ⟨0, Nat.zero_le _, rfl, fun q hq => absurd hq (Nat.not_lt_zero _), HQ9.out⟩
      case round =>
        obtain ⟨j, hj, rfl, hall, hq⟩ := hrel
        have HA := Lib.hid hall
        have HQ := Lib.hid hq
        clear hall hq
        have u3 := HQ.out.cell x3
        have v3 := HQ.out.cell y3
        have hn1 : (j : Int) ≤ n3 := by omega
        by_cases hlt : j < n3
        · obtain ⟨b1, off1, ha1, hcell1⟩ := G3.out (by omega)
          subst ha1
          obtain ⟨b2, off2, ha2, hcell2⟩ := G3'.out (by omega)
          subst ha2
          have g0 := HQ.out.cell (hcell1 (j * 3) (by omega))
          have g1 := HQ.out.cell (hcell1 (j * 3 + 1) (by omega))
          have g2 := HQ.out.cell (hcell1 (j * 3 + 2) (by omega))
          have f0 := HQ.out.cell (hcell2 (j * 3) (by omega))
          have f1 := HQ.out.cell (hcell2 (j * 3 + 1) (by omega))
          have f2 := HQ.out.cell (hcell2 (j * 3 + 2) (by omega))
          rw [← Nat.add_assoc] at g1 g2 f1 f2
          have hlt' : (j : Int) < (n3 : Int) := by omega
          have hgd := fun (op : BinOp) (a b : Operand) (u v : Array Value) (w : World) => run_eqGuard_agg w op 135 a b u v guardT_PairStep
          clear hcell1 hcell2
          by_cases he : intN ps (j * 3) = intN ps' (j * 3) ∧ intN ps (j * 3 + 1) = intN ps' (j * 3 + 1) ∧ intN ps (j * 3 + 2) = intN ps' (j * 3 + 2)
          · have HE := Lib.hid he
            rw [← he.1] at f0
            rw [← he.2.1] at f1
            rw [← he.2.2] at f2
            have hne := neq_PairStep_same (intN ps (j * 3)) (intN ps (j * 3 + 1)) (intN ps (j * 3 + 2))
            clear he
            generalize intN ps (j * 3) = x at g0 f0 hne
            generalize intN ps (j * 3 + 1) = y at g1 f1 hne
            generalize intN ps (j * 3 + 2) = z at g2 f2 hne
            go_wp2
            go_quiet (fail)
            go_wp2
            go_roundw
            case rel =>
              refine ⟨j + 1, by omega, by go_num, fun q hq => ?_, HQ.out.drewN _⟩
              by_cases hjk : q = j
              · subst hjk; exact HE.out
              · exact HA.out q (by omega)
            case measure => simp [intOf]; omega
          · have HF : Hid (bb = false) := Lib.hid (by
              have e : eqB ps ps' = false := eqB_no fun e => he (by rw [e]; exact ⟨rfl, rfl, rfl⟩)
              rw [← HB.out]; unfold eqV; rw [e]; simp)
            have hne := neq_PairStep_other _ _ _ _ _ _ he
            clear he
            generalize intN ps (j * 3) = x at g0 hne
            generalize intN ps (j * 3 + 1) = y at g1 hne
            generalize intN ps (j * 3 + 2) = z at g2 hne
            generalize intN ps' (j * 3) = x2 at f0 hne
            generalize intN ps' (j * 3 + 1) = y2 at f1 hne
            generalize intN ps' (j * 3 + 2) = z2 at f2 hne
            go_wp2
            go_quiet (fail)
            go_wp2
            go_ret
            exact ⟨ret_bool HF.out.symm, HQ.out.drewN _⟩
        · obtain rfl : j = n3 := by omega
          have ET := Lib.hid (eqB_yes (trip_ext L3.out L3'.out rfl HA.out))
          have HF : Hid (bb = true) := Lib.hid (by rw [← HB.out]; unfold eqV; rw [E1.out, E4.out, EA.out, ET.out, eqB_yes rfl]; rfl)
          go_wp2
          go_ret
          exact ⟨ret_bool HF.out.symm, HQ.out⟩

end Go.Proofs.Ytclhcnfgpkhplaa
