/-
  Verdicts: the laws' measures, copies and comparisons of them.
-/
import Derived.Test.YtclhcnfgpkhplaaTripArc
import Derived.Test.YtclhcnfgpkhplaaTripPair
import Derived.Test.YtclhcnfgpkhplaaTab
import Derived.Test.YtclhcnfgpkhplaaKept3
namespace Go.Proofs.Ytclhcnfgpkhplaa
open Go.RowKit

set_option linter.unusedSimpArgs false in
set_option maxHeartbeats 1000000 in
set_option maxRecDepth 100000 in
theorem szVerdict (k : Int) (a1 : Option Addr) (n1 c1 : Nat) (vs : List Int) (a2 : Option Addr) (n2 c2 : Nat) (mA : Nat) (ts : List Int) (a3 : Option Addr) (n3 c3 : Nat) (mP : Nat) (ps : List Int) (a4 : Option Addr) (n4 c4 : Nat) (us : List Int) (left : Int) (w : World) (h1 : RowAt w (.slice a1 n1 c1) vs) (h2 : TripAt w (.slice a2 n2 c2) mA ts) (h3 : TripAt w (.slice a3 n3 c3) mP ps) (h4 : RowAt w (.slice a4 n4 c4) us) (h0 : 0 ≤ left) (h1' : left ≤ 1048576) :
    Calls Try.prog 40 #[.agg #[.int .i64 k, .slice a1 n1 c1, .slice a2 n2 c2, .slice a3 n3 c3, .slice a4 n4 c4], .int .i64 left] w fun e w' => e = .returned (.int .i64 (szF (vs.length + mA + mP + us.length) left)) ∧ Below w.heap.size w w' := by
  have HW : Hid (Below w.heap.size w (w.alloc (.cells #[.int .i64 k, .slice a1 n1 c1, .slice a2 n2 c2, .slice a3 n3 c3, .slice a4 n4 c4] 68))) := Lib.hid ((Below.refl _ _).alloc (Nat.le_refl _) _)
  have H1 := Lib.hid (h1.below HW.out)
  have H2 := Lib.hid (h2.below HW.out)
  have H3 := Lib.hid (h3.below HW.out)
  have H4 := Lib.hid (h4.below HW.out)
  have P0 := Lib.hid h0
  have Q0 := Lib.hid h1'
  clear h1 h2 h3 h4 h0 h1'
  by_cases g0 : left < (vs.length : Int)
  · have Z0 := Lib.hid (szF_no (t := vs.length) (l := left) g0)
    have HF := Lib.hid (szF_no (t := vs.length + mA + mP + us.length) (l := left) (by omega))
    go_enter Try.func40, Try.ntmps40
    go_wp2_with fail
    refine (szRow _ _ _ _ H1.out P0.out Q0.out).mono ?_
    rw [Z0.out]
    rintro e w2 ⟨rfl, rfl⟩
    go_wp2
    go_ret
    exact ⟨ret_int HF.out.symm, HW.out⟩
  have Z0 := Lib.hid (szF_yes (t := vs.length) (l := left) (by omega))
  have P1 : Hid (0 ≤ left - (vs.length : Int)) := Lib.hid (by omega)
  have Q1 : Hid (left - (vs.length : Int) ≤ 1048576) := Lib.hid (by have := Q0.out; omega)
  have n0' : ¬ left - (vs.length : Int) < 0 := by omega
  by_cases g1 : left - (vs.length : Int) < (mA : Int)
  · have Z1 := Lib.hid (szF_no (t := mA) (l := left - (vs.length : Int)) g1)
    have HF := Lib.hid (szF_no (t := vs.length + mA + mP + us.length) (l := left) (by omega))
    go_enter Try.func40, Try.ntmps40
    go_wp2_with fail
    refine (szRow _ _ _ _ H1.out P0.out Q0.out).mono ?_
    rw [Z0.out]
    rintro e w2 ⟨rfl, rfl⟩
    go_wp2_with fail
    refine (szArcStepS _ _ ts _ _ H2.out P1.out Q1.out).mono ?_
    rw [Z1.out]
    rintro e w3 ⟨rfl, rfl⟩
    go_wp2
    go_ret
    exact ⟨ret_int HF.out.symm, HW.out⟩
  have Z1 := Lib.hid (szF_yes (t := mA) (l := left - (vs.length : Int)) (by omega))
  have P2 : Hid (0 ≤ left - (vs.length : Int) - (mA : Int)) := Lib.hid (by omega)
  have Q2 : Hid (left - (vs.length : Int) - (mA : Int) ≤ 1048576) := Lib.hid (by have := Q1.out; omega)
  have n1' : ¬ left - (vs.length : Int) - (mA : Int) < 0 := by omega
  by_cases g2 : left - (vs.length : Int) - (mA : Int) < (mP : Int)
  · have Z2 := Lib.hid (szF_no (t := mP) (l := left - (vs.length : Int) - (mA : Int)) g2)
    have HF := Lib.hid (szF_no (t := vs.length + mA + mP + us.length) (l := left) (by omega))
    go_enter Try.func40, Try.ntmps40
    go_wp2_with fail
    refine (szRow _ _ _ _ H1.out P0.out Q0.out).mono ?_
    rw [Z0.out]
    rintro e w2 ⟨rfl, rfl⟩
    go_wp2_with fail
    refine (szArcStepS _ _ ts _ _ H2.out P1.out Q1.out).mono ?_
    rw [Z1.out]
    rintro e w3 ⟨rfl, rfl⟩
    go_wp2_with fail
    refine (szPairStepS _ _ ps _ _ H3.out P2.out Q2.out).mono ?_
    rw [Z2.out]
    rintro e w4 ⟨rfl, rfl⟩
    go_wp2
    go_ret
    exact ⟨ret_int HF.out.symm, HW.out⟩
  have Z2 := Lib.hid (szF_yes (t := mP) (l := left - (vs.length : Int) - (mA : Int)) (by omega))
  have P3 : Hid (0 ≤ left - (vs.length : Int) - (mA : Int) - (mP : Int)) := Lib.hid (by omega)
  have Q3 : Hid (left - (vs.length : Int) - (mA : Int) - (mP : Int) ≤ 1048576) := Lib.hid (by have := Q2.out; omega)
  have n2' : ¬ left - (vs.length : Int) - (mA : Int) - (mP : Int) < 0 := by omega
  by_cases g3 : left - (vs.length : Int) - (mA : Int) - (mP : Int) < (us.length : Int)
  · have Z3 := Lib.hid (szF_no (t := us.length) (l := left - (vs.length : Int) - (mA : Int) - (mP : Int)) g3)
    have HF := Lib.hid (szF_no (t := vs.length + mA + mP + us.length) (l := left) (by omega))
    go_enter Try.func40, Try.ntmps40
    go_wp2_with fail
    refine (szRow _ _ _ _ H1.out P0.out Q0.out).mono ?_
    rw [Z0.out]
    rintro e w2 ⟨rfl, rfl⟩
    go_wp2_with fail
    refine (szArcStepS _ _ ts _ _ H2.out P1.out Q1.out).mono ?_
    rw [Z1.out]
    rintro e w3 ⟨rfl, rfl⟩
    go_wp2_with fail
    refine (szPairStepS _ _ ps _ _ H3.out P2.out Q2.out).mono ?_
    rw [Z2.out]
    rintro e w4 ⟨rfl, rfl⟩
    go_wp2_with fail
    refine (szRow _ _ _ _ H4.out P3.out Q3.out).mono ?_
    rw [Z3.out]
    rintro e w5 ⟨rfl, rfl⟩
    go_wp2
    go_ret
    exact ⟨ret_int HF.out.symm, HW.out⟩
  have Z3 := Lib.hid (szF_yes (t := us.length) (l := left - (vs.length : Int) - (mA : Int) - (mP : Int)) (by omega))
  have P4 : Hid (0 ≤ left - (vs.length : Int) - (mA : Int) - (mP : Int) - (us.length : Int)) := Lib.hid (by omega)
  have Q4 : Hid (left - (vs.length : Int) - (mA : Int) - (mP : Int) - (us.length : Int) ≤ 1048576) := Lib.hid (by have := Q3.out; omega)
  have n3' : ¬ left - (vs.length : Int) - (mA : Int) - (mP : Int) - (us.length : Int) < 0 := by omega
  have HF := Lib.hid (szF_yes (t := vs.length + mA + mP + us.length) (l := left) (by omega))
  have HE : Hid (left - (vs.length : Int) - (mA : Int) - (mP : Int) - (us.length : Int) = left - ((vs.length + mA + mP + us.length : Nat) : Int)) := Lib.hid (by omega)
  go_enter Try.func40, Try.ntmps40
  go_wp2_with fail
  refine (szRow _ _ _ _ H1.out P0.out Q0.out).mono ?_
  rw [Z0.out]
  rintro e w2 ⟨rfl, rfl⟩
  go_wp2_with fail
  refine (szArcStepS _ _ ts _ _ H2.out P1.out Q1.out).mono ?_
  rw [Z1.out]
  rintro e w3 ⟨rfl, rfl⟩
  go_wp2_with fail
  refine (szPairStepS _ _ ps _ _ H3.out P2.out Q2.out).mono ?_
  rw [Z2.out]
  rintro e w4 ⟨rfl, rfl⟩
  go_wp2_with fail
  refine (szRow _ _ _ _ H4.out P3.out Q3.out).mono ?_
  rw [Z3.out]
  rintro e w5 ⟨rfl, rfl⟩
  go_wp2
  go_ret
  exact ⟨ret_int (by rw [HF.out, ← HE.out]), HW.out⟩

/-- what a verdict is compared by -/
def eqV (k : Int) (vs ts ps us : List Int) (k' : Int) (vs' ts' ps' us' : List Int) : Bool := eqB k k' && (eqB vs vs' && (eqB ts ts' && (eqB ps ps' && eqB us us')))
theorem eqV_same (k : Int) (vs ts ps us : List Int) : eqV k vs ts ps us k vs ts ps us = true := by simp [eqV, eqB]

set_option linter.unusedSimpArgs false in
set_option maxHeartbeats 1000000 in
set_option maxRecDepth 100000 in
theorem eqVerdict (k : Int) (a1 : Option Addr) (n1 c1 : Nat) (vs : List Int) (a2 : Option Addr) (n2 c2 : Nat) (mA : Nat) (ts : List Int) (a3 : Option Addr) (n3 c3 : Nat) (mP : Nat) (ps : List Int) (a4 : Option Addr) (n4 c4 : Nat) (us : List Int) (k' : Int) (a1' : Option Addr) (n1' c1' : Nat) (vs' : List Int) (a2' : Option Addr) (n2' c2' : Nat) (mA' : Nat) (ts' : List Int) (a3' : Option Addr) (n3' c3' : Nat) (mP' : Nat) (ps' : List Int) (a4' : Option Addr) (n4' c4' : Nat) (us' : List Int) (bb : Bool) (w : World) (h1 : RowAt w (.slice a1 n1 c1) vs) (h2 : TripAt w (.slice a2 n2 c2) mA ts) (h3 : TripAt w (.slice a3 n3 c3) mP ps) (h4 : RowAt w (.slice a4 n4 c4) us) (h1' : RowAt w (.slice a1' n1' c1') vs') (h2' : TripAt w (.slice a2' n2' c2') mA' ts') (h3' : TripAt w (.slice a3' n3' c3') mP' ps') (h4' : RowAt w (.slice a4' n4' c4') us') (hb : eqV k vs ts ps us k' vs' ts' ps' us' = bb) :
    Calls Try.prog 44 #[.agg #[.int .i64 k, .slice a1 n1 c1, .slice a2 n2 c2, .slice a3 n3 c3, .slice a4 n4 c4], .agg #[.int .i64 k', .slice a1' n1' c1', .slice a2' n2' c2', .slice a3' n3' c3', .slice a4' n4' c4']] w fun e w' => e = .returned (.bool bb) ∧ Below w.heap.size w w' := by
  have HW : Hid (Below w.heap.size w ((w.alloc (.cells #[.int .i64 k, .slice a1 n1 c1, .slice a2 n2 c2, .slice a3 n3 c3, .slice a4 n4 c4] 74)).alloc (.cells #[.int .i64 k', .slice a1' n1' c1', .slice a2' n2' c2', .slice a3' n3' c3', .slice a4' n4' c4'] 74))) := Lib.hid (((Below.refl _ _).alloc (Nat.le_refl _) _).alloc (by simp) _)
  have HB0 : Hid (Below ((w.alloc (.cells #[.int .i64 k, .slice a1 n1 c1, .slice a2 n2 c2, .slice a3 n3 c3, .slice a4 n4 c4] 74)).alloc (.cells #[.int .i64 k', .slice a1' n1' c1', .slice a2' n2' c2', .slice a3' n3' c3', .slice a4' n4' c4'] 74)).heap.size ((w.alloc (.cells #[.int .i64 k, .slice a1 n1 c1, .slice a2 n2 c2, .slice a3 n3 c3, .slice a4 n4 c4] 74)).alloc (.cells #[.int .i64 k', .slice a1' n1' c1', .slice a2' n2' c2', .slice a3' n3' c3', .slice a4' n4' c4'] 74)) ((w.alloc (.cells #[.int .i64 k, .slice a1 n1 c1, .slice a2 n2 c2, .slice a3 n3 c3, .slice a4 n4 c4] 74)).alloc (.cells #[.int .i64 k', .slice a1' n1' c1', .slice a2' n2' c2', .slice a3' n3' c3', .slice a4' n4' c4'] 74))) := Lib.hid (Below.refl _ _)
  have H1 := Lib.hid (h1.below HW.out)
  have H2 := Lib.hid (h2.below HW.out)
  have H3 := Lib.hid (h3.below HW.out)
  have H4 := Lib.hid (h4.below HW.out)
  have H1' := Lib.hid (h1'.below HW.out)
  have H2' := Lib.hid (h2'.below HW.out)
  have H3' := Lib.hid (h3'.below HW.out)
  have H4' := Lib.hid (h4'.below HW.out)
  have HX := Lib.hid ((Box.new 74 w #[.int .i64 k, .slice a1 n1 c1, .slice a2 n2 c2, .slice a3 n3 c3, .slice a4 n4 c4]).below ((Below.refl _ _).alloc (Nat.le_refl _) (.cells #[.int .i64 k', .slice a1' n1' c1', .slice a2' n2' c2', .slice a3' n3' c3', .slice a4' n4' c4'] 74)))
  have HY : Hid (Box 74 ((w.alloc (.cells #[.int .i64 k, .slice a1 n1 c1, .slice a2 n2 c2, .slice a3 n3 c3, .slice a4 n4 c4] 74)).alloc (.cells #[.int .i64 k', .slice a1' n1' c1', .slice a2' n2' c2', .slice a3' n3' c3', .slice a4' n4' c4'] 74)) (w.heap.size + 1) #[.int .i64 k', .slice a1' n1' c1', .slice a2' n2' c2', .slice a3' n3' c3', .slice a4' n4' c4']) := Lib.hid (by
    have h := Box.new 74 (w.alloc (.cells #[.int .i64 k, .slice a1 n1 c1, .slice a2 n2 c2, .slice a3 n3 c3, .slice a4 n4 c4] 74)) #[.int .i64 k', .slice a1' n1' c1', .slice a2' n2' c2', .slice a3' n3' c3', .slice a4' n4' c4']
    rwa [World.size_alloc] at h)
  have x0_0 := HX.out.c 0 rfl
  have y0_0 := HY.out.c 0 rfl
  have x1_0 := HX.out.c 1 rfl
  have y1_0 := HY.out.c 1 rfl
  have x2_0 := HX.out.c 2 rfl
  have y2_0 := HY.out.c 2 rfl
  have x3_0 := HX.out.c 3 rfl
  have y3_0 := HY.out.c 3 rfl
  have x4_0 := HX.out.c 4 rfl
  have y4_0 := HY.out.c 4 rfl
  clear h1 h2 h3 h4 h1' h2' h3' h4'
  by_cases hk : k = k'
  case neg =>
    have HF : Hid (bb = false) := Lib.hid (by rw [← hb]; simp [eqV, eqB, hk])
    have m1 : (k == k') = false := beq_eq_false_iff_ne.2 hk
    have m2 : (k != k') = true := bne_iff_ne.2 hk
    clear hk hb
    go_enter Try.func44, Try.ntmps44
    go_wp2
    go_ret
    exact ⟨ret_bool HF.out.symm, HW.out⟩
  subst hk
  cases e0 : eqB vs vs' with
  | false =>
    have E0 := Lib.hid e0
    have HF : Hid (bb = false) := Lib.hid (by rw [← hb]; unfold eqV; rw [e0]; simp)
    clear hb e0
    go_enter Try.func44, Try.ntmps44
    go_wp2_with fail
    refine (eqRow' _ _ _ _ false _ (H1.out.below HB0.out) (H1'.out.below HB0.out) E0.out).mono ?_
    rintro e w2 ⟨rfl, hq⟩
    have HQ0 := Lib.hid (hq.bel : Below _ _ w2)
    have HB1 := Lib.hid (HB0.out.trans (HQ0.out.mono HB0.out.size))
    have x2_1 := below_cell HQ0.out x2_0
    have y2_1 := below_cell HQ0.out y2_0
    have x3_1 := below_cell HQ0.out x3_0
    have y3_1 := below_cell HQ0.out y3_0
    have x4_1 := below_cell HQ0.out x4_0
    have y4_1 := below_cell HQ0.out y4_0
    clear hq x2_0 y2_0 x3_0 y3_0 x4_0 y4_0
    go_wp2
    go_ret
    exact ⟨ret_bool HF.out.symm, HW.out.trans (HB1.out.mono HW.out.size)⟩
  | true =>
  have E0 := Lib.hid e0
  cases e1 : eqB ts ts' with
  | false =>
    have E1 := Lib.hid e1
    have HF : Hid (bb = false) := Lib.hid (by rw [← hb]; unfold eqV; rw [e1]; simp)
    clear hb e1
    go_enter Try.func44, Try.ntmps44
    go_wp2_with fail
    refine (eqRow' _ _ _ _ true _ (H1.out.below HB0.out) (H1'.out.below HB0.out) E0.out).mono ?_
    rintro e w2 ⟨rfl, hq⟩
    have HQ0 := Lib.hid (hq.bel : Below _ _ w2)
    have HB1 := Lib.hid (HB0.out.trans (HQ0.out.mono HB0.out.size))
    have x2_1 := below_cell HQ0.out x2_0
    have y2_1 := below_cell HQ0.out y2_0
    have x3_1 := below_cell HQ0.out x3_0
    have y3_1 := below_cell HQ0.out y3_0
    have x4_1 := below_cell HQ0.out x4_0
    have y4_1 := below_cell HQ0.out y4_0
    clear hq x2_0 y2_0 x3_0 y3_0 x4_0 y4_0
    go_wp2_with fail
    refine (eqArcStepS' _ _ _ _ _ _ false _ (H2.out.below HB1.out) (H2'.out.below HB1.out) E1.out).mono ?_
    rintro e w3 ⟨rfl, hq⟩
    have HQ1 := Lib.hid (hq : Below _ _ w3)
    have HB2 := Lib.hid (HB1.out.trans (HQ1.out.mono HB1.out.size))
    have x3_2 := below_cell HQ1.out x3_1
    have y3_2 := below_cell HQ1.out y3_1
    have x4_2 := below_cell HQ1.out x4_1
    have y4_2 := below_cell HQ1.out y4_1
    clear hq x3_1 y3_1 x4_1 y4_1
    go_wp2
    go_ret
    exact ⟨ret_bool HF.out.symm, HW.out.trans (HB2.out.mono HW.out.size)⟩
  | true =>
  have E1 := Lib.hid e1
  cases e2 : eqB ps ps' with
  | false =>
    have E2 := Lib.hid e2
    have HF : Hid (bb = false) := Lib.hid (by rw [← hb]; unfold eqV; rw [e2]; simp)
    clear hb e2
    go_enter Try.func44, Try.ntmps44
    go_wp2_with fail
    refine (eqRow' _ _ _ _ true _ (H1.out.below HB0.out) (H1'.out.below HB0.out) E0.out).mono ?_
    rintro e w2 ⟨rfl, hq⟩
    have HQ0 := Lib.hid (hq.bel : Below _ _ w2)
    have HB1 := Lib.hid (HB0.out.trans (HQ0.out.mono HB0.out.size))
    have x2_1 := below_cell HQ0.out x2_0
    have y2_1 := below_cell HQ0.out y2_0
    have x3_1 := below_cell HQ0.out x3_0
    have y3_1 := below_cell HQ0.out y3_0
    have x4_1 := below_cell HQ0.out x4_0
    have y4_1 := below_cell HQ0.out y4_0
    clear hq x2_0 y2_0 x3_0 y3_0 x4_0 y4_0
    go_wp2_with fail
    refine (eqArcStepS' _ _ _ _ _ _ true _ (H2.out.below HB1.out) (H2'.out.below HB1.out) E1.out).mono ?_
    rintro e w3 ⟨rfl, hq⟩
    have HQ1 := Lib.hid (hq : Below _ _ w3)
    have HB2 := Lib.hid (HB1.out.trans (HQ1.out.mono HB1.out.size))
    have x3_2 := below_cell HQ1.out x3_1
    have y3_2 := below_cell HQ1.out y3_1
    have x4_2 := below_cell HQ1.out x4_1
    have y4_2 := below_cell HQ1.out y4_1
    clear hq x3_1 y3_1 x4_1 y4_1
    go_wp2_with fail
    refine (eqPairStepS' _ _ _ _ _ _ false _ (H3.out.below HB2.out) (H3'.out.below HB2.out) E2.out).mono ?_
    rintro e w4 ⟨rfl, hq⟩
    have HQ2 := Lib.hid (hq : Below _ _ w4)
    have HB3 := Lib.hid (HB2.out.trans (HQ2.out.mono HB2.out.size))
    have x4_3 := below_cell HQ2.out x4_2
    have y4_3 := below_cell HQ2.out y4_2
    clear hq x4_2 y4_2
    go_wp2
    go_ret
    exact ⟨ret_bool HF.out.symm, HW.out.trans (HB3.out.mono HW.out.size)⟩
  | true =>
  have E2 := Lib.hid e2
  cases e3 : eqB us us' with
  | false =>
    have E3 := Lib.hid e3
    have HF : Hid (bb = false) := Lib.hid (by rw [← hb]; unfold eqV; rw [e3]; simp)
    clear hb e3
    go_enter Try.func44, Try.ntmps44
    go_wp2_with fail
    refine (eqRow' _ _ _ _ true _ (H1.out.below HB0.out) (H1'.out.below HB0.out) E0.out).mono ?_
    rintro e w2 ⟨rfl, hq⟩
    have HQ0 := Lib.hid (hq.bel : Below _ _ w2)
    have HB1 := Lib.hid (HB0.out.trans (HQ0.out.mono HB0.out.size))
    have x2_1 := below_cell HQ0.out x2_0
    have y2_1 := below_cell HQ0.out y2_0
    have x3_1 := below_cell HQ0.out x3_0
    have y3_1 := below_cell HQ0.out y3_0
    have x4_1 := below_cell HQ0.out x4_0
    have y4_1 := below_cell HQ0.out y4_0
    clear hq x2_0 y2_0 x3_0 y3_0 x4_0 y4_0
    go_wp2_with fail
    refine (eqArcStepS' _ _ _ _ _ _ true _ (H2.out.below HB1.out) (H2'.out.below HB1.out) E1.out).mono ?_
    rintro e w3 ⟨rfl, hq⟩
    have HQ1 := Lib.hid (hq : Below _ _ w3)
    have HB2 := Lib.hid (HB1.out.trans (HQ1.out.mono HB1.out.size))
    have x3_2 := below_cell HQ1.out x3_1
    have y3_2 := below_cell HQ1.out y3_1
    have x4_2 := below_cell HQ1.out x4_1
    have y4_2 := below_cell HQ1.out y4_1
    clear hq x3_1 y3_1 x4_1 y4_1
    go_wp2_with fail
    refine (eqPairStepS' _ _ _ _ _ _ true _ (H3.out.below HB2.out) (H3'.out.below HB2.out) E2.out).mono ?_
    rintro e w4 ⟨rfl, hq⟩
    have HQ2 := Lib.hid (hq : Below _ _ w4)
    have HB3 := Lib.hid (HB2.out.trans (HQ2.out.mono HB2.out.size))
    have x4_3 := below_cell HQ2.out x4_2
    have y4_3 := below_cell HQ2.out y4_2
    clear hq x4_2 y4_2
    go_wp2_with fail
    refine (eqRow' _ _ _ _ false _ (H4.out.below HB3.out) (H4'.out.below HB3.out) E3.out).mono ?_
    rintro e w5 ⟨rfl, hq⟩
    have HQ3 := Lib.hid (hq.bel : Below _ _ w5)
    have HB4 := Lib.hid (HB3.out.trans (HQ3.out.mono HB3.out.size))
    clear hq 
    go_wp2
    go_ret
    exact ⟨ret_bool HF.out.symm, HW.out.trans (HB4.out.mono HW.out.size)⟩
  | true =>
  have E3 := Lib.hid e3
  have HF : Hid (bb = true) := Lib.hid (by rw [← hb]; unfold eqV; rw [e0, e1, e2, e3, eqB_yes rfl]; rfl)
  clear hb e0 e1 e2 e3
  go_enter Try.func44, Try.ntmps44
  go_wp2_with fail
  refine (eqRow' _ _ _ _ true _ (H1.out.below HB0.out) (H1'.out.below HB0.out) E0.out).mono ?_
  rintro e w2 ⟨rfl, hq⟩
  have HQ0 := Lib.hid (hq.bel : Below _ _ w2)
  have HB1 := Lib.hid (HB0.out.trans (HQ0.out.mono HB0.out.size))
  have x2_1 := below_cell HQ0.out x2_0
  have y2_1 := below_cell HQ0.out y2_0
  have x3_1 := below_cell HQ0.out x3_0
  have y3_1 := below_cell HQ0.out y3_0
  have x4_1 := below_cell HQ0.out x4_0
  have y4_1 := below_cell HQ0.out y4_0
  clear hq x2_0 y2_0 x3_0 y3_0 x4_0 y4_0
  go_wp2_with fail
  refine (eqArcStepS' _ _ _ _ _ _ true _ (H2.out.below HB1.out) (H2'.out.below HB1.out) E1.out).mono ?_
  rintro e w3 ⟨rfl, hq⟩
  have HQ1 := Lib.hid (hq : Below _ _ w3)
  have HB2 := Lib.hid (HB1.out.trans (HQ1.out.mono HB1.out.size))
  have x3_2 := below_cell HQ1.out x3_1
  have y3_2 := below_cell HQ1.out y3_1
  have x4_2 := below_cell HQ1.out x4_1
  have y4_2 := below_cell HQ1.out y4_1
  clear hq x3_1 y3_1 x4_1 y4_1
  go_wp2_with fail
  refine (eqPairStepS' _ _ _ _ _ _ true _ (H3.out.below HB2.out) (H3'.out.below HB2.out) E2.out).mono ?_
  rintro e w4 ⟨rfl, hq⟩
  have HQ2 := Lib.hid (hq : Below _ _ w4)
  have HB3 := Lib.hid (HB2.out.trans (HQ2.out.mono HB2.out.size))
  have x4_3 := below_cell HQ2.out x4_2
  have y4_3 := below_cell HQ2.out y4_2
  clear hq x4_2 y4_2
  go_wp2_with fail
  refine (eqRow' _ _ _ _ true _ (H4.out.below HB3.out) (H4'.out.below HB3.out) E3.out).mono ?_
  rintro e w5 ⟨rfl, hq⟩
  have HQ3 := Lib.hid (hq.bel : Below _ _ w5)
  have HB4 := Lib.hid (HB3.out.trans (HQ3.out.mono HB3.out.size))
  clear hq 
  go_wp2
  go_ret
  exact ⟨ret_bool HF.out.symm, HW.out.trans (HB4.out.mono HW.out.size)⟩

theorem OwnRowE.storedV {w : World} {B E : Nat} {v : Value} {xs : List Int} (h : OwnRowE w B E v xs) {p : Addr} (hp : p.block < B) (u : Value) : OwnRowE (w.setCell p u) B E v xs :=
  ⟨h.row.stored hp u, by have := h.le; simp [World.setCell]; omega, h.hi⟩
/-- A verdict of its own, made by the call: its lists lie in blocks one behind the other. -/
def MadeVerdict (w : World) (k : Int) (vs : List Int) (mA : Nat) (ts : List Int) (mP : Nat) (ps us : List Int) (e : Ending) (w' : World) : Prop :=
  ∃ a1 n1 c1 a2 n2 c2 a3 n3 c3 a4 n4 c4 E1 E2 E3, e = .returned (.agg #[.int .i64 k, .slice a1 n1 c1, .slice a2 n2 c2, .slice a3 n3 c3, .slice a4 n4 c4]) ∧ OwnRowE w' w.heap.size E1 (.slice a1 n1 c1) vs ∧ OwnTrip 132 w' E1 E2 (.slice a2 n2 c2) mA ts ∧ OwnTrip 135 w' E2 E3 (.slice a3 n3 c3) mP ps ∧ OwnRowE w' E3 w'.heap.size (.slice a4 n4 c4) us ∧ Below w.heap.size w w'

set_option linter.unusedSimpArgs false in
set_option maxHeartbeats 1000000 in
set_option maxRecDepth 100000 in
theorem toVerdict (k : Int) (a1 : Option Addr) (n1 c1 : Nat) (vs : List Int) (a2 : Option Addr) (n2 c2 : Nat) (mA : Nat) (ts : List Int) (a3 : Option Addr) (n3 c3 : Nat) (mP : Nat) (ps : List Int) (a4 : Option Addr) (n4 c4 : Nat) (us : List Int) (w : World) (h1 : RowAt w (.slice a1 n1 c1) vs) (h2 : TripAt w (.slice a2 n2 c2) mA ts) (h3 : TripAt w (.slice a3 n3 c3) mP ps) (h4 : RowAt w (.slice a4 n4 c4) us) (g1 : vs.length ≤ 1048576) (g2 : mA ≤ 1048576) (g3 : mP ≤ 1048576) (g4 : us.length ≤ 1048576) :
    Calls Try.prog 42 #[.agg #[.int .i64 k, .slice a1 n1 c1, .slice a2 n2 c2, .slice a3 n3 c3, .slice a4 n4 c4]] w (MadeVerdict w k vs mA ts mP ps us) := by
  have HW : Hid (Below w.heap.size w (((w.alloc (.cells #[.int .i64 k, .slice a1 n1 c1, .slice a2 n2 c2, .slice a3 n3 c3, .slice a4 n4 c4] 68)).alloc (.cells #[.int .i64 0, .slice none 0 0, .slice none 0 0, .slice none 0 0, .slice none 0 0] 74)).alloc (.cells #[.int .i64 k, .slice none 0 0, .slice none 0 0, .slice none 0 0, .slice none 0 0] 74))) := Lib.hid ((((Below.refl _ _).alloc (Nat.le_refl _) _).alloc (by simp) _).alloc (by simp; omega) _)
  have HX : Hid (Box 68 (((w.alloc (.cells #[.int .i64 k, .slice a1 n1 c1, .slice a2 n2 c2, .slice a3 n3 c3, .slice a4 n4 c4] 68)).alloc (.cells #[.int .i64 0, .slice none 0 0, .slice none 0 0, .slice none 0 0, .slice none 0 0] 74)).alloc (.cells #[.int .i64 k, .slice none 0 0, .slice none 0 0, .slice none 0 0, .slice none 0 0] 74)) w.heap.size #[.int .i64 k, .slice a1 n1 c1, .slice a2 n2 c2, .slice a3 n3 c3, .slice a4 n4 c4]) := Lib.hid (((Box.new 68 w #[.int .i64 k, .slice a1 n1 c1, .slice a2 n2 c2, .slice a3 n3 c3, .slice a4 n4 c4]).below ((Below.refl _ _).alloc (Nat.le_refl _) (.cells #[.int .i64 0, .slice none 0 0, .slice none 0 0, .slice none 0 0, .slice none 0 0] 74))).below ((Below.refl _ _).alloc (Nat.le_refl _) (.cells #[.int .i64 k, .slice none 0 0, .slice none 0 0, .slice none 0 0, .slice none 0 0] 74)))
  have HY : Hid (Box 74 (((w.alloc (.cells #[.int .i64 k, .slice a1 n1 c1, .slice a2 n2 c2, .slice a3 n3 c3, .slice a4 n4 c4] 68)).alloc (.cells #[.int .i64 0, .slice none 0 0, .slice none 0 0, .slice none 0 0, .slice none 0 0] 74)).alloc (.cells #[.int .i64 k, .slice none 0 0, .slice none 0 0, .slice none 0 0, .slice none 0 0] 74)) (w.heap.size + 1) #[.int .i64 0, .slice none 0 0, .slice none 0 0, .slice none 0 0, .slice none 0 0]) := Lib.hid (by
    have h := (Box.new 74 (w.alloc (.cells #[.int .i64 k, .slice a1 n1 c1, .slice a2 n2 c2, .slice a3 n3 c3, .slice a4 n4 c4] 68)) #[.int .i64 0, .slice none 0 0, .slice none 0 0, .slice none 0 0, .slice none 0 0]).below ((Below.refl _ _).alloc (Nat.le_refl _) (.cells #[.int .i64 k, .slice none 0 0, .slice none 0 0, .slice none 0 0, .slice none 0 0] 74))
    rwa [World.size_alloc] at h)
  have HZ : Hid (Box 74 (((w.alloc (.cells #[.int .i64 k, .slice a1 n1 c1, .slice a2 n2 c2, .slice a3 n3 c3, .slice a4 n4 c4] 68)).alloc (.cells #[.int .i64 0, .slice none 0 0, .slice none 0 0, .slice none 0 0, .slice none 0 0] 74)).alloc (.cells #[.int .i64 k, .slice none 0 0, .slice none 0 0, .slice none 0 0, .slice none 0 0] 74)) (w.heap.size + 1 + 1) #[.int .i64 k, .slice none 0 0, .slice none 0 0, .slice none 0 0, .slice none 0 0]) := Lib.hid (by
    have h := Box.new 74 ((w.alloc (.cells #[.int .i64 k, .slice a1 n1 c1, .slice a2 n2 c2, .slice a3 n3 c3, .slice a4 n4 c4] 68)).alloc (.cells #[.int .i64 0, .slice none 0 0, .slice none 0 0, .slice none 0 0, .slice none 0 0] 74)) #[.int .i64 k, .slice none 0 0, .slice none 0 0, .slice none 0 0, .slice none 0 0]
    rwa [World.size_alloc, World.size_alloc] at h)
  have hsz : (((w.alloc (.cells #[.int .i64 k, .slice a1 n1 c1, .slice a2 n2 c2, .slice a3 n3 c3, .slice a4 n4 c4] 68)).alloc (.cells #[.int .i64 0, .slice none 0 0, .slice none 0 0, .slice none 0 0, .slice none 0 0] 74)).alloc (.cells #[.int .i64 k, .slice none 0 0, .slice none 0 0, .slice none 0 0, .slice none 0 0] 74)).heap.size = w.heap.size + 1 + 1 + 1 := by simp
  have G1 := Lib.hid g1
  have G2 := Lib.hid g2
  have G3 := Lib.hid g3
  have G4 := Lib.hid g4
  obtain ⟨W, hW⟩ : ∃ W, (((w.alloc (.cells #[.int .i64 k, .slice a1 n1 c1, .slice a2 n2 c2, .slice a3 n3 c3, .slice a4 n4 c4] 68)).alloc (.cells #[.int .i64 0, .slice none 0 0, .slice none 0 0, .slice none 0 0, .slice none 0 0] 74)).alloc (.cells #[.int .i64 k, .slice none 0 0, .slice none 0 0, .slice none 0 0, .slice none 0 0] 74)) = W := ⟨_, rfl⟩
  clear hW W
  have HS0 : Hid ((((w.alloc (.cells #[.int .i64 k, .slice a1 n1 c1, .slice a2 n2 c2, .slice a3 n3 c3, .slice a4 n4 c4] 68)).alloc (.cells #[.int .i64 0, .slice none 0 0, .slice none 0 0, .slice none 0 0, .slice none 0 0] 74)).alloc (.cells #[.int .i64 k, .slice none 0 0, .slice none 0 0, .slice none 0 0, .slice none 0 0] 74)).heap.size = w.heap.size + 1 + 1 + 1) := Lib.hid hsz
  have HB0 := Lib.hid HW.out
  have HX0 := Lib.hid HX.out
  have HY0 := Lib.hid HY.out
  have HZ0 := Lib.hid HZ.out
  have H1 := Lib.hid h1
  have H2 := Lib.hid h2
  have H3 := Lib.hid h3
  have H4 := Lib.hid h4
  clear h1 h2 h3 h4 g1 g2 g3 g4 hsz HX HY HZ
  go_enter Try.func42, Try.ntmps42
  go_wp2_with fail
  refine (toRowE _ _ _ (H1.out.below HB0.out) G1.out).mono ?_
  rintro e w1 ⟨b1, m1, d1, rfl, ho1, hb1⟩
  have HT1 : Hid (w.heap.size + 1 + 1 + 1 ≤ (((w.alloc (.cells #[.int .i64 k, .slice a1 n1 c1, .slice a2 n2 c2, .slice a3 n3 c3, .slice a4 n4 c4] 68)).alloc (.cells #[.int .i64 0, .slice none 0 0, .slice none 0 0, .slice none 0 0, .slice none 0 0] 74)).alloc (.cells #[.int .i64 k, .slice none 0 0, .slice none 0 0, .slice none 0 0, .slice none 0 0] 74)).heap.size) := Lib.hid (Nat.le_of_eq HS0.out.symm)
  have HS1 : Hid (w.heap.size + 1 + 1 + 1 ≤ w1.heap.size) := Lib.hid (Nat.le_trans HT1.out hb1.size)
  have z1_ := (HZ0.out.below hb1).c 1 rfl
  have zf1 := (HZ0.out.below hb1).free 1
  have x1 := (HX0.out.below hb1).c 2 rfl
  have HB1 : Hid (Below w.heap.size w (w1.setCell ⟨w.heap.size + 1 + 1, 1, none⟩ (.slice b1 m1 d1))) := Lib.hid ((HB0.out.trans (hb1.mono HB0.out.size)).setCell (p := ⟨w.heap.size + 1 + 1, 1, none⟩) (by show w.heap.size ≤ w.heap.size + 1 + 1; omega) _)
  have HX1 : Hid (Box 68 (w1.setCell ⟨w.heap.size + 1 + 1, 1, none⟩ (.slice b1 m1 d1)) w.heap.size #[.int .i64 k, .slice a1 n1 c1, .slice a2 n2 c2, .slice a3 n3 c3, .slice a4 n4 c4]) := Lib.hid ((HX0.out.below hb1).other (a := ⟨w.heap.size + 1 + 1, 1, none⟩) (by show w.heap.size ≠ w.heap.size + 1 + 1; omega) _)
  have HY1 : Hid (Box 74 (w1.setCell ⟨w.heap.size + 1 + 1, 1, none⟩ (.slice b1 m1 d1)) (w.heap.size + 1) #[.int .i64 0, .slice none 0 0, .slice none 0 0, .slice none 0 0, .slice none 0 0]) := Lib.hid ((HY0.out.below hb1).other (a := ⟨w.heap.size + 1 + 1, 1, none⟩) (by show w.heap.size + 1 ≠ w.heap.size + 1 + 1; omega) _)
  have HZ1 : Hid (Box 74 (w1.setCell ⟨w.heap.size + 1 + 1, 1, none⟩ (.slice b1 m1 d1)) (w.heap.size + 1 + 1) #[.int .i64 k, .slice b1 m1 d1, .slice none 0 0, .slice none 0 0, .slice none 0 0]) := Lib.hid ((HZ0.out.below hb1).set 1 _)
  have O1_1 := Lib.hid (ho1.storedV (p := ⟨w.heap.size + 1 + 1, 1, none⟩) (by show w.heap.size + 1 + 1 < _; have h := HT1.out; omega) (.slice b1 m1 d1))
  clear ho1 hb1
  go_wp2_with fail
  refine (toArcStepS _ mA ts _ (H2.out.below HB1.out) G2.out).mono ?_
  rintro e w2 ⟨b2, m2, d2, rfl, ho2, hb2⟩
  have HT2 : Hid (w.heap.size + 1 + 1 + 1 ≤ (w1.setCell ⟨w.heap.size + 1 + 1, 1, none⟩ (.slice b1 m1 d1)).heap.size) := Lib.hid (by have := HS1.out; simp [World.setCell]; omega)
  have HS2 : Hid (w.heap.size + 1 + 1 + 1 ≤ w2.heap.size) := Lib.hid (Nat.le_trans HT2.out hb2.size)
  have z2_ := (HZ1.out.below hb2).c 2 rfl
  have zf2 := (HZ1.out.below hb2).free 2
  have x2 := (HX1.out.below hb2).c 3 rfl
  have HB2 : Hid (Below w.heap.size w (w2.setCell ⟨w.heap.size + 1 + 1, 2, none⟩ (.slice b2 m2 d2))) := Lib.hid ((HB1.out.trans (hb2.mono HB1.out.size)).setCell (p := ⟨w.heap.size + 1 + 1, 2, none⟩) (by show w.heap.size ≤ w.heap.size + 1 + 1; omega) _)
  have HX2 : Hid (Box 68 (w2.setCell ⟨w.heap.size + 1 + 1, 2, none⟩ (.slice b2 m2 d2)) w.heap.size #[.int .i64 k, .slice a1 n1 c1, .slice a2 n2 c2, .slice a3 n3 c3, .slice a4 n4 c4]) := Lib.hid ((HX1.out.below hb2).other (a := ⟨w.heap.size + 1 + 1, 2, none⟩) (by show w.heap.size ≠ w.heap.size + 1 + 1; omega) _)
  have HY2 : Hid (Box 74 (w2.setCell ⟨w.heap.size + 1 + 1, 2, none⟩ (.slice b2 m2 d2)) (w.heap.size + 1) #[.int .i64 0, .slice none 0 0, .slice none 0 0, .slice none 0 0, .slice none 0 0]) := Lib.hid ((HY1.out.below hb2).other (a := ⟨w.heap.size + 1 + 1, 2, none⟩) (by show w.heap.size + 1 ≠ w.heap.size + 1 + 1; omega) _)
  have HZ2 : Hid (Box 74 (w2.setCell ⟨w.heap.size + 1 + 1, 2, none⟩ (.slice b2 m2 d2)) (w.heap.size + 1 + 1) #[.int .i64 k, .slice b1 m1 d1, .slice b2 m2 d2, .slice none 0 0, .slice none 0 0]) := Lib.hid ((HZ1.out.below hb2).set 2 _)
  have O1_2 := Lib.hid ((O1_1.out.below hb2).storedV (p := ⟨w.heap.size + 1 + 1, 2, none⟩) (by show w.heap.size + 1 + 1 < _; have := HS0.out; have h := HT1.out; omega) (.slice b2 m2 d2))
  have O2_2 := Lib.hid (ho2.stored (p := ⟨w.heap.size + 1 + 1, 2, none⟩) (by show w.heap.size + 1 + 1 < _; have h := HT2.out; omega) (.slice b2 m2 d2))
  clear ho2 hb2
  go_wp2_with fail
  refine (toPairStepS _ mP ps _ (H3.out.below HB2.out) G3.out).mono ?_
  rintro e w3 ⟨b3, m3, d3, rfl, ho3, hb3⟩
  have HT3 : Hid (w.heap.size + 1 + 1 + 1 ≤ (w2.setCell ⟨w.heap.size + 1 + 1, 2, none⟩ (.slice b2 m2 d2)).heap.size) := Lib.hid (by have := HS2.out; simp [World.setCell]; omega)
  have HS3 : Hid (w.heap.size + 1 + 1 + 1 ≤ w3.heap.size) := Lib.hid (Nat.le_trans HT3.out hb3.size)
  have z3_ := (HZ2.out.below hb3).c 3 rfl
  have zf3 := (HZ2.out.below hb3).free 3
  have x3 := (HX2.out.below hb3).c 4 rfl
  have HB3 : Hid (Below w.heap.size w (w3.setCell ⟨w.heap.size + 1 + 1, 3, none⟩ (.slice b3 m3 d3))) := Lib.hid ((HB2.out.trans (hb3.mono HB2.out.size)).setCell (p := ⟨w.heap.size + 1 + 1, 3, none⟩) (by show w.heap.size ≤ w.heap.size + 1 + 1; omega) _)
  have HX3 : Hid (Box 68 (w3.setCell ⟨w.heap.size + 1 + 1, 3, none⟩ (.slice b3 m3 d3)) w.heap.size #[.int .i64 k, .slice a1 n1 c1, .slice a2 n2 c2, .slice a3 n3 c3, .slice a4 n4 c4]) := Lib.hid ((HX2.out.below hb3).other (a := ⟨w.heap.size + 1 + 1, 3, none⟩) (by show w.heap.size ≠ w.heap.size + 1 + 1; omega) _)
  have HY3 : Hid (Box 74 (w3.setCell ⟨w.heap.size + 1 + 1, 3, none⟩ (.slice b3 m3 d3)) (w.heap.size + 1) #[.int .i64 0, .slice none 0 0, .slice none 0 0, .slice none 0 0, .slice none 0 0]) := Lib.hid ((HY2.out.below hb3).other (a := ⟨w.heap.size + 1 + 1, 3, none⟩) (by show w.heap.size + 1 ≠ w.heap.size + 1 + 1; omega) _)
  have HZ3 : Hid (Box 74 (w3.setCell ⟨w.heap.size + 1 + 1, 3, none⟩ (.slice b3 m3 d3)) (w.heap.size + 1 + 1) #[.int .i64 k, .slice b1 m1 d1, .slice b2 m2 d2, .slice b3 m3 d3, .slice none 0 0]) := Lib.hid ((HZ2.out.below hb3).set 3 _)
  have O1_3 := Lib.hid ((O1_2.out.below hb3).storedV (p := ⟨w.heap.size + 1 + 1, 3, none⟩) (by show w.heap.size + 1 + 1 < _; have := HS0.out; have h := HT1.out; omega) (.slice b3 m3 d3))
  have O2_3 := Lib.hid ((O2_2.out.below hb3).stored (p := ⟨w.heap.size + 1 + 1, 3, none⟩) (by show w.heap.size + 1 + 1 < _; have := HS1.out; have h := HT2.out; omega) (.slice b3 m3 d3))
  have O3_3 := Lib.hid (ho3.stored (p := ⟨w.heap.size + 1 + 1, 3, none⟩) (by show w.heap.size + 1 + 1 < _; have h := HT3.out; omega) (.slice b3 m3 d3))
  clear ho3 hb3
  go_wp2_with fail
  refine (toRowE _ _ _ (H4.out.below HB3.out) G4.out).mono ?_
  rintro e w4 ⟨b4, m4, d4, rfl, ho4, hb4⟩
  have HT4 : Hid (w.heap.size + 1 + 1 + 1 ≤ (w3.setCell ⟨w.heap.size + 1 + 1, 3, none⟩ (.slice b3 m3 d3)).heap.size) := Lib.hid (by have := HS3.out; simp [World.setCell]; omega)
  have HS4 : Hid (w.heap.size + 1 + 1 + 1 ≤ w4.heap.size) := Lib.hid (Nat.le_trans HT4.out hb4.size)
  have z4_ := (HZ3.out.below hb4).c 4 rfl
  have zf4 := (HZ3.out.below hb4).free 4
  have HB4 : Hid (Below w.heap.size w (w4.setCell ⟨w.heap.size + 1 + 1, 4, none⟩ (.slice b4 m4 d4))) := Lib.hid ((HB3.out.trans (hb4.mono HB3.out.size)).setCell (p := ⟨w.heap.size + 1 + 1, 4, none⟩) (by show w.heap.size ≤ w.heap.size + 1 + 1; omega) _)
  have HX4 : Hid (Box 68 (w4.setCell ⟨w.heap.size + 1 + 1, 4, none⟩ (.slice b4 m4 d4)) w.heap.size #[.int .i64 k, .slice a1 n1 c1, .slice a2 n2 c2, .slice a3 n3 c3, .slice a4 n4 c4]) := Lib.hid ((HX3.out.below hb4).other (a := ⟨w.heap.size + 1 + 1, 4, none⟩) (by show w.heap.size ≠ w.heap.size + 1 + 1; omega) _)
  have HY4 : Hid (Box 74 (w4.setCell ⟨w.heap.size + 1 + 1, 4, none⟩ (.slice b4 m4 d4)) (w.heap.size + 1) #[.int .i64 0, .slice none 0 0, .slice none 0 0, .slice none 0 0, .slice none 0 0]) := Lib.hid ((HY3.out.below hb4).other (a := ⟨w.heap.size + 1 + 1, 4, none⟩) (by show w.heap.size + 1 ≠ w.heap.size + 1 + 1; omega) _)
  have HZ4 : Hid (Box 74 (w4.setCell ⟨w.heap.size + 1 + 1, 4, none⟩ (.slice b4 m4 d4)) (w.heap.size + 1 + 1) #[.int .i64 k, .slice b1 m1 d1, .slice b2 m2 d2, .slice b3 m3 d3, .slice b4 m4 d4]) := Lib.hid ((HZ3.out.below hb4).set 4 _)
  have O1_4 := Lib.hid ((O1_3.out.below hb4).storedV (p := ⟨w.heap.size + 1 + 1, 4, none⟩) (by show w.heap.size + 1 + 1 < _; have := HS0.out; have h := HT1.out; omega) (.slice b4 m4 d4))
  have O2_4 := Lib.hid ((O2_3.out.below hb4).stored (p := ⟨w.heap.size + 1 + 1, 4, none⟩) (by show w.heap.size + 1 + 1 < _; have := HS1.out; have h := HT2.out; omega) (.slice b4 m4 d4))
  have O3_4 := Lib.hid ((O3_3.out.below hb4).stored (p := ⟨w.heap.size + 1 + 1, 4, none⟩) (by show w.heap.size + 1 + 1 < _; have := HS2.out; have h := HT3.out; omega) (.slice b4 m4 d4))
  have O4_4 := Lib.hid (ho4.storedV (p := ⟨w.heap.size + 1 + 1, 4, none⟩) (by show w.heap.size + 1 + 1 < _; have h := HT4.out; omega) (.slice b4 m4 d4))
  have y0 := (HY3.out.below hb4).c 0 rfl
  have yf0 := (HY3.out.below hb4).free 0
  have y1 := (HY3.out.below hb4).c 1 rfl
  have yf1 := (HY3.out.below hb4).free 1
  have y2 := (HY3.out.below hb4).c 2 rfl
  have yf2 := (HY3.out.below hb4).free 2
  have y3 := (HY3.out.below hb4).c 3 rfl
  have yf3 := (HY3.out.below hb4).free 3
  have y4 := (HY3.out.below hb4).c 4 rfl
  have yf4 := (HY3.out.below hb4).free 4
  have zz0 := (HZ3.out.below hb4).c 0 rfl
  have zz1 := (HZ3.out.below hb4).c 1 rfl
  have zz2 := (HZ3.out.below hb4).c 2 rfl
  have zz3 := (HZ3.out.below hb4).c 3 rfl
  clear ho4 hb4
  have HWZ := HB4.out.size
  go_wp2
  refine bodyPost_ret (v := .agg #[.int .i64 k, .slice b1 m1 d1, .slice b2 m2 d2, .slice b3 m3 d3, .slice b4 m4 d4]) (by simp [results, Try.results42, go_sem, y0, y1, y2, y3, y4]) rfl ⟨_, _, _, _, _, _, _, _, _, _, _, _, w1.heap.size, w2.heap.size, w3.heap.size, rfl, ?_, ?_, ?_, ?_, ?_⟩
  · exact ((((((O1_4.out.mono (B' := w.heap.size + 1 + 1) (by have := HT1.out; omega)).storedV (p := ⟨w.heap.size + 1, 0, none⟩) (by show w.heap.size + 1 < w.heap.size + 1 + 1; omega) _).storedV (p := ⟨w.heap.size + 1, 1, none⟩) (by show w.heap.size + 1 < w.heap.size + 1 + 1; omega) _).storedV (p := ⟨w.heap.size + 1, 2, none⟩) (by show w.heap.size + 1 < w.heap.size + 1 + 1; omega) _).storedV (p := ⟨w.heap.size + 1, 3, none⟩) (by show w.heap.size + 1 < w.heap.size + 1 + 1; omega) _).storedV (p := ⟨w.heap.size + 1, 4, none⟩) (by show w.heap.size + 1 < w.heap.size + 1 + 1; omega) _).mono (by omega)
  · exact ((((((O2_4.out.mono (B' := w1.heap.size) (by simp [World.setCell])).stored (p := ⟨w.heap.size + 1, 0, none⟩) (by show w.heap.size + 1 < w1.heap.size; have := HS1.out; omega) _).stored (p := ⟨w.heap.size + 1, 1, none⟩) (by show w.heap.size + 1 < w1.heap.size; have := HS1.out; omega) _).stored (p := ⟨w.heap.size + 1, 2, none⟩) (by show w.heap.size + 1 < w1.heap.size; have := HS1.out; omega) _).stored (p := ⟨w.heap.size + 1, 3, none⟩) (by show w.heap.size + 1 < w1.heap.size; have := HS1.out; omega) _).stored (p := ⟨w.heap.size + 1, 4, none⟩) (by show w.heap.size + 1 < w1.heap.size; have := HS1.out; omega) _)
  · exact ((((((O3_4.out.mono (B' := w2.heap.size) (by simp [World.setCell])).stored (p := ⟨w.heap.size + 1, 0, none⟩) (by show w.heap.size + 1 < w2.heap.size; have := HS2.out; omega) _).stored (p := ⟨w.heap.size + 1, 1, none⟩) (by show w.heap.size + 1 < w2.heap.size; have := HS2.out; omega) _).stored (p := ⟨w.heap.size + 1, 2, none⟩) (by show w.heap.size + 1 < w2.heap.size; have := HS2.out; omega) _).stored (p := ⟨w.heap.size + 1, 3, none⟩) (by show w.heap.size + 1 < w2.heap.size; have := HS2.out; omega) _).stored (p := ⟨w.heap.size + 1, 4, none⟩) (by show w.heap.size + 1 < w2.heap.size; have := HS2.out; omega) _)
  · exact ((((((O4_4.out.mono (B' := w3.heap.size) (by simp [World.setCell])).storedV (p := ⟨w.heap.size + 1, 0, none⟩) (by show w.heap.size + 1 < w3.heap.size; have := HS3.out; omega) _).storedV (p := ⟨w.heap.size + 1, 1, none⟩) (by show w.heap.size + 1 < w3.heap.size; have := HS3.out; omega) _).storedV (p := ⟨w.heap.size + 1, 2, none⟩) (by show w.heap.size + 1 < w3.heap.size; have := HS3.out; omega) _).storedV (p := ⟨w.heap.size + 1, 3, none⟩) (by show w.heap.size + 1 < w3.heap.size; have := HS3.out; omega) _).storedV (p := ⟨w.heap.size + 1, 4, none⟩) (by show w.heap.size + 1 < w3.heap.size; have := HS3.out; omega) _).row.full
  · exact (((((HB4.out.setCell (p := ⟨w.heap.size + 1, 0, none⟩) (by show w.heap.size ≤ w.heap.size + 1; omega) _).setCell (p := ⟨w.heap.size + 1, 1, none⟩) (by show w.heap.size ≤ w.heap.size + 1; omega) _).setCell (p := ⟨w.heap.size + 1, 2, none⟩) (by show w.heap.size ≤ w.heap.size + 1; omega) _).setCell (p := ⟨w.heap.size + 1, 3, none⟩) (by show w.heap.size ≤ w.heap.size + 1; omega) _).setCell (p := ⟨w.heap.size + 1, 4, none⟩) (by show w.heap.size ≤ w.heap.size + 1; omega) _)

end Go.Proofs.Ytclhcnfgpkhplaa
