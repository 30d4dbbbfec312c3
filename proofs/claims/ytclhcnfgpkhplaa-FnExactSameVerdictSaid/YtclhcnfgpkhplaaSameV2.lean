/-
  SameVerdict of the program.
-/
import Derived.Test.YtclhcnfgpkhplaaVerd
import Derived.Test.YtclhcnfgpkhplaaSameV
namespace Go.Proofs.Ytclhcnfgpkhplaa
open Go.RowKit

set_option linter.unusedSimpArgs false in
set_option maxHeartbeats 1000000 in
set_option maxRecDepth 100000 in
theorem implSameVerdict (k : Int) (a1 : Option Addr) (n1 c1 : Nat) (vs : List Int) (a2 : Option Addr) (n2 c2 : Nat) (mA : Nat) (ts : List Int) (a3 : Option Addr) (n3 c3 : Nat) (mP : Nat) (ps : List Int) (a4 : Option Addr) (n4 c4 : Nat) (us : List Int) (k' : Int) (a1' : Option Addr) (n1' c1' : Nat) (vs' : List Int) (a2' : Option Addr) (n2' c2' : Nat) (mA' : Nat) (ts' : List Int) (a3' : Option Addr) (n3' c3' : Nat) (mP' : Nat) (ps' : List Int) (a4' : Option Addr) (n4' c4' : Nat) (us' : List Int) (bb : Bool) (w : World) (h1 : RowAt w (.slice a1 n1 c1) vs) (h2 : TripAt w (.slice a2 n2 c2) mA ts) (h3 : TripAt w (.slice a3 n3 c3) mP ps) (h4 : RowAt w (.slice a4 n4 c4) us) (h1' : RowAt w (.slice a1' n1' c1') vs') (h2' : TripAt w (.slice a2' n2' c2') mA' ts') (h3' : TripAt w (.slice a3' n3' c3') mP' ps') (h4' : RowAt w (.slice a4' n4' c4') us') (hb : eqV k vs ts ps us k' vs' ts' ps' us' = bb) :
    Calls Try.prog 43 #[.agg #[.int .i64 k, .slice a1 n1 c1, .slice a2 n2 c2, .slice a3 n3 c3, .slice a4 n4 c4], .agg #[.int .i64 k', .slice a1' n1' c1', .slice a2' n2' c2', .slice a3' n3' c3', .slice a4' n4' c4']] w fun e w' => e = .returned (.bool bb) ∧ Below w.heap.size w w' := by
  have HW : Hid (Below w.heap.size w ((w.alloc (.cells #[.int .i64 k, .slice a1 n1 c1, .slice a2 n2 c2, .slice a3 n3 c3, .slice a4 n4 c4] 74)).alloc (.cells #[.int .i64 k', .slice a1' n1' c1', .slice a2' n2' c2', .slice a3' n3' c3', .slice a4' n4' c4'] 74))) := Lib.hid (((Below.refl _ _).alloc (Nat.le_refl _) _).alloc (by simp) _)
  have HB0 : Hid (Below ((w.alloc (.cells #[.int .i64 k, .slice a1 n1 c1, .slice a2 n2 c2, .slice a3 n3 c3, .slice a4 n4 c4] 74)).alloc (.cells #[.int .i64 k', .slice a1' n1' c1', .slice a2' n2' c2', .slice a3' n3' c3', .slice a4' n4' c4'] 74)).heap.size ((w.alloc (.cells #[.int .i64 k, .slice a1 n1 c1, .slice a2 n2 c2, .slice a3 n3 c3, .slice a4 n4 c4] 74)).alloc (.cells #[.int .i64 k', .slice a1' n1' c1', .slice a2' n2' c2', .slice a3' n3' c3', .slice a4' n4' c4'] 74)) ((w.alloc (.cells #[.int .i64 k, .slice a1 n1 c1, .slice a2 n2 c2, .slice a3 n3 c3, .slice a4 n4 c4] 74)).alloc (.cells #[.int .i64 k', .slice a1' n1' c1', .slice a2' n2' c2', .slice a3' n3' c3', .slice a4' n4' c4'] 74))) := Lib.hid (Below.refl _ _)
  have H1 := Lib.hid (h1.below HW.out)
  have H2 := Lib.hid (h2.below HW.out)
  have H3 := Lib.hid (h3.below HW.out)
  have H4 := Lib.hid (h4.below HW.out)
  have H1' := Lib.hid (h1'.below HW.out)
  have H2' := Lib.hid (h2'.below HW.out)
  have H3' := Lib.hid (h3'.below HW.out)
  have H4' := Lib.hid (h4'.below HW.out)
  have HX := Lib.hid ((Box.new 74 w #[.int .i64 k, .slice a1 n1 c1, .slice a2 n2 c2, .slice a3 n3 c3, .slice a4 n4 c4]).below ((Below.refl _ _).alloc (Nat.le_refl _) (.cells #[.int .i64 k', .slice a1' n1' c1', .slice a2' n2' c2', .slice a3' n3' c3', .slice a4' n4' c4'] 74)))
  have HY : Hid (Box 74 ((w.alloc (.cells #[.int .i64 k, .slice a1 n1 c1, .slice a2 n2 c2, .slice a3 n3 c3, .slice a4 n4 c4] 74)).alloc (.cells #[.int .i64 k', .slice a1' n1' c1', .slice a2' n2' c2', .slice a3' n3' c3', .slice a4' n4' c4'] 74)) (w.heap.size + 1) #[.int .i64 k', .slice a1' n1' c1', .slice a2' n2' c2', .slice a3' n3' c3', .slice a4' n4' c4']) := Lib.hid (by
    have h := Box.new 74 (w.alloc (.cells #[.int .i64 k, .slice a1 n1 c1, .slice a2 n2 c2, .slice a3 n3 c3, .slice a4 n4 c4] 74)) #[.int .i64 k', .slice a1' n1' c1', .slice a2' n2' c2', .slice a3' n3' c3', .slice a4' n4' c4']
    rwa [World.size_alloc] at h)
  have x0_0 := HX.out.c 0 rfl
  have y0_0 := HY.out.c 0 rfl
  have x1_0 := HX.out.c 1 rfl
  have y1_0 := HY.out.c 1 rfl
  have x2_0 := HX.out.c 2 rfl
  have y2_0 := HY.out.c 2 rfl
  have x3_0 := HX.out.c 3 rfl
  have y3_0 := HY.out.c 3 rfl
  have x4_0 := HX.out.c 4 rfl
  have y4_0 := HY.out.c 4 rfl
  clear h1 h2 h3 h4 h1' h2' h3' h4'
  by_cases hk : k = k'
  case neg =>
    have HF : Hid (bb = false) := Lib.hid (by rw [← hb]; simp [eqV, eqB, hk])
    have m1 : (k == k') = false := beq_eq_false_iff_ne.2 hk
    have m2 : (k != k') = true := bne_iff_ne.2 hk
    clear hk hb
    go_enter Try.func43, Try.ntmps43
    go_wp2
    go_ret
    exact ⟨ret_bool HF.out.symm, HW.out⟩
  subst hk
  cases e0 : eqB vs vs' with
  | false =>
    have E0 := Lib.hid e0
    have HF : Hid (bb = false) := Lib.hid (by rw [← hb]; unfold eqV; rw [e0]; simp)
    clear hb e0
    go_enter Try.func43, Try.ntmps43
    go_wp2_with fail
    refine (slicesEqual' _ _ _ _ false _ (H1.out.below HB0.out) (H1'.out.below HB0.out) E0.out).mono ?_
    rintro e w2 ⟨rfl, hq⟩
    have HQ0 := Lib.hid (hq.bel : Below _ _ w2)
    have HB1 := Lib.hid (HB0.out.trans (HQ0.out.mono HB0.out.size))
    have x2_1 := below_cell HQ0.out x2_0
    have y2_1 := below_cell HQ0.out y2_0
    have x3_1 := below_cell HQ0.out x3_0
    have y3_1 := below_cell HQ0.out y3_0
    have x4_1 := below_cell HQ0.out x4_0
    have y4_1 := below_cell HQ0.out y4_0
    clear hq x2_0 y2_0 x3_0 y3_0 x4_0 y4_0
    go_wp2
    go_ret
    exact ⟨ret_bool HF.out.symm, HW.out.trans (HB1.out.mono HW.out.size)⟩
  | true =>
  have E0 := Lib.hid e0
  cases e1 : eqB ts ts' with
  | false =>
    have E1 := Lib.hid e1
    have HF : Hid (bb = false) := Lib.hid (by rw [← hb]; unfold eqV; rw [e1]; simp)
    clear hb e1
    go_enter Try.func43, Try.ntmps43
    go_wp2_with fail
    refine (slicesEqual' _ _ _ _ true _ (H1.out.below HB0.out) (H1'.out.below HB0.out) E0.out).mono ?_
    rintro e w2 ⟨rfl, hq⟩
    have HQ0 := Lib.hid (hq.bel : Below _ _ w2)
    have HB1 := Lib.hid (HB0.out.trans (HQ0.out.mono HB0.out.size))
    have x2_1 := below_cell HQ0.out x2_0
    have y2_1 := below_cell HQ0.out y2_0
    have x3_1 := below_cell HQ0.out x3_0
    have y3_1 := below_cell HQ0.out y3_0
    have x4_1 := below_cell HQ0.out x4_0
    have y4_1 := below_cell HQ0.out y4_0
    clear hq x2_0 y2_0 x3_0 y3_0 x4_0 y4_0
    go_wp2_with fail
    refine (slicesEqual_ArcStep' _ _ _ _ _ _ false _ (H2.out.below HB1.out) (H2'.out.below HB1.out) E1.out).mono ?_
    rintro e w3 ⟨rfl, hq⟩
    have HQ1 := Lib.hid (hq.bel : Below _ _ w3)
    have HB2 := Lib.hid (HB1.out.trans (HQ1.out.mono HB1.out.size))
    have x3_2 := below_cell HQ1.out x3_1
    have y3_2 := below_cell HQ1.out y3_1
    have x4_2 := below_cell HQ1.out x4_1
    have y4_2 := below_cell HQ1.out y4_1
    clear hq x3_1 y3_1 x4_1 y4_1
    go_wp2
    go_ret
    exact ⟨ret_bool HF.out.symm, HW.out.trans (HB2.out.mono HW.out.size)⟩
  | true =>
  have E1 := Lib.hid e1
  cases e2 : eqB ps ps' with
  | false =>
    have E2 := Lib.hid e2
    have HF : Hid (bb = false) := Lib.hid (by rw [← hb]; unfold eqV; rw [e2]; simp)
    clear hb e2
    go_enter Try.func43, Try.ntmps43
    go_wp2_with fail
    refine (slicesEqual' _ _ _ _ true _ (H1.out.below HB0.out) (H1'.out.below HB0.out) E0.out).mono ?_
    rintro e w2 ⟨rfl, hq⟩
    have HQ0 := Lib.hid (hq.bel : Below _ _ w2)
    have HB1 := Lib.hid (HB0.out.trans (HQ0.out.mono HB0.out.size))
    have x2_1 := below_cell HQ0.out x2_0
    have y2_1 := below_cell HQ0.out y2_0
    have x3_1 := below_cell HQ0.out x3_0
    have y3_1 := below_cell HQ0.out y3_0
    have x4_1 := below_cell HQ0.out x4_0
    have y4_1 := below_cell HQ0.out y4_0
    clear hq x2_0 y2_0 x3_0 y3_0 x4_0 y4_0
    go_wp2_with fail
    refine (slicesEqual_ArcStep' _ _ _ _ _ _ true _ (H2.out.below HB1.out) (H2'.out.below HB1.out) E1.out).mono ?_
    rintro e w3 ⟨rfl, hq⟩
    have HQ1 := Lib.hid (hq.bel : Below _ _ w3)
    have HB2 := Lib.hid (HB1.out.trans (HQ1.out.mono HB1.out.size))
    have x3_2 := below_cell HQ1.out x3_1
    have y3_2 := below_cell HQ1.out y3_1
    have x4_2 := below_cell HQ1.out x4_1
    have y4_2 := below_cell HQ1.out y4_1
    clear hq x3_1 y3_1 x4_1 y4_1
    go_wp2_with fail
    refine (slicesEqual_PairStep' _ _ _ _ _ _ false _ (H3.out.below HB2.out) (H3'.out.below HB2.out) E2.out).mono ?_
    rintro e w4 ⟨rfl, hq⟩
    have HQ2 := Lib.hid (hq.bel : Below _ _ w4)
    have HB3 := Lib.hid (HB2.out.trans (HQ2.out.mono HB2.out.size))
    have x4_3 := below_cell HQ2.out x4_2
    have y4_3 := below_cell HQ2.out y4_2
    clear hq x4_2 y4_2
    go_wp2
    go_ret
    exact ⟨ret_bool HF.out.symm, HW.out.trans (HB3.out.mono HW.out.size)⟩
  | true =>
  have E2 := Lib.hid e2
  cases e3 : eqB us us' with
  | false =>
    have E3 := Lib.hid e3
    have HF : Hid (bb = false) := Lib.hid (by rw [← hb]; unfold eqV; rw [e3]; simp)
    clear hb e3
    go_enter Try.func43, Try.ntmps43
    go_wp2_with fail
    refine (slicesEqual' _ _ _ _ true _ (H1.out.below HB0.out) (H1'.out.below HB0.out) E0.out).mono ?_
    rintro e w2 ⟨rfl, hq⟩
    have HQ0 := Lib.hid (hq.bel : Below _ _ w2)
    have HB1 := Lib.hid (HB0.out.trans (HQ0.out.mono HB0.out.size))
    have x2_1 := below_cell HQ0.out x2_0
    have y2_1 := below_cell HQ0.out y2_0
    have x3_1 := below_cell HQ0.out x3_0
    have y3_1 := below_cell HQ0.out y3_0
    have x4_1 := below_cell HQ0.out x4_0
    have y4_1 := below_cell HQ0.out y4_0
    clear hq x2_0 y2_0 x3_0 y3_0 x4_0 y4_0
    go_wp2_with fail
    refine (slicesEqual_ArcStep' _ _ _ _ _ _ true _ (H2.out.below HB1.out) (H2'.out.below HB1.out) E1.out).mono ?_
    rintro e w3 ⟨rfl, hq⟩
    have HQ1 := Lib.hid (hq.bel : Below _ _ w3)
    have HB2 := Lib.hid (HB1.out.trans (HQ1.out.mono HB1.out.size))
    have x3_2 := below_cell HQ1.out x3_1
    have y3_2 := below_cell HQ1.out y3_1
    have x4_2 := below_cell HQ1.out x4_1
    have y4_2 := below_cell HQ1.out y4_1
    clear hq x3_1 y3_1 x4_1 y4_1
    go_wp2_with fail
    refine (slicesEqual_PairStep' _ _ _ _ _ _ true _ (H3.out.below HB2.out) (H3'.out.below HB2.out) E2.out).mono ?_
    rintro e w4 ⟨rfl, hq⟩
    have HQ2 := Lib.hid (hq.bel : Below _ _ w4)
    have HB3 := Lib.hid (HB2.out.trans (HQ2.out.mono HB2.out.size))
    have x4_3 := below_cell HQ2.out x4_2
    have y4_3 := below_cell HQ2.out y4_2
    clear hq x4_2 y4_2
    go_wp2_with fail
    refine (slicesEqual' _ _ _ _ false _ (H4.out.below HB3.out) (H4'.out.below HB3.out) E3.out).mono ?_
    rintro e w5 ⟨rfl, hq⟩
    have HQ3 := Lib.hid (hq.bel : Below _ _ w5)
    have HB4 := Lib.hid (HB3.out.trans (HQ3.out.mono HB3.out.size))
    clear hq 
    go_wp2
    go_ret
    exact ⟨ret_bool HF.out.symm, HW.out.trans (HB4.out.mono HW.out.size)⟩
  | true =>
  have E3 := Lib.hid e3
  have HF : Hid (bb = true) := Lib.hid (by rw [← hb]; unfold eqV; rw [e0, e1, e2, e3, eqB_yes rfl]; rfl)
  clear hb e0 e1 e2 e3
  go_enter Try.func43, Try.ntmps43
  go_wp2_with fail
  refine (slicesEqual' _ _ _ _ true _ (H1.out.below HB0.out) (H1'.out.below HB0.out) E0.out).mono ?_
  rintro e w2 ⟨rfl, hq⟩
  have HQ0 := Lib.hid (hq.bel : Below _ _ w2)
  have HB1 := Lib.hid (HB0.out.trans (HQ0.out.mono HB0.out.size))
  have x2_1 := below_cell HQ0.out x2_0
  have y2_1 := below_cell HQ0.out y2_0
  have x3_1 := below_cell HQ0.out x3_0
  have y3_1 := below_cell HQ0.out y3_0
  have x4_1 := below_cell HQ0.out x4_0
  have y4_1 := below_cell HQ0.out y4_0
  clear hq x2_0 y2_0 x3_0 y3_0 x4_0 y4_0
  go_wp2_with fail
  refine (slicesEqual_ArcStep' _ _ _ _ _ _ true _ (H2.out.below HB1.out) (H2'.out.below HB1.out) E1.out).mono ?_
  rintro e w3 ⟨rfl, hq⟩
  have HQ1 := Lib.hid (hq.bel : Below _ _ w3)
  have HB2 := Lib.hid (HB1.out.trans (HQ1.out.mono HB1.out.size))
  have x3_2 := below_cell HQ1.out x3_1
  have y3_2 := below_cell HQ1.out y3_1
  have x4_2 := below_cell HQ1.out x4_1
  have y4_2 := below_cell HQ1.out y4_1
  clear hq x3_1 y3_1 x4_1 y4_1
  go_wp2_with fail
  refine (slicesEqual_PairStep' _ _ _ _ _ _ true _ (H3.out.below HB2.out) (H3'.out.below HB2.out) E2.out).mono ?_
  rintro e w4 ⟨rfl, hq⟩
  have HQ2 := Lib.hid (hq.bel : Below _ _ w4)
  have HB3 := Lib.hid (HB2.out.trans (HQ2.out.mono HB2.out.size))
  have x4_3 := below_cell HQ2.out x4_2
  have y4_3 := below_cell HQ2.out y4_2
  clear hq x4_2 y4_2
  go_wp2_with fail
  refine (slicesEqual' _ _ _ _ true _ (H4.out.below HB3.out) (H4'.out.below HB3.out) E3.out).mono ?_
  rintro e w5 ⟨rfl, hq⟩
  have HQ3 := Lib.hid (hq.bel : Below _ _ w5)
  have HB4 := Lib.hid (HB3.out.trans (HQ3.out.mono HB3.out.size))
  clear hq 
  go_wp2
  go_ret
  exact ⟨ret_bool HF.out.symm, HW.out.trans (HB4.out.mono HW.out.size)⟩

end Go.Proofs.Ytclhcnfgpkhplaa
