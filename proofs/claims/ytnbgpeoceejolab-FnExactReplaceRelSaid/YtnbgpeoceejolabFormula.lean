/-
  Formulas: the laws' measures, copies and comparisons of them.
-/
import Derived.Test.YtnbgpeoceejolabPairsAtom
import Derived.Test.YtnbgpeoceejolabKept3
namespace Go.Proofs.Ytnbgpeoceejolab
open Go.RowKit

/-- what a formula is compared by -/
def eqF (x y : Int) (rs : List (Int × List Int)) (x' y' : Int) (qs : List (Int × List Int)) : Bool := eqB x x' && (eqB y y' && eqB rs qs)
theorem eqF_same (x y : Int) (rs : List (Int × List Int)) : eqF x y rs x y rs = true := by simp [eqF, eqB]
theorem eqF_no1 {x y x' y' : Int} {rs qs : List (Int × List Int)} (h : x ≠ x') : eqF x y rs x' y' qs = false := by simp [eqF, eqB, h]
theorem eqF_no2 {x y x' y' : Int} {rs qs : List (Int × List Int)} (h : y ≠ y') : eqF x y rs x' y' qs = false := by simp [eqF, eqB, h]
theorem eqF_no3 {x y x' y' : Int} {rs qs : List (Int × List Int)} (h : rs ≠ qs) : eqF x y rs x' y' qs = false := by simp [eqF, eqB, h]
theorem eqF_rows {x y : Int} {rs qs : List (Int × List Int)} : eqF x y rs x y qs = eqB rs qs := by simp [eqF, eqB]

/-- A formula lies behind a pointer. -/
structure FormAt (w : World) (b o : Nat) (x y : Int) (rs : List (Int × List Int)) : Prop where
  free : w.cell? ⟨b, o, none⟩ = some (.int .i64 x)
  vars : w.cell? ⟨b, o + 1, none⟩ = some (.int .i64 y)
  atoms : ∃ a n c, w.cell? ⟨b, o + 2, none⟩ = some (.slice a n c) ∧ OpsAt w (.slice a n c) rs
theorem FormAt.below {w w' : World} {b o : Nat} {x y : Int} {rs : List (Int × List Int)} (h : FormAt w b o x y rs) (hb : Below w.heap.size w w') : FormAt w' b o x y rs := by
  obtain ⟨h1, h2, a, n, c, h3, h4⟩ := h
  exact ⟨below_cell hb h1, below_cell hb h2, a, n, c, below_cell hb h3, h4.below hb⟩
theorem FormAt.new (w : World) (x y : Int) (a : Option Addr) (n c : Nat) (rs : List (Int × List Int)) (t : TypeId) (h : OpsAt w (.slice a n c) rs) : FormAt (w.alloc (.cells #[.int .i64 x, .int .i64 y, .slice a n c] t)) w.heap.size 0 x y rs :=
  ⟨by simp [World.cell?_alloc_new], by simp [World.cell?_alloc_new], a, n, c, by simp [World.cell?_alloc_new], h.below ((Below.refl _ _).alloc (Nat.le_refl _) _)⟩

set_option maxHeartbeats 400000 in
theorem szFormula (x y : Int) (a : Option Addr) (n c : Nat) (rs : List (Int × List Int)) (left : Int) (w : World) (h : OpsAt w (.slice a n c) rs) (h0 : 0 ≤ left) (h1 : left ≤ 1048576) :
    Calls Try.prog 7 #[.agg #[.int .i64 x, .int .i64 y, .slice a n c], .int .i64 left] w fun e w' => e = .returned (.int .i64 (szF (opsSize rs) left)) ∧ Below w.heap.size w w' := by
  have H := Lib.hid h
  clear h
  have hbw := (Below.refl w.heap.size w).alloc (Nat.le_refl _) (.cells #[.int .i64 x, .int .i64 y, .slice a n c] 27)
  have HW := Lib.hid hbw
  clear hbw
  by_cases hl : left < opsSize rs
  · have HF := Lib.hid (szF_no hl)
    go_enter Try.func7, Try.ntmps7
    go_wp2_with fail
    refine (szAtomS _ _ _ _ (H.out.below HW.out) h0 h1).mono ?_
    rw [HF.out]
    rintro e w2 ⟨rfl, hb2⟩
    have HQ := Lib.hid (HW.out.trans (hb2.mono HW.out.size))
    clear hb2
    go_wp2
    go_ret
    exact ⟨ret_int HF.out.symm, HQ.out⟩
  · have HF := Lib.hid (szF_yes (t := opsSize rs) (l := left) (by omega))
    have hl' : ¬ left - opsSize rs < 0 := by omega
    go_enter Try.func7, Try.ntmps7
    go_wp2_with fail
    refine (szAtomS _ _ _ _ (H.out.below HW.out) h0 h1).mono ?_
    rw [HF.out]
    rintro e w2 ⟨rfl, hb2⟩
    have HQ := Lib.hid (HW.out.trans (hb2.mono HW.out.size))
    clear hb2
    go_wp2
    go_ret
    exact ⟨ret_int HF.out.symm, HQ.out⟩

/-- A formula of its own. -/
def MadeFormula (w : World) (x y : Int) (rs : List (Int × List Int)) (e : Ending) (w' : World) : Prop :=
  ∃ a n c, e = .returned (.agg #[.int .i64 x, .int .i64 y, .slice a n c]) ∧ OwnOps 83 w' w.heap.size w'.heap.size (.slice a n c) rs ∧ Below w.heap.size w w'

set_option maxHeartbeats 400000 in
theorem toFormula (x y : Int) (a : Option Addr) (n c : Nat) (rs : List (Int × List Int)) (w : World) (h : OpsAt w (.slice a n c) rs) (hl : opsSize rs ≤ 1048576) :
    Calls Try.prog 10 #[.agg #[.int .i64 x, .int .i64 y, .slice a n c]] w (MadeFormula w x y rs) := by
  have hH := Lib.hid h
  clear h
  go_enter Try.func10, Try.ntmps10
  go_wp2_with fail
  refine (toAtomS _ _ _ (hH.out.below ((((Below.refl _ _).alloc (Nat.le_refl _) _).alloc (by simp) _).alloc (by simp; omega) _)) hl).mono ?_
  rintro e w2 ⟨a2, n2, c2, rfl, ho, hb2⟩
  obtain ⟨hc, hf⟩ := bcell hb2
  have hz : w.heap.size + 3 ≤ w2.heap.size := by have := hb2.size; simp at this; omega
  have HO := Lib.hid ho
  have HB := Lib.hid hb2
  clear ho hb2
  go_wp2
  refine bodyPost_ret (v := .agg #[.int .i64 x, .int .i64 y, .slice a2 n2 c2]) (by simp [results, Try.results10, go_sem, hc]) rfl ⟨a2, n2, c2, rfl, ?_, ?_⟩
  · exact (((((HO.out.stored (by simp) _).stored (by simp) _).stored (by simp) _).stored (by simp) _).mono (by simp; omega)).full
  · exact (((((((((Below.refl _ _).alloc (Nat.le_refl _) _).alloc (by simp) _).alloc (by simp; omega) _).trans (HB.out.mono (by simp; omega))).setCell (by simp; omega) _).setCell (by simp) _).setCell (by simp) _).setCell (by simp) _)

set_option maxHeartbeats 400000 in
theorem eqFormula (x y : Int) (a1 : Option Addr) (n1 c1 : Nat) (rs : List (Int × List Int)) (x' y' : Int) (a2 : Option Addr) (n2 c2 : Nat) (qs : List (Int × List Int)) (w : World) (h1 : OpsAt w (.slice a1 n1 c1) rs) (h2 : OpsAt w (.slice a2 n2 c2) qs) :
    Calls Try.prog 12 #[.agg #[.int .i64 x, .int .i64 y, .slice a1 n1 c1], .agg #[.int .i64 x', .int .i64 y', .slice a2 n2 c2]] w fun e w' => e = .returned (.bool (eqF x y rs x' y' qs)) ∧ Below w.heap.size w w' := by
  have H1 := Lib.hid h1
  have H2 := Lib.hid h2
  clear h1 h2
  have HW := Lib.hid (((Below.refl w.heap.size w).alloc (Nat.le_refl _) (.cells #[.int .i64 x, .int .i64 y, .slice a1 n1 c1] 32)).alloc (by simp) (.cells #[.int .i64 x', .int .i64 y', .slice a2 n2 c2] 32))
  by_cases hxy : x = x'
  · subst hxy
    by_cases hy : y = y'
    · subst hy
      have HF := Lib.hid (eqF_rows (x := x) (y := y) (rs := rs) (qs := qs))
      cases hb : eqB rs qs with
      | true =>
        have HB := Lib.hid hb
        clear hb
        go_enter Try.func12, Try.ntmps12
        go_wp2_with fail
        refine (eqAtomS' _ _ _ _ _ _ (H1.out.below HW.out) (H2.out.below HW.out) HB.out).mono ?_
        rintro e w2 ⟨rfl, hq⟩
        have HQ := Lib.hid (HW.out.trans (hq.mono HW.out.size))
        clear hq
        go_wp2
        go_ret
        exact ⟨ret_bool (by rw [HF.out, HB.out]), HQ.out⟩
      | false =>
        have HB := Lib.hid hb
        clear hb
        go_enter Try.func12, Try.ntmps12
        go_wp2_with fail
        refine (eqAtomS' _ _ _ _ _ _ (H1.out.below HW.out) (H2.out.below HW.out) HB.out).mono ?_
        rintro e w2 ⟨rfl, hq⟩
        have HQ := Lib.hid (HW.out.trans (hq.mono HW.out.size))
        clear hq
        go_wp2
        go_ret
        exact ⟨ret_bool (by rw [HF.out, HB.out]), HQ.out⟩
    · have HF := Lib.hid (eqF_no2 (x := x) (x' := x) (rs := rs) (qs := qs) hy)
      have hne : (y == y') = false := beq_eq_false_iff_ne.2 hy
      go_enter Try.func12, Try.ntmps12
      go_wp2
      go_ret
      exact ⟨ret_bool HF.out.symm, HW.out⟩
  · have HF := Lib.hid (eqF_no1 (y := y) (y' := y') (rs := rs) (qs := qs) hxy)
    have hne : (x == x') = false := beq_eq_false_iff_ne.2 hxy
    go_enter Try.func12, Try.ntmps12
    go_wp2
    go_ret
    exact ⟨ret_bool HF.out.symm, HW.out⟩

theorem eqFormula' (x y : Int) (a1 : Option Addr) (n1 c1 : Nat) (rs : List (Int × List Int)) (x' y' : Int) (a2 : Option Addr) (n2 c2 : Nat) (qs : List (Int × List Int)) (b : Bool) (w : World) (h1 : OpsAt w (.slice a1 n1 c1) rs) (h2 : OpsAt w (.slice a2 n2 c2) qs) (hb : eqF x y rs x' y' qs = b) :
    Calls Try.prog 12 #[.agg #[.int .i64 x, .int .i64 y, .slice a1 n1 c1], .agg #[.int .i64 x', .int .i64 y', .slice a2 n2 c2]] w fun e w' => e = .returned (.bool b) ∧ Below w.heap.size w w' := hb ▸ eqFormula x y a1 n1 c1 rs x' y' a2 n2 c2 qs w h1 h2

end Go.Proofs.Ytnbgpeoceejolab
