/-
  FnExactValidRel: the walk over the law.
-/
import Derived.Test.YtfjfkmoeaenlbaaValidRel
namespace Go.Proofs.Ytfjfkmoeaenlbaa
open Go.RowKit

/-- What stands while a law goes on: nothing that was there has turned, and some grids read as they did. -/
def Kept (w : World) (l : List (Value × List (List Int))) (w' : World) : Prop := Below w.heap.size w w' ∧ ∀ x, x ∈ l → GridAt w' x.1 x.2
theorem Kept.below {w w1 w2 : World} {l : List (Value × List (List Int))} (h : Kept w l w1) (hb : Below w1.heap.size w1 w2) : Kept w l w2 :=
  ⟨h.1.trans (hb.mono h.1.size), fun x hx => (h.2 x hx).below hb⟩
theorem held4 {w w' : World} {p q : Addr} {x y z u : Value} {p' q' : Addr} {w0 : World} {l : List (Value × List (List Int))}
    (h : w.cell? p = some x ∧ w.cell? p' = some y ∧ w.cell? q = some z ∧ w.cell? q' = some u ∧ Kept w0 l w) (hb : Below w.heap.size w w') :
    w'.cell? p = some x ∧ w'.cell? p' = some y ∧ w'.cell? q = some z ∧ w'.cell? q' = some u ∧ Kept w0 l w' :=
  ⟨below_cell hb h.1, below_cell hb h.2.1, below_cell hb h.2.2.1, below_cell hb h.2.2.2.1, h.2.2.2.2.below hb⟩

theorem held4_grid {w : World} {p q : Addr} {x y z u : Value} {p' q' : Addr} {w0 : World} {l : List (Value × List (List Int))}
    (h : w.cell? p = some x ∧ w.cell? p' = some y ∧ w.cell? q = some z ∧ w.cell? q' = some u ∧ Kept w0 l w) {v : Value} {xss : List (List Int)} (hx : (v, xss) ∈ l) : GridAt w v xss := h.2.2.2.2.2 _ hx

set_option maxHeartbeats 1000000 in
set_option maxRecDepth 100000 in
theorem lawValidRel (size : Int) (ar : Int) (a : Option Addr) (n c : Nat) (xss : List (List Int)) (w : World) (h : GridAt w (.slice a n c) xss) :
    Calls Try.prog 3 #[.int .i64 size, .agg #[.int .i64 ar, .slice a n c]] w fun e w' => e = .returned (.bool true) ∧ Below w.heap.size w w' := by
  have HB0 := Lib.hid ((Below.refl w.heap.size w).alloc (Nat.le_refl _) (.cells #[.int .i64 ar, .slice a n c] 24))
  have H0 := Lib.hid (h.below HB0.out)
  clear h
  by_cases hl : (1048576 : Int) < gridSize xss
  · have HF := Lib.hid (szF_no hl)
    clear hl
    go_enter Try.func3, Try.ntmps3
    go_wp2_with fail
    refine (szRel _ _ _ _ _ _ _ H0.out (by omega) (by omega)).mono ?_
    rw [HF.out]
    rintro e w1 ⟨rfl, hb1⟩
    have HB1 := Lib.hid (HB0.out.trans (hb1.mono (by simp)))
    clear hb1
    go_wp2
    go_ret
    exact ⟨rfl, HB1.out⟩
  · have HF := Lib.hid (szF_yes (t := gridSize xss) (l := 1048576) (by omega))
    have HL : Hid (xss.length + (xss.map List.length).sum ≤ 1048576) := by
      show _ ≤ _
      unfold gridSize at hl
      omega
    have hpos : ¬ (1048576 - (gridSize xss : Int) < 0) := by omega
    clear hl
    obtain ⟨b, hb⟩ : ∃ b, Tells b (RelOk size ar xss) := by
      by_cases hr : RelOk size ar xss
      · exact ⟨true, Tells.yes hr⟩
      · exact ⟨false, Tells.no hr⟩
    have HT := Lib.hid hb
    clear hb
    go_enter Try.func3, Try.ntmps3
    go_wp2_with fail
    refine (szRel _ _ _ _ _ _ _ H0.out (by omega) (by omega)).mono ?_
    rw [HF.out]
    rintro e w1 ⟨rfl, hb1⟩
    have HB1 := Lib.hid (HB0.out.trans (hb1.mono (by simp)))
    have H1 := Lib.hid (H0.out.below hb1)
    have c10 := below_cell (a := ⟨w.heap.size, 0, none⟩) (v := .int .i64 ar) hb1 (by simp)
    have c11 := below_cell (a := ⟨w.heap.size, 1, none⟩) (v := .slice a n c) hb1 (by simp)
    clear hb1
    go_wp2_with fail
    -- w0 := spec.ValidRel(aSize, toRel(aR))
    refine (toRel _ _ _ _ _ _ H1.out HL.out).mono ?_
    rintro e w2 ⟨a2, n2, c2, rfl, ho2, hb2⟩
    have HB2 := Lib.hid (HB1.out.trans (hb2.mono HB1.out.size))
    have H2 := Lib.hid (H1.out.below hb2)
    have G2 := Lib.hid ho2.gridAt
    have c20 := below_cell hb2 c10
    have c21 := below_cell hb2 c11
    clear hb2 ho2 c10 c11
    go_wp2_with fail
    refine (specValidRel _ _ _ _ _ _ b _ G2.out HT.out).mono ?_
    rintro e w3 ⟨rfl, hb3⟩
    have HB3 := Lib.hid (HB2.out.trans (hb3.mono HB2.out.size))
    have H3 := Lib.hid (H2.out.below hb3)
    have c30 := below_cell hb3 c20
    have c31 := below_cell hb3 c21
    clear hb3 c20 c21 G2
    go_wp2_with fail
    -- x1 := toRel(aR)
    refine (toRel _ _ _ _ _ _ H3.out HL.out).mono ?_
    rintro e w4 ⟨a4, n4, c4, rfl, ho4, hb4⟩
    have HB4 := Lib.hid (HB3.out.trans (hb4.mono HB3.out.size))
    have H4 := Lib.hid (H3.out.below hb4)
    have G4 := Lib.hid ho4.gridAt
    have c40 := below_cell hb4 c30
    have c41 := below_cell hb4 c31
    clear hb4 ho4 c30 c31
    go_wp2_with fail
    -- g0 := impl.ValidRel(aSize, x1)
    have hb5 : Below w4.heap.size w4 (w4.alloc (.cells #[.int .i64 ar, .slice a4 n4 c4] 27)) := (Below.refl _ _).alloc (Nat.le_refl _) _
    refine (implValidRel _ _ _ _ _ _ b _ (G4.out.below hb5) HT.out).mono ?_
    rintro e w6 ⟨rfl, hb6⟩
    have d0 := below_cell (a := ⟨w4.heap.size, 0, none⟩) (v := .int .i64 ar) hb6 (by simp)
    have d1 := below_cell (a := ⟨w4.heap.size, 1, none⟩) (v := .slice a4 n4 c4) hb6 (by simp)
    have c60 := below_cell hb6 (below_cell hb5 c40)
    have c61 := below_cell hb6 (below_cell hb5 c41)
    have hb46 := hb5.trans (hb6.mono (by simp))
    have HK : Hid (Kept w [(.slice a n c, xss), (.slice a4 n4 c4, xss)] w6) := by
      refine ⟨HB4.out.trans (hb46.mono HB4.out.size), fun x hx => ?_⟩
      simp only [List.mem_cons, List.not_mem_nil, or_false] at hx
      rcases hx with rfl | rfl
      · exact H4.out.below hb46
      · exact G4.out.below hb46
    clear hb5 hb6 hb46 c40 c41
    go_wp2_with fail
    go_region_held3 (fun w' => w'.cell? ⟨w4.heap.size, 0, none⟩ = some (.int .i64 ar) ∧ w'.cell? ⟨w4.heap.size, 1, none⟩ = some (.slice a4 n4 c4) ∧ w'.cell? ⟨w.heap.size, 0, none⟩ = some (.int .i64 ar) ∧ w'.cell? ⟨w.heap.size, 1, none⟩ = some (.slice a n c) ∧ Kept w [(.slice a n c, xss), (.slice a4 n4 c4, xss)] w')
      (first | exact held4 (by assumption) hb7 | exact held4 (by assumption) hb8 | exact ⟨d0, d1, c60, c61, HK.out.below ((QW.refl _).drew.below _)⟩)
      (first
        | (go_at_call 12; refine (toRel _ _ _ _ _ _ (held4_grid (by assumption) (by simp)) HL.out).mono ?_; rintro e w7 ⟨a7, n7, c7, rfl, ho7, hb7⟩; have G7 := Lib.hid ho7.gridAt; clear ho7)
        | (go_at_call 14; refine (eqRel' _ _ _ _ _ _ _ _ _ _ true _ (held4_grid (by assumption) (by simp)) G7.out (eqR_same _ _)).mono ?_; rintro e w8 ⟨rfl, hb8⟩))
    have HE := Lib.hid ((((HK.out.below ((QW.refl _).drew.below _)).below hb7).below hb8).1)
    clear hb7 hb8
    go_wp2
    go_ret
    exact ⟨rfl, HE.out⟩

end Go.Proofs.Ytfjfkmoeaenlbaa
