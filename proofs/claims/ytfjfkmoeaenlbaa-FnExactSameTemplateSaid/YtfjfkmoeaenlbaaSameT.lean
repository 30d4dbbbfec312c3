/-
  Equal templates: SameTemplate of the model, slices.EqualFunc at relations, SameTemplate of the program.
-/
import Derived.Test.YtfjfkmoeaenlbaaSameB
import Derived.Test.YtfjfkmoeaenlbaaRels2
namespace Go.Proofs.Ytfjfkmoeaenlbaa
open Go.RowKit

theorem eqT_no_size {x y : Int} {rs qs : List (Int × List (List Int))} (h : x ≠ y) : eqT x rs y qs = false := by simp [eqT, eqB, h]
theorem eqT_no_rels {x y : Int} {rs qs : List (Int × List (List Int))} (h : rs ≠ qs) : eqT x rs y qs = false := by simp [eqT, eqB, h]
theorem eqT_rels {x : Int} {rs qs : List (Int × List (List Int))} : eqT x rs x qs = eqB rs qs := by simp [eqT, eqB]
theorem eqR_split {x y : Int} {xs ys : List (List Int)} (h : eqR x xs y ys = true) : x = y ∧ xs = ys := by
  simp only [eqR, Bool.and_eq_true] at h
  exact ⟨eqB_true h.1, eqB_true h.2⟩

theorem l01Same' (p1 o1 p2 o2 : Nat) (x y : Int) (xs ys : List (List Int)) (b : Bool) (w : World) (h1 : RelAt w p1 o1 x xs) (h2 : RelAt w p2 o2 y ys) (hb : eqR x xs y ys = b) :
    Calls Try.prog 42 #[.pointer (some ⟨p1, o1, none⟩), .pointer (some ⟨p2, o2, none⟩)] w fun e w' => e = .returned (.bool b) ∧ QW w w' := hb ▸ l01Same p1 o1 p2 o2 x y xs ys w h1 h2
theorem implSameRel' (x : Int) (a1 : Option Addr) (n1 c1 : Nat) (xs : List (List Int)) (y : Int) (a2 : Option Addr) (n2 c2 : Nat) (ys : List (List Int)) (b : Bool) (w : World) (h1 : GridAt w (.slice a1 n1 c1) xs) (h2 : GridAt w (.slice a2 n2 c2) ys) (hb : eqR x xs y ys = b) :
    Calls Try.prog 16 #[.agg #[.int .i64 x, .slice a1 n1 c1], .agg #[.int .i64 y, .slice a2 n2 c2]] w fun e w' => e = .returned (.bool b) ∧ Below w.heap.size w w' := hb ▸ implSameRel x a1 n1 c1 xs y a2 n2 c2 ys w h1 h2

set_option maxHeartbeats 1000000 in
set_option maxRecDepth 100000 in
theorem specSameTemplate (x : Int) (a1 : Option Addr) (n1 c1 : Nat) (rs : List (Int × List (List Int))) (y : Int) (a2 : Option Addr) (n2 c2 : Nat) (qs : List (Int × List (List Int))) (w : World) (h1 : RelsAt w (.slice a1 n1 c1) rs) (h2 : RelsAt w (.slice a2 n2 c2) qs) :
    Calls Try.prog 22 #[.agg #[.int .i64 x, .slice a1 n1 c1], .agg #[.int .i64 y, .slice a2 n2 c2]] w fun e w' => e = .returned (.bool (eqT x rs y qs)) ∧ Below w.heap.size w w' := by
  obtain ⟨a1', c1', hv1, hn1, hc1⟩ := h1
  simp only [Value.slice.injEq] at hv1
  obtain ⟨rfl, rfl, rfl⟩ := hv1
  obtain ⟨a2', c2', hv2, hn2, hc2⟩ := h2
  simp only [Value.slice.injEq] at hv2
  obtain ⟨rfl, rfl, rfl⟩ := hv2
  have HBW := Lib.hid (((Below.refl w.heap.size w).alloc (Nat.le_refl _) (.cells #[.int .i64 x, .slice a1 rs.length c1] 39)).alloc (by simp) (.cells #[.int .i64 y, .slice a2 qs.length c2] 39))
  have HC1 := Lib.hid hc1
  have HC2 := Lib.hid hc2
  clear hc1 hc2
  by_cases hxy : x = y
  · subst hxy
    by_cases hl : rs.length = qs.length
    · rw [← hl] at hn2 HC2 HBW ⊢
      have HL := Lib.hid hl
      clear hl
      go_enter Try.func22, Try.ntmps22
      go_wp2
      go_loopw [5] (fun i wr => ∃ k : Nat, k ≤ rs.length ∧ i = .int .i64 k ∧ (∀ j, j < k → arN rs j = arN qs j ∧ gridN rs j = gridN qs j) ∧ QW ((w.alloc (.cells #[.int .i64 x, .slice a1 rs.length c1] 39)).alloc (.cells #[.int .i64 x, .slice a2 rs.length c2] 39)) wr) (fun i _ => rs.length - (intOf i).toNat)
      case atStart => exact ⟨0, Nat.zero_le _, rfl, fun j hj => absurd hj (Nat.not_lt_zero _), QW.refl _⟩
      case round =>
        obtain ⟨k, hk, rfl, hall, hq⟩ := hrel
        have HA := Lib.hid hall
        have HQ := Lib.hid hq
        have e1 := HQ.out.cell (p := ⟨w.heap.size, 1, none⟩) (v := .slice a1 rs.length c1) (by go_simp)
        have e2 := HQ.out.cell (p := ⟨w.heap.size + 1, 1, none⟩) (v := .slice a2 rs.length c2) (by go_simp)
        clear hall hq
        by_cases hlt : k < rs.length
        · obtain ⟨b1, off1, ha1, hcell1⟩ := HC1.out (by omega)
          subst ha1
          obtain ⟨b2, off2, ha2, hcell2⟩ := HC2.out (by omega)
          subst ha2
          have R1 := Lib.hid (((hcell1 k hlt).below HBW.out).below HQ.out.bel)
          have R2 := Lib.hid (((hcell2 k hlt).below HBW.out).below HQ.out.bel)
          have hlt' : (k : Int) < (rs.length : Int) := by omega
          clear hcell1 hcell2
          cases hbb : eqR (arN rs k) (gridN rs k) (arN qs k) (gridN qs k) with
          | true =>
            have HE := Lib.hid (eqR_split hbb)
            have HB := Lib.hid hbb
            clear hbb
            go_wp2
            go_quiet ((go_at_call 42; exact QW.calls (l01Same' _ _ _ _ _ _ _ _ _ _ (R1.out.below (((QW.refl _).drewN _).bel)) (R2.out.below (((QW.refl _).drewN _).bel)) HB.out)))
            go_wp2
            go_roundw
            case rel =>
              refine ⟨k + 1, by omega, by go_num, fun j hj => ?_, HQ.out.drewN _⟩
              by_cases hjk : j = k
              · subst hjk; exact HE.out
              · exact HA.out j (by omega)
            case measure => simp [intOf]; omega
          | false =>
            have HF := Lib.hid (eqT_no_rels (x := x) (y := x) (rs := rs) (qs := qs) (fun e => by rw [e, eqR_same] at hbb; cases hbb))
            have HB := Lib.hid hbb
            clear hbb
            go_wp2
            go_quiet ((go_at_call 42; exact QW.calls (l01Same' _ _ _ _ _ _ _ _ _ _ (R1.out.below (((QW.refl _).drewN _).bel)) (R2.out.below (((QW.refl _).drewN _).bel)) HB.out)))
            go_wp2
            go_ret
            exact ⟨ret_bool HF.out.symm, HBW.out.trans ((HQ.out.drewN _).below _)⟩
        · obtain rfl : k = rs.length := by omega
          have HF := Lib.hid ((eqT_rels (x := x) (rs := rs) (qs := qs)).trans (eqB_yes (rels_ext HL.out HA.out)))
          go_wp2
          go_ret
          exact ⟨ret_bool HF.out.symm, HBW.out.trans (HQ.out.below _)⟩
    · have HF := Lib.hid (eqT_no_rels (x := x) (y := x) (rs := rs) (qs := qs) (fun e => hl (by rw [e])))
      have hlb : ((rs.length : Int) == qs.length) = false := beq_eq_false_iff_ne.2 (by omega)
      go_enter Try.func22, Try.ntmps22
      go_wp2
      go_ret
      exact ⟨ret_bool HF.out.symm, HBW.out⟩
  · have HF := Lib.hid (eqT_no_size (rs := rs) (qs := qs) hxy)
    have hne : (x == y) = false := beq_eq_false_iff_ne.2 hxy
    go_enter Try.func22, Try.ntmps22
    go_wp2
    go_ret
    exact ⟨ret_bool HF.out.symm, HBW.out⟩

set_option maxHeartbeats 1000000 in
set_option maxRecDepth 100000 in
theorem equalFuncRels (v1 v2 : Value) (rs qs : List (Int × List (List Int))) (w : World) (h1 : RelsAt w v1 rs) (h2 : RelsAt w v2 qs) :
    Calls Try.prog 49 #[v1, v2, .func (.func 16) #[] #[]] w fun e w' => e = .returned (.bool (eqB rs qs)) ∧ Below w.heap.size w w' := by
  obtain ⟨a1, c1, rfl, hn1, hc1⟩ := h1
  obtain ⟨a2, c2, rfl, hn2, hc2⟩ := h2
  have HC1 := Lib.hid hc1
  have HC2 := Lib.hid hc2
  clear hc1 hc2
  by_cases hl : rs.length = qs.length
  · rw [← hl] at hn2 HC2 ⊢
    have HL := Lib.hid hl
    clear hl
    go_enter Try.func49, Try.ntmps49
    go_wp2
    go_loopw [17] (fun i wr => ∃ k : Nat, k ≤ rs.length ∧ i = .int .i64 k ∧ (∀ j, j < k → arN rs j = arN qs j ∧ gridN rs j = gridN qs j) ∧ Below w.heap.size w wr) (fun i _ => rs.length - (intOf i).toNat)
    case atStart => exact ⟨0, Nat.zero_le _, rfl, fun j hj => absurd hj (Nat.not_lt_zero _), Below.refl _ _⟩
    case round =>
      obtain ⟨k, hk, rfl, hall, hb⟩ := hrel
      have HA := Lib.hid hall
      have HB := Lib.hid hb
      clear hall hb
      by_cases hlt : k < rs.length
      · obtain ⟨b1, off1, ha1, hcell1⟩ := HC1.out (by omega)
        subst ha1
        obtain ⟨b2, off2, ha2, hcell2⟩ := HC2.out (by omega)
        subst ha2
        obtain ⟨hx0, A1, N1, C1, hx1, hg1⟩ := (hcell1 k hlt).below HB.out
        have HBA1 := (Below.refl wr.heap.size wr).alloc (Nat.le_refl _) (.cells #[.int .i64 (arN rs k), .slice A1 N1 C1] 27)
        obtain ⟨hy0, A2, N2, C2, hy1, hg2⟩ := (hcell2 k hlt).below HB.out
        have HBA := Lib.hid (HBA1.alloc (by simp) (.cells #[.int .i64 (arN qs k), .slice A2 N2 C2] 27))
        have hl1 := cell_block_lt hy0
        have hne1 : ¬ b2 = wr.heap.size := by have : b2 < wr.heap.size := hl1; omega
        have hne2 : ¬ wr.heap.size = b2 := by omega
        have hlt' : (k : Int) < (rs.length : Int) := by omega
        have G1 := Lib.hid (hg1.below HBA.out)
        have G2 := Lib.hid (hg2.below HBA.out)
        have hy0' := below_cell HBA1 hy0
        have hy1' := below_cell HBA1 hy1
        clear hcell1 hcell2 hg1 hg2 HBA1 hl1
        cases hbb : eqR (arN rs k) (gridN rs k) (arN qs k) (gridN qs k) with
        | true =>
          have HE := Lib.hid (eqR_split hbb)
          have HBB := Lib.hid hbb
          clear hbb
          go_wp2_with fail
          refine (implSameRel' _ _ _ _ _ _ _ _ _ _ _ _ G1.out G2.out HBB.out).mono ?_
          rintro e w2 ⟨rfl, hb2⟩
          have HB2 := Lib.hid (HB.out.trans ((HBA.out.trans (hb2.mono HBA.out.size)).mono HB.out.size))
          clear hb2
          go_wp2
          go_roundw
          case rel =>
            refine ⟨k + 1, by omega, by go_num, fun j hj => ?_, HB2.out⟩
            by_cases hjk : j = k
            · subst hjk; exact HE.out
            · exact HA.out j (by omega)
          case measure => simp [intOf]; omega
        | false =>
          have HF := Lib.hid (eqB_no (x := rs) (y := qs) (fun e => by rw [e, eqR_same] at hbb; cases hbb))
          have HBB := Lib.hid hbb
          clear hbb
          go_wp2_with fail
          refine (implSameRel' _ _ _ _ _ _ _ _ _ _ _ _ G1.out G2.out HBB.out).mono ?_
          rintro e w2 ⟨rfl, hb2⟩
          have HB2 := Lib.hid (HB.out.trans ((HBA.out.trans (hb2.mono HBA.out.size)).mono HB.out.size))
          clear hb2
          go_wp2
          go_ret
          exact ⟨ret_bool HF.out.symm, HB2.out⟩
      · obtain rfl : k = rs.length := by omega
        have HF := Lib.hid (eqB_yes (rels_ext HL.out HA.out))
        go_wp2
        go_ret
        exact ⟨ret_bool HF.out.symm, HB.out⟩
  · have HF := Lib.hid (eqB_no (x := rs) (y := qs) (fun e => hl (by rw [e])))
    have hlb : ((rs.length : Int) == qs.length) = false := beq_eq_false_iff_ne.2 (by omega)
    go_enter Try.func49, Try.ntmps49
    go_wp2
    go_ret
    exact ⟨ret_bool HF.out.symm, Below.refl _ _⟩

set_option maxHeartbeats 400000 in
theorem implSameTemplate (x : Int) (a1 : Option Addr) (n1 c1 : Nat) (rs : List (Int × List (List Int))) (y : Int) (a2 : Option Addr) (n2 c2 : Nat) (qs : List (Int × List (List Int))) (w : World) (h1 : RelsAt w (.slice a1 n1 c1) rs) (h2 : RelsAt w (.slice a2 n2 c2) qs) :
    Calls Try.prog 23 #[.agg #[.int .i64 x, .slice a1 n1 c1], .agg #[.int .i64 y, .slice a2 n2 c2]] w fun e w' => e = .returned (.bool (eqT x rs y qs)) ∧ Below w.heap.size w w' := by
  have H1 := Lib.hid h1
  have H2 := Lib.hid h2
  clear h1 h2
  by_cases hxy : x = y
  · subst hxy
    have HF := Lib.hid (eqT_rels (x := x) (rs := rs) (qs := qs))
    go_enter Try.func23, Try.ntmps23
    go_wp2_with fail
    have hbw := ((Below.refl w.heap.size w).alloc (Nat.le_refl _) (.cells #[.int .i64 x, .slice a1 n1 c1] 39)).alloc (by simp) (.cells #[.int .i64 x, .slice a2 n2 c2] 39)
    refine (equalFuncRels _ _ _ _ _ (H1.out.below hbw) (H2.out.below hbw)).mono ?_
    rintro e w2 ⟨rfl, hq⟩
    have HQ := Lib.hid (hbw.trans (hq.mono hbw.size))
    clear hq hbw
    go_wp2
    go_ret
    exact ⟨ret_bool HF.out.symm, HQ.out⟩
  · have HF := Lib.hid (eqT_no_size (rs := rs) (qs := qs) hxy)
    have hne : (x == y) = false := beq_eq_false_iff_ne.2 hxy
    go_enter Try.func23, Try.ntmps23
    go_wp2
    go_ret
    exact ⟨ret_bool HF.out.symm, ((Below.refl _ _).alloc (Nat.le_refl _) _).alloc (by simp) _⟩

end Go.Proofs.Ytfjfkmoeaenlbaa
