/-
  Equal relations: l01Same and SameRel of the model, slices.EqualFunc at rows, SameRel of the program.
-/
import Derived.Test.YtjkbffoaenhhgaaDoorGRel
namespace Go.Proofs.YtjkbffoaenhhgaaDoor
open Go.RowKit

theorem eqR_no_arity {x y : Int} {xs ys : List (List Int)} (h : x ≠ y) : eqR x xs y ys = false := by simp [eqR, eqB, h]
theorem eqR_no_rows {x y : Int} {xs ys : List (List Int)} (h : xs ≠ ys) : eqR x xs y ys = false := by simp [eqR, eqB, h]
theorem eqR_yes {x y : Int} {xs ys : List (List Int)} (h : x = y) (k : xs = ys) : eqR x xs y ys = true := by simp [eqR, eqB, h, k]
theorem eqR_rows {x : Int} {xs ys : List (List Int)} : eqR x xs x ys = eqB xs ys := by simp [eqR, eqB]

set_option maxHeartbeats 1000000 in
set_option maxRecDepth 100000 in
theorem l01Same (p1 o1 p2 o2 : Nat) (x y : Int) (xs ys : List (List Int)) (w : World) (h1 : RelAt w p1 o1 x xs) (h2 : RelAt w p2 o2 y ys) :
    Calls Tryd.prog 37 #[.pointer (some ⟨p1, o1, none⟩), .pointer (some ⟨p2, o2, none⟩)] w fun e w' => e = .returned (.bool (eqR x xs y ys)) ∧ QW w w' := by
  obtain ⟨hp0, a, n, c, hp1, V1, ⟨a1, c1, hv1, hn1, hc1⟩, hV1⟩ := h1
  simp only [Value.slice.injEq] at hv1
  obtain ⟨rfl, rfl, rfl⟩ := hv1
  obtain ⟨hr0, a2, n2, c2, hr1, V2, ⟨a2', c2', hv2, hn2, hc2⟩, hV2⟩ := h2
  simp only [Value.slice.injEq] at hv2
  obtain ⟨rfl, rfl, rfl⟩ := hv2
  have HC1 := Lib.hid hc1
  have HC2 := Lib.hid hc2
  have HV1 := Lib.hid hV1
  have HV2 := Lib.hid hV2
  clear hc1 hc2 hV1 hV2
  by_cases hxy : x = y
  · subst hxy
    by_cases hl : xs.length = ys.length
    · rw [← hl] at hr1 hn2 HC2 HV2
      have HL := Lib.hid hl
      clear hl
      go_enter Tryd.func37, Tryd.ntmps37
      go_wp2
      go_quiet (fail)
      go_wp2
      go_loopw [5] (fun i wr => ∃ k : Nat, k ≤ xs.length ∧ i = .int .i64 k ∧ (∀ j, j < k → rowN xs j = rowN ys j) ∧ QW w wr) (fun i _ => xs.length - (intOf i).toNat)
      case atStart => exact ⟨0, Nat.zero_le _, rfl, fun j hj => absurd hj (Nat.not_lt_zero _), (QW.refl _).drewN _⟩
      case round =>
        obtain ⟨k, hk, rfl, hall, hq⟩ := hrel
        have HA := Lib.hid hall
        have HQ := Lib.hid hq
        have hq1 := HQ.out.cell hp1
        have hq2 := HQ.out.cell hr1
        clear hall hq
        by_cases hlt : k < xs.length
        · obtain ⟨b1, off1, ha1, hcell1⟩ := HC1.out (by omega)
          subst ha1
          obtain ⟨b2, off2, ha2, hcell2⟩ := HC2.out (by omega)
          subst ha2
          have hx1 := HQ.out.cell (hcell1 k hlt)
          have hx2 := HQ.out.cell (hcell2 k hlt)
          have hlt' : (k : Int) < (xs.length : Int) := by omega
          clear hcell1 hcell2
          by_cases he : rowN xs k = rowN ys k
          · have HE := Lib.hid he
            have HB := Lib.hid (eqB_yes he)
            clear he
            go_wp2
            go_quiet ((go_at_call 51; exact QW.calls (l00Same' _ _ _ _ _ _ ((HQ.out.drewN _).row (HV1.out k hlt)) ((HQ.out.drewN _).row (HV2.out k hlt)) HB.out)))
            go_wp2
            go_roundw
            case rel =>
              refine ⟨k + 1, by omega, by go_num, fun j hj => ?_, HQ.out.drewN _⟩
              by_cases hjk : j = k
              · subst hjk; exact HE.out
              · exact HA.out j (by omega)
            case measure => simp [intOf]; omega
          · have HF := Lib.hid (eqR_no_rows (x := x) (y := x) (xs := xs) (ys := ys) (fun e => he (by rw [e])))
            have HB := Lib.hid (eqB_no he)
            clear he
            go_wp2
            go_quiet ((go_at_call 51; exact QW.calls (l00Same' _ _ _ _ _ _ ((HQ.out.drewN _).row (HV1.out k hlt)) ((HQ.out.drewN _).row (HV2.out k hlt)) HB.out)))
            go_wp2
            go_ret
            exact ⟨ret_bool HF.out.symm, HQ.out.drewN _⟩
        · obtain rfl : k = xs.length := by omega
          have HF := Lib.hid (eqR_yes (x := x) (y := x) rfl (grid_ext HL.out HA.out))
          go_wp2
          go_ret
          exact ⟨ret_bool HF.out.symm, HQ.out⟩
    · have HF := Lib.hid (eqR_no_rows (x := x) (y := x) (xs := xs) (ys := ys) (fun e => hl (by rw [e])))
      have hlb : ((xs.length : Int) == ys.length) = false := beq_eq_false_iff_ne.2 (by omega)
      go_enter Tryd.func37, Tryd.ntmps37
      go_wp2
      go_quiet (fail)
      go_wp2
      go_ret
      exact ⟨ret_bool HF.out.symm, (QW.refl _).drewN _⟩
  · have HF := Lib.hid (eqR_no_arity (xs := xs) (ys := ys) hxy)
    have hne : (x == y) = false := beq_eq_false_iff_ne.2 hxy
    go_enter Tryd.func37, Tryd.ntmps37
    go_wp2
    go_quiet (fail)
    go_wp2
    go_ret
    exact ⟨ret_bool HF.out.symm, (QW.refl _).drewN _⟩

set_option maxHeartbeats 400000 in
theorem specSameRel (x : Int) (a1 : Option Addr) (n1 c1 : Nat) (xs : List (List Int)) (y : Int) (a2 : Option Addr) (n2 c2 : Nat) (ys : List (List Int)) (w : World) (h1 : GridAt w (.slice a1 n1 c1) xs) (h2 : GridAt w (.slice a2 n2 c2) ys) :
    Calls Tryd.prog 15 #[.agg #[.int .i64 x, .slice a1 n1 c1], .agg #[.int .i64 y, .slice a2 n2 c2]] w fun e w' => e = .returned (.bool (eqR x xs y ys)) ∧ Below w.heap.size w w' := by
  have H1 := Lib.hid h1
  have H2 := Lib.hid h2
  clear h1 h2
  go_enter Tryd.func15, Tryd.ntmps15
  go_wp2_with fail
  have hbw := ((Below.refl w.heap.size w).alloc (Nat.le_refl _) (.cells #[.int .i64 x, .slice a1 n1 c1] 27)).alloc (by simp) (.cells #[.int .i64 y, .slice a2 n2 c2] 27)
  refine (l01Same w.heap.size 0 (w.heap.size + 1) 0 x y xs ys _ ⟨by go_simp, a1, n1, c1, by go_simp, H1.out.below hbw⟩ ⟨by go_simp, a2, n2, c2, by go_simp, H2.out.below hbw⟩).mono ?_
  rintro e w2 ⟨rfl, hq⟩
  have HQ := Lib.hid (hbw.trans (hq.below _))
  clear hq hbw
  go_wp2
  go_ret
  exact ⟨rfl, HQ.out⟩

end Go.Proofs.YtjkbffoaenhhgaaDoor
