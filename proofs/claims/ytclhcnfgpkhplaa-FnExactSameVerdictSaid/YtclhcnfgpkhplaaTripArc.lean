/-
  Lists of steps that remove values: the laws' measures, copies and comparisons.
-/
import Derived.Test.YtclhcnfgpkhplaaTrip
import Derived.Test.YtclhcnfgpkhplaaRegI
namespace Go.Proofs.Ytclhcnfgpkhplaa
open Go.RowKit

set_option maxHeartbeats 400000 in
theorem szArcStepS (v : Value) (n : Nat) (xs : List Int) (left : Int) (w : World) (h : TripAt w v n xs) (h0 : 0 ≤ left) (h1 : left ≤ 1048576) :
    Calls Try.prog 87 #[v, .int .i64 left] w fun e w' => e = .returned (.int .i64 (szF n left)) ∧ w = w' := by
  obtain ⟨a, c, rfl, hl, hn, -⟩ := h
  by_cases hlt : left < n
  · have HF := Lib.hid (szF_no hlt)
    have hl' : left - n < 0 := by omega
    go_enter Try.func87, Try.ntmps87
    go_wp2
    go_ret
    exact ⟨ret_int HF.out.symm, rfl⟩
  · have HF := Lib.hid (szF_yes (t := n) (l := left) (by omega))
    have hl' : ¬ left - n < 0 := by omega
    go_enter Try.func87, Try.ntmps87
    go_wp2
    go_ret
    exact ⟨ret_int HF.out.symm, rfl⟩

set_option linter.unusedSimpArgs false in
set_option maxHeartbeats 1000000 in
set_option maxRecDepth 100000 in
theorem toArcStep (x y z : Int) (w : World) : Calls Try.prog 148 #[.agg #[.int .i64 x, .int .i64 y, .int .i64 z]] w fun e w' => e = .returned (.agg #[.int .i64 x, .int .i64 y, .int .i64 z]) ∧ Below w.heap.size w w' := by
  go_enter Try.func148, Try.ntmps148
  go_wp2
  refine bodyPost_ret (v := .agg #[.int .i64 x, .int .i64 y, .int .i64 z]) (by simp [results, Try.results148, go_sem]) rfl ⟨rfl, ?_⟩
  exact ((((Below.refl _ _).alloc (Nat.le_refl _) _).alloc (by simp) _).alloc (by simp; omega) _)

theorem info_ArcStep : (Try.prog.info? 132).map (fun i => (i.zero, i.size, i.bytes)) = some (some (.agg #[.int .i64 0, .int .i64 0, .int .i64 0]), 3, 24) := by kernel_rfl

set_option linter.unusedSimpArgs false in
set_option maxHeartbeats 1000000 in
set_option maxRecDepth 100000 in
theorem toArcStepS (v : Value) (n : Nat) (xs : List Int) (w : World) (h : TripAt w v n xs) (hl : n ≤ 1048576) :
    Calls Try.prog 90 #[v] w (MadeTrip 132 w n xs) := by
  obtain ⟨a, c, rfl, hlen, hn, hc⟩ := h
  obtain ⟨i0, hi, hz0, hz1, hz2⟩ := info_parts info_ArcStep
  have HC := Lib.hid hc
  have HLN := Lib.hid hlen
  clear hc hlen
  go_enter Try.func90, Try.ntmps90
  go_wp2_with (at_make; refine wpList_make_full _ rfl _ _ 71 rfl w.heap.size 132 i0 (.agg #[.int .i64 0, .int .i64 0, .int .i64 0]) 3 Try.underlying71 hi hz0 hz1 .i64 .i64 _ _ n rfl rfl rfl rfl (by rw [hz2]; omega) (by unfold maxLen; omega) (Nat.le_refl _) ?_; intro w1 hown hgrow)
  have hp0 : TripPart 132 w w1 n 0 xs := ⟨⟨_, hown, fun i hi => absurd hi (by omega)⟩, (Below.refl _ _).grown hgrow (Nat.le_refl _) (fun _ h => by simp at h)⟩
  clear hown hgrow
  go_loopw [4] (fun i wr => ∃ k : Nat, k ≤ n ∧ i = .int .i64 k ∧ TripPart 132 w wr n k xs) (fun i _ => n - (intOf i).toNat)
  case atStart => exact ⟨0, Nat.zero_le _, rfl, hp0⟩
  case round =>
    obtain ⟨k, hk, rfl, hp⟩ := hrel
    clear hp0
    by_cases hlt : k < n
    · obtain ⟨b, off, rfl, hcell⟩ := HC.out (by omega)
      have g0 := below_cell hp.below (hcell (k * 3) (by omega))
      have g1 := below_cell hp.below (hcell (k * 3 + 1) (by omega))
      have g2 := below_cell hp.below (hcell (k * 3 + 2) (by omega))
      rw [← Nat.add_assoc] at g1 g2
      obtain ⟨x, hx⟩ : ∃ x, intN xs (k * 3) = x := ⟨_, rfl⟩
      obtain ⟨y, hy⟩ : ∃ y, intN xs (k * 3 + 1) = y := ⟨_, rfl⟩
      obtain ⟨z, hz⟩ : ∃ z, intN xs (k * 3 + 2) = z := ⟨_, rfl⟩
      rw [hx] at g0
      rw [hy] at g1
      rw [hz] at g2
      have HX := Lib.hid hx
      have HY := Lib.hid hy
      have HZ := Lib.hid hz
      have HP := Lib.hid hp
      clear hcell hp hx hy hz
      go_wp2_with fail
      refine (toArcStep x y z _).mono ?_
      rintro e w2 ⟨rfl, hb2⟩
      have hst := HP.out.step hlt hb2
      rw [HX.out, HY.out, HZ.out] at hst
      obtain ⟨ys, hown0, -⟩ := HP.out.outer
      have hyl := ownsRow_len hown0
      have hown := ownsRow_below hown0 hb2
      obtain ⟨o2, hc2⟩ : ∃ u, w2.cell? ⟨w.heap.size, k * 3, none⟩ = some u := ⟨_, (hown.cellAt (k * 3) (by omega)).trans (List.getElem?_eq_getElem (by omega))⟩
      obtain ⟨o3, hc3⟩ : ∃ u, w2.cell? ⟨w.heap.size, k * 3 + 1, none⟩ = some u := ⟨_, (hown.cellAt (k * 3 + 1) (by omega)).trans (List.getElem?_eq_getElem (by omega))⟩
      obtain ⟨o4, hc4⟩ : ∃ u, w2.cell? ⟨w.heap.size, k * 3 + 2, none⟩ = some u := ⟨_, (hown.cellAt (k * 3 + 2) (by omega)).trans (List.getElem?_eq_getElem (by omega))⟩
      have hf2 := hown.frozenAt (k * 3)
      have hf3 := hown.frozenAt (k * 3 + 1)
      have hf4 := hown.frozenAt (k * 3 + 2)
      have HS := Lib.hid hst
      clear hown hst hb2 hown0 hyl g0 g1 g2
      go_wp2
      go_roundw
      case rel => exact ⟨k + 1, by omega, by go_num, HS.out⟩
      case measure => simp [intOf]; omega
    · obtain rfl : k = n := by omega
      have HP := Lib.hid hp
      clear hp
      go_wp2
      go_ret
      exact ⟨_, _, _, rfl, HP.out.own HLN.out, HP.out.below⟩

set_option linter.unusedSimpArgs false in
set_option maxHeartbeats 1000000 in
set_option maxRecDepth 100000 in
theorem eqArcStep (x y z x2 y2 z2 : Int) (bb : Bool) (w : World) (hb : Tells bb (x = x2 ∧ y = y2 ∧ z = z2)) : Calls Try.prog 150 #[.agg #[.int .i64 x, .int .i64 y, .int .i64 z], .agg #[.int .i64 x2, .int .i64 y2, .int .i64 z2]] w fun e w' => e = .returned (.bool bb) ∧ Below w.heap.size w w' := by
  have HW : Hid (Below w.heap.size w ((w.alloc (.cells #[.int .i64 x, .int .i64 y, .int .i64 z] 132)).alloc (.cells #[.int .i64 x2, .int .i64 y2, .int .i64 z2] 132))) := Lib.hid (((Below.refl _ _).alloc (Nat.le_refl _) _).alloc (by simp) _)
  have HB := Lib.hid hb
  clear hb
  by_cases hx : x = x2
  case neg =>
    have n1 : (x == x2) = false := beq_eq_false_iff_ne.2 hx
    have n2 : (x != x2) = true := bne_iff_ne.2 hx
    have HF := Lib.hid (HB.out.is_false fun h => hx h.1)
    clear hx
    go_enter Try.func150, Try.ntmps150
    go_wp2
    go_ret
    exact ⟨ret_bool HF.out.symm, HW.out⟩
  by_cases hy : y = y2
  case neg =>
    have m1 : (x == x2) = true := beq_iff_eq.2 hx
    have m2 : (x != x2) = false := by simp [hx]
    have n1 : (y == y2) = false := beq_eq_false_iff_ne.2 hy
    have n2 : (y != y2) = true := bne_iff_ne.2 hy
    have HF := Lib.hid (HB.out.is_false fun h => hy h.2.1)
    clear hx hy
    go_enter Try.func150, Try.ntmps150
    go_wp2
    go_ret
    exact ⟨ret_bool HF.out.symm, HW.out⟩
  have m1 : (x == x2) = true := beq_iff_eq.2 hx
  have m2 : (x != x2) = false := by simp [hx]
  have m3 : (y == y2) = true := beq_iff_eq.2 hy
  have m4 : (y != y2) = false := by simp [hy]
  by_cases hz : z = z2
  · have n1 : (z == z2) = true := beq_iff_eq.2 hz
    have n2 : (z != z2) = false := by simp [hz]
    have HF := Lib.hid (HB.out.is_true ⟨hx, hy, hz⟩)
    clear hx hy hz
    go_enter Try.func150, Try.ntmps150
    go_wp2
    go_ret
    exact ⟨ret_bool HF.out.symm, HW.out⟩
  · have n1 : (z == z2) = false := beq_eq_false_iff_ne.2 hz
    have n2 : (z != z2) = true := bne_iff_ne.2 hz
    have HF := Lib.hid (HB.out.is_false fun h => hz h.2.2)
    clear hx hy hz
    go_enter Try.func150, Try.ntmps150
    go_wp2
    go_ret
    exact ⟨ret_bool HF.out.symm, HW.out⟩

set_option linter.unusedSimpArgs false in
set_option maxHeartbeats 1000000 in
set_option maxRecDepth 100000 in
theorem eqArcStepS (v1 v2 : Value) (n m : Nat) (xs qs : List Int) (w : World) (h1 : TripAt w v1 n xs) (h2 : TripAt w v2 m qs) :
    Calls Try.prog 95 #[v1, v2] w fun e w' => e = .returned (.bool (eqB xs qs)) ∧ Below w.heap.size w w' := by
  obtain ⟨a1, cA, rfl, hl1, hn1, hc1⟩ := h1
  obtain ⟨a2, cB, rfl, hl2, hn2, hc2⟩ := h2
  have HC1 := Lib.hid hc1
  have HC2 := Lib.hid hc2
  have HL1 := Lib.hid hl1
  have HL2 := Lib.hid hl2
  clear hc1 hc2 hl1 hl2
  by_cases hl : n = m
  case neg =>
    have HF := Lib.hid (eqB_no (x := xs) (y := qs) (fun e => hl (by have a := HL1.out; have b := HL2.out; rw [e] at a; omega)))
    have hlb : ((n : Int) == m) = false := beq_eq_false_iff_ne.2 (by omega)
    have hlc : ((n : Int) != m) = true := bne_iff_ne.2 (by omega)
    go_enter Try.func95, Try.ntmps95
    go_wp2
    go_ret
    exact ⟨ret_bool HF.out.symm, Below.refl _ _⟩
  subst hl
  go_enter Try.func95, Try.ntmps95
  go_wp2
  go_loopw [5] (fun i wr => ∃ k : Nat, k ≤ n ∧ i = .int .i64 k ∧ (∀ j, j < k → intN xs (j * 3) = intN qs (j * 3) ∧ intN xs (j * 3 + 1) = intN qs (j * 3 + 1) ∧ intN xs (j * 3 + 2) = intN qs (j * 3 + 2)) ∧ Below w.heap.size w wr) (fun i _ => n - (intOf i).toNat)
  case atStart => exact ⟨0, Nat.zero_le _, rfl, fun j hj => absurd hj (Nat.not_lt_zero _), Below.refl _ _⟩
  case round =>
    obtain ⟨k, hk, rfl, hall, hb⟩ := hrel
    have HA := Lib.hid hall
    have HB := Lib.hid hb
    clear hall hb
    by_cases hlt : k < n
    case neg =>
      obtain rfl : k = n := by omega
      have HF := Lib.hid (eqB_yes (trip_ext HL1.out HL2.out rfl HA.out))
      go_wp2
      go_ret
      exact ⟨ret_bool HF.out.symm, HB.out⟩
    have hlt' : (k : Int) < (n : Int) := by omega
    obtain ⟨b1, off1, rfl, hcell1⟩ := HC1.out (by omega)
    obtain ⟨b2, off2, rfl, hcell2⟩ := HC2.out (by omega)
    have g0 := below_cell HB.out (hcell1 (k * 3) (by omega))
    have g1 := below_cell HB.out (hcell1 (k * 3 + 1) (by omega))
    have g2 := below_cell HB.out (hcell1 (k * 3 + 2) (by omega))
    have e0 := below_cell HB.out (hcell2 (k * 3) (by omega))
    have e1 := below_cell HB.out (hcell2 (k * 3 + 1) (by omega))
    have e2 := below_cell HB.out (hcell2 (k * 3 + 2) (by omega))
    rw [← Nat.add_assoc] at g1 g2 e1 e2
    obtain ⟨x, hx⟩ : ∃ x, intN xs (k * 3) = x := ⟨_, rfl⟩
    obtain ⟨y, hy⟩ : ∃ y, intN xs (k * 3 + 1) = y := ⟨_, rfl⟩
    obtain ⟨z, hz⟩ : ∃ z, intN xs (k * 3 + 2) = z := ⟨_, rfl⟩
    obtain ⟨x2, hx2⟩ : ∃ x, intN qs (k * 3) = x := ⟨_, rfl⟩
    obtain ⟨y2, hy2⟩ : ∃ y, intN qs (k * 3 + 1) = y := ⟨_, rfl⟩
    obtain ⟨z2, hz2⟩ : ∃ z, intN qs (k * 3 + 2) = z := ⟨_, rfl⟩
    rw [hx] at g0
    rw [hy] at g1
    rw [hz] at g2
    rw [hx2] at e0
    rw [hy2] at e1
    rw [hz2] at e2
    have HQ : Hid ((x = x2 ∧ y = y2 ∧ z = z2) ↔ (intN xs (k * 3) = intN qs (k * 3) ∧ intN xs (k * 3 + 1) = intN qs (k * 3 + 1) ∧ intN xs (k * 3 + 2) = intN qs (k * 3 + 2))) := Lib.hid (by rw [hx, hy, hz, hx2, hy2, hz2])
    clear hcell1 hcell2 hx hy hz hx2 hy2 hz2
    by_cases hs : x = x2 ∧ y = y2 ∧ z = z2
    · have HT := Lib.hid (Tells.yes hs)
      have HTH := Lib.hid (HQ.out.1 hs)
      clear hs
      go_wp2
      refine wp_region_noPanic ?_
      refine wp_region_inv (fun w' => w'.cell? ⟨b1, off1 + k * 3, none⟩ = some (.int .i64 x) ∧ w'.cell? ⟨b1, off1 + k * 3 + 1, none⟩ = some (.int .i64 y) ∧ w'.cell? ⟨b1, off1 + k * 3 + 2, none⟩ = some (.int .i64 z) ∧ w'.cell? ⟨b2, off2 + k * 3, none⟩ = some (.int .i64 x2) ∧ w'.cell? ⟨b2, off2 + k * 3 + 1, none⟩ = some (.int .i64 y2) ∧ w'.cell? ⟨b2, off2 + k * 3 + 2, none⟩ = some (.int .i64 z2) ∧ Below w.heap.size w w') (fun w1 w2 => Below w1.heap.size w1 w2) (fun kI vv ww => match kI with
        | 0 => vv = .slice (some ⟨b1, off1, none⟩) n cA
        | 1 => vv = .int .i64 (k : Int)
        | 2 => vv = .pointer (some ⟨b1, off1 + k * 3, none⟩)
        | 3 => vv = .agg #[.int .i64 x, .int .i64 y, .int .i64 z]
        | 4 => vv = .slice (some ⟨b2, off2, none⟩) n cB
        | 5 => vv = .int .i64 (k : Int)
        | 6 => vv = .pointer (some ⟨b2, off2 + k * 3, none⟩)
        | 7 => vv = .agg #[.int .i64 x2, .int .i64 y2, .int .i64 z2]
        | 8 => vv = .bool true
        | 9 => vv = .bool false
        | _ => True) [(9, some 26), (8, some 25), (7, some 24), (6, some 23), (5, some 22), (4, some 21), (3, some 20), (2, some 19), (1, some 18), (0, some 17)] 10 (by kernel_rfl) rfl (by kernel_rfl) (by kernel_rfl) (by kernel_rfl) ?_ ?_ ?_ ?_
      · intro kI v w1 w2 hN h
        match kI, h with
        | 0, h => exact h
        | 1, h => exact h
        | 2, h => exact h
        | 3, h => exact h
        | 4, h => exact h
        | 5, h => exact h
        | 6, h => exact h
        | 7, h => exact h
        | 8, h => exact h
        | 9, h => exact h
        | kI + 10, _ => exact trivial
      · exact ⟨g0, g1, g2, e0, e1, e2, HB.out.drew⟩
      · refine ⟨⟨⟨⟨⟨⟨⟨⟨⟨⟨trivial, ?_⟩, ?_⟩, ?_⟩, ?_⟩, ?_⟩, ?_⟩, ?_⟩, ?_⟩, ?_⟩, ?_⟩
        · refine StepOk.intro (some 17) rfl rfl (fun xI w1 hS hdep K hK => ?_)
          clear hdep
          have hSS := Lib.hid hS
          obtain ⟨c0, c1, c2, c3, c4, c5, hB⟩ := hS
          refine ⟨?_⟩
          simp only [puts, Act.put, List.setIfInBounds_toArray, List.set_cons_zero, List.set_cons_succ]
          go_simp
          exact hK.out _ (.slice (some ⟨b1, off1, none⟩) n cA) _ (by simp only [puts, Act.put, List.setIfInBounds_toArray, List.set_cons_zero, List.set_cons_succ]) (Below.refl _ _) (hSS.out) (rfl)
        · refine StepOk.intro (some 18) rfl rfl (fun xI w1 hS hdep K hK => ?_)
          clear hdep
          have hSS := Lib.hid hS
          obtain ⟨c0, c1, c2, c3, c4, c5, hB⟩ := hS
          refine ⟨?_⟩
          simp only [puts, Act.put, List.setIfInBounds_toArray, List.set_cons_zero, List.set_cons_succ]
          go_simp
          exact hK.out _ (.int .i64 (k : Int)) _ (by simp only [puts, Act.put, List.setIfInBounds_toArray, List.set_cons_zero, List.set_cons_succ]) (Below.refl _ _) (hSS.out) (rfl)
        · refine StepOk.intro (some 19) rfl rfl (fun xI w1 hS hdep K hK => ?_)
          have h0 : xI 0 = .slice (some ⟨b1, off1, none⟩) n cA := hdep 0 (by kernel_rfl)
          have h1 : xI 1 = .int .i64 (k : Int) := hdep 1 (by kernel_rfl)
          clear hdep
          have hSS := Lib.hid hS
          obtain ⟨c0, c1, c2, c3, c4, c5, hB⟩ := hS
          refine ⟨?_⟩
          simp only [puts, Act.put, List.setIfInBounds_toArray, List.set_cons_zero, List.set_cons_succ, h0, h1]
          go_simp
          exact hK.out _ (.pointer (some ⟨b1, off1 + k * 3, none⟩)) _ (by simp only [puts, Act.put, List.setIfInBounds_toArray, List.set_cons_zero, List.set_cons_succ, h0, h1]) (Below.refl _ _) (hSS.out) (rfl)
        · refine StepOk.intro (some 20) rfl rfl (fun xI w1 hS hdep K hK => ?_)
          have h2 : xI 2 = .pointer (some ⟨b1, off1 + k * 3, none⟩) := hdep 2 (by kernel_rfl)
          clear hdep
          have hSS := Lib.hid hS
          obtain ⟨c0, c1, c2, c3, c4, c5, hB⟩ := hS
          refine ⟨?_⟩
          simp only [puts, Act.put, List.setIfInBounds_toArray, List.set_cons_zero, List.set_cons_succ, h2]
          go_simp
          exact hK.out _ (.agg #[.int .i64 x, .int .i64 y, .int .i64 z]) _ (by simp only [puts, Act.put, List.setIfInBounds_toArray, List.set_cons_zero, List.set_cons_succ, h2]) (Below.refl _ _) (hSS.out) (rfl)
        · refine StepOk.intro (some 21) rfl rfl (fun xI w1 hS hdep K hK => ?_)
          clear hdep
          have hSS := Lib.hid hS
          obtain ⟨c0, c1, c2, c3, c4, c5, hB⟩ := hS
          refine ⟨?_⟩
          simp only [puts, Act.put, List.setIfInBounds_toArray, List.set_cons_zero, List.set_cons_succ]
          go_simp
          exact hK.out _ (.slice (some ⟨b2, off2, none⟩) n cB) _ (by simp only [puts, Act.put, List.setIfInBounds_toArray, List.set_cons_zero, List.set_cons_succ]) (Below.refl _ _) (hSS.out) (rfl)
        · refine StepOk.intro (some 22) rfl rfl (fun xI w1 hS hdep K hK => ?_)
          clear hdep
          have hSS := Lib.hid hS
          obtain ⟨c0, c1, c2, c3, c4, c5, hB⟩ := hS
          refine ⟨?_⟩
          simp only [puts, Act.put, List.setIfInBounds_toArray, List.set_cons_zero, List.set_cons_succ]
          go_simp
          exact hK.out _ (.int .i64 (k : Int)) _ (by simp only [puts, Act.put, List.setIfInBounds_toArray, List.set_cons_zero, List.set_cons_succ]) (Below.refl _ _) (hSS.out) (rfl)
        · refine StepOk.intro (some 23) rfl rfl (fun xI w1 hS hdep K hK => ?_)
          have h4 : xI 4 = .slice (some ⟨b2, off2, none⟩) n cB := hdep 4 (by kernel_rfl)
          have h5 : xI 5 = .int .i64 (k : Int) := hdep 5 (by kernel_rfl)
          clear hdep
          have hSS := Lib.hid hS
          obtain ⟨c0, c1, c2, c3, c4, c5, hB⟩ := hS
          refine ⟨?_⟩
          simp only [puts, Act.put, List.setIfInBounds_toArray, List.set_cons_zero, List.set_cons_succ, h4, h5]
          go_simp
          exact hK.out _ (.pointer (some ⟨b2, off2 + k * 3, none⟩)) _ (by simp only [puts, Act.put, List.setIfInBounds_toArray, List.set_cons_zero, List.set_cons_succ, h4, h5]) (Below.refl _ _) (hSS.out) (rfl)
        · refine StepOk.intro (some 24) rfl rfl (fun xI w1 hS hdep K hK => ?_)
          have h6 : xI 6 = .pointer (some ⟨b2, off2 + k * 3, none⟩) := hdep 6 (by kernel_rfl)
          clear hdep
          have hSS := Lib.hid hS
          obtain ⟨c0, c1, c2, c3, c4, c5, hB⟩ := hS
          refine ⟨?_⟩
          simp only [puts, Act.put, List.setIfInBounds_toArray, List.set_cons_zero, List.set_cons_succ, h6]
          go_simp
          exact hK.out _ (.agg #[.int .i64 x2, .int .i64 y2, .int .i64 z2]) _ (by simp only [puts, Act.put, List.setIfInBounds_toArray, List.set_cons_zero, List.set_cons_succ, h6]) (Below.refl _ _) (hSS.out) (rfl)
        · refine StepOk.intro (some 25) rfl rfl (fun xI w1 hS hdep K hK => ?_)
          have h3 : xI 3 = .agg #[.int .i64 x, .int .i64 y, .int .i64 z] := hdep 3 (by kernel_rfl)
          have h7 : xI 7 = .agg #[.int .i64 x2, .int .i64 y2, .int .i64 z2] := hdep 7 (by kernel_rfl)
          clear hdep
          have hSS := Lib.hid hS
          obtain ⟨c0, c1, c2, c3, c4, c5, hB⟩ := hS
          refine ⟨?_⟩
          simp only [puts, Act.put, List.setIfInBounds_toArray, List.set_cons_zero, List.set_cons_succ, h3, h7]
          go_simp; go_at_call 150; refine (eqArcStep x y z x2 y2 z2 true _ HT.out).mono ?_; rintro e w5 ⟨rfl, hb5⟩
          exact hK.out _ (.bool true) _ (by simp only [puts, Act.put, List.setIfInBounds_toArray, List.set_cons_zero, List.set_cons_succ, h3, h7]) hb5 (⟨below_cell hb5 c0, below_cell hb5 c1, below_cell hb5 c2, below_cell hb5 c3, below_cell hb5 c4, below_cell hb5 c5, hB.trans (hb5.mono hB.size)⟩) (rfl)
        · refine StepOk.intro (some 26) rfl rfl (fun xI w1 hS hdep K hK => ?_)
          have h8 : xI 8 = .bool true := hdep 8 (by kernel_rfl)
          clear hdep
          have hSS := Lib.hid hS
          obtain ⟨c0, c1, c2, c3, c4, c5, hB⟩ := hS
          refine ⟨?_⟩
          simp only [puts, Act.put, List.setIfInBounds_toArray, List.set_cons_zero, List.set_cons_succ, h8]
          go_simp
          exact hK.out _ (.bool false) _ (by simp only [puts, Act.put, List.setIfInBounds_toArray, List.set_cons_zero, List.set_cons_succ, h8]) (Below.refl _ _) (hSS.out) (rfl)
      · intro xI w1 hS hx
        have e0 : xI 0 = .slice (some ⟨b1, off1, none⟩) n cA := hx 0 (by decide)
        have e1 : xI 1 = .int .i64 (k : Int) := hx 1 (by decide)
        have e2 : xI 2 = .pointer (some ⟨b1, off1 + k * 3, none⟩) := hx 2 (by decide)
        have e3 : xI 3 = .agg #[.int .i64 x, .int .i64 y, .int .i64 z] := hx 3 (by decide)
        have e4 : xI 4 = .slice (some ⟨b2, off2, none⟩) n cB := hx 4 (by decide)
        have e5 : xI 5 = .int .i64 (k : Int) := hx 5 (by decide)
        have e6 : xI 6 = .pointer (some ⟨b2, off2 + k * 3, none⟩) := hx 6 (by decide)
        have e7 : xI 7 = .agg #[.int .i64 x2, .int .i64 y2, .int .i64 z2] := hx 7 (by decide)
        have e8 : xI 8 = .bool true := hx 8 (by decide)
        have e9 : xI 9 = .bool false := hx 9 (by decide)
        clear hx
        obtain ⟨c0, c1, c2, c3, c4, c5, hB⟩ := hS
        simp only [puts, Act.put, List.setIfInBounds_toArray, List.set_cons_zero, List.set_cons_succ, e0, e1, e2, e3, e4, e5, e6, e7, e8, e9]
        clear e0 e1 e2 e3 e4 e5 e6 e7 e8 e9
        refine NoPanic.normal ?_
        clear c0 c1 c2 c3 c4 c5
        go_wp2
        go_roundw
        case rel =>
          refine ⟨k + 1, by omega, by go_num, fun j hj => ?_, hB⟩
          by_cases hjk : j = k
          · subst hjk; exact HTH.out
          · exact HA.out j (by omega)
        case measure => simp [intOf]; omega

    · have HT := Lib.hid (Tells.no hs)
      have HF := Lib.hid (eqB_no (x := xs) (y := qs) (fun e => hs (HQ.out.2 (by rw [e]; exact ⟨rfl, rfl, rfl⟩))))
      clear hs
      go_wp2
      refine wp_region_noPanic ?_
      refine wp_region_inv (fun w' => w'.cell? ⟨b1, off1 + k * 3, none⟩ = some (.int .i64 x) ∧ w'.cell? ⟨b1, off1 + k * 3 + 1, none⟩ = some (.int .i64 y) ∧ w'.cell? ⟨b1, off1 + k * 3 + 2, none⟩ = some (.int .i64 z) ∧ w'.cell? ⟨b2, off2 + k * 3, none⟩ = some (.int .i64 x2) ∧ w'.cell? ⟨b2, off2 + k * 3 + 1, none⟩ = some (.int .i64 y2) ∧ w'.cell? ⟨b2, off2 + k * 3 + 2, none⟩ = some (.int .i64 z2) ∧ Below w.heap.size w w') (fun w1 w2 => Below w1.heap.size w1 w2) (fun kI vv ww => match kI with
        | 0 => vv = .slice (some ⟨b1, off1, none⟩) n cA
        | 1 => vv = .int .i64 (k : Int)
        | 2 => vv = .pointer (some ⟨b1, off1 + k * 3, none⟩)
        | 3 => vv = .agg #[.int .i64 x, .int .i64 y, .int .i64 z]
        | 4 => vv = .slice (some ⟨b2, off2, none⟩) n cB
        | 5 => vv = .int .i64 (k : Int)
        | 6 => vv = .pointer (some ⟨b2, off2 + k * 3, none⟩)
        | 7 => vv = .agg #[.int .i64 x2, .int .i64 y2, .int .i64 z2]
        | 8 => vv = .bool false
        | 9 => vv = .bool true
        | _ => True) [(9, some 26), (8, some 25), (7, some 24), (6, some 23), (5, some 22), (4, some 21), (3, some 20), (2, some 19), (1, some 18), (0, some 17)] 10 (by kernel_rfl) rfl (by kernel_rfl) (by kernel_rfl) (by kernel_rfl) ?_ ?_ ?_ ?_
      · intro kI v w1 w2 hN h
        match kI, h with
        | 0, h => exact h
        | 1, h => exact h
        | 2, h => exact h
        | 3, h => exact h
        | 4, h => exact h
        | 5, h => exact h
        | 6, h => exact h
        | 7, h => exact h
        | 8, h => exact h
        | 9, h => exact h
        | kI + 10, _ => exact trivial
      · exact ⟨g0, g1, g2, e0, e1, e2, HB.out.drew⟩
      · refine ⟨⟨⟨⟨⟨⟨⟨⟨⟨⟨trivial, ?_⟩, ?_⟩, ?_⟩, ?_⟩, ?_⟩, ?_⟩, ?_⟩, ?_⟩, ?_⟩, ?_⟩
        · refine StepOk.intro (some 17) rfl rfl (fun xI w1 hS hdep K hK => ?_)
          clear hdep
          have hSS := Lib.hid hS
          obtain ⟨c0, c1, c2, c3, c4, c5, hB⟩ := hS
          refine ⟨?_⟩
          simp only [puts, Act.put, List.setIfInBounds_toArray, List.set_cons_zero, List.set_cons_succ]
          go_simp
          exact hK.out _ (.slice (some ⟨b1, off1, none⟩) n cA) _ (by simp only [puts, Act.put, List.setIfInBounds_toArray, List.set_cons_zero, List.set_cons_succ]) (Below.refl _ _) (hSS.out) (rfl)
        · refine StepOk.intro (some 18) rfl rfl (fun xI w1 hS hdep K hK => ?_)
          clear hdep
          have hSS := Lib.hid hS
          obtain ⟨c0, c1, c2, c3, c4, c5, hB⟩ := hS
          refine ⟨?_⟩
          simp only [puts, Act.put, List.setIfInBounds_toArray, List.set_cons_zero, List.set_cons_succ]
          go_simp
          exact hK.out _ (.int .i64 (k : Int)) _ (by simp only [puts, Act.put, List.setIfInBounds_toArray, List.set_cons_zero, List.set_cons_succ]) (Below.refl _ _) (hSS.out) (rfl)
        · refine StepOk.intro (some 19) rfl rfl (fun xI w1 hS hdep K hK => ?_)
          have h0 : xI 0 = .slice (some ⟨b1, off1, none⟩) n cA := hdep 0 (by kernel_rfl)
          have h1 : xI 1 = .int .i64 (k : Int) := hdep 1 (by kernel_rfl)
          clear hdep
          have hSS := Lib.hid hS
          obtain ⟨c0, c1, c2, c3, c4, c5, hB⟩ := hS
          refine ⟨?_⟩
          simp only [puts, Act.put, List.setIfInBounds_toArray, List.set_cons_zero, List.set_cons_succ, h0, h1]
          go_simp
          exact hK.out _ (.pointer (some ⟨b1, off1 + k * 3, none⟩)) _ (by simp only [puts, Act.put, List.setIfInBounds_toArray, List.set_cons_zero, List.set_cons_succ, h0, h1]) (Below.refl _ _) (hSS.out) (rfl)
        · refine StepOk.intro (some 20) rfl rfl (fun xI w1 hS hdep K hK => ?_)
          have h2 : xI 2 = .pointer (some ⟨b1, off1 + k * 3, none⟩) := hdep 2 (by kernel_rfl)
          clear hdep
          have hSS := Lib.hid hS
          obtain ⟨c0, c1, c2, c3, c4, c5, hB⟩ := hS
          refine ⟨?_⟩
          simp only [puts, Act.put, List.setIfInBounds_toArray, List.set_cons_zero, List.set_cons_succ, h2]
          go_simp
          exact hK.out _ (.agg #[.int .i64 x, .int .i64 y, .int .i64 z]) _ (by simp only [puts, Act.put, List.setIfInBounds_toArray, List.set_cons_zero, List.set_cons_succ, h2]) (Below.refl _ _) (hSS.out) (rfl)
        · refine StepOk.intro (some 21) rfl rfl (fun xI w1 hS hdep K hK => ?_)
          clear hdep
          have hSS := Lib.hid hS
          obtain ⟨c0, c1, c2, c3, c4, c5, hB⟩ := hS
          refine ⟨?_⟩
          simp only [puts, Act.put, List.setIfInBounds_toArray, List.set_cons_zero, List.set_cons_succ]
          go_simp
          exact hK.out _ (.slice (some ⟨b2, off2, none⟩) n cB) _ (by simp only [puts, Act.put, List.setIfInBounds_toArray, List.set_cons_zero, List.set_cons_succ]) (Below.refl _ _) (hSS.out) (rfl)
        · refine StepOk.intro (some 22) rfl rfl (fun xI w1 hS hdep K hK => ?_)
          clear hdep
          have hSS := Lib.hid hS
          obtain ⟨c0, c1, c2, c3, c4, c5, hB⟩ := hS
          refine ⟨?_⟩
          simp only [puts, Act.put, List.setIfInBounds_toArray, List.set_cons_zero, List.set_cons_succ]
          go_simp
          exact hK.out _ (.int .i64 (k : Int)) _ (by simp only [puts, Act.put, List.setIfInBounds_toArray, List.set_cons_zero, List.set_cons_succ]) (Below.refl _ _) (hSS.out) (rfl)
        · refine StepOk.intro (some 23) rfl rfl (fun xI w1 hS hdep K hK => ?_)
          have h4 : xI 4 = .slice (some ⟨b2, off2, none⟩) n cB := hdep 4 (by kernel_rfl)
          have h5 : xI 5 = .int .i64 (k : Int) := hdep 5 (by kernel_rfl)
          clear hdep
          have hSS := Lib.hid hS
          obtain ⟨c0, c1, c2, c3, c4, c5, hB⟩ := hS
          refine ⟨?_⟩
          simp only [puts, Act.put, List.setIfInBounds_toArray, List.set_cons_zero, List.set_cons_succ, h4, h5]
          go_simp
          exact hK.out _ (.pointer (some ⟨b2, off2 + k * 3, none⟩)) _ (by simp only [puts, Act.put, List.setIfInBounds_toArray, List.set_cons_zero, List.set_cons_succ, h4, h5]) (Below.refl _ _) (hSS.out) (rfl)
        · refine StepOk.intro (some 24) rfl rfl (fun xI w1 hS hdep K hK => ?_)
          have h6 : xI 6 = .pointer (some ⟨b2, off2 + k * 3, none⟩) := hdep 6 (by kernel_rfl)
          clear hdep
          have hSS := Lib.hid hS
          obtain ⟨c0, c1, c2, c3, c4, c5, hB⟩ := hS
          refine ⟨?_⟩
          simp only [puts, Act.put, List.setIfInBounds_toArray, List.set_cons_zero, List.set_cons_succ, h6]
          go_simp
          exact hK.out _ (.agg #[.int .i64 x2, .int .i64 y2, .int .i64 z2]) _ (by simp only [puts, Act.put, List.setIfInBounds_toArray, List.set_cons_zero, List.set_cons_succ, h6]) (Below.refl _ _) (hSS.out) (rfl)
        · refine StepOk.intro (some 25) rfl rfl (fun xI w1 hS hdep K hK => ?_)
          have h3 : xI 3 = .agg #[.int .i64 x, .int .i64 y, .int .i64 z] := hdep 3 (by kernel_rfl)
          have h7 : xI 7 = .agg #[.int .i64 x2, .int .i64 y2, .int .i64 z2] := hdep 7 (by kernel_rfl)
          clear hdep
          have hSS := Lib.hid hS
          obtain ⟨c0, c1, c2, c3, c4, c5, hB⟩ := hS
          refine ⟨?_⟩
          simp only [puts, Act.put, List.setIfInBounds_toArray, List.set_cons_zero, List.set_cons_succ, h3, h7]
          go_simp; go_at_call 150; refine (eqArcStep x y z x2 y2 z2 false _ HT.out).mono ?_; rintro e w5 ⟨rfl, hb5⟩
          exact hK.out _ (.bool false) _ (by simp only [puts, Act.put, List.setIfInBounds_toArray, List.set_cons_zero, List.set_cons_succ, h3, h7]) hb5 (⟨below_cell hb5 c0, below_cell hb5 c1, below_cell hb5 c2, below_cell hb5 c3, below_cell hb5 c4, below_cell hb5 c5, hB.trans (hb5.mono hB.size)⟩) (rfl)
        · refine StepOk.intro (some 26) rfl rfl (fun xI w1 hS hdep K hK => ?_)
          have h8 : xI 8 = .bool false := hdep 8 (by kernel_rfl)
          clear hdep
          have hSS := Lib.hid hS
          obtain ⟨c0, c1, c2, c3, c4, c5, hB⟩ := hS
          refine ⟨?_⟩
          simp only [puts, Act.put, List.setIfInBounds_toArray, List.set_cons_zero, List.set_cons_succ, h8]
          go_simp
          exact hK.out _ (.bool true) _ (by simp only [puts, Act.put, List.setIfInBounds_toArray, List.set_cons_zero, List.set_cons_succ, h8]) (Below.refl _ _) (hSS.out) (rfl)
      · intro xI w1 hS hx
        have e0 : xI 0 = .slice (some ⟨b1, off1, none⟩) n cA := hx 0 (by decide)
        have e1 : xI 1 = .int .i64 (k : Int) := hx 1 (by decide)
        have e2 : xI 2 = .pointer (some ⟨b1, off1 + k * 3, none⟩) := hx 2 (by decide)
        have e3 : xI 3 = .agg #[.int .i64 x, .int .i64 y, .int .i64 z] := hx 3 (by decide)
        have e4 : xI 4 = .slice (some ⟨b2, off2, none⟩) n cB := hx 4 (by decide)
        have e5 : xI 5 = .int .i64 (k : Int) := hx 5 (by decide)
        have e6 : xI 6 = .pointer (some ⟨b2, off2 + k * 3, none⟩) := hx 6 (by decide)
        have e7 : xI 7 = .agg #[.int .i64 x2, .int .i64 y2, .int .i64 z2] := hx 7 (by decide)
        have e8 : xI 8 = .bool false := hx 8 (by decide)
        have e9 : xI 9 = .bool true := hx 9 (by decide)
        clear hx
        obtain ⟨c0, c1, c2, c3, c4, c5, hB⟩ := hS
        simp only [puts, Act.put, List.setIfInBounds_toArray, List.set_cons_zero, List.set_cons_succ, e0, e1, e2, e3, e4, e5, e6, e7, e8, e9]
        clear e0 e1 e2 e3 e4 e5 e6 e7 e8 e9
        refine NoPanic.normal ?_
        go_wp2
        go_ret
        exact ⟨ret_bool HF.out.symm, hB⟩

theorem eqArcStepS' (v1 v2 : Value) (n m : Nat) (xs qs : List Int) (b : Bool) (w : World) (h1 : TripAt w v1 n xs) (h2 : TripAt w v2 m qs) (hb : eqB xs qs = b) :
    Calls Try.prog 95 #[v1, v2] w fun e w' => e = .returned (.bool b) ∧ Below w.heap.size w w' := hb ▸ eqArcStepS v1 v2 n m xs qs w h1 h2

end Go.Proofs.Ytclhcnfgpkhplaa
