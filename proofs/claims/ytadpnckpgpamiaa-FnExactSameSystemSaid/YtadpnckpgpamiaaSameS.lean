/-
  Equal systems: SameSystem of the model and of the program, with what they call.
-/
import Derived.Test.YtadpnckpgpamiaaSys
import Derived.Test.YtadpnckpgpamiaaSameT
namespace Go.Proofs.Ytadpnckpgpamiaa
open Go.RowKit

theorem eqO_splitS {x y : Int} {xs ys : List Int} (h : eqO x xs y ys = true) : x = y ∧ xs = ys := by
  simp only [eqO, Bool.and_eq_true] at h
  exact ⟨eqB_true h.1, eqB_true h.2⟩

/-- What SameSystem answers. -/
def SameSystemIs (x y : Int) (rs : List (Int × List Int)) (x' y' : Int) (qs : List (Int × List Int)) (b : Bool) : Prop := eqS x y rs x' y' qs = b
theorem SameSystemIs.exists (x y : Int) (rs : List (Int × List Int)) (x' y' : Int) (qs : List (Int × List Int)) : ∃ b, SameSystemIs x y rs x' y' qs b := ⟨_, rfl⟩

set_option maxHeartbeats 1600000 in
set_option maxRecDepth 100000 in
theorem l07Same (p1 o1 p2 o2 : Nat) (x y : Int) (rs : List (Int × List Int)) (x' y' : Int) (qs : List (Int × List Int)) (b : Bool) (w : World) (h1 : SysAt w p1 o1 x y rs) (h2 : SysAt w p2 o2 x' y' qs) (hb : SameSystemIs x y rs x' y' qs b) :
    Calls Try.prog 74 #[.pointer (some ⟨p1, o1, none⟩), .pointer (some ⟨p2, o2, none⟩)] w fun e w' => e = .returned (.bool b) ∧ QW w w' := by
  obtain ⟨x1, x2, a1, n1, c1, x3, a1', c1', hv1, hn1, hc1⟩ := h1
  simp only [Value.slice.injEq] at hv1
  obtain ⟨rfl, rfl, rfl⟩ := hv1
  obtain ⟨z1, z2, a2, n2, c2, z3, a2', c2', hv2, hn2, hc2⟩ := h2
  simp only [Value.slice.injEq] at hv2
  obtain ⟨rfl, rfl, rfl⟩ := hv2
  have HC1 := Lib.hid hc1
  have HC2 := Lib.hid hc2
  have HBB := Lib.hid hb
  clear hc1 hc2 hb
  by_cases hx : x = x'
  · subst hx
    by_cases hy : y = y'
    · subst hy
      by_cases hl : rs.length = qs.length
      · rw [← hl] at hn2 HC2 z3
        have HL := Lib.hid hl
        clear hl
        go_enter Try.func74, Try.ntmps74
        go_wp2
        go_quiet (fail)
        go_wp2
        go_loopw [5] (fun i wr => ∃ k : Nat, k ≤ rs.length ∧ i = .int .i64 k ∧ (∀ j, j < k → arO rs j = arO qs j ∧ rowO rs j = rowO qs j) ∧ QW w wr) (fun i _ => rs.length - (intOf i).toNat)
        case atStart => exact ⟨0, Nat.zero_le _, rfl, fun j hj => absurd hj (Nat.not_lt_zero _), (QW.refl _).drewN _⟩
        case round =>
          obtain ⟨k, hk, rfl, hall, hq⟩ := hrel
          have HA := Lib.hid hall
          have HQ := Lib.hid hq
          have e1 := HQ.out.cell x3
          have e2 := HQ.out.cell z3
          clear hall hq
          by_cases hlt : k < rs.length
          · obtain ⟨b1, off1, ha1, hcell1⟩ := HC1.out (by omega)
            subst ha1
            obtain ⟨b2, off2, ha2, hcell2⟩ := HC2.out (by omega)
            subst ha2
            obtain ⟨y0, A1, N1, D1, y1, r1⟩ := (hcell1 k hlt).below HQ.out.bel
            obtain ⟨u0, A2, N2, D2, u1, r2⟩ := (hcell2 k hlt).below HQ.out.bel
            have R1 := Lib.hid r1
            have R2 := Lib.hid r2
            have hlt' : (k : Int) < (rs.length : Int) := by omega
            clear hcell1 hcell2 r1 r2
            by_cases hxy : arO rs k = arO qs k
            · cases hbb : eqB (rowO rs k) (rowO qs k) with
              | true =>
                have HE : Hid (arO rs k = arO qs k ∧ rowO rs k = rowO qs k) := Lib.hid ⟨hxy, eqB_true hbb⟩
                have HB := Lib.hid hbb
                clear hbb
                have hee : (arO rs k == arO qs k) = true := beq_iff_eq.2 hxy
                go_wp2
                go_quiet ((go_at_call 130; exact QW.calls (l00Same' _ _ _ _ _ _ (R1.out.below (((QW.refl _).drewN _).bel)) (R2.out.below (((QW.refl _).drewN _).bel)) HB.out)))
                go_wp2
                go_roundw
                case rel =>
                  refine ⟨k + 1, by omega, by go_num, fun j hj => ?_, HQ.out.drewN _⟩
                  by_cases hjk : j = k
                  · subst hjk; exact HE.out
                  · exact HA.out j (by omega)
                case measure => simp [intOf]; omega
              | false =>
                have HF : Hid (b = false) := Lib.hid (HBB.out.symm.trans (eqS_no3 (x := x) (y := y) (x' := x) (y' := y) (rs := rs) (qs := qs) (fun e => by rw [e] at hbb; simp [eqB] at hbb)))
                have HB := Lib.hid hbb
                clear hbb
                have hee : (arO rs k == arO qs k) = true := beq_iff_eq.2 hxy
                go_wp2
                go_quiet ((go_at_call 130; exact QW.calls (l00Same' _ _ _ _ _ _ (R1.out.below (((QW.refl _).drewN _).bel)) (R2.out.below (((QW.refl _).drewN _).bel)) HB.out)))
                go_wp2
                go_ret
                exact ⟨ret_bool HF.out.symm, HQ.out.drewN _⟩
            · have hne : (arO rs k == arO qs k) = false := beq_eq_false_iff_ne.2 hxy
              have hne2 : (arO rs k != arO qs k) = true := bne_iff_ne.2 hxy
              have HF : Hid (b = false) := Lib.hid (HBB.out.symm.trans (eqS_no3 (x := x) (y := y) (x' := x) (y' := y) (rs := rs) (qs := qs) (fun e => hxy (by rw [e]))))
              go_wp2
              go_quiet (fail)
              go_wp2
              go_ret
              exact ⟨ret_bool HF.out.symm, HQ.out.drewN _⟩
          · obtain rfl : k = rs.length := by omega
            have HF : Hid (b = true) := Lib.hid (HBB.out.symm.trans ((eqS_rows (x := x) (y := y) (rs := rs) (qs := qs)).trans (eqB_yes (ops_ext HL.out HA.out))))
            go_wp2
            go_ret
            exact ⟨ret_bool HF.out.symm, HQ.out⟩
      · have HF : Hid (b = false) := Lib.hid (HBB.out.symm.trans (eqS_no3 (x := x) (y := y) (x' := x) (y' := y) (rs := rs) (qs := qs) (fun e => hl (by rw [e]))))
        have hlb : ((rs.length : Int) == qs.length) = false := beq_eq_false_iff_ne.2 (by omega)
        go_enter Try.func74, Try.ntmps74
        go_wp2
        go_quiet (fail)
        go_wp2
        go_ret
        exact ⟨ret_bool HF.out.symm, (QW.refl _).drewN _⟩
    · have HF : Hid (b = false) := Lib.hid (HBB.out.symm.trans (eqS_no2 (x := x) (x' := x) (rs := rs) (qs := qs) hy))
      have hne : (y == y') = false := beq_eq_false_iff_ne.2 hy
      go_enter Try.func74, Try.ntmps74
      go_wp2
      go_quiet (fail)
      go_wp2
      go_ret
      exact ⟨ret_bool HF.out.symm, (QW.refl _).drewN _⟩
  · have HF : Hid (b = false) := Lib.hid (HBB.out.symm.trans (eqS_no1 (y := y) (y' := y') (rs := rs) (qs := qs) hx))
    have hne : (x == x') = false := beq_eq_false_iff_ne.2 hx
    have hne2 : (x != x') = true := bne_iff_ne.2 hx
    go_enter Try.func74, Try.ntmps74
    go_wp2
    go_quiet (fail)
    go_wp2
    go_ret
    exact ⟨ret_bool HF.out.symm, (QW.refl _).drewN _⟩

set_option maxHeartbeats 400000 in
theorem specSameSystem (x y : Int) (a1 : Option Addr) (n1 c1 : Nat) (rs : List (Int × List Int)) (x' y' : Int) (a2 : Option Addr) (n2 c2 : Nat) (qs : List (Int × List Int)) (b : Bool) (w : World) (h1 : EqsAt w (.slice a1 n1 c1) rs) (h2 : EqsAt w (.slice a2 n2 c2) qs) (hb : SameSystemIs x y rs x' y' qs b) :
    Calls Try.prog 19 #[.agg #[.int .i64 x, .int .i64 y, .slice a1 n1 c1], .agg #[.int .i64 x', .int .i64 y', .slice a2 n2 c2]] w fun e w' => e = .returned (.bool b) ∧ Below w.heap.size w w' := by
  have hbw := (Below.refl w.heap.size w).alloc (Nat.le_refl _) (.cells #[.int .i64 x, .int .i64 y, .slice a1 n1 c1] 29)
  have hbw2 := hbw.alloc (by simp) (.cells #[.int .i64 x', .int .i64 y', .slice a2 n2 c2] 29)
  have H1 := Lib.hid ((SysAt.new w x y a1 n1 c1 rs 29 h1).below ((Below.refl _ _).alloc (Nat.le_refl _) (.cells #[.int .i64 x', .int .i64 y', .slice a2 n2 c2] 29)))
  have H2 := Lib.hid (SysAt.new (w.alloc (.cells #[.int .i64 x, .int .i64 y, .slice a1 n1 c1] 29)) x' y' a2 n2 c2 qs 29 (h2.below hbw))
  have HB := Lib.hid hb
  have HW := Lib.hid hbw2
  clear h1 h2 hb hbw hbw2
  go_enter Try.func19, Try.ntmps19
  go_wp2_with fail
  refine (l07Same w.heap.size 0 (w.heap.size + 1) 0 x y rs x' y' qs b _ H1.out (by have := H2.out; simpa using this) HB.out).mono ?_
  rintro e w2 ⟨rfl, hq⟩
  have HQ := Lib.hid (HW.out.trans (hq.below _))
  clear hq
  go_wp2
  go_ret
  exact ⟨rfl, HQ.out⟩

set_option maxHeartbeats 400000 in
theorem sameEqn1 (x : Int) (a1 : Option Addr) (n1 c1 : Nat) (xs : List Int) (y : Int) (a2 : Option Addr) (n2 c2 : Nat) (ys : List Int) (b : Bool) (w : World) (h1 : RowAt w (.slice a1 n1 c1) xs) (h2 : RowAt w (.slice a2 n2 c2) ys) (hb : SameOpIs x xs y ys b) :
    Calls Try.prog 76 #[.agg #[.slice a1 n1 c1, .int .i64 x], .agg #[.slice a2 n2 c2, .int .i64 y]] w fun e w' => e = .returned (.bool b) ∧ Below w.heap.size w w' := by
  have H1 := Lib.hid h1
  have H2 := Lib.hid h2
  clear h1 h2
  by_cases hxy : x = y
  · subst hxy
    have HB : Hid (eqB xs ys = b) := by rw [SameOpIs, eqO_rows] at hb; exact hb
    clear hb
    go_enter Try.func76, Try.ntmps76
    go_wp2_with fail
    have hbw := ((Below.refl w.heap.size w).alloc (Nat.le_refl _) (.cells #[.slice a1 n1 c1, .int .i64 x] 104)).alloc (by simp) (.cells #[.slice a2 n2 c2, .int .i64 x] 104)
    refine (slicesEqual' _ _ _ _ _ _ (H1.out.below hbw) (H2.out.below hbw) HB.out).mono ?_
    rintro e w2 ⟨rfl, hq⟩
    have HQ := Lib.hid (hbw.trans (hq.below _))
    clear hq hbw
    go_wp2
    go_ret
    exact ⟨rfl, HQ.out⟩
  · have HB : Hid (b = false) := by rw [SameOpIs, eqO_no_arity hxy] at hb; exact hb.symm
    have hne : (x == y) = false := beq_eq_false_iff_ne.2 hxy
    clear hb
    go_enter Try.func76, Try.ntmps76
    go_wp2
    go_ret
    exact ⟨ret_bool HB.out.symm, ((Below.refl _ _).alloc (Nat.le_refl _) _).alloc (by simp) _⟩

set_option maxHeartbeats 1000000 in
set_option maxRecDepth 100000 in
theorem equalFuncEqns (v1 v2 : Value) (rs qs : List (Int × List Int)) (w : World) (h1 : EqsAt w v1 rs) (h2 : EqsAt w v2 qs) :
    Calls Try.prog 75 #[v1, v2, .func (.func 76) #[] #[]] w fun e w' => e = .returned (.bool (eqB rs qs)) ∧ Below w.heap.size w w' := by
  obtain ⟨a1, c1, rfl, hn1, hc1⟩ := h1
  obtain ⟨a2, c2, rfl, hn2, hc2⟩ := h2
  have HC1 := Lib.hid hc1
  have HC2 := Lib.hid hc2
  clear hc1 hc2
  by_cases hl : rs.length = qs.length
  · rw [← hl] at hn2 HC2 ⊢
    have HL := Lib.hid hl
    clear hl
    go_enter Try.func75, Try.ntmps75
    go_wp2
    go_loopw [17] (fun i wr => ∃ k : Nat, k ≤ rs.length ∧ i = .int .i64 k ∧ (∀ j, j < k → arO rs j = arO qs j ∧ rowO rs j = rowO qs j) ∧ Below w.heap.size w wr) (fun i _ => rs.length - (intOf i).toNat)
    case atStart => exact ⟨0, Nat.zero_le _, rfl, fun j hj => absurd hj (Nat.not_lt_zero _), Below.refl _ _⟩
    case round =>
      obtain ⟨k, hk, rfl, hall, hb⟩ := hrel
      have HA := Lib.hid hall
      have HB := Lib.hid hb
      clear hall hb
      by_cases hlt : k < rs.length
      · obtain ⟨b1, off1, ha1, hcell1⟩ := HC1.out (by omega)
        subst ha1
        obtain ⟨b2, off2, ha2, hcell2⟩ := HC2.out (by omega)
        subst ha2
        obtain ⟨hx0, A1, N1, C1, hx1, hg1⟩ := (hcell1 k hlt).below HB.out
        have HBA1 := (Below.refl wr.heap.size wr).alloc (Nat.le_refl _) (.cells #[.slice A1 N1 C1, .int .i64 (arO rs k)] 104)
        obtain ⟨hy0, A2, N2, C2, hy1, hg2⟩ := (hcell2 k hlt).below HB.out
        have HBA := Lib.hid (HBA1.alloc (by simp) (.cells #[.slice A2 N2 C2, .int .i64 (arO qs k)] 104))
        have hl1 := cell_block_lt hy0
        have hne1 : ¬ b2 = wr.heap.size := by have : b2 < wr.heap.size := hl1; omega
        have hne2 : ¬ wr.heap.size = b2 := by omega
        have hlt' : (k : Int) < (rs.length : Int) := by omega
        have G1 := Lib.hid (hg1.below HBA.out)
        have G2 := Lib.hid (hg2.below HBA.out)
        have hy0' := below_cell HBA1 hy0
        have hy1' := below_cell HBA1 hy1
        clear hcell1 hcell2 hg1 hg2 HBA1 hl1
        cases hbb : eqO (arO rs k) (rowO rs k) (arO qs k) (rowO qs k) with
        | true =>
          have HE := Lib.hid (eqO_splitS hbb)
          have HBB := Lib.hid hbb
          clear hbb
          go_wp2_with fail
          refine (sameEqn1 _ _ _ _ _ _ _ _ _ _ _ _ G1.out G2.out HBB.out).mono ?_
          rintro e w2 ⟨rfl, hb2⟩
          have HB2 := Lib.hid (HB.out.trans ((HBA.out.trans (hb2.mono HBA.out.size)).mono HB.out.size))
          clear hb2
          go_wp2
          go_roundw
          case rel =>
            refine ⟨k + 1, by omega, by go_num, fun j hj => ?_, HB2.out⟩
            by_cases hjk : j = k
            · subst hjk; exact HE.out
            · exact HA.out j (by omega)
          case measure => simp [intOf]; omega
        | false =>
          have HF := Lib.hid (eqB_no (x := rs) (y := qs) (fun e => by rw [e, eqO_same] at hbb; cases hbb))
          have HBB := Lib.hid hbb
          clear hbb
          go_wp2_with fail
          refine (sameEqn1 _ _ _ _ _ _ _ _ _ _ _ _ G1.out G2.out HBB.out).mono ?_
          rintro e w2 ⟨rfl, hb2⟩
          have HB2 := Lib.hid (HB.out.trans ((HBA.out.trans (hb2.mono HBA.out.size)).mono HB.out.size))
          clear hb2
          go_wp2
          go_ret
          exact ⟨ret_bool HF.out.symm, HB2.out⟩
      · obtain rfl : k = rs.length := by omega
        have HF := Lib.hid (eqB_yes (ops_ext HL.out HA.out))
        go_wp2
        go_ret
        exact ⟨ret_bool HF.out.symm, HB.out⟩
  · have HF := Lib.hid (eqB_no (x := rs) (y := qs) (fun e => hl (by rw [e])))
    have hlb : ((rs.length : Int) == qs.length) = false := beq_eq_false_iff_ne.2 (by omega)
    go_enter Try.func75, Try.ntmps75
    go_wp2
    go_ret
    exact ⟨ret_bool HF.out.symm, Below.refl _ _⟩

set_option maxHeartbeats 400000 in
theorem implSameSystem (x y : Int) (a1 : Option Addr) (n1 c1 : Nat) (rs : List (Int × List Int)) (x' y' : Int) (a2 : Option Addr) (n2 c2 : Nat) (qs : List (Int × List Int)) (b : Bool) (w : World) (h1 : EqsAt w (.slice a1 n1 c1) rs) (h2 : EqsAt w (.slice a2 n2 c2) qs) (hb : SameSystemIs x y rs x' y' qs b) :
    Calls Try.prog 20 #[.agg #[.int .i64 x, .int .i64 y, .slice a1 n1 c1], .agg #[.int .i64 x', .int .i64 y', .slice a2 n2 c2]] w fun e w' => e = .returned (.bool b) ∧ Below w.heap.size w w' := by
  have HW := Lib.hid (((Below.refl w.heap.size w).alloc (Nat.le_refl _) (.cells #[.int .i64 x, .int .i64 y, .slice a1 n1 c1] 29)).alloc (by simp) (.cells #[.int .i64 x', .int .i64 y', .slice a2 n2 c2] 29))
  have H1 := Lib.hid (h1.below HW.out)
  have H2 := Lib.hid (h2.below HW.out)
  have HBB := Lib.hid hb
  clear h1 h2 hb
  by_cases hx : x = x'
  · subst hx
    by_cases hy : y = y'
    · subst hy
      have HF : Hid (eqB rs qs = b) := Lib.hid (((eqS_rows (x := x) (y := y) (rs := rs) (qs := qs)).symm).trans HBB.out)
      go_enter Try.func20, Try.ntmps20
      go_wp2_with fail
      refine (equalFuncEqns _ _ _ _ _ H1.out H2.out).mono ?_
      rintro e w2 ⟨rfl, hq⟩
      have HQ := Lib.hid (HW.out.trans (hq.mono HW.out.size))
      clear hq
      go_wp2
      go_ret
      exact ⟨ret_bool HF.out, HQ.out⟩
    · have HF : Hid (b = false) := Lib.hid (HBB.out.symm.trans (eqS_no2 (x := x) (x' := x) (rs := rs) (qs := qs) hy))
      have hne : (y == y') = false := beq_eq_false_iff_ne.2 hy
      go_enter Try.func20, Try.ntmps20
      go_wp2
      go_ret
      exact ⟨ret_bool HF.out.symm, HW.out⟩
  · have HF : Hid (b = false) := Lib.hid (HBB.out.symm.trans (eqS_no1 (y := y) (y' := y') (rs := rs) (qs := qs) hx))
    have hne : (x == x') = false := beq_eq_false_iff_ne.2 hx
    have hne2 : (x != x') = true := bne_iff_ne.2 hx
    go_enter Try.func20, Try.ntmps20
    go_wp2
    go_ret
    exact ⟨ret_bool HF.out.symm, HW.out⟩

end Go.Proofs.Ytadpnckpgpamiaa
