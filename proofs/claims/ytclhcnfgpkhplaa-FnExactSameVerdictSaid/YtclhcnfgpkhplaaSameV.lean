/-
  Steps compared: a struct of three numbers by the language's own comparison; slices.Equal at lists of them.
-/
import Derived.Test.YtclhcnfgpkhplaaTripArc
import Derived.Test.YtclhcnfgpkhplaaTripPair
import Derived.Test.YtclhcnfgpkhplaaGRel
import Derived.Laws.StructEq
namespace Go.Proofs.Ytclhcnfgpkhplaa
open Go.RowKit

theorem guardT_ArcStep : Try.prog.eqGuardType Try.prog.depth 132 = false := by kernel_rfl
theorem structT_ArcStep : Try.prog.underlying 132 = some (.struct (Try.prog.fieldsOf 132)) := by kernel_rfl
theorem heldT_ArcStep : Try.prog.stoodInHeld 132 = false := by kernel_rfl

theorem neq_ArcStep (x y z x2 y2 z2 : Int) (w : World) : (binOp .neq 132 (.agg #[.int .i64 x, .int .i64 y, .int .i64 z]) (.agg #[.int .i64 x2, .int .i64 y2, .int .i64 z2])).run Try.prog w = .ok (.bool (!(x == x2 && (y == y2 && z == z2)))) w := by
  rw [run_neq_struct, show (10000 : Nat) = 9999 + 1 from rfl, run_equalIn_agg w 9999 132 _ _ structT_ArcStep heldT_ArcStep]
  simp only [Program.fieldsOf, Try.underlying132]
  go_simp
  by_cases h1 : x = x2 <;> by_cases h2 : y = y2 <;> by_cases h3 : z = z2 <;> simp [h1, h2, h3]
theorem neq_ArcStep_same (x y z : Int) (w : World) : (binOp .neq 132 (.agg #[.int .i64 x, .int .i64 y, .int .i64 z]) (.agg #[.int .i64 x, .int .i64 y, .int .i64 z])).run Try.prog w = .ok (.bool false) w := by
  rw [neq_ArcStep]; simp
theorem neq_ArcStep_other (x y z x2 y2 z2 : Int) (h : ¬ (x = x2 ∧ y = y2 ∧ z = z2)) (w : World) : (binOp .neq 132 (.agg #[.int .i64 x, .int .i64 y, .int .i64 z]) (.agg #[.int .i64 x2, .int .i64 y2, .int .i64 z2])).run Try.prog w = .ok (.bool true) w := by
  have e : (x == x2 && (y == y2 && z == z2)) = false := by
    cases hb : (x == x2 && (y == y2 && z == z2)) with
    | false => rfl
    | true => exact absurd (by simpa using hb) h
  rw [neq_ArcStep, e]; rfl

set_option maxHeartbeats 800000 in
set_option maxRecDepth 100000 in
theorem slicesEqual_ArcStep (v1 v2 : Value) (n m : Nat) (xs ys : List Int) (w : World) (h1 : TripAt w v1 n xs) (h2 : TripAt w v2 m ys) :
    Calls Try.prog 93 #[v1, v2] w fun e w' => e = .returned (.bool (eqB xs ys)) ∧ QW w w' := by
  obtain ⟨a1, c1, rfl, hx1, hn1, hc1⟩ := h1
  obtain ⟨a2, c2, rfl, hx2, hn2, hc2⟩ := h2
  have HC1 := Lib.hid hc1
  have HC2 := Lib.hid hc2
  have HX1 := Lib.hid hx1
  clear hc1 hc2 hx1
  by_cases hl : n = m
  · subst hl
    have HX2 := Lib.hid hx2
    clear hx2
    go_enter Try.func93, Try.ntmps93
    go_wp2
    go_loopw [13] (fun i wr => ∃ k : Nat, k ≤ n ∧ i = .int .i64 k ∧ (∀ j, j < k → intN xs (j * 3) = intN ys (j * 3) ∧ intN xs (j * 3 + 1) = intN ys (j * 3 + 1) ∧ intN xs (j * 3 + 2) = intN ys (j * 3 + 2)) ∧ QW w wr) (fun i _ => n - (intOf i).toNat)
    case atStart => exact ⟨0, Nat.zero_le _, rfl, fun j hj => absurd hj (Nat.not_lt_zero _), QW.refl _⟩
    case round =>
      obtain ⟨k, hk, rfl, hall, hq⟩ := hrel
      have HA := Lib.hid hall
      have HQ := Lib.hid hq
      clear hall hq
      by_cases hlt : k < n
      · obtain ⟨b1, off1, ha1, hcell1⟩ := HC1.out (by omega)
        subst ha1
        obtain ⟨b2, off2, ha2, hcell2⟩ := HC2.out (by omega)
        subst ha2
        have g0 := HQ.out.cell (hcell1 (k * 3) (by omega))
        have g1 := HQ.out.cell (hcell1 (k * 3 + 1) (by omega))
        have g2 := HQ.out.cell (hcell1 (k * 3 + 2) (by omega))
        have f0 := HQ.out.cell (hcell2 (k * 3) (by omega))
        have f1 := HQ.out.cell (hcell2 (k * 3 + 1) (by omega))
        have f2 := HQ.out.cell (hcell2 (k * 3 + 2) (by omega))
        rw [← Nat.add_assoc] at g1 g2 f1 f2
        have hlt' : (k : Int) < (n : Int) := by omega
        clear hcell1 hcell2
        by_cases he : intN xs (k * 3) = intN ys (k * 3) ∧ intN xs (k * 3 + 1) = intN ys (k * 3 + 1) ∧ intN xs (k * 3 + 2) = intN ys (k * 3 + 2)
        · have HE := Lib.hid he
          rw [← he.1] at f0
          rw [← he.2.1] at f1
          rw [← he.2.2] at f2
          have hne := neq_ArcStep_same (intN xs (k * 3)) (intN xs (k * 3 + 1)) (intN xs (k * 3 + 2))
          clear he
          generalize intN xs (k * 3) = x at g0 f0 hne
          generalize intN xs (k * 3 + 1) = y at g1 f1 hne
          generalize intN xs (k * 3 + 2) = z at g2 f2 hne
          have hgd := fun (op : BinOp) (a b : Operand) (u v : Array Value) (w : World) => run_eqGuard_agg w op 132 a b u v guardT_ArcStep
          go_wp2
          go_quiet (fail)
          go_wp2
          go_roundw
          case rel =>
            refine ⟨k + 1, by omega, by go_num, fun j hj => ?_, HQ.out.drewN _⟩
            by_cases hjk : j = k
            · subst hjk; exact HE.out
            · exact HA.out j (by omega)
          case measure => simp [intOf]; omega
        · have HF := Lib.hid (eqB_no (x := xs) (y := ys) (fun e => he (by rw [e]; exact ⟨rfl, rfl, rfl⟩)))
          have hne := neq_ArcStep_other _ _ _ _ _ _ he
          clear he
          generalize intN xs (k * 3) = x at g0 hne
          generalize intN xs (k * 3 + 1) = y at g1 hne
          generalize intN xs (k * 3 + 2) = z at g2 hne
          generalize intN ys (k * 3) = x2 at f0 hne
          generalize intN ys (k * 3 + 1) = y2 at f1 hne
          generalize intN ys (k * 3 + 2) = z2 at f2 hne
          have hgd := fun (op : BinOp) (a b : Operand) (u v : Array Value) (w : World) => run_eqGuard_agg w op 132 a b u v guardT_ArcStep
          go_wp2
          go_quiet (fail)
          go_wp2
          go_ret
          exact ⟨ret_bool HF.out.symm, HQ.out.drewN _⟩
      · obtain rfl : k = n := by omega
        have HF := Lib.hid (eqB_yes (trip_ext HX1.out HX2.out rfl HA.out))
        go_wp2
        go_ret
        exact ⟨ret_bool HF.out.symm, HQ.out⟩
  · have HF := Lib.hid (eqB_no (x := xs) (y := ys) (fun e => hl (by rw [e] at HX1; have := HX1.out; omega)))
    have hlb : ((n : Int) == m) = false := beq_eq_false_iff_ne.2 (by omega)
    clear hx2
    go_enter Try.func93, Try.ntmps93
    go_wp2
    go_ret
    exact ⟨ret_bool HF.out.symm, QW.refl _⟩

theorem slicesEqual_ArcStep' (v1 v2 : Value) (n m : Nat) (xs ys : List Int) (b : Bool) (w : World) (h1 : TripAt w v1 n xs) (h2 : TripAt w v2 m ys) (hb : eqB xs ys = b) :
    Calls Try.prog 93 #[v1, v2] w fun e w' => e = .returned (.bool b) ∧ QW w w' := hb ▸ slicesEqual_ArcStep v1 v2 n m xs ys w h1 h2

theorem guardT_PairStep : Try.prog.eqGuardType Try.prog.depth 135 = false := by kernel_rfl
theorem structT_PairStep : Try.prog.underlying 135 = some (.struct (Try.prog.fieldsOf 135)) := by kernel_rfl
theorem heldT_PairStep : Try.prog.stoodInHeld 135 = false := by kernel_rfl

theorem neq_PairStep (x y z x2 y2 z2 : Int) (w : World) : (binOp .neq 135 (.agg #[.int .i64 x, .int .i64 y, .int .i64 z]) (.agg #[.int .i64 x2, .int .i64 y2, .int .i64 z2])).run Try.prog w = .ok (.bool (!(x == x2 && (y == y2 && z == z2)))) w := by
  rw [run_neq_struct, show (10000 : Nat) = 9999 + 1 from rfl, run_equalIn_agg w 9999 135 _ _ structT_PairStep heldT_PairStep]
  simp only [Program.fieldsOf, Try.underlying135]
  go_simp
  by_cases h1 : x = x2 <;> by_cases h2 : y = y2 <;> by_cases h3 : z = z2 <;> simp [h1, h2, h3]
theorem neq_PairStep_same (x y z : Int) (w : World) : (binOp .neq 135 (.agg #[.int .i64 x, .int .i64 y, .int .i64 z]) (.agg #[.int .i64 x, .int .i64 y, .int .i64 z])).run Try.prog w = .ok (.bool false) w := by
  rw [neq_PairStep]; simp
theorem neq_PairStep_other (x y z x2 y2 z2 : Int) (h : ¬ (x = x2 ∧ y = y2 ∧ z = z2)) (w : World) : (binOp .neq 135 (.agg #[.int .i64 x, .int .i64 y, .int .i64 z]) (.agg #[.int .i64 x2, .int .i64 y2, .int .i64 z2])).run Try.prog w = .ok (.bool true) w := by
  have e : (x == x2 && (y == y2 && z == z2)) = false := by
    cases hb : (x == x2 && (y == y2 && z == z2)) with
    | false => rfl
    | true => exact absurd (by simpa using hb) h
  rw [neq_PairStep, e]; rfl

set_option maxHeartbeats 800000 in
set_option maxRecDepth 100000 in
theorem slicesEqual_PairStep (v1 v2 : Value) (n m : Nat) (xs ys : List Int) (w : World) (h1 : TripAt w v1 n xs) (h2 : TripAt w v2 m ys) :
    Calls Try.prog 94 #[v1, v2] w fun e w' => e = .returned (.bool (eqB xs ys)) ∧ QW w w' := by
  obtain ⟨a1, c1, rfl, hx1, hn1, hc1⟩ := h1
  obtain ⟨a2, c2, rfl, hx2, hn2, hc2⟩ := h2
  have HC1 := Lib.hid hc1
  have HC2 := Lib.hid hc2
  have HX1 := Lib.hid hx1
  clear hc1 hc2 hx1
  by_cases hl : n = m
  · subst hl
    have HX2 := Lib.hid hx2
    clear hx2
    go_enter Try.func94, Try.ntmps94
    go_wp2
    go_loopw [13] (fun i wr => ∃ k : Nat, k ≤ n ∧ i = .int .i64 k ∧ (∀ j, j < k → intN xs (j * 3) = intN ys (j * 3) ∧ intN xs (j * 3 + 1) = intN ys (j * 3 + 1) ∧ intN xs (j * 3 + 2) = intN ys (j * 3 + 2)) ∧ QW w wr) (fun i _ => n - (intOf i).toNat)
    case atStart => exact ⟨0, Nat.zero_le _, rfl, fun j hj => absurd hj (Nat.not_lt_zero _), QW.refl _⟩
    case round =>
      obtain ⟨k, hk, rfl, hall, hq⟩ := hrel
      have HA := Lib.hid hall
      have HQ := Lib.hid hq
      clear hall hq
      by_cases hlt : k < n
      · obtain ⟨b1, off1, ha1, hcell1⟩ := HC1.out (by omega)
        subst ha1
        obtain ⟨b2, off2, ha2, hcell2⟩ := HC2.out (by omega)
        subst ha2
        have g0 := HQ.out.cell (hcell1 (k * 3) (by omega))
        have g1 := HQ.out.cell (hcell1 (k * 3 + 1) (by omega))
        have g2 := HQ.out.cell (hcell1 (k * 3 + 2) (by omega))
        have f0 := HQ.out.cell (hcell2 (k * 3) (by omega))
        have f1 := HQ.out.cell (hcell2 (k * 3 + 1) (by omega))
        have f2 := HQ.out.cell (hcell2 (k * 3 + 2) (by omega))
        rw [← Nat.add_assoc] at g1 g2 f1 f2
        have hlt' : (k : Int) < (n : Int) := by omega
        clear hcell1 hcell2
        by_cases he : intN xs (k * 3) = intN ys (k * 3) ∧ intN xs (k * 3 + 1) = intN ys (k * 3 + 1) ∧ intN xs (k * 3 + 2) = intN ys (k * 3 + 2)
        · have HE := Lib.hid he
          rw [← he.1] at f0
          rw [← he.2.1] at f1
          rw [← he.2.2] at f2
          have hne := neq_PairStep_same (intN xs (k * 3)) (intN xs (k * 3 + 1)) (intN xs (k * 3 + 2))
          clear he
          generalize intN xs (k * 3) = x at g0 f0 hne
          generalize intN xs (k * 3 + 1) = y at g1 f1 hne
          generalize intN xs (k * 3 + 2) = z at g2 f2 hne
          have hgd := fun (op : BinOp) (a b : Operand) (u v : Array Value) (w : World) => run_eqGuard_agg w op 135 a b u v guardT_PairStep
          go_wp2
          go_quiet (fail)
          go_wp2
          go_roundw
          case rel =>
            refine ⟨k + 1, by omega, by go_num, fun j hj => ?_, HQ.out.drewN _⟩
            by_cases hjk : j = k
            · subst hjk; exact HE.out
            · exact HA.out j (by omega)
          case measure => simp [intOf]; omega
        · have HF := Lib.hid (eqB_no (x := xs) (y := ys) (fun e => he (by rw [e]; exact ⟨rfl, rfl, rfl⟩)))
          have hne := neq_PairStep_other _ _ _ _ _ _ he
          clear he
          generalize intN xs (k * 3) = x at g0 hne
          generalize intN xs (k * 3 + 1) = y at g1 hne
          generalize intN xs (k * 3 + 2) = z at g2 hne
          generalize intN ys (k * 3) = x2 at f0 hne
          generalize intN ys (k * 3 + 1) = y2 at f1 hne
          generalize intN ys (k * 3 + 2) = z2 at f2 hne
          have hgd := fun (op : BinOp) (a b : Operand) (u v : Array Value) (w : World) => run_eqGuard_agg w op 135 a b u v guardT_PairStep
          go_wp2
          go_quiet (fail)
          go_wp2
          go_ret
          exact ⟨ret_bool HF.out.symm, HQ.out.drewN _⟩
      · obtain rfl : k = n := by omega
        have HF := Lib.hid (eqB_yes (trip_ext HX1.out HX2.out rfl HA.out))
        go_wp2
        go_ret
        exact ⟨ret_bool HF.out.symm, HQ.out⟩
  · have HF := Lib.hid (eqB_no (x := xs) (y := ys) (fun e => hl (by rw [e] at HX1; have := HX1.out; omega)))
    have hlb : ((n : Int) == m) = false := beq_eq_false_iff_ne.2 (by omega)
    clear hx2
    go_enter Try.func94, Try.ntmps94
    go_wp2
    go_ret
    exact ⟨ret_bool HF.out.symm, QW.refl _⟩

theorem slicesEqual_PairStep' (v1 v2 : Value) (n m : Nat) (xs ys : List Int) (b : Bool) (w : World) (h1 : TripAt w v1 n xs) (h2 : TripAt w v2 m ys) (hb : eqB xs ys = b) :
    Calls Try.prog 94 #[v1, v2] w fun e w' => e = .returned (.bool b) ∧ QW w w' := hb ▸ slicesEqual_PairStep v1 v2 n m xs ys w h1 h2

end Go.Proofs.Ytclhcnfgpkhplaa
