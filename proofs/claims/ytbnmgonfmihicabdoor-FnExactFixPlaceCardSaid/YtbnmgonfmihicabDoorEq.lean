/-
  The laws' comparisons: eqInt64S, eqInt64SS, eqRel; and szRel.
-/
import Derived.Test.YtbnmgonfmihicabDoorTo
import Derived.Test.YtbnmgonfmihicabDoorSz
namespace Go.Proofs.YtbnmgonfmihicabDoor
open Go.RowKit

def eqB {α : Type} [DecidableEq α] (x y : α) : Bool := decide (x = y)
theorem eqB_yes {α : Type} [DecidableEq α] {x y : α} (h : x = y) : eqB x y = true := by simp [eqB, h]
theorem eqB_no {α : Type} [DecidableEq α] {x y : α} (h : x ≠ y) : eqB x y = false := by simp [eqB, h]
theorem eqB_true {α : Type} [DecidableEq α] {x y : α} (h : eqB x y = true) : x = y := by simpa [eqB] using h

theorem row_ext {xs ys : List Int} (hl : xs.length = ys.length) (h : ∀ i, i < xs.length → intN xs i = intN ys i) : xs = ys := by
  apply List.ext_getElem hl
  intro i h1 h2
  have := h i h1
  rwa [intN_at xs i h1, intN_at ys i h2] at this

theorem grid_ext {xs ys : List (List Int)} (hl : xs.length = ys.length) (h : ∀ i, i < xs.length → rowN xs i = rowN ys i) : xs = ys := by
  apply List.ext_getElem hl
  intro i h1 h2
  have := h i h1
  rwa [rowN_at xs i h1, rowN_at ys i h2] at this

set_option maxHeartbeats 400000 in
theorem eqRow (v1 v2 : Value) (xs ys : List Int) (w : World) (h1 : RowAt w v1 xs) (h2 : RowAt w v2 ys) :
    Calls Tryd.prog 14 #[v1, v2] w fun e w' => e = .returned (.bool (eqB xs ys)) ∧ QW w w' := by
  obtain ⟨a1, c1, rfl, hn1, hc1⟩ := h1
  obtain ⟨a2, c2, rfl, hn2, hc2⟩ := h2
  have HC1 := Lib.hid hc1
  have HC2 := Lib.hid hc2
  clear hc1 hc2
  by_cases hl : xs.length = ys.length
  · rw [← hl] at hn2 HC2 ⊢
    have HL := Lib.hid hl
    clear hl
    go_enter Tryd.func14, Tryd.ntmps14
    go_wp2
    go_loopw [5] (fun i wr => ∃ k : Nat, k ≤ xs.length ∧ i = .int .i64 k ∧ (∀ j, j < k → intN xs j = intN ys j) ∧ QW w wr) (fun i _ => xs.length - (intOf i).toNat)
    case atStart => exact ⟨0, Nat.zero_le _, rfl, fun j hj => absurd hj (Nat.not_lt_zero _), QW.refl _⟩
    case round =>
      obtain ⟨k, hk, rfl, hall, hq⟩ := hrel
      have HA := Lib.hid hall
      have HQ := Lib.hid hq
      clear hall hq
      by_cases hlt : k < xs.length
      · obtain ⟨b1, off1, ha1, hcell1⟩ := HC1.out (by omega)
        subst ha1
        obtain ⟨b2, off2, ha2, hcell2⟩ := HC2.out (by omega)
        subst ha2
        have hx1 := HQ.out.cell (hcell1 k hlt)
        have hx2 := HQ.out.cell (hcell2 k hlt)
        have hlt' : (k : Int) < (xs.length : Int) := by omega
        clear hcell1 hcell2
        by_cases he : intN xs k = intN ys k
        · have HE := Lib.hid he
          rw [← he] at hx2
          clear he
          go_wp2
          go_quiet (fail)
          go_wp2
          go_roundw
          case rel =>
            refine ⟨k + 1, by omega, by go_num, fun j hj => ?_, HQ.out.drewN _⟩
            by_cases hjk : j = k
            · subst hjk; exact HE.out
            · exact HA.out j (by omega)
          case measure => simp [intOf]; omega
        · have HF := Lib.hid (eqB_no (x := xs) (y := ys) (fun e => he (by rw [e])))
          have hne : (intN xs k == intN ys k) = false := by simpa using he
          go_wp2
          go_quiet (fail)
          go_wp2
          go_ret
          exact ⟨ret_bool HF.out.symm, HQ.out.drewN _⟩
      · obtain rfl : k = xs.length := by omega
        have HF := Lib.hid (eqB_yes (row_ext HL.out HA.out))
        go_wp2
        go_ret
        exact ⟨ret_bool HF.out.symm, HQ.out⟩
  · have HF := Lib.hid (eqB_no (x := xs) (y := ys) (fun e => hl (by rw [e])))
    have hlb : ((xs.length : Int) == ys.length) = false := beq_eq_false_iff_ne.2 (by omega)
    go_enter Tryd.func14, Tryd.ntmps14
    go_wp2
    go_ret
    exact ⟨ret_bool HF.out.symm, QW.refl _⟩

theorem eqRow' (v1 v2 : Value) (xs ys : List Int) (b : Bool) (w : World) (h1 : RowAt w v1 xs) (h2 : RowAt w v2 ys) (hb : eqB xs ys = b) :
    Calls Tryd.prog 14 #[v1, v2] w fun e w' => e = .returned (.bool b) ∧ QW w w' := hb ▸ eqRow v1 v2 xs ys w h1 h2

set_option maxHeartbeats 400000 in
theorem eqGrid (v1 v2 : Value) (xs ys : List (List Int)) (w : World) (h1 : GridAt w v1 xs) (h2 : GridAt w v2 ys) :
    Calls Tryd.prog 42 #[v1, v2] w fun e w' => e = .returned (.bool (eqB xs ys)) ∧ QW w w' := by
  obtain ⟨V1, ⟨a1, c1, rfl, hn1, hc1⟩, hV1⟩ := h1
  obtain ⟨V2, ⟨a2, c2, rfl, hn2, hc2⟩, hV2⟩ := h2
  have HC1 := Lib.hid hc1
  have HC2 := Lib.hid hc2
  have HV1 := Lib.hid hV1
  have HV2 := Lib.hid hV2
  clear hc1 hc2 hV1 hV2
  by_cases hl : xs.length = ys.length
  · rw [← hl] at hn2 HC2 HV2 ⊢
    have HL := Lib.hid hl
    clear hl
    go_enter Tryd.func42, Tryd.ntmps42
    go_wp2
    go_loopw [5] (fun i wr => ∃ k : Nat, k ≤ xs.length ∧ i = .int .i64 k ∧ (∀ j, j < k → rowN xs j = rowN ys j) ∧ QW w wr) (fun i _ => xs.length - (intOf i).toNat)
    case atStart => exact ⟨0, Nat.zero_le _, rfl, fun j hj => absurd hj (Nat.not_lt_zero _), QW.refl _⟩
    case round =>
      obtain ⟨k, hk, rfl, hall, hq⟩ := hrel
      have HA := Lib.hid hall
      have HQ := Lib.hid hq
      clear hall hq
      by_cases hlt : k < xs.length
      · obtain ⟨b1, off1, ha1, hcell1⟩ := HC1.out (by omega)
        subst ha1
        obtain ⟨b2, off2, ha2, hcell2⟩ := HC2.out (by omega)
        subst ha2
        have hx1 := HQ.out.cell (hcell1 k hlt)
        have hx2 := HQ.out.cell (hcell2 k hlt)
        have hlt' : (k : Int) < (xs.length : Int) := by omega
        clear hcell1 hcell2
        by_cases he : rowN xs k = rowN ys k
        · have HE := Lib.hid he
          have HB := Lib.hid (eqB_yes he)
          clear he
          go_wp2
          go_quiet ((go_at_call 14; exact QW.calls (eqRow' _ _ _ _ _ _ ((HQ.out.drewN _).row (HV1.out k hlt)) ((HQ.out.drewN _).row (HV2.out k hlt)) HB.out)))
          go_wp2
          go_roundw
          case rel =>
            refine ⟨k + 1, by omega, by go_num, fun j hj => ?_, HQ.out.drewN _⟩
            by_cases hjk : j = k
            · subst hjk; exact HE.out
            · exact HA.out j (by omega)
          case measure => simp [intOf]; omega
        · have HF := Lib.hid (eqB_no (x := xs) (y := ys) (fun e => he (by rw [e])))
          have HB := Lib.hid (eqB_no he)
          clear he
          go_wp2
          go_quiet ((go_at_call 14; exact QW.calls (eqRow' _ _ _ _ _ _ ((HQ.out.drewN _).row (HV1.out k hlt)) ((HQ.out.drewN _).row (HV2.out k hlt)) HB.out)))
          go_wp2
          go_ret
          exact ⟨ret_bool HF.out.symm, HQ.out.drewN _⟩
      · obtain rfl : k = xs.length := by omega
        have HF := Lib.hid (eqB_yes (grid_ext HL.out HA.out))
        go_wp2
        go_ret
        exact ⟨ret_bool HF.out.symm, HQ.out⟩
  · have HF := Lib.hid (eqB_no (x := xs) (y := ys) (fun e => hl (by rw [e])))
    have hlb : ((xs.length : Int) == ys.length) = false := beq_eq_false_iff_ne.2 (by omega)
    go_enter Tryd.func42, Tryd.ntmps42
    go_wp2
    go_ret
    exact ⟨ret_bool HF.out.symm, QW.refl _⟩

theorem eqGrid' (v1 v2 : Value) (xs ys : List (List Int)) (b : Bool) (w : World) (h1 : GridAt w v1 xs) (h2 : GridAt w v2 ys) (hb : eqB xs ys = b) :
    Calls Tryd.prog 42 #[v1, v2] w fun e w' => e = .returned (.bool b) ∧ QW w w' := hb ▸ eqGrid v1 v2 xs ys w h1 h2

/-- what a relation is compared by -/
def eqR (a : Int) (xs : List (List Int)) (b : Int) (ys : List (List Int)) : Bool := eqB a b && eqB xs ys

set_option maxHeartbeats 400000 in
theorem eqRel (x : Int) (a1 : Option Addr) (n1 c1 : Nat) (xs : List (List Int)) (y : Int) (a2 : Option Addr) (n2 c2 : Nat) (ys : List (List Int)) (w : World) (h1 : GridAt w (.slice a1 n1 c1) xs) (h2 : GridAt w (.slice a2 n2 c2) ys) :
    Calls Tryd.prog 13 #[.agg #[.int .i64 x, .slice a1 n1 c1], .agg #[.int .i64 y, .slice a2 n2 c2]] w fun e w' => e = .returned (.bool (eqR x xs y ys)) ∧ Below w.heap.size w w' := by
  have H1 := Lib.hid h1
  have H2 := Lib.hid h2
  clear h1 h2
  by_cases hxy : x = y
  · subst hxy
    have HF : Hid (eqR x xs x ys = eqB xs ys) := by simp [Hid, eqR, eqB]
    cases hb : eqB xs ys with
    | true =>
      have HB := Lib.hid hb
      clear hb
      go_enter Tryd.func13, Tryd.ntmps13
      go_wp2_with fail
      have hbw := ((Below.refl w.heap.size w).alloc (Nat.le_refl _) (.cells #[.int .i64 x, .slice a1 n1 c1] 27)).alloc (by simp) (.cells #[.int .i64 x, .slice a2 n2 c2] 27)
      refine (eqGrid' _ _ _ _ _ _ (H1.out.below hbw) (H2.out.below hbw) HB.out).mono ?_
      rintro e w2 ⟨rfl, hq⟩
      have HQ := Lib.hid (hbw.trans (hq.below _))
      clear hq hbw
      go_wp2
      go_ret
      exact ⟨ret_bool (by rw [HF.out, HB.out]), HQ.out⟩
    | false =>
      have HB := Lib.hid hb
      clear hb
      go_enter Tryd.func13, Tryd.ntmps13
      go_wp2_with fail
      have hbw := ((Below.refl w.heap.size w).alloc (Nat.le_refl _) (.cells #[.int .i64 x, .slice a1 n1 c1] 27)).alloc (by simp) (.cells #[.int .i64 x, .slice a2 n2 c2] 27)
      refine (eqGrid' _ _ _ _ _ _ (H1.out.below hbw) (H2.out.below hbw) HB.out).mono ?_
      rintro e w2 ⟨rfl, hq⟩
      have HQ := Lib.hid (hbw.trans (hq.below _))
      clear hq hbw
      go_wp2
      go_ret
      exact ⟨ret_bool (by rw [HF.out, HB.out]), HQ.out⟩
  · have HF : Hid (eqR x xs y ys = false) := by simp [Hid, eqR, eqB, hxy]
    have hne : (x == y) = false := beq_eq_false_iff_ne.2 hxy
    go_enter Tryd.func13, Tryd.ntmps13
    go_wp2
    go_ret
    exact ⟨ret_bool HF.out.symm, ((Below.refl _ _).alloc (Nat.le_refl _) _).alloc (by simp) _⟩

theorem eqRel' (x : Int) (a1 : Option Addr) (n1 c1 : Nat) (xs : List (List Int)) (y : Int) (a2 : Option Addr) (n2 c2 : Nat) (ys : List (List Int)) (b : Bool) (w : World) (h1 : GridAt w (.slice a1 n1 c1) xs) (h2 : GridAt w (.slice a2 n2 c2) ys) (hb : eqR x xs y ys = b) :
    Calls Tryd.prog 13 #[.agg #[.int .i64 x, .slice a1 n1 c1], .agg #[.int .i64 y, .slice a2 n2 c2]] w fun e w' => e = .returned (.bool b) ∧ Below w.heap.size w w' := hb ▸ eqRel x a1 n1 c1 xs y a2 n2 c2 ys w h1 h2

theorem eqR_same (x : Int) (xs : List (List Int)) : eqR x xs x xs = true := by simp [eqR, eqB]

set_option maxHeartbeats 400000 in
theorem szRel (x : Int) (a : Option Addr) (n c : Nat) (xs : List (List Int)) (left : Int) (w : World) (h : GridAt w (.slice a n c) xs) (h0 : 0 ≤ left) (h1 : left ≤ 1048576) :
    Calls Tryd.prog 8 #[.agg #[.int .i64 x, .slice a n c], .int .i64 left] w fun e w' => e = .returned (.int .i64 (szF (gridSize xs) left)) ∧ Below w.heap.size w w' := by
  have H := Lib.hid h
  clear h
  by_cases hl : left < gridSize xs
  · have HF := Lib.hid (szF_no hl)
    go_enter Tryd.func8, Tryd.ntmps8
    go_wp2_with fail
    have hbw := (Below.refl w.heap.size w).alloc (Nat.le_refl _) (.cells #[.int .i64 x, .slice a n c] 24)
    refine (szGrid _ _ _ _ (H.out.below hbw) h0 h1).mono ?_
    rw [HF.out]
    rintro e w2 ⟨rfl, rfl⟩
    have HQ := Lib.hid hbw
    clear hbw
    go_wp2
    go_ret
    exact ⟨ret_int HF.out.symm, HQ.out⟩
  · have HF := Lib.hid (szF_yes (t := gridSize xs) (l := left) (by omega))
    have hl' : ¬ left - gridSize xs < 0 := by omega
    go_enter Tryd.func8, Tryd.ntmps8
    go_wp2_with fail
    have hbw := (Below.refl w.heap.size w).alloc (Nat.le_refl _) (.cells #[.int .i64 x, .slice a n c] 24)
    refine (szGrid _ _ _ _ (H.out.below hbw) h0 h1).mono ?_
    rw [HF.out]
    rintro e w2 ⟨rfl, rfl⟩
    have HQ := Lib.hid hbw
    clear hbw
    go_wp2
    go_ret
    exact ⟨ret_int HF.out.symm, HQ.out⟩

end Go.Proofs.YtbnmgonfmihicabDoor
