/-
  The kinds of operations, of the model: l02Thirds, l02Idempotent, l02Conservative, l02Symmetric, l02Associative.
-/
import Derived.Test.YtclhcnfgpkhplaaMinor
namespace Go.Proofs.Ytclhcnfgpkhplaa
open Go.RowKit

theorem row2 (w : World) (x y : Int) : RowAt (w.alloc (.cells #[.int .i64 x, .int .i64 y] 2)) (.slice (some ⟨w.heap.size, 0, none⟩) 2 2) [x, y] := by
  have h := Box.new 2 w #[.int .i64 x, .int .i64 y]
  refine ⟨_, _, rfl, by simp, fun _ => ⟨_, _, rfl, fun i hi => ?_⟩⟩
  match i, hi with
  | 0, _ => exact h.c 0 rfl
  | 1, _ => exact h.c 1 rfl
  | i + 2, hi => exact absurd hi (by simp)
theorem row3 (w : World) (x y z : Int) : RowAt (w.alloc (.cells #[.int .i64 x, .int .i64 y, .int .i64 z] 2)) (.slice (some ⟨w.heap.size, 0, none⟩) 3 3) [x, y, z] := by
  have h := Box.new 2 w #[.int .i64 x, .int .i64 y, .int .i64 z]
  refine ⟨_, _, rfl, by simp, fun _ => ⟨_, _, rfl, fun i hi => ?_⟩⟩
  match i, hi with
  | 0, _ => exact h.c 0 rfl
  | 1, _ => exact h.c 1 rfl
  | 2, _ => exact h.c 2 rfl
  | i + 3, hi => exact absurd hi (by simp)
theorem l02ValueK (size ar : Int) (pb po : Nat) (tab : List Int) (v : Value) (xs : List Int) (x : Int) (w : World) (h : OpAt w pb po ar tab) (hv : RowAt w v xs) (ho : OpOk size ar tab) (ht : TupP size ar xs) (hm : intN tab (codeN size xs) = x) :
    Calls Try.prog 143 #[.int .i64 size, .pointer (some ⟨pb, po, none⟩), v] w fun e w' => e = .returned (.int .i64 x) ∧ QW w w' := hm ▸ l02Value size ar pb po tab v xs w h hv ho ht
theorem tup2 {s : Nat} {x y : Int} (hx : 0 ≤ x ∧ x < s) (hy : 0 ≤ y ∧ y < s) : TupP s 2 [x, y] := by
  refine ⟨rfl, fun i hi => ?_⟩
  match i, hi with
  | 0, _ => exact hx
  | 1, _ => exact hy
  | i + 2, hi => exact absurd hi (by simp)
theorem tup3 {s : Nat} {x y z : Int} (hx : 0 ≤ x ∧ x < s) (hy : 0 ≤ y ∧ y < s) (hz : 0 ≤ z ∧ z < s) : TupP s 3 [x, y, z] := by
  refine ⟨rfl, fun i hi => ?_⟩
  match i, hi with
  | 0, _ => exact hx
  | 1, _ => exact hy
  | 2, _ => exact hz
  | i + 3, hi => exact absurd hi (by simp)

/-- What an operation of three places gives two equal values and another one. -/
def ThirdAt (s : Nat) (tab : List Int) (mid : Bool) (due x y : Int) : Prop :=
  intN tab (codeN s [x, x, y]) = due ∧ intN tab (codeN s [y, x, x]) = due ∧ (mid = true → intN tab (codeN s [x, y, x]) = due)
def dueOf (odd : Bool) (x y : Int) : Int := if odd = true then y else x
def ThirdsP (s : Nat) (ar : Int) (tab : List Int) (mid odd : Bool) : Prop :=
  ar = 3 ∧ ∀ x y : Nat, x < s → y < s → ThirdAt s tab mid (dueOf odd x y) x y

set_option linter.unusedSimpArgs false in
set_option maxHeartbeats 4000000 in
set_option maxRecDepth 100000 in
theorem l02Thirds (s : Nat) (ar : Int) (pb po : Nat) (tab : List Int) (mid odd b : Bool) (w : World) (hop : OpAt w pb po ar tab) (ho : OpOk s ar tab) (hb : Tells b (ThirdsP s ar tab mid odd)) :
    Calls Try.prog 121 #[.int .i64 s, .pointer (some ⟨pb, po, none⟩), .bool mid, .bool odd] w fun e w' => e = .returned (.bool b) ∧ Below w.heap.size w w' := by
  have hs4 : s ≤ 4 := by have := ho.1.2; omega
  have cA := hop.1
  have HB := Lib.hid hb
  by_cases h3 : ar = 3
  · subst h3
    have HOP := Lib.hid hop
    have HO := Lib.hid ho
    clear hb hop ho
    go_enter Try.func121, Try.ntmps121
    go_wp2
    go_loopw [9] (fun i wr => ∃ x : Nat, x ≤ s ∧ i = .int .i64 x ∧ (∀ z y : Nat, z < x → y < s → ThirdAt s tab mid (dueOf odd z y) z y) ∧ Below w.heap.size w wr) (fun i _ => s - (intOf i).toNat)
    case atStart => exact ⟨0, Nat.zero_le _, rfl, fun j _ hj => absurd hj (Nat.not_lt_zero _), Below.refl _ _⟩
    case round =>
      obtain ⟨x, hxs, rfl, hall, hbel⟩ := hrel
      have HX := Lib.hid hall
      have HW0 := Lib.hid hbel
      clear hall hbel cA
      by_cases hx : x < s
      · have hx' : (x : Int) < (s : Int) := by omega
        go_wp2
        obtain ⟨wo, rfl⟩ : ∃ wo, wo = wr := ⟨_, rfl⟩
        go_loopw [10] (fun i wr => ∃ y : Nat, y ≤ s ∧ i = .int .i64 y ∧ (∀ z : Nat, z < y → ThirdAt s tab mid (dueOf odd x z) x z) ∧ Below w.heap.size w wr) (fun i _ => s - (intOf i).toNat)
        case atStart => exact ⟨0, Nat.zero_le _, rfl, fun j hj => absurd hj (Nat.not_lt_zero _), HW0.out⟩
        case round =>
          obtain ⟨y, hys, rfl, hally, hbely⟩ := hrel
          have HY := Lib.hid hally
          have HW := Lib.hid hbely
          clear hally hbely
          by_cases hy : y < s
          · have hy' : (y : Int) < (s : Int) := by omega
            cases odd with
            | false =>
              have HT1 : Hid (TupP s 3 [(x : Int), (x : Int), (y : Int)]) := Lib.hid (tup3 (by omega) (by omega) (by omega))
              have HT2 : Hid (TupP s 3 [(y : Int), (x : Int), (x : Int)]) := Lib.hid (tup3 (by omega) (by omega) (by omega))
              have HT3 : Hid (TupP s 3 [(x : Int), (y : Int), (x : Int)]) := Lib.hid (tup3 (by omega) (by omega) (by omega))
              obtain ⟨v1, hv1⟩ : ∃ v, intN tab (codeN s [(x : Int), (x : Int), (y : Int)]) = v := ⟨_, rfl⟩
              obtain ⟨v2, hv2⟩ : ∃ v, intN tab (codeN s [(y : Int), (x : Int), (x : Int)]) = v := ⟨_, rfl⟩
              obtain ⟨v3, hv3⟩ : ∃ v, intN tab (codeN s [(x : Int), (y : Int), (x : Int)]) = v := ⟨_, rfl⟩
              have HV1 := Lib.hid hv1
              have HV2 := Lib.hid hv2
              have HV3 := Lib.hid hv3
              clear hv1 hv2 hv3
              by_cases e1 : v1 = (x : Int)
              · have n1 : (v1 != (x : Int)) = false := by simp [e1]
                by_cases e2 : v2 = (x : Int)
                · have n2 : (v2 != (x : Int)) = false := by simp [e2]
                  cases mid with
                  | false =>
                    have HTH : Hid (ThirdAt s tab false (dueOf false x y) x y) := Lib.hid ⟨HV1.out.trans e1, HV2.out.trans e2, fun h => by cases h⟩
                    clear e1 e2
                    go_wp2_with fail
                    refine (l02ValueK s 3 pb po tab _ [(x : Int), (x : Int), (y : Int)] v1 _ (HOP.out.below (HW.out.trans (((Below.refl _ _).alloc (Nat.le_refl _) _).mono HW.out.size))) (row3 _ _ _ _) HO.out HT1.out HV1.out).mono ?_
                    rintro e w1 ⟨rfl, hq1⟩
                    have HB1 := Lib.hid (HW.out.trans ((((Below.refl _ _).alloc (Nat.le_refl _) _).trans (hq1.below _)).mono HW.out.size))
                    clear hq1
                    go_wp2_with fail
                    refine (l02ValueK s 3 pb po tab _ [(y : Int), (x : Int), (x : Int)] v2 _ (HOP.out.below (HB1.out.trans (((Below.refl _ _).alloc (Nat.le_refl _) _).mono HB1.out.size))) (row3 _ _ _ _) HO.out HT2.out HV2.out).mono ?_
                    rintro e w2 ⟨rfl, hq2⟩
                    have HB2 := Lib.hid (HB1.out.trans ((((Below.refl _ _).alloc (Nat.le_refl _) _).trans (hq2.below _)).mono HB1.out.size))
                    clear hq2
                    go_wp2
                    go_roundw
                    case rel =>
                      refine ⟨y + 1, by omega, by go_num, fun z hz => ?_, HB2.out⟩
                      by_cases hzy : z = y
                      · subst hzy; exact HTH.out
                      · exact HY.out z (by omega)
                    case measure => simp [intOf]; omega
                  | true =>
                    by_cases e3 : v3 = (x : Int)
                    · have n3 : (v3 != (x : Int)) = false := by simp [e3]
                      have HTH : Hid (ThirdAt s tab true (dueOf false x y) x y) := Lib.hid ⟨HV1.out.trans e1, HV2.out.trans e2, fun _ => HV3.out.trans e3⟩
                      clear e1 e2 e3
                      go_wp2_with fail
                      refine (l02ValueK s 3 pb po tab _ [(x : Int), (x : Int), (y : Int)] v1 _ (HOP.out.below (HW.out.trans (((Below.refl _ _).alloc (Nat.le_refl _) _).mono HW.out.size))) (row3 _ _ _ _) HO.out HT1.out HV1.out).mono ?_
                      rintro e w1 ⟨rfl, hq1⟩
                      have HB1 := Lib.hid (HW.out.trans ((((Below.refl _ _).alloc (Nat.le_refl _) _).trans (hq1.below _)).mono HW.out.size))
                      clear hq1
                      go_wp2_with fail
                      refine (l02ValueK s 3 pb po tab _ [(y : Int), (x : Int), (x : Int)] v2 _ (HOP.out.below (HB1.out.trans (((Below.refl _ _).alloc (Nat.le_refl _) _).mono HB1.out.size))) (row3 _ _ _ _) HO.out HT2.out HV2.out).mono ?_
                      rintro e w2 ⟨rfl, hq2⟩
                      have HB2 := Lib.hid (HB1.out.trans ((((Below.refl _ _).alloc (Nat.le_refl _) _).trans (hq2.below _)).mono HB1.out.size))
                      clear hq2
                      go_wp2_with fail
                      refine (l02ValueK s 3 pb po tab _ [(x : Int), (y : Int), (x : Int)] v3 _ (HOP.out.below (HB2.out.trans (((Below.refl _ _).alloc (Nat.le_refl _) _).mono HB2.out.size))) (row3 _ _ _ _) HO.out HT3.out HV3.out).mono ?_
                      rintro e w3 ⟨rfl, hq3⟩
                      have HB3 := Lib.hid (HB2.out.trans ((((Below.refl _ _).alloc (Nat.le_refl _) _).trans (hq3.below _)).mono HB2.out.size))
                      clear hq3
                      go_wp2
                      go_roundw
                      case rel =>
                        refine ⟨y + 1, by omega, by go_num, fun z hz => ?_, HB3.out⟩
                        by_cases hzy : z = y
                        · subst hzy; exact HTH.out
                        · exact HY.out z (by omega)
                      case measure => simp [intOf]; omega
                    · have n3 : (v3 != (x : Int)) = true := by simp [e3]
                      have HF := Lib.hid (HB.out.is_false fun h => e3 (HV3.out.symm.trans ((h.2 x y hx hy).2.2 rfl)))
                      clear e1 e2 e3
                      go_wp2_with fail
                      refine (l02ValueK s 3 pb po tab _ [(x : Int), (x : Int), (y : Int)] v1 _ (HOP.out.below (HW.out.trans (((Below.refl _ _).alloc (Nat.le_refl _) _).mono HW.out.size))) (row3 _ _ _ _) HO.out HT1.out HV1.out).mono ?_
                      rintro e w1 ⟨rfl, hq1⟩
                      have HB1 := Lib.hid (HW.out.trans ((((Below.refl _ _).alloc (Nat.le_refl _) _).trans (hq1.below _)).mono HW.out.size))
                      clear hq1
                      go_wp2_with fail
                      refine (l02ValueK s 3 pb po tab _ [(y : Int), (x : Int), (x : Int)] v2 _ (HOP.out.below (HB1.out.trans (((Below.refl _ _).alloc (Nat.le_refl _) _).mono HB1.out.size))) (row3 _ _ _ _) HO.out HT2.out HV2.out).mono ?_
                      rintro e w2 ⟨rfl, hq2⟩
                      have HB2 := Lib.hid (HB1.out.trans ((((Below.refl _ _).alloc (Nat.le_refl _) _).trans (hq2.below _)).mono HB1.out.size))
                      clear hq2
                      go_wp2_with fail
                      refine (l02ValueK s 3 pb po tab _ [(x : Int), (y : Int), (x : Int)] v3 _ (HOP.out.below (HB2.out.trans (((Below.refl _ _).alloc (Nat.le_refl _) _).mono HB2.out.size))) (row3 _ _ _ _) HO.out HT3.out HV3.out).mono ?_
                      rintro e w3 ⟨rfl, hq3⟩
                      have HB3 := Lib.hid (HB2.out.trans ((((Below.refl _ _).alloc (Nat.le_refl _) _).trans (hq3.below _)).mono HB2.out.size))
                      clear hq3
                      go_wp2
                      go_ret
                      exact ⟨ret_bool HF.out.symm, HB3.out⟩
                · have n2 : (v2 != (x : Int)) = true := by simp [e2]
                  have HF := Lib.hid (HB.out.is_false fun h => e2 (HV2.out.symm.trans (h.2 x y hx hy).2.1))
                  clear e1 e2
                  go_wp2_with fail
                  refine (l02ValueK s 3 pb po tab _ [(x : Int), (x : Int), (y : Int)] v1 _ (HOP.out.below (HW.out.trans (((Below.refl _ _).alloc (Nat.le_refl _) _).mono HW.out.size))) (row3 _ _ _ _) HO.out HT1.out HV1.out).mono ?_
                  rintro e w1 ⟨rfl, hq1⟩
                  have HB1 := Lib.hid (HW.out.trans ((((Below.refl _ _).alloc (Nat.le_refl _) _).trans (hq1.below _)).mono HW.out.size))
                  clear hq1
                  go_wp2_with fail
                  refine (l02ValueK s 3 pb po tab _ [(y : Int), (x : Int), (x : Int)] v2 _ (HOP.out.below (HB1.out.trans (((Below.refl _ _).alloc (Nat.le_refl _) _).mono HB1.out.size))) (row3 _ _ _ _) HO.out HT2.out HV2.out).mono ?_
                  rintro e w2 ⟨rfl, hq2⟩
                  have HB2 := Lib.hid (HB1.out.trans ((((Below.refl _ _).alloc (Nat.le_refl _) _).trans (hq2.below _)).mono HB1.out.size))
                  clear hq2
                  go_wp2
                  go_ret
                  exact ⟨ret_bool HF.out.symm, HB2.out⟩
              · have n1 : (v1 != (x : Int)) = true := by simp [e1]
                have HF := Lib.hid (HB.out.is_false fun h => e1 (HV1.out.symm.trans (h.2 x y hx hy).1))
                clear e1
                go_wp2_with fail
                refine (l02ValueK s 3 pb po tab _ [(x : Int), (x : Int), (y : Int)] v1 _ (HOP.out.below (HW.out.trans (((Below.refl _ _).alloc (Nat.le_refl _) _).mono HW.out.size))) (row3 _ _ _ _) HO.out HT1.out HV1.out).mono ?_
                rintro e w1 ⟨rfl, hq1⟩
                have HB1 := Lib.hid (HW.out.trans ((((Below.refl _ _).alloc (Nat.le_refl _) _).trans (hq1.below _)).mono HW.out.size))
                clear hq1
                go_wp2
                go_ret
                exact ⟨ret_bool HF.out.symm, HB1.out⟩
            | true =>
              have HT1 : Hid (TupP s 3 [(x : Int), (x : Int), (y : Int)]) := Lib.hid (tup3 (by omega) (by omega) (by omega))
              have HT2 : Hid (TupP s 3 [(y : Int), (x : Int), (x : Int)]) := Lib.hid (tup3 (by omega) (by omega) (by omega))
              have HT3 : Hid (TupP s 3 [(x : Int), (y : Int), (x : Int)]) := Lib.hid (tup3 (by omega) (by omega) (by omega))
              obtain ⟨v1, hv1⟩ : ∃ v, intN tab (codeN s [(x : Int), (x : Int), (y : Int)]) = v := ⟨_, rfl⟩
              obtain ⟨v2, hv2⟩ : ∃ v, intN tab (codeN s [(y : Int), (x : Int), (x : Int)]) = v := ⟨_, rfl⟩
              obtain ⟨v3, hv3⟩ : ∃ v, intN tab (codeN s [(x : Int), (y : Int), (x : Int)]) = v := ⟨_, rfl⟩
              have HV1 := Lib.hid hv1
              have HV2 := Lib.hid hv2
              have HV3 := Lib.hid hv3
              clear hv1 hv2 hv3
              by_cases e1 : v1 = (y : Int)
              · have n1 : (v1 != (y : Int)) = false := by simp [e1]
                by_cases e2 : v2 = (y : Int)
                · have n2 : (v2 != (y : Int)) = false := by simp [e2]
                  cases mid with
                  | false =>
                    have HTH : Hid (ThirdAt s tab false (dueOf true x y) x y) := Lib.hid ⟨HV1.out.trans e1, HV2.out.trans e2, fun h => by cases h⟩
                    clear e1 e2
                    go_wp2_with fail
                    refine (l02ValueK s 3 pb po tab _ [(x : Int), (x : Int), (y : Int)] v1 _ (HOP.out.below (HW.out.trans (((Below.refl _ _).alloc (Nat.le_refl _) _).mono HW.out.size))) (row3 _ _ _ _) HO.out HT1.out HV1.out).mono ?_
                    rintro e w1 ⟨rfl, hq1⟩
                    have HB1 := Lib.hid (HW.out.trans ((((Below.refl _ _).alloc (Nat.le_refl _) _).trans (hq1.below _)).mono HW.out.size))
                    clear hq1
                    go_wp2_with fail
                    refine (l02ValueK s 3 pb po tab _ [(y : Int), (x : Int), (x : Int)] v2 _ (HOP.out.below (HB1.out.trans (((Below.refl _ _).alloc (Nat.le_refl _) _).mono HB1.out.size))) (row3 _ _ _ _) HO.out HT2.out HV2.out).mono ?_
                    rintro e w2 ⟨rfl, hq2⟩
                    have HB2 := Lib.hid (HB1.out.trans ((((Below.refl _ _).alloc (Nat.le_refl _) _).trans (hq2.below _)).mono HB1.out.size))
                    clear hq2
                    go_wp2
                    go_roundw
                    case rel =>
                      refine ⟨y + 1, by omega, by go_num, fun z hz => ?_, HB2.out⟩
                      by_cases hzy : z = y
                      · subst hzy; exact HTH.out
                      · exact HY.out z (by omega)
                    case measure => simp [intOf]; omega
                  | true =>
                    by_cases e3 : v3 = (y : Int)
                    · have n3 : (v3 != (y : Int)) = false := by simp [e3]
                      have HTH : Hid (ThirdAt s tab true (dueOf true x y) x y) := Lib.hid ⟨HV1.out.trans e1, HV2.out.trans e2, fun _ => HV3.out.trans e3⟩
                      clear e1 e2 e3
                      go_wp2_with fail
                      refine (l02ValueK s 3 pb po tab _ [(x : Int), (x : Int), (y : Int)] v1 _ (HOP.out.below (HW.out.trans (((Below.refl _ _).alloc (Nat.le_refl _) _).mono HW.out.size))) (row3 _ _ _ _) HO.out HT1.out HV1.out).mono ?_
                      rintro e w1 ⟨rfl, hq1⟩
                      have HB1 := Lib.hid (HW.out.trans ((((Below.refl _ _).alloc (Nat.le_refl _) _).trans (hq1.below _)).mono HW.out.size))
                      clear hq1
                      go_wp2_with fail
                      refine (l02ValueK s 3 pb po tab _ [(y : Int), (x : Int), (x : Int)] v2 _ (HOP.out.below (HB1.out.trans (((Below.refl _ _).alloc (Nat.le_refl _) _).mono HB1.out.size))) (row3 _ _ _ _) HO.out HT2.out HV2.out).mono ?_
                      rintro e w2 ⟨rfl, hq2⟩
                      have HB2 := Lib.hid (HB1.out.trans ((((Below.refl _ _).alloc (Nat.le_refl _) _).trans (hq2.below _)).mono HB1.out.size))
                      clear hq2
                      go_wp2_with fail
                      refine (l02ValueK s 3 pb po tab _ [(x : Int), (y : Int), (x : Int)] v3 _ (HOP.out.below (HB2.out.trans (((Below.refl _ _).alloc (Nat.le_refl _) _).mono HB2.out.size))) (row3 _ _ _ _) HO.out HT3.out HV3.out).mono ?_
                      rintro e w3 ⟨rfl, hq3⟩
                      have HB3 := Lib.hid (HB2.out.trans ((((Below.refl _ _).alloc (Nat.le_refl _) _).trans (hq3.below _)).mono HB2.out.size))
                      clear hq3
                      go_wp2
                      go_roundw
                      case rel =>
                        refine ⟨y + 1, by omega, by go_num, fun z hz => ?_, HB3.out⟩
                        by_cases hzy : z = y
                        · subst hzy; exact HTH.out
                        · exact HY.out z (by omega)
                      case measure => simp [intOf]; omega
                    · have n3 : (v3 != (y : Int)) = true := by simp [e3]
                      have HF := Lib.hid (HB.out.is_false fun h => e3 (HV3.out.symm.trans ((h.2 x y hx hy).2.2 rfl)))
                      clear e1 e2 e3
                      go_wp2_with fail
                      refine (l02ValueK s 3 pb po tab _ [(x : Int), (x : Int), (y : Int)] v1 _ (HOP.out.below (HW.out.trans (((Below.refl _ _).alloc (Nat.le_refl _) _).mono HW.out.size))) (row3 _ _ _ _) HO.out HT1.out HV1.out).mono ?_
                      rintro e w1 ⟨rfl, hq1⟩
                      have HB1 := Lib.hid (HW.out.trans ((((Below.refl _ _).alloc (Nat.le_refl _) _).trans (hq1.below _)).mono HW.out.size))
                      clear hq1
                      go_wp2_with fail
                      refine (l02ValueK s 3 pb po tab _ [(y : Int), (x : Int), (x : Int)] v2 _ (HOP.out.below (HB1.out.trans (((Below.refl _ _).alloc (Nat.le_refl _) _).mono HB1.out.size))) (row3 _ _ _ _) HO.out HT2.out HV2.out).mono ?_
                      rintro e w2 ⟨rfl, hq2⟩
                      have HB2 := Lib.hid (HB1.out.trans ((((Below.refl _ _).alloc (Nat.le_refl _) _).trans (hq2.below _)).mono HB1.out.size))
                      clear hq2
                      go_wp2_with fail
                      refine (l02ValueK s 3 pb po tab _ [(x : Int), (y : Int), (x : Int)] v3 _ (HOP.out.below (HB2.out.trans (((Below.refl _ _).alloc (Nat.le_refl _) _).mono HB2.out.size))) (row3 _ _ _ _) HO.out HT3.out HV3.out).mono ?_
                      rintro e w3 ⟨rfl, hq3⟩
                      have HB3 := Lib.hid (HB2.out.trans ((((Below.refl _ _).alloc (Nat.le_refl _) _).trans (hq3.below _)).mono HB2.out.size))
                      clear hq3
                      go_wp2
                      go_ret
                      exact ⟨ret_bool HF.out.symm, HB3.out⟩
                · have n2 : (v2 != (y : Int)) = true := by simp [e2]
                  have HF := Lib.hid (HB.out.is_false fun h => e2 (HV2.out.symm.trans (h.2 x y hx hy).2.1))
                  clear e1 e2
                  go_wp2_with fail
                  refine (l02ValueK s 3 pb po tab _ [(x : Int), (x : Int), (y : Int)] v1 _ (HOP.out.below (HW.out.trans (((Below.refl _ _).alloc (Nat.le_refl _) _).mono HW.out.size))) (row3 _ _ _ _) HO.out HT1.out HV1.out).mono ?_
                  rintro e w1 ⟨rfl, hq1⟩
                  have HB1 := Lib.hid (HW.out.trans ((((Below.refl _ _).alloc (Nat.le_refl _) _).trans (hq1.below _)).mono HW.out.size))
                  clear hq1
                  go_wp2_with fail
                  refine (l02ValueK s 3 pb po tab _ [(y : Int), (x : Int), (x : Int)] v2 _ (HOP.out.below (HB1.out.trans (((Below.refl _ _).alloc (Nat.le_refl _) _).mono HB1.out.size))) (row3 _ _ _ _) HO.out HT2.out HV2.out).mono ?_
                  rintro e w2 ⟨rfl, hq2⟩
                  have HB2 := Lib.hid (HB1.out.trans ((((Below.refl _ _).alloc (Nat.le_refl _) _).trans (hq2.below _)).mono HB1.out.size))
                  clear hq2
                  go_wp2
                  go_ret
                  exact ⟨ret_bool HF.out.symm, HB2.out⟩
              · have n1 : (v1 != (y : Int)) = true := by simp [e1]
                have HF := Lib.hid (HB.out.is_false fun h => e1 (HV1.out.symm.trans (h.2 x y hx hy).1))
                clear e1
                go_wp2_with fail
                refine (l02ValueK s 3 pb po tab _ [(x : Int), (x : Int), (y : Int)] v1 _ (HOP.out.below (HW.out.trans (((Below.refl _ _).alloc (Nat.le_refl _) _).mono HW.out.size))) (row3 _ _ _ _) HO.out HT1.out HV1.out).mono ?_
                rintro e w1 ⟨rfl, hq1⟩
                have HB1 := Lib.hid (HW.out.trans ((((Below.refl _ _).alloc (Nat.le_refl _) _).trans (hq1.below _)).mono HW.out.size))
                clear hq1
                go_wp2
                go_ret
                exact ⟨ret_bool HF.out.symm, HB1.out⟩
          · obtain rfl : y = s := by omega
            go_wp2
            go_roundw
            case rel =>
              refine ⟨x + 1, by omega, by go_num, fun z q hz hq => ?_, HW.out⟩
              by_cases hzx : z = x
              · subst hzx; exact HY.out q hq
              · exact HX.out z q (by omega) hq
            case measure => simp [intOf]; omega
      · obtain rfl : x = s := by omega
        have HF := Lib.hid (HB.out.is_true ⟨rfl, fun z q hz hq => HX.out z q hz hq⟩)
        go_wp2
        go_ret
        exact ⟨ret_bool HF.out.symm, HW0.out⟩
  · have HF := Lib.hid (HB.out.is_false fun h => h3 h.1)
    have hne : (ar != 3) = true := by simp [h3]
    clear h3 hb hop ho
    go_enter Try.func121, Try.ntmps121
    go_wp2
    go_ret
    exact ⟨ret_bool HF.out.symm, Below.refl _ _⟩
end Go.Proofs.Ytclhcnfgpkhplaa
