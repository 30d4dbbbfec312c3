/-
  The kinds that ask for three places, and isAssociative, of the program.
-/
import Derived.Test.YtclhcnfgpkhplaaKinds13
namespace Go.Proofs.Ytclhcnfgpkhplaa
open Go.RowKit

set_option linter.unusedSimpArgs false in
set_option maxRecDepth 100000 in
theorem isMajority (s r b q : Nat) (G : Nat → Int) (tab : List Int) (bb : Bool) (w : World) (hT : TabAt w b G) (ho : OpOk s r tab) (hq : tab.length = q) (hG : ∀ i, i < q → G i = intN tab i) (hb : Tells bb (ThirdsP s r tab true false)) :
    Calls Try.prog 132 #[.agg #[.int .i64 (s : Int), .int .i64 (r : Int), .slice (some ⟨b, 0, none⟩) q q]] w fun e w' => e = .returned (.bool bb) ∧ Below w.heap.size w w' := by
  have HB : Hid (Tells bb (r = 3 ∧ ∀ x y : Nat, x < s → y < s → FitAt s tab (fun x y l m f => decide (l = x ∧ m = x ∧ f = x)) x y = true)) := Lib.hid (by
    refine ⟨fun h => ?_, fun h => hb.2 ?_⟩
    · obtain ⟨h3, hh⟩ := hb.1 h
      refine ⟨by omega, fun x y hx hy => ?_⟩
      obtain ⟨a1, a2, a3⟩ := hh x y hx hy
      simp only [dueOf, Bool.false_eq_true, if_false, if_true, false_implies] at a1 a2 a3
      simp only [FitAt, decide_eq_true_eq]
      exact ⟨a1, a3 trivial, a2⟩
    · obtain ⟨h3, hh⟩ := h
      refine ⟨by omega, fun x y hx hy => ?_⟩
      have hf := hh x y hx hy
      simp only [FitAt, decide_eq_true_eq] at hf
      unfold ThirdAt
      simp only [dueOf, Bool.false_eq_true, if_false, if_true, false_implies]
      exact ⟨hf.1, hf.2.2, fun _ => hf.2.1⟩)
  have HA : Hid (Below w.heap.size w (w.alloc (.cells #[.int .i64 s, .int .i64 r, .slice (some ⟨b, 0, none⟩) q q] 105))) := Lib.hid ((Below.refl _ _).alloc (Nat.le_refl _) _)
  have HTB := Lib.hid hT
  have HO := Lib.hid ho
  have HGG := Lib.hid hG
  have HLQ := Lib.hid hq
  clear hT ho hG hq hb
  go_enter Try.func132, Try.ntmps132
  go_wp2_with fail
  refine (holdsOnPairs s r b q 174 G tab (fun x y l m f => decide (l = x ∧ m = x ∧ f = x)) bb _ (HTB.out.below HA.out) HO.out HLQ.out HGG.out (fun x y l m f w1 => isMajority1 x y l m f _ w1 decide_eq_true_iff) (fun args w1 => by simp [go_sem]) HB.out).mono ?_
  rintro e w2 ⟨rfl, hb2⟩
  have HW2 := Lib.hid (HA.out.trans (hb2.mono HA.out.size))
  clear hb2
  go_wp2
  go_ret
  exact ⟨rfl, HW2.out⟩

set_option linter.unusedSimpArgs false in
set_option maxRecDepth 100000 in
theorem isMinority (s r b q : Nat) (G : Nat → Int) (tab : List Int) (bb : Bool) (w : World) (hT : TabAt w b G) (ho : OpOk s r tab) (hq : tab.length = q) (hG : ∀ i, i < q → G i = intN tab i) (hb : Tells bb (ThirdsP s r tab true true)) :
    Calls Try.prog 133 #[.agg #[.int .i64 (s : Int), .int .i64 (r : Int), .slice (some ⟨b, 0, none⟩) q q]] w fun e w' => e = .returned (.bool bb) ∧ Below w.heap.size w w' := by
  have HB : Hid (Tells bb (r = 3 ∧ ∀ x y : Nat, x < s → y < s → FitAt s tab (fun x y l m f => decide (l = y ∧ m = y ∧ f = y)) x y = true)) := Lib.hid (by
    refine ⟨fun h => ?_, fun h => hb.2 ?_⟩
    · obtain ⟨h3, hh⟩ := hb.1 h
      refine ⟨by omega, fun x y hx hy => ?_⟩
      obtain ⟨a1, a2, a3⟩ := hh x y hx hy
      simp only [dueOf, Bool.false_eq_true, if_false, if_true, false_implies] at a1 a2 a3
      simp only [FitAt, decide_eq_true_eq]
      exact ⟨a1, a3 trivial, a2⟩
    · obtain ⟨h3, hh⟩ := h
      refine ⟨by omega, fun x y hx hy => ?_⟩
      have hf := hh x y hx hy
      simp only [FitAt, decide_eq_true_eq] at hf
      unfold ThirdAt
      simp only [dueOf, Bool.false_eq_true, if_false, if_true, false_implies]
      exact ⟨hf.1, hf.2.2, fun _ => hf.2.1⟩)
  have HA : Hid (Below w.heap.size w (w.alloc (.cells #[.int .i64 s, .int .i64 r, .slice (some ⟨b, 0, none⟩) q q] 105))) := Lib.hid ((Below.refl _ _).alloc (Nat.le_refl _) _)
  have HTB := Lib.hid hT
  have HO := Lib.hid ho
  have HGG := Lib.hid hG
  have HLQ := Lib.hid hq
  clear hT ho hG hq hb
  go_enter Try.func133, Try.ntmps133
  go_wp2_with fail
  refine (holdsOnPairs s r b q 175 G tab (fun x y l m f => decide (l = y ∧ m = y ∧ f = y)) bb _ (HTB.out.below HA.out) HO.out HLQ.out HGG.out (fun x y l m f w1 => isMinority1 x y l m f _ w1 decide_eq_true_iff) (fun args w1 => by simp [go_sem]) HB.out).mono ?_
  rintro e w2 ⟨rfl, hb2⟩
  have HW2 := Lib.hid (HA.out.trans (hb2.mono HA.out.size))
  clear hb2
  go_wp2
  go_ret
  exact ⟨rfl, HW2.out⟩

set_option linter.unusedSimpArgs false in
set_option maxRecDepth 100000 in
theorem isMaltsev (s r b q : Nat) (G : Nat → Int) (tab : List Int) (bb : Bool) (w : World) (hT : TabAt w b G) (ho : OpOk s r tab) (hq : tab.length = q) (hG : ∀ i, i < q → G i = intN tab i) (hb : Tells bb (ThirdsP s r tab false true)) :
    Calls Try.prog 134 #[.agg #[.int .i64 (s : Int), .int .i64 (r : Int), .slice (some ⟨b, 0, none⟩) q q]] w fun e w' => e = .returned (.bool bb) ∧ Below w.heap.size w w' := by
  have HB : Hid (Tells bb (r = 3 ∧ ∀ x y : Nat, x < s → y < s → FitAt s tab (fun x y l m f => decide (l = y ∧ f = y)) x y = true)) := Lib.hid (by
    refine ⟨fun h => ?_, fun h => hb.2 ?_⟩
    · obtain ⟨h3, hh⟩ := hb.1 h
      refine ⟨by omega, fun x y hx hy => ?_⟩
      obtain ⟨a1, a2, a3⟩ := hh x y hx hy
      simp only [dueOf, Bool.false_eq_true, if_false, if_true, false_implies] at a1 a2 a3
      simp only [FitAt, decide_eq_true_eq]
      exact ⟨a1, a2⟩
    · obtain ⟨h3, hh⟩ := h
      refine ⟨by omega, fun x y hx hy => ?_⟩
      have hf := hh x y hx hy
      simp only [FitAt, decide_eq_true_eq] at hf
      unfold ThirdAt
      simp only [dueOf, Bool.false_eq_true, if_false, if_true, false_implies]
      exact ⟨hf.1, hf.2, trivial⟩)
  have HA : Hid (Below w.heap.size w (w.alloc (.cells #[.int .i64 s, .int .i64 r, .slice (some ⟨b, 0, none⟩) q q] 105))) := Lib.hid ((Below.refl _ _).alloc (Nat.le_refl _) _)
  have HTB := Lib.hid hT
  have HO := Lib.hid ho
  have HGG := Lib.hid hG
  have HLQ := Lib.hid hq
  clear hT ho hG hq hb
  go_enter Try.func134, Try.ntmps134
  go_wp2_with fail
  refine (holdsOnPairs s r b q 176 G tab (fun x y l m f => decide (l = y ∧ f = y)) bb _ (HTB.out.below HA.out) HO.out HLQ.out HGG.out (fun x y l m f w1 => isMaltsev1 x y l m f _ w1 decide_eq_true_iff) (fun args w1 => by simp [go_sem]) HB.out).mono ?_
  rintro e w2 ⟨rfl, hb2⟩
  have HW2 := Lib.hid (HA.out.trans (hb2.mono HA.out.size))
  clear hb2
  go_wp2
  go_ret
  exact ⟨rfl, HW2.out⟩

set_option linter.unusedSimpArgs false in
set_option maxHeartbeats 2000000 in
set_option maxRecDepth 100000 in
theorem isAssociative (s b q : Nat) (G : Nat → Int) (tab : List Int) (bb : Bool) (w : World) (hT : TabAt w b G) (ho : OpOk s 2 tab) (hq : tab.length = q) (hG : ∀ i, i < q → G i = intN tab i) (hb : Tells bb (AssocP s tab)) :
    Calls Try.prog 172 #[.agg #[.int .i64 (s : Int), .int .i64 (2 : Int), .slice (some ⟨b, 0, none⟩) q q]] w fun e w' => e = .returned (.bool bb) ∧ Below w.heap.size w w' := by
  have h1 : 1 ≤ s := by have := ho.1.1; omega
  have hs4 : s ≤ 4 := by have := ho.1.2; omega
  have hs14 : In14 (s : Int) := ho.1
  have h214 : In14 (2 : Int) := by constructor <;> decide
  have hlen : tab.length = s ^ 2 := by have h := ho.2.2.1; simp only [Int.toNat_natCast] at h; exact Int.ofNat_inj.1 h
  have hq64 : q ≤ 64 := by rw [← hq, hlen]; exact (pow_le3 h1 hs4 (by omega)).1
  have HB : Hid (Tells bb (∀ x y z : Nat, x < s → y < s → z < s → opA s tab (opA s tab x y) z = opA s tab x (opA s tab y z))) := Lib.hid ⟨fun h => (AssocP.iff h1 hs4).1 (hb.1 h), fun h => hb.2 ((AssocP.iff h1 hs4).2 h)⟩
  have HTB := Lib.hid hT
  have HO := Lib.hid ho
  have HGG := Lib.hid hG
  have HLQ := Lib.hid hq
  have HA : Hid (Below w.heap.size w (w.alloc (.cells #[.int .i64 s, .int .i64 2, .slice (some ⟨b, 0, none⟩) q q] 105))) := Lib.hid ((Below.refl _ _).alloc (Nat.le_refl _) _)
  have HBX := Lib.hid (Box.new 105 w #[.int .i64 s, .int .i64 2, .slice (some ⟨b, 0, none⟩) q q])
  clear hT ho hq hG hb hlen
  go_enter Try.func172, Try.ntmps172
  go_wp2
  go_loopw [8] (fun i wr => ∃ x : Nat, x ≤ s ∧ i = .int .i64 x ∧ (∀ u y z : Nat, u < x → y < s → z < s → opA s tab (opA s tab u y) z = opA s tab u (opA s tab y z)) ∧ wr.cell? ⟨w.heap.size, 0, none⟩ = some (.int .i64 s) ∧ wr.cell? ⟨w.heap.size, 1, none⟩ = some (.int .i64 2) ∧ wr.cell? ⟨w.heap.size, 2, none⟩ = some (.slice (some ⟨b, 0, none⟩) q q) ∧ Below w.heap.size w wr) (fun i _ => s - (intOf i).toNat)
  case atStart => exact ⟨0, Nat.zero_le _, rfl, fun u y z hu => absurd hu (Nat.not_lt_zero _), HBX.out.c 0 rfl, HBX.out.c 1 rfl, HBX.out.c 2 rfl, HA.out⟩
  case round =>
    obtain ⟨x0, hxs, rfl, hall, cb0, cb1, cb2, hbel⟩ := hrel
    have HX := Lib.hid hall
    have HW := Lib.hid hbel
    clear hall hbel
    by_cases hx : x0 < s
    case neg =>
      obtain rfl : x0 = s := by omega
      have HF := Lib.hid (HB.out.is_true HX.out)
      go_wp2
      go_ret
      exact ⟨ret_bool HF.out.symm, HW.out⟩
    have hx' : (x0 : Int) < (s : Int) := by omega
    go_wp2
    go_loopw [13] (fun i wr => ∃ y : Nat, y ≤ s ∧ i = .int .i64 y ∧ (∀ u z : Nat, u < y → z < s → opA s tab (opA s tab x0 u) z = opA s tab x0 (opA s tab u z)) ∧ wr.cell? ⟨w.heap.size, 0, none⟩ = some (.int .i64 s) ∧ wr.cell? ⟨w.heap.size, 1, none⟩ = some (.int .i64 2) ∧ wr.cell? ⟨w.heap.size, 2, none⟩ = some (.slice (some ⟨b, 0, none⟩) q q) ∧ Below w.heap.size w wr) (fun i _ => s - (intOf i).toNat)
    case atStart => exact ⟨0, Nat.zero_le _, rfl, fun u z hu => absurd hu (Nat.not_lt_zero _), cb0, cb1, cb2, HW.out⟩
    case round =>
      clear cb0 cb1 cb2
      obtain ⟨y0, hys, rfl, hall, cb0, cb1, cb2, hbel⟩ := hrel
      have HY := Lib.hid hall
      have HW2 := Lib.hid hbel
      clear hall hbel
      by_cases hy : y0 < s
      case neg =>
        obtain rfl : y0 = s := by omega
        go_wp2
        go_roundw
        case rel =>
          refine ⟨x0 + 1, by omega, by go_num, fun u y z hu hy hz => ?_, cb0, cb1, cb2, HW2.out⟩
          by_cases hux : u = x0
          · subst hux; exact HY.out y z hy hz
          · exact HX.out u y z (by omega) hy hz
        case measure => simp [intOf]; omega
      have hy' : (y0 : Int) < (s : Int) := by omega
      go_wp2
      go_loopw [18] (fun i wr => ∃ z : Nat, z ≤ s ∧ i = .int .i64 z ∧ (∀ u : Nat, u < z → opA s tab (opA s tab x0 y0) u = opA s tab x0 (opA s tab y0 u)) ∧ wr.cell? ⟨w.heap.size, 0, none⟩ = some (.int .i64 s) ∧ wr.cell? ⟨w.heap.size, 1, none⟩ = some (.int .i64 2) ∧ wr.cell? ⟨w.heap.size, 2, none⟩ = some (.slice (some ⟨b, 0, none⟩) q q) ∧ Below w.heap.size w wr) (fun i _ => s - (intOf i).toNat)
      case atStart => exact ⟨0, Nat.zero_le _, rfl, fun u hu => absurd hu (Nat.not_lt_zero _), cb0, cb1, cb2, HW2.out⟩
      case round =>
        clear cb0 cb1 cb2
        obtain ⟨z0, hzs, rfl, hall, cb0, cb1, cb2, hbel⟩ := hrel
        have HZ := Lib.hid hall
        have HW3 := Lib.hid hbel
        clear hall hbel
        by_cases hz : z0 < s
        case neg =>
          obtain rfl : z0 = s := by omega
          go_wp2
          go_roundw
          case rel =>
            refine ⟨y0 + 1, by omega, by go_num, fun u z hu hz => ?_, cb0, cb1, cb2, HW3.out⟩
            by_cases huy : u = y0
            · subst huy; exact HZ.out z hz
            · exact HY.out u z (by omega) hz
          case measure => simp [intOf]; omega
        have hz' : (z0 : Int) < (s : Int) := by omega
        have HXI : Hid (0 ≤ (x0 : Int) ∧ (x0 : Int) < s) := Lib.hid ⟨by omega, hx'⟩
        have HYI : Hid (0 ≤ (y0 : Int) ∧ (y0 : Int) < s) := Lib.hid ⟨by omega, hy'⟩
        have HZI : Hid (0 ≤ (z0 : Int) ∧ (z0 : Int) < s) := Lib.hid ⟨by omega, hz'⟩
        have HT1 : Hid (TupP s 2 [(x0 : Int), (y0 : Int)]) := Lib.hid (tup2 HXI.out HYI.out)
        obtain ⟨m1, hm01⟩ : ∃ m, codeN s [(x0 : Int), (y0 : Int)] = m := ⟨_, rfl⟩
        have HM1 := Lib.hid hm01
        have hm1 : m1 < q := by rw [← HLQ.out, ← hm01]; exact HO.out.lt HT1.out
        obtain ⟨u1, hu01⟩ : ∃ u, intN tab m1 = u := ⟨_, rfl⟩
        have HG1 : Hid (G m1 = u1) := Lib.hid (by rw [HGG.out m1 hm1]; exact hu01)
        have HUI1 : Hid (0 ≤ u1 ∧ u1 < (s : Int)) := Lib.hid (by
          have := HO.out.2.2.2 m1 (by rw [HLQ.out]; exact hm1)
          rwa [hu01] at this)
        have hu1 : 0 ≤ u1 ∧ u1 < 256 := by have := HUI1.out; omega
        have HT3 : Hid (TupP s 2 [(y0 : Int), (z0 : Int)]) := Lib.hid (tup2 HYI.out HZI.out)
        obtain ⟨m3, hm03⟩ : ∃ m, codeN s [(y0 : Int), (z0 : Int)] = m := ⟨_, rfl⟩
        have HM3 := Lib.hid hm03
        have hm3 : m3 < q := by rw [← HLQ.out, ← hm03]; exact HO.out.lt HT3.out
        obtain ⟨u3, hu03⟩ : ∃ u, intN tab m3 = u := ⟨_, rfl⟩
        have HG3 : Hid (G m3 = u3) := Lib.hid (by rw [HGG.out m3 hm3]; exact hu03)
        have HUI3 : Hid (0 ≤ u3 ∧ u3 < (s : Int)) := Lib.hid (by
          have := HO.out.2.2.2 m3 (by rw [HLQ.out]; exact hm3)
          rwa [hu03] at this)
        have hu3 : 0 ≤ u3 ∧ u3 < 256 := by have := HUI3.out; omega
        have HT2 : Hid (TupP s 2 [u1, (z0 : Int)]) := Lib.hid (tup2 HUI1.out HZI.out)
        obtain ⟨m2, hm02⟩ : ∃ m, codeN s [u1, (z0 : Int)] = m := ⟨_, rfl⟩
        have HM2 := Lib.hid hm02
        have hm2 : m2 < q := by rw [← HLQ.out, ← hm02]; exact HO.out.lt HT2.out
        obtain ⟨u2, hu02⟩ : ∃ u, intN tab m2 = u := ⟨_, rfl⟩
        have HG2 : Hid (G m2 = u2) := Lib.hid (by rw [HGG.out m2 hm2]; exact hu02)
        have hu2 : 0 ≤ u2 ∧ u2 < 256 := by
          have := HO.out.2.2.2 m2 (by rw [HLQ.out]; exact hm2)
          rw [hu02] at this
          omega
        have HT4 : Hid (TupP s 2 [(x0 : Int), u3]) := Lib.hid (tup2 HXI.out HUI3.out)
        obtain ⟨m4, hm04⟩ : ∃ m, codeN s [(x0 : Int), u3] = m := ⟨_, rfl⟩
        have HM4 := Lib.hid hm04
        have hm4 : m4 < q := by rw [← HLQ.out, ← hm04]; exact HO.out.lt HT4.out
        obtain ⟨u4, hu04⟩ : ∃ u, intN tab m4 = u := ⟨_, rfl⟩
        have HG4 : Hid (G m4 = u4) := Lib.hid (by rw [HGG.out m4 hm4]; exact hu04)
        have hu4 : 0 ≤ u4 ∧ u4 < 256 := by
          have := HO.out.2.2.2 m4 (by rw [HLQ.out]; exact hm4)
          rw [hu04] at this
          omega
        have HE : Hid (opA s tab (opA s tab x0 y0) z0 = opA s tab x0 (opA s tab y0 z0) ↔ u2 = u4) := Lib.hid (by
          unfold opA
          rw [hm01, hu01, hm03, hu03, hm02, hu02, hm04, hu04])
        clear hm01 hm02 hm03 hm04 hu01 hu02 hu03 hu04
        by_cases he : u2 = u4
        · have HTH := Lib.hid (HE.out.2 he)
          have HNE : Hid ((u2 != u4) = false) := Lib.hid (by simp [he])
          clear he
          go_wp2
          refine wp_region_noPanic ?_
          refine wp_region_inv (fun w' => w'.cell? ⟨w.heap.size, 0, none⟩ = some (.int .i64 s) ∧ w'.cell? ⟨w.heap.size, 1, none⟩ = some (.int .i64 2) ∧ w'.cell? ⟨w.heap.size, 2, none⟩ = some (.slice (some ⟨b, 0, none⟩) q q) ∧ Below w.heap.size w w') (fun w1 w2 => Below w1.heap.size w1 w2) (fun k vv ww => match k with
            | 0 => vv = .agg #[.int .i64 (s : Int), .int .i64 (2 : Int), .slice (some ⟨b, 0, none⟩) q q]
            | 1 => vv = .agg #[.int .i64 (s : Int), .int .i64 (2 : Int), .slice (some ⟨b, 0, none⟩) q q]
            | 2 => vv = .int .i64 (x0 : Int)
            | 3 => vv = .int .i64 (y0 : Int)
            | 4 => RowAt ww vv [(x0 : Int), (y0 : Int)]
            | 5 => vv = .int .i64 u1
            | 6 => vv = .int .i64 (z0 : Int)
            | 7 => RowAt ww vv [u1, (z0 : Int)]
            | 8 => vv = .int .i64 u2
            | 9 => vv = .agg #[.int .i64 (s : Int), .int .i64 (2 : Int), .slice (some ⟨b, 0, none⟩) q q]
            | 10 => vv = .int .i64 (x0 : Int)
            | 11 => vv = .agg #[.int .i64 (s : Int), .int .i64 (2 : Int), .slice (some ⟨b, 0, none⟩) q q]
            | 12 => vv = .int .i64 (y0 : Int)
            | 13 => vv = .int .i64 (z0 : Int)
            | 14 => RowAt ww vv [(y0 : Int), (z0 : Int)]
            | 15 => vv = .int .i64 u3
            | 16 => RowAt ww vv [(x0 : Int), u3]
            | 17 => vv = .int .i64 u4
            | 18 => vv = .bool false
            | _ => True) [(18, some 39), (17, some 38), (16, some 37), (15, some 36), (14, some 35), (13, some 34), (12, some 33), (11, some 32), (10, some 31), (9, some 30), (8, some 29), (7, some 28), (6, some 27), (5, some 26), (4, some 25), (3, some 24), (2, some 23), (1, some 22), (0, some 21)] 19 (by kernel_rfl) rfl (by kernel_rfl) (by kernel_rfl) (by kernel_rfl) ?_ ?_ ?_ ?_
          · intro k v w1 w2 hN h
            match k, h with
            | 0, h => exact h
            | 1, h => exact h
            | 2, h => exact h
            | 3, h => exact h
            | 4, h => exact RowAt.below h hN
            | 5, h => exact h
            | 6, h => exact h
            | 7, h => exact RowAt.below h hN
            | 8, h => exact h
            | 9, h => exact h
            | 10, h => exact h
            | 11, h => exact h
            | 12, h => exact h
            | 13, h => exact h
            | 14, h => exact RowAt.below h hN
            | 15, h => exact h
            | 16, h => exact RowAt.below h hN
            | 17, h => exact h
            | 18, h => exact h
            | k + 19, _ => exact trivial
          · exact ⟨cb0, cb1, cb2, HW3.out.trans (((QW.refl wr).drew.below _).mono HW3.out.size)⟩
          · refine ⟨⟨⟨⟨⟨⟨⟨⟨⟨⟨⟨⟨⟨⟨⟨⟨⟨⟨⟨trivial, ?_⟩, ?_⟩, ?_⟩, ?_⟩, ?_⟩, ?_⟩, ?_⟩, ?_⟩, ?_⟩, ?_⟩, ?_⟩, ?_⟩, ?_⟩, ?_⟩, ?_⟩, ?_⟩, ?_⟩, ?_⟩, ?_⟩
            · refine StepOk.intro (some 21) rfl rfl (fun x w1 hS hdep K hK => ?_)
              clear hdep
              have hSS := Lib.hid hS
              obtain ⟨c0, c1, c2, hB⟩ := hS
              refine ⟨?_⟩
              simp only [puts, Act.put, List.setIfInBounds_toArray, List.set_cons_zero, List.set_cons_succ]
              go_simp
              exact hK.out _ (.agg #[.int .i64 (s : Int), .int .i64 (2 : Int), .slice (some ⟨b, 0, none⟩) q q]) _ (by simp only [puts, Act.put, List.setIfInBounds_toArray, List.set_cons_zero, List.set_cons_succ]) (Below.refl _ _) (hSS.out) (rfl)
            · refine StepOk.intro (some 22) rfl rfl (fun x w1 hS hdep K hK => ?_)
              clear hdep
              have hSS := Lib.hid hS
              obtain ⟨c0, c1, c2, hB⟩ := hS
              refine ⟨?_⟩
              simp only [puts, Act.put, List.setIfInBounds_toArray, List.set_cons_zero, List.set_cons_succ]
              go_simp
              exact hK.out _ (.agg #[.int .i64 (s : Int), .int .i64 (2 : Int), .slice (some ⟨b, 0, none⟩) q q]) _ (by simp only [puts, Act.put, List.setIfInBounds_toArray, List.set_cons_zero, List.set_cons_succ]) (Below.refl _ _) (hSS.out) (rfl)
            · refine StepOk.intro (some 23) rfl rfl (fun x w1 hS hdep K hK => ?_)
              clear hdep
              have hSS := Lib.hid hS
              obtain ⟨c0, c1, c2, hB⟩ := hS
              refine ⟨?_⟩
              simp only [puts, Act.put, List.setIfInBounds_toArray, List.set_cons_zero, List.set_cons_succ]
              go_simp
              exact hK.out _ (.int .i64 (x0 : Int)) _ (by simp only [puts, Act.put, List.setIfInBounds_toArray, List.set_cons_zero, List.set_cons_succ]) (Below.refl _ _) (hSS.out) (rfl)
            · refine StepOk.intro (some 24) rfl rfl (fun x w1 hS hdep K hK => ?_)
              clear hdep
              have hSS := Lib.hid hS
              obtain ⟨c0, c1, c2, hB⟩ := hS
              refine ⟨?_⟩
              simp only [puts, Act.put, List.setIfInBounds_toArray, List.set_cons_zero, List.set_cons_succ]
              go_simp
              exact hK.out _ (.int .i64 (y0 : Int)) _ (by simp only [puts, Act.put, List.setIfInBounds_toArray, List.set_cons_zero, List.set_cons_succ]) (Below.refl _ _) (hSS.out) (rfl)
            · refine StepOk.intro (some 25) rfl rfl (fun x w1 hS hdep K hK => ?_)
              have h2 : x 2 = .int .i64 (x0 : Int) := hdep 2 (by kernel_rfl)
              have h3 : x 3 = .int .i64 (y0 : Int) := hdep 3 (by kernel_rfl)
              clear hdep
              have hSS := Lib.hid hS
              obtain ⟨c0, c1, c2, hB⟩ := hS
              refine ⟨?_⟩
              simp only [puts, Act.put, List.setIfInBounds_toArray, List.set_cons_zero, List.set_cons_succ, h2, h3]
              go_simp
              exact hK.out _ (.slice (some ⟨w1.heap.size, 0, none⟩) 2 2) _ (by simp only [puts, Act.put, List.setIfInBounds_toArray, List.set_cons_zero, List.set_cons_succ, h2, h3]) ((Below.refl _ _).alloc (Nat.le_refl _) _) (⟨below_cell ((Below.refl _ _).alloc (Nat.le_refl _) _) c0, below_cell ((Below.refl _ _).alloc (Nat.le_refl _) _) c1, below_cell ((Below.refl _ _).alloc (Nat.le_refl _) _) c2, hB.trans (((Below.refl _ _).alloc (Nat.le_refl _) _).mono hB.size)⟩) (row2 _ _ _)
            · refine StepOk.intro (some 26) rfl rfl (fun x w1 hS hdep K hK => ?_)
              have h1 : x 1 = .agg #[.int .i64 (s : Int), .int .i64 (2 : Int), .slice (some ⟨b, 0, none⟩) q q] := hdep 1 (by kernel_rfl)
              have h4 : RowAt w1 (x 4) [(x0 : Int), (y0 : Int)] := hdep 4 (by kernel_rfl)
              clear hdep
              have hSS := Lib.hid hS
              obtain ⟨c0, c1, c2, hB⟩ := hS
              refine ⟨?_⟩
              simp only [puts, Act.put, List.setIfInBounds_toArray, List.set_cons_zero, List.set_cons_succ, h1]
              go_simp; go_at_call 146; refine (opAt s 2 b q m1 G 2 _ [(x0 : Int), (y0 : Int)] u1 _ (HTB.out.below hB) h4 hs14 h214 HT1.out HM1.out hm1 hq64 HG1.out hu1).mono ?_; rintro e w5 ⟨rfl, hb5⟩
              exact hK.out _ (.int .i64 u1) _ (by simp only [puts, Act.put, List.setIfInBounds_toArray, List.set_cons_zero, List.set_cons_succ, h1]) hb5 (⟨below_cell hb5 c0, below_cell hb5 c1, below_cell hb5 c2, hB.trans (hb5.mono hB.size)⟩) (rfl)
            · refine StepOk.intro (some 27) rfl rfl (fun x w1 hS hdep K hK => ?_)
              clear hdep
              have hSS := Lib.hid hS
              obtain ⟨c0, c1, c2, hB⟩ := hS
              refine ⟨?_⟩
              simp only [puts, Act.put, List.setIfInBounds_toArray, List.set_cons_zero, List.set_cons_succ]
              go_simp
              exact hK.out _ (.int .i64 (z0 : Int)) _ (by simp only [puts, Act.put, List.setIfInBounds_toArray, List.set_cons_zero, List.set_cons_succ]) (Below.refl _ _) (hSS.out) (rfl)
            · refine StepOk.intro (some 28) rfl rfl (fun x w1 hS hdep K hK => ?_)
              have h5 : x 5 = .int .i64 u1 := hdep 5 (by kernel_rfl)
              have h6 : x 6 = .int .i64 (z0 : Int) := hdep 6 (by kernel_rfl)
              clear hdep
              have hSS := Lib.hid hS
              obtain ⟨c0, c1, c2, hB⟩ := hS
              refine ⟨?_⟩
              simp only [puts, Act.put, List.setIfInBounds_toArray, List.set_cons_zero, List.set_cons_succ, h5, h6]
              go_simp
              exact hK.out _ (.slice (some ⟨w1.heap.size, 0, none⟩) 2 2) _ (by simp only [puts, Act.put, List.setIfInBounds_toArray, List.set_cons_zero, List.set_cons_succ, h5, h6]) ((Below.refl _ _).alloc (Nat.le_refl _) _) (⟨below_cell ((Below.refl _ _).alloc (Nat.le_refl _) _) c0, below_cell ((Below.refl _ _).alloc (Nat.le_refl _) _) c1, below_cell ((Below.refl _ _).alloc (Nat.le_refl _) _) c2, hB.trans (((Below.refl _ _).alloc (Nat.le_refl _) _).mono hB.size)⟩) (row2 _ _ _)
            · refine StepOk.intro (some 29) rfl rfl (fun x w1 hS hdep K hK => ?_)
              have h0 : x 0 = .agg #[.int .i64 (s : Int), .int .i64 (2 : Int), .slice (some ⟨b, 0, none⟩) q q] := hdep 0 (by kernel_rfl)
              have h5 : x 5 = .int .i64 u1 := hdep 5 (by kernel_rfl)
              have h7 : RowAt w1 (x 7) [u1, (z0 : Int)] := hdep 7 (by kernel_rfl)
              clear hdep
              have hSS := Lib.hid hS
              obtain ⟨c0, c1, c2, hB⟩ := hS
              refine ⟨?_⟩
              simp only [puts, Act.put, List.setIfInBounds_toArray, List.set_cons_zero, List.set_cons_succ, h0, h5]
              go_simp; go_at_call 146; refine (opAt s 2 b q m2 G 2 _ [u1, (z0 : Int)] u2 _ (HTB.out.below hB) h7 hs14 h214 HT2.out HM2.out hm2 hq64 HG2.out hu2).mono ?_; rintro e w5 ⟨rfl, hb5⟩
              exact hK.out _ (.int .i64 u2) _ (by simp only [puts, Act.put, List.setIfInBounds_toArray, List.set_cons_zero, List.set_cons_succ, h0, h5]) hb5 (⟨below_cell hb5 c0, below_cell hb5 c1, below_cell hb5 c2, hB.trans (hb5.mono hB.size)⟩) (rfl)
            · refine StepOk.intro (some 30) rfl rfl (fun x w1 hS hdep K hK => ?_)
              clear hdep
              have hSS := Lib.hid hS
              obtain ⟨c0, c1, c2, hB⟩ := hS
              refine ⟨?_⟩
              simp only [puts, Act.put, List.setIfInBounds_toArray, List.set_cons_zero, List.set_cons_succ]
              go_simp
              exact hK.out _ (.agg #[.int .i64 (s : Int), .int .i64 (2 : Int), .slice (some ⟨b, 0, none⟩) q q]) _ (by simp only [puts, Act.put, List.setIfInBounds_toArray, List.set_cons_zero, List.set_cons_succ]) (Below.refl _ _) (hSS.out) (rfl)
            · refine StepOk.intro (some 31) rfl rfl (fun x w1 hS hdep K hK => ?_)
              clear hdep
              have hSS := Lib.hid hS
              obtain ⟨c0, c1, c2, hB⟩ := hS
              refine ⟨?_⟩
              simp only [puts, Act.put, List.setIfInBounds_toArray, List.set_cons_zero, List.set_cons_succ]
              go_simp
              exact hK.out _ (.int .i64 (x0 : Int)) _ (by simp only [puts, Act.put, List.setIfInBounds_toArray, List.set_cons_zero, List.set_cons_succ]) (Below.refl _ _) (hSS.out) (rfl)
            · refine StepOk.intro (some 32) rfl rfl (fun x w1 hS hdep K hK => ?_)
              clear hdep
              have hSS := Lib.hid hS
              obtain ⟨c0, c1, c2, hB⟩ := hS
              refine ⟨?_⟩
              simp only [puts, Act.put, List.setIfInBounds_toArray, List.set_cons_zero, List.set_cons_succ]
              go_simp
              exact hK.out _ (.agg #[.int .i64 (s : Int), .int .i64 (2 : Int), .slice (some ⟨b, 0, none⟩) q q]) _ (by simp only [puts, Act.put, List.setIfInBounds_toArray, List.set_cons_zero, List.set_cons_succ]) (Below.refl _ _) (hSS.out) (rfl)
            · refine StepOk.intro (some 33) rfl rfl (fun x w1 hS hdep K hK => ?_)
              clear hdep
              have hSS := Lib.hid hS
              obtain ⟨c0, c1, c2, hB⟩ := hS
              refine ⟨?_⟩
              simp only [puts, Act.put, List.setIfInBounds_toArray, List.set_cons_zero, List.set_cons_succ]
              go_simp
              exact hK.out _ (.int .i64 (y0 : Int)) _ (by simp only [puts, Act.put, List.setIfInBounds_toArray, List.set_cons_zero, List.set_cons_succ]) (Below.refl _ _) (hSS.out) (rfl)
            · refine StepOk.intro (some 34) rfl rfl (fun x w1 hS hdep K hK => ?_)
              clear hdep
              have hSS := Lib.hid hS
              obtain ⟨c0, c1, c2, hB⟩ := hS
              refine ⟨?_⟩
              simp only [puts, Act.put, List.setIfInBounds_toArray, List.set_cons_zero, List.set_cons_succ]
              go_simp
              exact hK.out _ (.int .i64 (z0 : Int)) _ (by simp only [puts, Act.put, List.setIfInBounds_toArray, List.set_cons_zero, List.set_cons_succ]) (Below.refl _ _) (hSS.out) (rfl)
            · refine StepOk.intro (some 35) rfl rfl (fun x w1 hS hdep K hK => ?_)
              have h12 : x 12 = .int .i64 (y0 : Int) := hdep 12 (by kernel_rfl)
              have h13 : x 13 = .int .i64 (z0 : Int) := hdep 13 (by kernel_rfl)
              clear hdep
              have hSS := Lib.hid hS
              obtain ⟨c0, c1, c2, hB⟩ := hS
              refine ⟨?_⟩
              simp only [puts, Act.put, List.setIfInBounds_toArray, List.set_cons_zero, List.set_cons_succ, h12, h13]
              go_simp
              exact hK.out _ (.slice (some ⟨w1.heap.size, 0, none⟩) 2 2) _ (by simp only [puts, Act.put, List.setIfInBounds_toArray, List.set_cons_zero, List.set_cons_succ, h12, h13]) ((Below.refl _ _).alloc (Nat.le_refl _) _) (⟨below_cell ((Below.refl _ _).alloc (Nat.le_refl _) _) c0, below_cell ((Below.refl _ _).alloc (Nat.le_refl _) _) c1, below_cell ((Below.refl _ _).alloc (Nat.le_refl _) _) c2, hB.trans (((Below.refl _ _).alloc (Nat.le_refl _) _).mono hB.size)⟩) (row2 _ _ _)
            · refine StepOk.intro (some 36) rfl rfl (fun x w1 hS hdep K hK => ?_)
              have h8 : x 8 = .int .i64 u2 := hdep 8 (by kernel_rfl)
              have h11 : x 11 = .agg #[.int .i64 (s : Int), .int .i64 (2 : Int), .slice (some ⟨b, 0, none⟩) q q] := hdep 11 (by kernel_rfl)
              have h14 : RowAt w1 (x 14) [(y0 : Int), (z0 : Int)] := hdep 14 (by kernel_rfl)
              clear hdep
              have hSS := Lib.hid hS
              obtain ⟨c0, c1, c2, hB⟩ := hS
              refine ⟨?_⟩
              simp only [puts, Act.put, List.setIfInBounds_toArray, List.set_cons_zero, List.set_cons_succ, h8, h11]
              go_simp; go_at_call 146; refine (opAt s 2 b q m3 G 2 _ [(y0 : Int), (z0 : Int)] u3 _ (HTB.out.below hB) h14 hs14 h214 HT3.out HM3.out hm3 hq64 HG3.out hu3).mono ?_; rintro e w5 ⟨rfl, hb5⟩
              exact hK.out _ (.int .i64 u3) _ (by simp only [puts, Act.put, List.setIfInBounds_toArray, List.set_cons_zero, List.set_cons_succ, h8, h11]) hb5 (⟨below_cell hb5 c0, below_cell hb5 c1, below_cell hb5 c2, hB.trans (hb5.mono hB.size)⟩) (rfl)
            · refine StepOk.intro (some 37) rfl rfl (fun x w1 hS hdep K hK => ?_)
              have h10 : x 10 = .int .i64 (x0 : Int) := hdep 10 (by kernel_rfl)
              have h15 : x 15 = .int .i64 u3 := hdep 15 (by kernel_rfl)
              clear hdep
              have hSS := Lib.hid hS
              obtain ⟨c0, c1, c2, hB⟩ := hS
              refine ⟨?_⟩
              simp only [puts, Act.put, List.setIfInBounds_toArray, List.set_cons_zero, List.set_cons_succ, h10, h15]
              go_simp
              exact hK.out _ (.slice (some ⟨w1.heap.size, 0, none⟩) 2 2) _ (by simp only [puts, Act.put, List.setIfInBounds_toArray, List.set_cons_zero, List.set_cons_succ, h10, h15]) ((Below.refl _ _).alloc (Nat.le_refl _) _) (⟨below_cell ((Below.refl _ _).alloc (Nat.le_refl _) _) c0, below_cell ((Below.refl _ _).alloc (Nat.le_refl _) _) c1, below_cell ((Below.refl _ _).alloc (Nat.le_refl _) _) c2, hB.trans (((Below.refl _ _).alloc (Nat.le_refl _) _).mono hB.size)⟩) (row2 _ _ _)
            · refine StepOk.intro (some 38) rfl rfl (fun x w1 hS hdep K hK => ?_)
              have h9 : x 9 = .agg #[.int .i64 (s : Int), .int .i64 (2 : Int), .slice (some ⟨b, 0, none⟩) q q] := hdep 9 (by kernel_rfl)
              have h15 : x 15 = .int .i64 u3 := hdep 15 (by kernel_rfl)
              have h16 : RowAt w1 (x 16) [(x0 : Int), u3] := hdep 16 (by kernel_rfl)
              clear hdep
              have hSS := Lib.hid hS
              obtain ⟨c0, c1, c2, hB⟩ := hS
              refine ⟨?_⟩
              simp only [puts, Act.put, List.setIfInBounds_toArray, List.set_cons_zero, List.set_cons_succ, h9, h15]
              go_simp; go_at_call 146; refine (opAt s 2 b q m4 G 2 _ [(x0 : Int), u3] u4 _ (HTB.out.below hB) h16 hs14 h214 HT4.out HM4.out hm4 hq64 HG4.out hu4).mono ?_; rintro e w5 ⟨rfl, hb5⟩
              exact hK.out _ (.int .i64 u4) _ (by simp only [puts, Act.put, List.setIfInBounds_toArray, List.set_cons_zero, List.set_cons_succ, h9, h15]) hb5 (⟨below_cell hb5 c0, below_cell hb5 c1, below_cell hb5 c2, hB.trans (hb5.mono hB.size)⟩) (rfl)
            · refine StepOk.intro (some 39) rfl rfl (fun x w1 hS hdep K hK => ?_)
              have h8 : x 8 = .int .i64 u2 := hdep 8 (by kernel_rfl)
              have h17 : x 17 = .int .i64 u4 := hdep 17 (by kernel_rfl)
              clear hdep
              have hSS := Lib.hid hS
              obtain ⟨c0, c1, c2, hB⟩ := hS
              refine ⟨?_⟩
              simp only [puts, Act.put, List.setIfInBounds_toArray, List.set_cons_zero, List.set_cons_succ, h8, h17]
              have hne := HNE.out
              go_simp
              exact hK.out _ (.bool false) _ (by simp only [puts, Act.put, List.setIfInBounds_toArray, List.set_cons_zero, List.set_cons_succ, h8, h17]) (Below.refl _ _) (hSS.out) (rfl)
          · intro x w1 hS hx
            have e0 : x 0 = .agg #[.int .i64 (s : Int), .int .i64 (2 : Int), .slice (some ⟨b, 0, none⟩) q q] := hx 0 (by decide)
            have e1 : x 1 = .agg #[.int .i64 (s : Int), .int .i64 (2 : Int), .slice (some ⟨b, 0, none⟩) q q] := hx 1 (by decide)
            have e2 : x 2 = .int .i64 (x0 : Int) := hx 2 (by decide)
            have e3 : x 3 = .int .i64 (y0 : Int) := hx 3 (by decide)
            have e4 : RowAt w1 (x 4) [(x0 : Int), (y0 : Int)] := hx 4 (by decide)
            have e5 : x 5 = .int .i64 u1 := hx 5 (by decide)
            have e6 : x 6 = .int .i64 (z0 : Int) := hx 6 (by decide)
            have e7 : RowAt w1 (x 7) [u1, (z0 : Int)] := hx 7 (by decide)
            have e8 : x 8 = .int .i64 u2 := hx 8 (by decide)
            have e9 : x 9 = .agg #[.int .i64 (s : Int), .int .i64 (2 : Int), .slice (some ⟨b, 0, none⟩) q q] := hx 9 (by decide)
            have e10 : x 10 = .int .i64 (x0 : Int) := hx 10 (by decide)
            have e11 : x 11 = .agg #[.int .i64 (s : Int), .int .i64 (2 : Int), .slice (some ⟨b, 0, none⟩) q q] := hx 11 (by decide)
            have e12 : x 12 = .int .i64 (y0 : Int) := hx 12 (by decide)
            have e13 : x 13 = .int .i64 (z0 : Int) := hx 13 (by decide)
            have e14 : RowAt w1 (x 14) [(y0 : Int), (z0 : Int)] := hx 14 (by decide)
            have e15 : x 15 = .int .i64 u3 := hx 15 (by decide)
            have e16 : RowAt w1 (x 16) [(x0 : Int), u3] := hx 16 (by decide)
            have e17 : x 17 = .int .i64 u4 := hx 17 (by decide)
            have e18 : x 18 = .bool false := hx 18 (by decide)
            clear hx
            obtain ⟨c0, c1, c2, hB⟩ := hS
            simp only [puts, Act.put, List.setIfInBounds_toArray, List.set_cons_zero, List.set_cons_succ, e0, e1, e2, e3, e5, e6, e8, e9, e10, e11, e12, e13, e15, e17, e18]
            clear e0 e1 e2 e3 e5 e6 e8 e9 e10 e11 e12 e13 e15 e17 e18
            refine NoPanic.normal ?_
            go_wp2
            go_roundw
            case rel =>
              refine ⟨z0 + 1, by omega, by go_num, fun u hu => ?_, c0, c1, c2, hB⟩
              by_cases huz : u = z0
              · subst huz; exact HTH.out
              · exact HZ.out u (by omega)
            case measure => simp [intOf]; omega

        · have HF := Lib.hid (HB.out.is_false fun h => he (HE.out.1 (h x0 y0 z0 hx hy hz)))
          have HNE : Hid ((u2 != u4) = true) := Lib.hid (by simp [he])
          clear he
          go_wp2
          refine wp_region_noPanic ?_
          refine wp_region_inv (fun w' => w'.cell? ⟨w.heap.size, 0, none⟩ = some (.int .i64 s) ∧ w'.cell? ⟨w.heap.size, 1, none⟩ = some (.int .i64 2) ∧ w'.cell? ⟨w.heap.size, 2, none⟩ = some (.slice (some ⟨b, 0, none⟩) q q) ∧ Below w.heap.size w w') (fun w1 w2 => Below w1.heap.size w1 w2) (fun k vv ww => match k with
            | 0 => vv = .agg #[.int .i64 (s : Int), .int .i64 (2 : Int), .slice (some ⟨b, 0, none⟩) q q]
            | 1 => vv = .agg #[.int .i64 (s : Int), .int .i64 (2 : Int), .slice (some ⟨b, 0, none⟩) q q]
            | 2 => vv = .int .i64 (x0 : Int)
            | 3 => vv = .int .i64 (y0 : Int)
            | 4 => RowAt ww vv [(x0 : Int), (y0 : Int)]
            | 5 => vv = .int .i64 u1
            | 6 => vv = .int .i64 (z0 : Int)
            | 7 => RowAt ww vv [u1, (z0 : Int)]
            | 8 => vv = .int .i64 u2
            | 9 => vv = .agg #[.int .i64 (s : Int), .int .i64 (2 : Int), .slice (some ⟨b, 0, none⟩) q q]
            | 10 => vv = .int .i64 (x0 : Int)
            | 11 => vv = .agg #[.int .i64 (s : Int), .int .i64 (2 : Int), .slice (some ⟨b, 0, none⟩) q q]
            | 12 => vv = .int .i64 (y0 : Int)
            | 13 => vv = .int .i64 (z0 : Int)
            | 14 => RowAt ww vv [(y0 : Int), (z0 : Int)]
            | 15 => vv = .int .i64 u3
            | 16 => RowAt ww vv [(x0 : Int), u3]
            | 17 => vv = .int .i64 u4
            | 18 => vv = .bool true
            | _ => True) [(18, some 39), (17, some 38), (16, some 37), (15, some 36), (14, some 35), (13, some 34), (12, some 33), (11, some 32), (10, some 31), (9, some 30), (8, some 29), (7, some 28), (6, some 27), (5, some 26), (4, some 25), (3, some 24), (2, some 23), (1, some 22), (0, some 21)] 19 (by kernel_rfl) rfl (by kernel_rfl) (by kernel_rfl) (by kernel_rfl) ?_ ?_ ?_ ?_
          · intro k v w1 w2 hN h
            match k, h with
            | 0, h => exact h
            | 1, h => exact h
            | 2, h => exact h
            | 3, h => exact h
            | 4, h => exact RowAt.below h hN
            | 5, h => exact h
            | 6, h => exact h
            | 7, h => exact RowAt.below h hN
            | 8, h => exact h
            | 9, h => exact h
            | 10, h => exact h
            | 11, h => exact h
            | 12, h => exact h
            | 13, h => exact h
            | 14, h => exact RowAt.below h hN
            | 15, h => exact h
            | 16, h => exact RowAt.below h hN
            | 17, h => exact h
            | 18, h => exact h
            | k + 19, _ => exact trivial
          · exact ⟨cb0, cb1, cb2, HW3.out.trans (((QW.refl wr).drew.below _).mono HW3.out.size)⟩
          · refine ⟨⟨⟨⟨⟨⟨⟨⟨⟨⟨⟨⟨⟨⟨⟨⟨⟨⟨⟨trivial, ?_⟩, ?_⟩, ?_⟩, ?_⟩, ?_⟩, ?_⟩, ?_⟩, ?_⟩, ?_⟩, ?_⟩, ?_⟩, ?_⟩, ?_⟩, ?_⟩, ?_⟩, ?_⟩, ?_⟩, ?_⟩, ?_⟩
            · refine StepOk.intro (some 21) rfl rfl (fun x w1 hS hdep K hK => ?_)
              clear hdep
              have hSS := Lib.hid hS
              obtain ⟨c0, c1, c2, hB⟩ := hS
              refine ⟨?_⟩
              simp only [puts, Act.put, List.setIfInBounds_toArray, List.set_cons_zero, List.set_cons_succ]
              go_simp
              exact hK.out _ (.agg #[.int .i64 (s : Int), .int .i64 (2 : Int), .slice (some ⟨b, 0, none⟩) q q]) _ (by simp only [puts, Act.put, List.setIfInBounds_toArray, List.set_cons_zero, List.set_cons_succ]) (Below.refl _ _) (hSS.out) (rfl)
            · refine StepOk.intro (some 22) rfl rfl (fun x w1 hS hdep K hK => ?_)
              clear hdep
              have hSS := Lib.hid hS
              obtain ⟨c0, c1, c2, hB⟩ := hS
              refine ⟨?_⟩
              simp only [puts, Act.put, List.setIfInBounds_toArray, List.set_cons_zero, List.set_cons_succ]
              go_simp
              exact hK.out _ (.agg #[.int .i64 (s : Int), .int .i64 (2 : Int), .slice (some ⟨b, 0, none⟩) q q]) _ (by simp only [puts, Act.put, List.setIfInBounds_toArray, List.set_cons_zero, List.set_cons_succ]) (Below.refl _ _) (hSS.out) (rfl)
            · refine StepOk.intro (some 23) rfl rfl (fun x w1 hS hdep K hK => ?_)
              clear hdep
              have hSS := Lib.hid hS
              obtain ⟨c0, c1, c2, hB⟩ := hS
              refine ⟨?_⟩
              simp only [puts, Act.put, List.setIfInBounds_toArray, List.set_cons_zero, List.set_cons_succ]
              go_simp
              exact hK.out _ (.int .i64 (x0 : Int)) _ (by simp only [puts, Act.put, List.setIfInBounds_toArray, List.set_cons_zero, List.set_cons_succ]) (Below.refl _ _) (hSS.out) (rfl)
            · refine StepOk.intro (some 24) rfl rfl (fun x w1 hS hdep K hK => ?_)
              clear hdep
              have hSS := Lib.hid hS
              obtain ⟨c0, c1, c2, hB⟩ := hS
              refine ⟨?_⟩
              simp only [puts, Act.put, List.setIfInBounds_toArray, List.set_cons_zero, List.set_cons_succ]
              go_simp
              exact hK.out _ (.int .i64 (y0 : Int)) _ (by simp only [puts, Act.put, List.setIfInBounds_toArray, List.set_cons_zero, List.set_cons_succ]) (Below.refl _ _) (hSS.out) (rfl)
            · refine StepOk.intro (some 25) rfl rfl (fun x w1 hS hdep K hK => ?_)
              have h2 : x 2 = .int .i64 (x0 : Int) := hdep 2 (by kernel_rfl)
              have h3 : x 3 = .int .i64 (y0 : Int) := hdep 3 (by kernel_rfl)
              clear hdep
              have hSS := Lib.hid hS
              obtain ⟨c0, c1, c2, hB⟩ := hS
              refine ⟨?_⟩
              simp only [puts, Act.put, List.setIfInBounds_toArray, List.set_cons_zero, List.set_cons_succ, h2, h3]
              go_simp
              exact hK.out _ (.slice (some ⟨w1.heap.size, 0, none⟩) 2 2) _ (by simp only [puts, Act.put, List.setIfInBounds_toArray, List.set_cons_zero, List.set_cons_succ, h2, h3]) ((Below.refl _ _).alloc (Nat.le_refl _) _) (⟨below_cell ((Below.refl _ _).alloc (Nat.le_refl _) _) c0, below_cell ((Below.refl _ _).alloc (Nat.le_refl _) _) c1, below_cell ((Below.refl _ _).alloc (Nat.le_refl _) _) c2, hB.trans (((Below.refl _ _).alloc (Nat.le_refl _) _).mono hB.size)⟩) (row2 _ _ _)
            · refine StepOk.intro (some 26) rfl rfl (fun x w1 hS hdep K hK => ?_)
              have h1 : x 1 = .agg #[.int .i64 (s : Int), .int .i64 (2 : Int), .slice (some ⟨b, 0, none⟩) q q] := hdep 1 (by kernel_rfl)
              have h4 : RowAt w1 (x 4) [(x0 : Int), (y0 : Int)] := hdep 4 (by kernel_rfl)
              clear hdep
              have hSS := Lib.hid hS
              obtain ⟨c0, c1, c2, hB⟩ := hS
              refine ⟨?_⟩
              simp only [puts, Act.put, List.setIfInBounds_toArray, List.set_cons_zero, List.set_cons_succ, h1]
              go_simp; go_at_call 146; refine (opAt s 2 b q m1 G 2 _ [(x0 : Int), (y0 : Int)] u1 _ (HTB.out.below hB) h4 hs14 h214 HT1.out HM1.out hm1 hq64 HG1.out hu1).mono ?_; rintro e w5 ⟨rfl, hb5⟩
              exact hK.out _ (.int .i64 u1) _ (by simp only [puts, Act.put, List.setIfInBounds_toArray, List.set_cons_zero, List.set_cons_succ, h1]) hb5 (⟨below_cell hb5 c0, below_cell hb5 c1, below_cell hb5 c2, hB.trans (hb5.mono hB.size)⟩) (rfl)
            · refine StepOk.intro (some 27) rfl rfl (fun x w1 hS hdep K hK => ?_)
              clear hdep
              have hSS := Lib.hid hS
              obtain ⟨c0, c1, c2, hB⟩ := hS
              refine ⟨?_⟩
              simp only [puts, Act.put, List.setIfInBounds_toArray, List.set_cons_zero, List.set_cons_succ]
              go_simp
              exact hK.out _ (.int .i64 (z0 : Int)) _ (by simp only [puts, Act.put, List.setIfInBounds_toArray, List.set_cons_zero, List.set_cons_succ]) (Below.refl _ _) (hSS.out) (rfl)
            · refine StepOk.intro (some 28) rfl rfl (fun x w1 hS hdep K hK => ?_)
              have h5 : x 5 = .int .i64 u1 := hdep 5 (by kernel_rfl)
              have h6 : x 6 = .int .i64 (z0 : Int) := hdep 6 (by kernel_rfl)
              clear hdep
              have hSS := Lib.hid hS
              obtain ⟨c0, c1, c2, hB⟩ := hS
              refine ⟨?_⟩
              simp only [puts, Act.put, List.setIfInBounds_toArray, List.set_cons_zero, List.set_cons_succ, h5, h6]
              go_simp
              exact hK.out _ (.slice (some ⟨w1.heap.size, 0, none⟩) 2 2) _ (by simp only [puts, Act.put, List.setIfInBounds_toArray, List.set_cons_zero, List.set_cons_succ, h5, h6]) ((Below.refl _ _).alloc (Nat.le_refl _) _) (⟨below_cell ((Below.refl _ _).alloc (Nat.le_refl _) _) c0, below_cell ((Below.refl _ _).alloc (Nat.le_refl _) _) c1, below_cell ((Below.refl _ _).alloc (Nat.le_refl _) _) c2, hB.trans (((Below.refl _ _).alloc (Nat.le_refl _) _).mono hB.size)⟩) (row2 _ _ _)
            · refine StepOk.intro (some 29) rfl rfl (fun x w1 hS hdep K hK => ?_)
              have h0 : x 0 = .agg #[.int .i64 (s : Int), .int .i64 (2 : Int), .slice (some ⟨b, 0, none⟩) q q] := hdep 0 (by kernel_rfl)
              have h5 : x 5 = .int .i64 u1 := hdep 5 (by kernel_rfl)
              have h7 : RowAt w1 (x 7) [u1, (z0 : Int)] := hdep 7 (by kernel_rfl)
              clear hdep
              have hSS := Lib.hid hS
              obtain ⟨c0, c1, c2, hB⟩ := hS
              refine ⟨?_⟩
              simp only [puts, Act.put, List.setIfInBounds_toArray, List.set_cons_zero, List.set_cons_succ, h0, h5]
              go_simp; go_at_call 146; refine (opAt s 2 b q m2 G 2 _ [u1, (z0 : Int)] u2 _ (HTB.out.below hB) h7 hs14 h214 HT2.out HM2.out hm2 hq64 HG2.out hu2).mono ?_; rintro e w5 ⟨rfl, hb5⟩
              exact hK.out _ (.int .i64 u2) _ (by simp only [puts, Act.put, List.setIfInBounds_toArray, List.set_cons_zero, List.set_cons_succ, h0, h5]) hb5 (⟨below_cell hb5 c0, below_cell hb5 c1, below_cell hb5 c2, hB.trans (hb5.mono hB.size)⟩) (rfl)
            · refine StepOk.intro (some 30) rfl rfl (fun x w1 hS hdep K hK => ?_)
              clear hdep
              have hSS := Lib.hid hS
              obtain ⟨c0, c1, c2, hB⟩ := hS
              refine ⟨?_⟩
              simp only [puts, Act.put, List.setIfInBounds_toArray, List.set_cons_zero, List.set_cons_succ]
              go_simp
              exact hK.out _ (.agg #[.int .i64 (s : Int), .int .i64 (2 : Int), .slice (some ⟨b, 0, none⟩) q q]) _ (by simp only [puts, Act.put, List.setIfInBounds_toArray, List.set_cons_zero, List.set_cons_succ]) (Below.refl _ _) (hSS.out) (rfl)
            · refine StepOk.intro (some 31) rfl rfl (fun x w1 hS hdep K hK => ?_)
              clear hdep
              have hSS := Lib.hid hS
              obtain ⟨c0, c1, c2, hB⟩ := hS
              refine ⟨?_⟩
              simp only [puts, Act.put, List.setIfInBounds_toArray, List.set_cons_zero, List.set_cons_succ]
              go_simp
              exact hK.out _ (.int .i64 (x0 : Int)) _ (by simp only [puts, Act.put, List.setIfInBounds_toArray, List.set_cons_zero, List.set_cons_succ]) (Below.refl _ _) (hSS.out) (rfl)
            · refine StepOk.intro (some 32) rfl rfl (fun x w1 hS hdep K hK => ?_)
              clear hdep
              have hSS := Lib.hid hS
              obtain ⟨c0, c1, c2, hB⟩ := hS
              refine ⟨?_⟩
              simp only [puts, Act.put, List.setIfInBounds_toArray, List.set_cons_zero, List.set_cons_succ]
              go_simp
              exact hK.out _ (.agg #[.int .i64 (s : Int), .int .i64 (2 : Int), .slice (some ⟨b, 0, none⟩) q q]) _ (by simp only [puts, Act.put, List.setIfInBounds_toArray, List.set_cons_zero, List.set_cons_succ]) (Below.refl _ _) (hSS.out) (rfl)
            · refine StepOk.intro (some 33) rfl rfl (fun x w1 hS hdep K hK => ?_)
              clear hdep
              have hSS := Lib.hid hS
              obtain ⟨c0, c1, c2, hB⟩ := hS
              refine ⟨?_⟩
              simp only [puts, Act.put, List.setIfInBounds_toArray, List.set_cons_zero, List.set_cons_succ]
              go_simp
              exact hK.out _ (.int .i64 (y0 : Int)) _ (by simp only [puts, Act.put, List.setIfInBounds_toArray, List.set_cons_zero, List.set_cons_succ]) (Below.refl _ _) (hSS.out) (rfl)
            · refine StepOk.intro (some 34) rfl rfl (fun x w1 hS hdep K hK => ?_)
              clear hdep
              have hSS := Lib.hid hS
              obtain ⟨c0, c1, c2, hB⟩ := hS
              refine ⟨?_⟩
              simp only [puts, Act.put, List.setIfInBounds_toArray, List.set_cons_zero, List.set_cons_succ]
              go_simp
              exact hK.out _ (.int .i64 (z0 : Int)) _ (by simp only [puts, Act.put, List.setIfInBounds_toArray, List.set_cons_zero, List.set_cons_succ]) (Below.refl _ _) (hSS.out) (rfl)
            · refine StepOk.intro (some 35) rfl rfl (fun x w1 hS hdep K hK => ?_)
              have h12 : x 12 = .int .i64 (y0 : Int) := hdep 12 (by kernel_rfl)
              have h13 : x 13 = .int .i64 (z0 : Int) := hdep 13 (by kernel_rfl)
              clear hdep
              have hSS := Lib.hid hS
              obtain ⟨c0, c1, c2, hB⟩ := hS
              refine ⟨?_⟩
              simp only [puts, Act.put, List.setIfInBounds_toArray, List.set_cons_zero, List.set_cons_succ, h12, h13]
              go_simp
              exact hK.out _ (.slice (some ⟨w1.heap.size, 0, none⟩) 2 2) _ (by simp only [puts, Act.put, List.setIfInBounds_toArray, List.set_cons_zero, List.set_cons_succ, h12, h13]) ((Below.refl _ _).alloc (Nat.le_refl _) _) (⟨below_cell ((Below.refl _ _).alloc (Nat.le_refl _) _) c0, below_cell ((Below.refl _ _).alloc (Nat.le_refl _) _) c1, below_cell ((Below.refl _ _).alloc (Nat.le_refl _) _) c2, hB.trans (((Below.refl _ _).alloc (Nat.le_refl _) _).mono hB.size)⟩) (row2 _ _ _)
            · refine StepOk.intro (some 36) rfl rfl (fun x w1 hS hdep K hK => ?_)
              have h8 : x 8 = .int .i64 u2 := hdep 8 (by kernel_rfl)
              have h11 : x 11 = .agg #[.int .i64 (s : Int), .int .i64 (2 : Int), .slice (some ⟨b, 0, none⟩) q q] := hdep 11 (by kernel_rfl)
              have h14 : RowAt w1 (x 14) [(y0 : Int), (z0 : Int)] := hdep 14 (by kernel_rfl)
              clear hdep
              have hSS := Lib.hid hS
              obtain ⟨c0, c1, c2, hB⟩ := hS
              refine ⟨?_⟩
              simp only [puts, Act.put, List.setIfInBounds_toArray, List.set_cons_zero, List.set_cons_succ, h8, h11]
              go_simp; go_at_call 146; refine (opAt s 2 b q m3 G 2 _ [(y0 : Int), (z0 : Int)] u3 _ (HTB.out.below hB) h14 hs14 h214 HT3.out HM3.out hm3 hq64 HG3.out hu3).mono ?_; rintro e w5 ⟨rfl, hb5⟩
              exact hK.out _ (.int .i64 u3) _ (by simp only [puts, Act.put, List.setIfInBounds_toArray, List.set_cons_zero, List.set_cons_succ, h8, h11]) hb5 (⟨below_cell hb5 c0, below_cell hb5 c1, below_cell hb5 c2, hB.trans (hb5.mono hB.size)⟩) (rfl)
            · refine StepOk.intro (some 37) rfl rfl (fun x w1 hS hdep K hK => ?_)
              have h10 : x 10 = .int .i64 (x0 : Int) := hdep 10 (by kernel_rfl)
              have h15 : x 15 = .int .i64 u3 := hdep 15 (by kernel_rfl)
              clear hdep
              have hSS := Lib.hid hS
              obtain ⟨c0, c1, c2, hB⟩ := hS
              refine ⟨?_⟩
              simp only [puts, Act.put, List.setIfInBounds_toArray, List.set_cons_zero, List.set_cons_succ, h10, h15]
              go_simp
              exact hK.out _ (.slice (some ⟨w1.heap.size, 0, none⟩) 2 2) _ (by simp only [puts, Act.put, List.setIfInBounds_toArray, List.set_cons_zero, List.set_cons_succ, h10, h15]) ((Below.refl _ _).alloc (Nat.le_refl _) _) (⟨below_cell ((Below.refl _ _).alloc (Nat.le_refl _) _) c0, below_cell ((Below.refl _ _).alloc (Nat.le_refl _) _) c1, below_cell ((Below.refl _ _).alloc (Nat.le_refl _) _) c2, hB.trans (((Below.refl _ _).alloc (Nat.le_refl _) _).mono hB.size)⟩) (row2 _ _ _)
            · refine StepOk.intro (some 38) rfl rfl (fun x w1 hS hdep K hK => ?_)
              have h9 : x 9 = .agg #[.int .i64 (s : Int), .int .i64 (2 : Int), .slice (some ⟨b, 0, none⟩) q q] := hdep 9 (by kernel_rfl)
              have h15 : x 15 = .int .i64 u3 := hdep 15 (by kernel_rfl)
              have h16 : RowAt w1 (x 16) [(x0 : Int), u3] := hdep 16 (by kernel_rfl)
              clear hdep
              have hSS := Lib.hid hS
              obtain ⟨c0, c1, c2, hB⟩ := hS
              refine ⟨?_⟩
              simp only [puts, Act.put, List.setIfInBounds_toArray, List.set_cons_zero, List.set_cons_succ, h9, h15]
              go_simp; go_at_call 146; refine (opAt s 2 b q m4 G 2 _ [(x0 : Int), u3] u4 _ (HTB.out.below hB) h16 hs14 h214 HT4.out HM4.out hm4 hq64 HG4.out hu4).mono ?_; rintro e w5 ⟨rfl, hb5⟩
              exact hK.out _ (.int .i64 u4) _ (by simp only [puts, Act.put, List.setIfInBounds_toArray, List.set_cons_zero, List.set_cons_succ, h9, h15]) hb5 (⟨below_cell hb5 c0, below_cell hb5 c1, below_cell hb5 c2, hB.trans (hb5.mono hB.size)⟩) (rfl)
            · refine StepOk.intro (some 39) rfl rfl (fun x w1 hS hdep K hK => ?_)
              have h8 : x 8 = .int .i64 u2 := hdep 8 (by kernel_rfl)
              have h17 : x 17 = .int .i64 u4 := hdep 17 (by kernel_rfl)
              clear hdep
              have hSS := Lib.hid hS
              obtain ⟨c0, c1, c2, hB⟩ := hS
              refine ⟨?_⟩
              simp only [puts, Act.put, List.setIfInBounds_toArray, List.set_cons_zero, List.set_cons_succ, h8, h17]
              have hne := HNE.out
              go_simp
              exact hK.out _ (.bool true) _ (by simp only [puts, Act.put, List.setIfInBounds_toArray, List.set_cons_zero, List.set_cons_succ, h8, h17]) (Below.refl _ _) (hSS.out) (rfl)
          · intro x w1 hS hx
            have e0 : x 0 = .agg #[.int .i64 (s : Int), .int .i64 (2 : Int), .slice (some ⟨b, 0, none⟩) q q] := hx 0 (by decide)
            have e1 : x 1 = .agg #[.int .i64 (s : Int), .int .i64 (2 : Int), .slice (some ⟨b, 0, none⟩) q q] := hx 1 (by decide)
            have e2 : x 2 = .int .i64 (x0 : Int) := hx 2 (by decide)
            have e3 : x 3 = .int .i64 (y0 : Int) := hx 3 (by decide)
            have e4 : RowAt w1 (x 4) [(x0 : Int), (y0 : Int)] := hx 4 (by decide)
            have e5 : x 5 = .int .i64 u1 := hx 5 (by decide)
            have e6 : x 6 = .int .i64 (z0 : Int) := hx 6 (by decide)
            have e7 : RowAt w1 (x 7) [u1, (z0 : Int)] := hx 7 (by decide)
            have e8 : x 8 = .int .i64 u2 := hx 8 (by decide)
            have e9 : x 9 = .agg #[.int .i64 (s : Int), .int .i64 (2 : Int), .slice (some ⟨b, 0, none⟩) q q] := hx 9 (by decide)
            have e10 : x 10 = .int .i64 (x0 : Int) := hx 10 (by decide)
            have e11 : x 11 = .agg #[.int .i64 (s : Int), .int .i64 (2 : Int), .slice (some ⟨b, 0, none⟩) q q] := hx 11 (by decide)
            have e12 : x 12 = .int .i64 (y0 : Int) := hx 12 (by decide)
            have e13 : x 13 = .int .i64 (z0 : Int) := hx 13 (by decide)
            have e14 : RowAt w1 (x 14) [(y0 : Int), (z0 : Int)] := hx 14 (by decide)
            have e15 : x 15 = .int .i64 u3 := hx 15 (by decide)
            have e16 : RowAt w1 (x 16) [(x0 : Int), u3] := hx 16 (by decide)
            have e17 : x 17 = .int .i64 u4 := hx 17 (by decide)
            have e18 : x 18 = .bool true := hx 18 (by decide)
            clear hx
            obtain ⟨c0, c1, c2, hB⟩ := hS
            simp only [puts, Act.put, List.setIfInBounds_toArray, List.set_cons_zero, List.set_cons_succ, e0, e1, e2, e3, e5, e6, e8, e9, e10, e11, e12, e13, e15, e17, e18]
            clear e0 e1 e2 e3 e5 e6 e8 e9 e10 e11 e12 e13 e15 e17 e18
            refine NoPanic.normal ?_
            go_wp2
            go_ret
            exact ⟨ret_bool HF.out.symm, hB⟩

end Go.Proofs.Ytclhcnfgpkhplaa
