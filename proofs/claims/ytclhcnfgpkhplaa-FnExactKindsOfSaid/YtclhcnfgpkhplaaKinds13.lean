/-
  holdsOnPairs of the program: the kinds that ask for three places.
-/
import Derived.Test.YtclhcnfgpkhplaaKinds12
import Derived.Test.YtclhcnfgpkhplaaRegI
namespace Go.Proofs.Ytclhcnfgpkhplaa
open Go.RowKit

/-- What a test of three values says at x, y. -/
def FitAt (s : Nat) (tab : List Int) (fit : Int → Int → Int → Int → Int → Bool) (x y : Nat) : Bool :=
  fit x y (intN tab (codeN s [(x : Int), x, y])) (intN tab (codeN s [(x : Int), y, x])) (intN tab (codeN s [(y : Int), x, x]))

set_option linter.unusedSimpArgs false in
set_option maxHeartbeats 2000000 in
set_option maxRecDepth 100000 in
theorem holdsOnPairs (s r b q g : Nat) (G : Nat → Int) (tab : List Int) (fit : Int → Int → Int → Int → Int → Bool) (bb : Bool) (w : World) (hT : TabAt w b G) (ho : OpOk s r tab) (hq : tab.length = q) (hG : ∀ i, i < q → G i = intN tab i)
    (hF : ∀ (x y l m f : Int) (w1 : World), Calls Try.prog g #[.int .i64 x, .int .i64 y, .int .i64 l, .int .i64 m, .int .i64 f] w1 fun e w' => e = .returned (.bool (fit x y l m f)) ∧ w1 = w')
    (hE : ∀ (args : Array Value) (w1 : World), (callFunc g args).run Try.prog w1 = .ok (.enter g args) w1)
    (hb : Tells bb (r = 3 ∧ ∀ x y : Nat, x < s → y < s → FitAt s tab fit x y = true)) :
    Calls Try.prog 173 #[.agg #[.int .i64 (s : Int), .int .i64 (r : Int), .slice (some ⟨b, 0, none⟩) q q], .func (.func g) #[] #[]] w fun e w' => e = .returned (.bool bb) ∧ Below w.heap.size w w' := by
  have h1 : 1 ≤ s := by have := ho.1.1; omega
  have hs4 : s ≤ 4 := by have := ho.1.2; omega
  have hs14 : In14 (s : Int) := ho.1
  have h314 : In14 (3 : Int) := by constructor <;> decide
  have hr1 : 1 ≤ r := by have := ho.2.1.1; omega
  have hr3 : r ≤ 3 := by have := ho.2.1.2; omega
  have hlen : tab.length = s ^ r := by have := ho.2.2.1; simp only [Int.toNat_natCast] at this; omega
  have hq64 : q ≤ 64 := by rw [← hq, hlen]; exact (pow_le3 h1 hs4 hr3).1
  have HTB := Lib.hid hT
  have HO := Lib.hid ho
  have HGG := Lib.hid hG
  have HLQ := Lib.hid hq
  have HFN := Lib.hid hF
  have HGE := Lib.hid hE
  have HA : Hid (Below w.heap.size w (w.alloc (.cells #[.int .i64 s, .int .i64 r, .slice (some ⟨b, 0, none⟩) q q] 105))) := Lib.hid ((Below.refl _ _).alloc (Nat.le_refl _) _)
  have HBX := Lib.hid (Box.new 105 w #[.int .i64 s, .int .i64 r, .slice (some ⟨b, 0, none⟩) q q])
  clear hF hE
  have cA0 := HBX.out.c 0 rfl
  have cA1 := HBX.out.c 1 rfl
  by_cases h3 : r = 3
  case neg =>
    have n3 : ((r : Int) != 3) = true := by simp; omega
    have HF := Lib.hid (hb.is_false fun h => h3 h.1)
    clear hb hT ho hq hG hlen cA0 h3
    go_enter Try.func173, Try.ntmps173
    go_wp2
    go_ret
    exact ⟨ret_bool HF.out.symm, HA.out⟩
  have n3 : ((r : Int) != 3) = false := by simp; omega
  have HR3 := Lib.hid h3
  have HB : Hid (Tells bb (∀ x y : Nat, x < s → y < s → FitAt s tab fit x y = true)) := Lib.hid ⟨fun h => (hb.1 h).2, fun h => hb.2 ⟨h3, h⟩⟩
  have HOK3 : Hid (OpOk s 3 tab) := Lib.hid (by rw [h3] at ho; exact ho)
  clear hT ho hq hG hb hlen h3 hr1 hr3
  go_enter Try.func173, Try.ntmps173
  go_wp2
  clear cA0 cA1
  go_loopw [12] (fun i wr => ∃ x : Nat, x ≤ s ∧ i = .int .i64 x ∧ (∀ z y : Nat, z < x → y < s → FitAt s tab fit z y = true) ∧ wr.cell? ⟨w.heap.size, 0, none⟩ = some (.int .i64 s) ∧ wr.cell? ⟨w.heap.size, 1, none⟩ = some (.int .i64 r) ∧ wr.cell? ⟨w.heap.size, 2, none⟩ = some (.slice (some ⟨b, 0, none⟩) q q) ∧ Below w.heap.size w wr) (fun i _ => s - (intOf i).toNat)
  case atStart => exact ⟨0, Nat.zero_le _, rfl, fun z y hz => absurd hz (Nat.not_lt_zero _), HBX.out.c 0 rfl, HBX.out.c 1 rfl, HBX.out.c 2 rfl, HA.out⟩
  case round =>

    obtain ⟨x0, hxs, rfl, hall, cb0, cb1, cb2, hbel⟩ := hrel
    have HX := Lib.hid hall
    have HW := Lib.hid hbel
    clear hall hbel
    by_cases hx : x0 < s
    case neg =>
      obtain rfl : x0 = s := by omega
      have HF := Lib.hid (HB.out.is_true fun z y hz hy => HX.out z y hz hy)
      go_wp2
      go_ret
      exact ⟨ret_bool HF.out.symm, HW.out⟩
    have hx' : (x0 : Int) < (s : Int) := by omega
    go_wp2
    go_loopw [17] (fun i wr => ∃ y : Nat, y ≤ s ∧ i = .int .i64 y ∧ (∀ z : Nat, z < y → FitAt s tab fit x0 z = true) ∧ wr.cell? ⟨w.heap.size, 0, none⟩ = some (.int .i64 s) ∧ wr.cell? ⟨w.heap.size, 1, none⟩ = some (.int .i64 r) ∧ wr.cell? ⟨w.heap.size, 2, none⟩ = some (.slice (some ⟨b, 0, none⟩) q q) ∧ Below w.heap.size w wr) (fun i _ => s - (intOf i).toNat)
    case atStart => exact ⟨0, Nat.zero_le _, rfl, fun z hz => absurd hz (Nat.not_lt_zero _), cb0, cb1, cb2, HW.out⟩
    case round =>

      clear cb0 cb1 cb2
      obtain ⟨y0, hys, rfl, hall, cb0, cb1, cb2, hbel⟩ := hrel
      have HY := Lib.hid hall
      have HW2 := Lib.hid hbel
      clear hall hbel
      by_cases hy : y0 < s
      case neg =>
        obtain rfl : y0 = s := by omega
        go_wp2
        go_roundw
        case rel =>
          refine ⟨x0 + 1, by omega, by go_num, fun z y hz hy => ?_, cb0, cb1, cb2, HW2.out⟩
          by_cases hzx : z = x0
          · subst hzx; exact HY.out y hy
          · exact HX.out z y (by omega) hy
        case measure => simp [intOf]; omega
      have hy' : (y0 : Int) < (s : Int) := by omega
      have HXI : Hid (0 ≤ (x0 : Int) ∧ (x0 : Int) < s) := Lib.hid ⟨by omega, hx'⟩
      have HYI : Hid (0 ≤ (y0 : Int) ∧ (y0 : Int) < s) := Lib.hid ⟨by omega, hy'⟩
      have HT1 : Hid (TupP s 3 [(x0 : Int), (x0 : Int), (y0 : Int)]) := Lib.hid (tup3 HXI.out HXI.out HYI.out)
      obtain ⟨m1, hm01⟩ : ∃ m, codeN s [(x0 : Int), (x0 : Int), (y0 : Int)] = m := ⟨_, rfl⟩
      have HM1 := Lib.hid hm01
      have hm1 : m1 < q := by rw [← HLQ.out, ← hm01]; exact HOK3.out.lt HT1.out
      obtain ⟨u1, hu01⟩ : ∃ u, intN tab m1 = u := ⟨_, rfl⟩
      have HG1 : Hid (G m1 = u1) := Lib.hid (by rw [HGG.out m1 hm1]; exact hu01)
      have hu1 : 0 ≤ u1 ∧ u1 < 256 := by
        have := HOK3.out.2.2.2 m1 (by rw [HLQ.out]; exact hm1)
        rw [hu01] at this
        omega
      have HT2 : Hid (TupP s 3 [(x0 : Int), (y0 : Int), (x0 : Int)]) := Lib.hid (tup3 HXI.out HYI.out HXI.out)
      obtain ⟨m2, hm02⟩ : ∃ m, codeN s [(x0 : Int), (y0 : Int), (x0 : Int)] = m := ⟨_, rfl⟩
      have HM2 := Lib.hid hm02
      have hm2 : m2 < q := by rw [← HLQ.out, ← hm02]; exact HOK3.out.lt HT2.out
      obtain ⟨u2, hu02⟩ : ∃ u, intN tab m2 = u := ⟨_, rfl⟩
      have HG2 : Hid (G m2 = u2) := Lib.hid (by rw [HGG.out m2 hm2]; exact hu02)
      have hu2 : 0 ≤ u2 ∧ u2 < 256 := by
        have := HOK3.out.2.2.2 m2 (by rw [HLQ.out]; exact hm2)
        rw [hu02] at this
        omega
      have HT3 : Hid (TupP s 3 [(y0 : Int), (x0 : Int), (x0 : Int)]) := Lib.hid (tup3 HYI.out HXI.out HXI.out)
      obtain ⟨m3, hm03⟩ : ∃ m, codeN s [(y0 : Int), (x0 : Int), (x0 : Int)] = m := ⟨_, rfl⟩
      have HM3 := Lib.hid hm03
      have hm3 : m3 < q := by rw [← HLQ.out, ← hm03]; exact HOK3.out.lt HT3.out
      obtain ⟨u3, hu03⟩ : ∃ u, intN tab m3 = u := ⟨_, rfl⟩
      have HG3 : Hid (G m3 = u3) := Lib.hid (by rw [HGG.out m3 hm3]; exact hu03)
      have hu3 : 0 ≤ u3 ∧ u3 < 256 := by
        have := HOK3.out.2.2.2 m3 (by rw [HLQ.out]; exact hm3)
        rw [hu03] at this
        omega
      obtain ⟨fb, hfb⟩ : ∃ fb, fit x0 y0 u1 u2 u3 = fb := ⟨_, rfl⟩
      have HFB := Lib.hid hfb
      have HFA : Hid (FitAt s tab fit x0 y0 = fb) := Lib.hid (by unfold FitAt; rw [hm01, hm02, hm03, hu01, hu02, hu03]; exact hfb)
      clear hfb hm01 hm02 hm03 hu01 hu02 hu03
      cases fb with
      | true =>
        go_wp2
        refine wp_region_noPanic ?_
        refine wp_region_inv (fun w' => w'.cell? ⟨w.heap.size, 0, none⟩ = some (.int .i64 s) ∧ w'.cell? ⟨w.heap.size, 1, none⟩ = some (.int .i64 r) ∧ w'.cell? ⟨w.heap.size, 2, none⟩ = some (.slice (some ⟨b, 0, none⟩) q q) ∧ Below w.heap.size w w') (fun w1 w2 => Below w1.heap.size w1 w2) (fun k vv ww => match k with
          | 0 => vv = .func (.func g) #[] #[]
          | 1 => vv = .int .i64 (x0 : Int)
          | 2 => vv = .int .i64 (y0 : Int)
          | 3 => vv = .agg #[.int .i64 (s : Int), .int .i64 (r : Int), .slice (some ⟨b, 0, none⟩) q q]
          | 4 => vv = .int .i64 (x0 : Int)
          | 5 => vv = .int .i64 (x0 : Int)
          | 6 => vv = .int .i64 (y0 : Int)
          | 7 => RowAt ww vv [(x0 : Int), (x0 : Int), (y0 : Int)]
          | 8 => vv = .int .i64 u1
          | 9 => vv = .agg #[.int .i64 (s : Int), .int .i64 (r : Int), .slice (some ⟨b, 0, none⟩) q q]
          | 10 => vv = .int .i64 (x0 : Int)
          | 11 => vv = .int .i64 (y0 : Int)
          | 12 => vv = .int .i64 (x0 : Int)
          | 13 => RowAt ww vv [(x0 : Int), (y0 : Int), (x0 : Int)]
          | 14 => vv = .int .i64 u2
          | 15 => vv = .agg #[.int .i64 (s : Int), .int .i64 (r : Int), .slice (some ⟨b, 0, none⟩) q q]
          | 16 => vv = .int .i64 (y0 : Int)
          | 17 => vv = .int .i64 (x0 : Int)
          | 18 => vv = .int .i64 (x0 : Int)
          | 19 => RowAt ww vv [(y0 : Int), (x0 : Int), (x0 : Int)]
          | 20 => vv = .int .i64 u3
          | 21 => vv = .bool true
          | 22 => vv = .bool false
          | _ => True) [(22, some 42), (21, some 41), (20, some 40), (19, some 39), (18, some 38), (17, some 37), (16, some 36), (15, some 35), (14, some 34), (13, some 33), (12, some 32), (11, some 31), (10, some 30), (9, some 29), (8, some 28), (7, some 27), (6, some 26), (5, some 25), (4, some 24), (3, some 23), (2, some 22), (1, some 21), (0, some 20)] 23 (by kernel_rfl) rfl (by kernel_rfl) (by kernel_rfl) (by kernel_rfl) ?_ ?_ ?_ ?_
        · intro k v w1 w2 hN h
          match k, h with
          | 0, h => exact h
          | 1, h => exact h
          | 2, h => exact h
          | 3, h => exact h
          | 4, h => exact h
          | 5, h => exact h
          | 6, h => exact h
          | 7, h => exact RowAt.below h hN
          | 8, h => exact h
          | 9, h => exact h
          | 10, h => exact h
          | 11, h => exact h
          | 12, h => exact h
          | 13, h => exact RowAt.below h hN
          | 14, h => exact h
          | 15, h => exact h
          | 16, h => exact h
          | 17, h => exact h
          | 18, h => exact h
          | 19, h => exact RowAt.below h hN
          | 20, h => exact h
          | 21, h => exact h
          | 22, h => exact h
          | k + 23, _ => exact trivial
        · exact ⟨cb0, cb1, cb2, HW2.out.trans (((QW.refl wr).drew.below _).mono HW2.out.size)⟩
        · refine ⟨⟨⟨⟨⟨⟨⟨⟨⟨⟨⟨⟨⟨⟨⟨⟨⟨⟨⟨⟨⟨⟨⟨trivial, ?_⟩, ?_⟩, ?_⟩, ?_⟩, ?_⟩, ?_⟩, ?_⟩, ?_⟩, ?_⟩, ?_⟩, ?_⟩, ?_⟩, ?_⟩, ?_⟩, ?_⟩, ?_⟩, ?_⟩, ?_⟩, ?_⟩, ?_⟩, ?_⟩, ?_⟩, ?_⟩
          · refine StepOk.intro (some 20) rfl rfl (fun x w1 hS hdep K hK => ?_)
            clear hdep
            have hSS := Lib.hid hS
            obtain ⟨c0, c1, c2, hB⟩ := hS
            refine ⟨?_⟩
            simp only [puts, Act.put, List.setIfInBounds_toArray, List.set_cons_zero, List.set_cons_succ]
            go_simp
            exact hK.out _ (.func (.func g) #[] #[]) _ (by simp only [puts, Act.put, List.setIfInBounds_toArray, List.set_cons_zero, List.set_cons_succ]) (Below.refl _ _) (hSS.out) (rfl)
          · refine StepOk.intro (some 21) rfl rfl (fun x w1 hS hdep K hK => ?_)
            clear hdep
            have hSS := Lib.hid hS
            obtain ⟨c0, c1, c2, hB⟩ := hS
            refine ⟨?_⟩
            simp only [puts, Act.put, List.setIfInBounds_toArray, List.set_cons_zero, List.set_cons_succ]
            go_simp
            exact hK.out _ (.int .i64 (x0 : Int)) _ (by simp only [puts, Act.put, List.setIfInBounds_toArray, List.set_cons_zero, List.set_cons_succ]) (Below.refl _ _) (hSS.out) (rfl)
          · refine StepOk.intro (some 22) rfl rfl (fun x w1 hS hdep K hK => ?_)
            clear hdep
            have hSS := Lib.hid hS
            obtain ⟨c0, c1, c2, hB⟩ := hS
            refine ⟨?_⟩
            simp only [puts, Act.put, List.setIfInBounds_toArray, List.set_cons_zero, List.set_cons_succ]
            go_simp
            exact hK.out _ (.int .i64 (y0 : Int)) _ (by simp only [puts, Act.put, List.setIfInBounds_toArray, List.set_cons_zero, List.set_cons_succ]) (Below.refl _ _) (hSS.out) (rfl)
          · refine StepOk.intro (some 23) rfl rfl (fun x w1 hS hdep K hK => ?_)
            clear hdep
            have hSS := Lib.hid hS
            obtain ⟨c0, c1, c2, hB⟩ := hS
            refine ⟨?_⟩
            simp only [puts, Act.put, List.setIfInBounds_toArray, List.set_cons_zero, List.set_cons_succ]
            go_simp
            exact hK.out _ (.agg #[.int .i64 (s : Int), .int .i64 (r : Int), .slice (some ⟨b, 0, none⟩) q q]) _ (by simp only [puts, Act.put, List.setIfInBounds_toArray, List.set_cons_zero, List.set_cons_succ]) (Below.refl _ _) (hSS.out) (rfl)
          · refine StepOk.intro (some 24) rfl rfl (fun x w1 hS hdep K hK => ?_)
            clear hdep
            have hSS := Lib.hid hS
            obtain ⟨c0, c1, c2, hB⟩ := hS
            refine ⟨?_⟩
            simp only [puts, Act.put, List.setIfInBounds_toArray, List.set_cons_zero, List.set_cons_succ]
            go_simp
            exact hK.out _ (.int .i64 (x0 : Int)) _ (by simp only [puts, Act.put, List.setIfInBounds_toArray, List.set_cons_zero, List.set_cons_succ]) (Below.refl _ _) (hSS.out) (rfl)
          · refine StepOk.intro (some 25) rfl rfl (fun x w1 hS hdep K hK => ?_)
            clear hdep
            have hSS := Lib.hid hS
            obtain ⟨c0, c1, c2, hB⟩ := hS
            refine ⟨?_⟩
            simp only [puts, Act.put, List.setIfInBounds_toArray, List.set_cons_zero, List.set_cons_succ]
            go_simp
            exact hK.out _ (.int .i64 (x0 : Int)) _ (by simp only [puts, Act.put, List.setIfInBounds_toArray, List.set_cons_zero, List.set_cons_succ]) (Below.refl _ _) (hSS.out) (rfl)
          · refine StepOk.intro (some 26) rfl rfl (fun x w1 hS hdep K hK => ?_)
            clear hdep
            have hSS := Lib.hid hS
            obtain ⟨c0, c1, c2, hB⟩ := hS
            refine ⟨?_⟩
            simp only [puts, Act.put, List.setIfInBounds_toArray, List.set_cons_zero, List.set_cons_succ]
            go_simp
            exact hK.out _ (.int .i64 (y0 : Int)) _ (by simp only [puts, Act.put, List.setIfInBounds_toArray, List.set_cons_zero, List.set_cons_succ]) (Below.refl _ _) (hSS.out) (rfl)
          · refine StepOk.intro (some 27) rfl rfl (fun x w1 hS hdep K hK => ?_)
            have h4 : x 4 = .int .i64 (x0 : Int) := hdep 4 (by kernel_rfl)
            have h5 : x 5 = .int .i64 (x0 : Int) := hdep 5 (by kernel_rfl)
            have h6 : x 6 = .int .i64 (y0 : Int) := hdep 6 (by kernel_rfl)
            clear hdep
            have hSS := Lib.hid hS
            obtain ⟨c0, c1, c2, hB⟩ := hS
            refine ⟨?_⟩
            simp only [puts, Act.put, List.setIfInBounds_toArray, List.set_cons_zero, List.set_cons_succ, h4, h5, h6]
            go_simp
            exact hK.out _ (.slice (some ⟨w1.heap.size, 0, none⟩) 3 3) _ (by simp only [puts, Act.put, List.setIfInBounds_toArray, List.set_cons_zero, List.set_cons_succ, h4, h5, h6]) ((Below.refl _ _).alloc (Nat.le_refl _) _) (⟨below_cell ((Below.refl _ _).alloc (Nat.le_refl _) _) c0, below_cell ((Below.refl _ _).alloc (Nat.le_refl _) _) c1, below_cell ((Below.refl _ _).alloc (Nat.le_refl _) _) c2, hB.trans (((Below.refl _ _).alloc (Nat.le_refl _) _).mono hB.size)⟩) (row3 _ _ _ _)
          · refine StepOk.intro (some 28) rfl rfl (fun x w1 hS hdep K hK => ?_)
            have h3 : x 3 = .agg #[.int .i64 (s : Int), .int .i64 (r : Int), .slice (some ⟨b, 0, none⟩) q q] := hdep 3 (by kernel_rfl)
            have h7 : RowAt w1 (x 7) [(x0 : Int), (x0 : Int), (y0 : Int)] := hdep 7 (by kernel_rfl)
            clear hdep
            have hSS := Lib.hid hS
            obtain ⟨c0, c1, c2, hB⟩ := hS
            refine ⟨?_⟩
            simp only [puts, Act.put, List.setIfInBounds_toArray, List.set_cons_zero, List.set_cons_succ, h3]
            go_simp; go_at_call 146; refine (opAt s r b q m1 G 3 _ [(x0 : Int), (x0 : Int), (y0 : Int)] u1 _ (HTB.out.below hB) h7 hs14 h314 HT1.out HM1.out hm1 hq64 HG1.out hu1).mono ?_; rintro e w5 ⟨rfl, hb5⟩
            exact hK.out _ (.int .i64 u1) _ (by simp only [puts, Act.put, List.setIfInBounds_toArray, List.set_cons_zero, List.set_cons_succ, h3]) hb5 (⟨below_cell hb5 c0, below_cell hb5 c1, below_cell hb5 c2, hB.trans (hb5.mono hB.size)⟩) (rfl)
          · refine StepOk.intro (some 29) rfl rfl (fun x w1 hS hdep K hK => ?_)
            clear hdep
            have hSS := Lib.hid hS
            obtain ⟨c0, c1, c2, hB⟩ := hS
            refine ⟨?_⟩
            simp only [puts, Act.put, List.setIfInBounds_toArray, List.set_cons_zero, List.set_cons_succ]
            go_simp
            exact hK.out _ (.agg #[.int .i64 (s : Int), .int .i64 (r : Int), .slice (some ⟨b, 0, none⟩) q q]) _ (by simp only [puts, Act.put, List.setIfInBounds_toArray, List.set_cons_zero, List.set_cons_succ]) (Below.refl _ _) (hSS.out) (rfl)
          · refine StepOk.intro (some 30) rfl rfl (fun x w1 hS hdep K hK => ?_)
            clear hdep
            have hSS := Lib.hid hS
            obtain ⟨c0, c1, c2, hB⟩ := hS
            refine ⟨?_⟩
            simp only [puts, Act.put, List.setIfInBounds_toArray, List.set_cons_zero, List.set_cons_succ]
            go_simp
            exact hK.out _ (.int .i64 (x0 : Int)) _ (by simp only [puts, Act.put, List.setIfInBounds_toArray, List.set_cons_zero, List.set_cons_succ]) (Below.refl _ _) (hSS.out) (rfl)
          · refine StepOk.intro (some 31) rfl rfl (fun x w1 hS hdep K hK => ?_)
            clear hdep
            have hSS := Lib.hid hS
            obtain ⟨c0, c1, c2, hB⟩ := hS
            refine ⟨?_⟩
            simp only [puts, Act.put, List.setIfInBounds_toArray, List.set_cons_zero, List.set_cons_succ]
            go_simp
            exact hK.out _ (.int .i64 (y0 : Int)) _ (by simp only [puts, Act.put, List.setIfInBounds_toArray, List.set_cons_zero, List.set_cons_succ]) (Below.refl _ _) (hSS.out) (rfl)
          · refine StepOk.intro (some 32) rfl rfl (fun x w1 hS hdep K hK => ?_)
            clear hdep
            have hSS := Lib.hid hS
            obtain ⟨c0, c1, c2, hB⟩ := hS
            refine ⟨?_⟩
            simp only [puts, Act.put, List.setIfInBounds_toArray, List.set_cons_zero, List.set_cons_succ]
            go_simp
            exact hK.out _ (.int .i64 (x0 : Int)) _ (by simp only [puts, Act.put, List.setIfInBounds_toArray, List.set_cons_zero, List.set_cons_succ]) (Below.refl _ _) (hSS.out) (rfl)
          · refine StepOk.intro (some 33) rfl rfl (fun x w1 hS hdep K hK => ?_)
            have h10 : x 10 = .int .i64 (x0 : Int) := hdep 10 (by kernel_rfl)
            have h11 : x 11 = .int .i64 (y0 : Int) := hdep 11 (by kernel_rfl)
            have h12 : x 12 = .int .i64 (x0 : Int) := hdep 12 (by kernel_rfl)
            clear hdep
            have hSS := Lib.hid hS
            obtain ⟨c0, c1, c2, hB⟩ := hS
            refine ⟨?_⟩
            simp only [puts, Act.put, List.setIfInBounds_toArray, List.set_cons_zero, List.set_cons_succ, h10, h11, h12]
            go_simp
            exact hK.out _ (.slice (some ⟨w1.heap.size, 0, none⟩) 3 3) _ (by simp only [puts, Act.put, List.setIfInBounds_toArray, List.set_cons_zero, List.set_cons_succ, h10, h11, h12]) ((Below.refl _ _).alloc (Nat.le_refl _) _) (⟨below_cell ((Below.refl _ _).alloc (Nat.le_refl _) _) c0, below_cell ((Below.refl _ _).alloc (Nat.le_refl _) _) c1, below_cell ((Below.refl _ _).alloc (Nat.le_refl _) _) c2, hB.trans (((Below.refl _ _).alloc (Nat.le_refl _) _).mono hB.size)⟩) (row3 _ _ _ _)
          · refine StepOk.intro (some 34) rfl rfl (fun x w1 hS hdep K hK => ?_)
            have h8 : x 8 = .int .i64 u1 := hdep 8 (by kernel_rfl)
            have h9 : x 9 = .agg #[.int .i64 (s : Int), .int .i64 (r : Int), .slice (some ⟨b, 0, none⟩) q q] := hdep 9 (by kernel_rfl)
            have h13 : RowAt w1 (x 13) [(x0 : Int), (y0 : Int), (x0 : Int)] := hdep 13 (by kernel_rfl)
            clear hdep
            have hSS := Lib.hid hS
            obtain ⟨c0, c1, c2, hB⟩ := hS
            refine ⟨?_⟩
            simp only [puts, Act.put, List.setIfInBounds_toArray, List.set_cons_zero, List.set_cons_succ, h8, h9]
            go_simp; go_at_call 146; refine (opAt s r b q m2 G 3 _ [(x0 : Int), (y0 : Int), (x0 : Int)] u2 _ (HTB.out.below hB) h13 hs14 h314 HT2.out HM2.out hm2 hq64 HG2.out hu2).mono ?_; rintro e w5 ⟨rfl, hb5⟩
            exact hK.out _ (.int .i64 u2) _ (by simp only [puts, Act.put, List.setIfInBounds_toArray, List.set_cons_zero, List.set_cons_succ, h8, h9]) hb5 (⟨below_cell hb5 c0, below_cell hb5 c1, below_cell hb5 c2, hB.trans (hb5.mono hB.size)⟩) (rfl)
          · refine StepOk.intro (some 35) rfl rfl (fun x w1 hS hdep K hK => ?_)
            clear hdep
            have hSS := Lib.hid hS
            obtain ⟨c0, c1, c2, hB⟩ := hS
            refine ⟨?_⟩
            simp only [puts, Act.put, List.setIfInBounds_toArray, List.set_cons_zero, List.set_cons_succ]
            go_simp
            exact hK.out _ (.agg #[.int .i64 (s : Int), .int .i64 (r : Int), .slice (some ⟨b, 0, none⟩) q q]) _ (by simp only [puts, Act.put, List.setIfInBounds_toArray, List.set_cons_zero, List.set_cons_succ]) (Below.refl _ _) (hSS.out) (rfl)
          · refine StepOk.intro (some 36) rfl rfl (fun x w1 hS hdep K hK => ?_)
            clear hdep
            have hSS := Lib.hid hS
            obtain ⟨c0, c1, c2, hB⟩ := hS
            refine ⟨?_⟩
            simp only [puts, Act.put, List.setIfInBounds_toArray, List.set_cons_zero, List.set_cons_succ]
            go_simp
            exact hK.out _ (.int .i64 (y0 : Int)) _ (by simp only [puts, Act.put, List.setIfInBounds_toArray, List.set_cons_zero, List.set_cons_succ]) (Below.refl _ _) (hSS.out) (rfl)
          · refine StepOk.intro (some 37) rfl rfl (fun x w1 hS hdep K hK => ?_)
            clear hdep
            have hSS := Lib.hid hS
            obtain ⟨c0, c1, c2, hB⟩ := hS
            refine ⟨?_⟩
            simp only [puts, Act.put, List.setIfInBounds_toArray, List.set_cons_zero, List.set_cons_succ]
            go_simp
            exact hK.out _ (.int .i64 (x0 : Int)) _ (by simp only [puts, Act.put, List.setIfInBounds_toArray, List.set_cons_zero, List.set_cons_succ]) (Below.refl _ _) (hSS.out) (rfl)
          · refine StepOk.intro (some 38) rfl rfl (fun x w1 hS hdep K hK => ?_)
            clear hdep
            have hSS := Lib.hid hS
            obtain ⟨c0, c1, c2, hB⟩ := hS
            refine ⟨?_⟩
            simp only [puts, Act.put, List.setIfInBounds_toArray, List.set_cons_zero, List.set_cons_succ]
            go_simp
            exact hK.out _ (.int .i64 (x0 : Int)) _ (by simp only [puts, Act.put, List.setIfInBounds_toArray, List.set_cons_zero, List.set_cons_succ]) (Below.refl _ _) (hSS.out) (rfl)
          · refine StepOk.intro (some 39) rfl rfl (fun x w1 hS hdep K hK => ?_)
            have h16 : x 16 = .int .i64 (y0 : Int) := hdep 16 (by kernel_rfl)
            have h17 : x 17 = .int .i64 (x0 : Int) := hdep 17 (by kernel_rfl)
            have h18 : x 18 = .int .i64 (x0 : Int) := hdep 18 (by kernel_rfl)
            clear hdep
            have hSS := Lib.hid hS
            obtain ⟨c0, c1, c2, hB⟩ := hS
            refine ⟨?_⟩
            simp only [puts, Act.put, List.setIfInBounds_toArray, List.set_cons_zero, List.set_cons_succ, h16, h17, h18]
            go_simp
            exact hK.out _ (.slice (some ⟨w1.heap.size, 0, none⟩) 3 3) _ (by simp only [puts, Act.put, List.setIfInBounds_toArray, List.set_cons_zero, List.set_cons_succ, h16, h17, h18]) ((Below.refl _ _).alloc (Nat.le_refl _) _) (⟨below_cell ((Below.refl _ _).alloc (Nat.le_refl _) _) c0, below_cell ((Below.refl _ _).alloc (Nat.le_refl _) _) c1, below_cell ((Below.refl _ _).alloc (Nat.le_refl _) _) c2, hB.trans (((Below.refl _ _).alloc (Nat.le_refl _) _).mono hB.size)⟩) (row3 _ _ _ _)
          · refine StepOk.intro (some 40) rfl rfl (fun x w1 hS hdep K hK => ?_)
            have h14 : x 14 = .int .i64 u2 := hdep 14 (by kernel_rfl)
            have h15 : x 15 = .agg #[.int .i64 (s : Int), .int .i64 (r : Int), .slice (some ⟨b, 0, none⟩) q q] := hdep 15 (by kernel_rfl)
            have h19 : RowAt w1 (x 19) [(y0 : Int), (x0 : Int), (x0 : Int)] := hdep 19 (by kernel_rfl)
            clear hdep
            have hSS := Lib.hid hS
            obtain ⟨c0, c1, c2, hB⟩ := hS
            refine ⟨?_⟩
            simp only [puts, Act.put, List.setIfInBounds_toArray, List.set_cons_zero, List.set_cons_succ, h14, h15]
            go_simp; go_at_call 146; refine (opAt s r b q m3 G 3 _ [(y0 : Int), (x0 : Int), (x0 : Int)] u3 _ (HTB.out.below hB) h19 hs14 h314 HT3.out HM3.out hm3 hq64 HG3.out hu3).mono ?_; rintro e w5 ⟨rfl, hb5⟩
            exact hK.out _ (.int .i64 u3) _ (by simp only [puts, Act.put, List.setIfInBounds_toArray, List.set_cons_zero, List.set_cons_succ, h14, h15]) hb5 (⟨below_cell hb5 c0, below_cell hb5 c1, below_cell hb5 c2, hB.trans (hb5.mono hB.size)⟩) (rfl)
          · refine StepOk.intro (some 41) rfl rfl (fun x w1 hS hdep K hK => ?_)
            have h0 : x 0 = .func (.func g) #[] #[] := hdep 0 (by kernel_rfl)
            have h1 : x 1 = .int .i64 (x0 : Int) := hdep 1 (by kernel_rfl)
            have h2 : x 2 = .int .i64 (y0 : Int) := hdep 2 (by kernel_rfl)
            have h8 : x 8 = .int .i64 u1 := hdep 8 (by kernel_rfl)
            have h14 : x 14 = .int .i64 u2 := hdep 14 (by kernel_rfl)
            have h20 : x 20 = .int .i64 u3 := hdep 20 (by kernel_rfl)
            clear hdep
            have hSS := Lib.hid hS
            obtain ⟨c0, c1, c2, hB⟩ := hS
            refine ⟨?_⟩
            simp only [puts, Act.put, List.setIfInBounds_toArray, List.set_cons_zero, List.set_cons_succ, h0, h1, h2, h8, h14, h20]
            have hge := HGE.out
            go_simp; refine (HFN.out _ _ _ _ _ _).mono ?_; rintro e w5 ⟨rfl, rfl⟩
            rw [HFB.out]
            exact hK.out _ (.bool true) _ (by simp only [puts, Act.put, List.setIfInBounds_toArray, List.set_cons_zero, List.set_cons_succ, h0, h1, h2, h8, h14, h20]) (Below.refl _ _) (hSS.out) (rfl)
          · refine StepOk.intro (some 42) rfl rfl (fun x w1 hS hdep K hK => ?_)
            have h21 : x 21 = .bool true := hdep 21 (by kernel_rfl)
            clear hdep
            have hSS := Lib.hid hS
            obtain ⟨c0, c1, c2, hB⟩ := hS
            refine ⟨?_⟩
            simp only [puts, Act.put, List.setIfInBounds_toArray, List.set_cons_zero, List.set_cons_succ, h21]
            go_simp
            exact hK.out _ (.bool false) _ (by simp only [puts, Act.put, List.setIfInBounds_toArray, List.set_cons_zero, List.set_cons_succ, h21]) (Below.refl _ _) (hSS.out) (rfl)
        · intro x w1 hS hx
          have e0 : x 0 = .func (.func g) #[] #[] := hx 0 (by decide)
          have e1 : x 1 = .int .i64 (x0 : Int) := hx 1 (by decide)
          have e2 : x 2 = .int .i64 (y0 : Int) := hx 2 (by decide)
          have e3 : x 3 = .agg #[.int .i64 (s : Int), .int .i64 (r : Int), .slice (some ⟨b, 0, none⟩) q q] := hx 3 (by decide)
          have e4 : x 4 = .int .i64 (x0 : Int) := hx 4 (by decide)
          have e5 : x 5 = .int .i64 (x0 : Int) := hx 5 (by decide)
          have e6 : x 6 = .int .i64 (y0 : Int) := hx 6 (by decide)
          have e7 : RowAt w1 (x 7) [(x0 : Int), (x0 : Int), (y0 : Int)] := hx 7 (by decide)
          have e8 : x 8 = .int .i64 u1 := hx 8 (by decide)
          have e9 : x 9 = .agg #[.int .i64 (s : Int), .int .i64 (r : Int), .slice (some ⟨b, 0, none⟩) q q] := hx 9 (by decide)
          have e10 : x 10 = .int .i64 (x0 : Int) := hx 10 (by decide)
          have e11 : x 11 = .int .i64 (y0 : Int) := hx 11 (by decide)
          have e12 : x 12 = .int .i64 (x0 : Int) := hx 12 (by decide)
          have e13 : RowAt w1 (x 13) [(x0 : Int), (y0 : Int), (x0 : Int)] := hx 13 (by decide)
          have e14 : x 14 = .int .i64 u2 := hx 14 (by decide)
          have e15 : x 15 = .agg #[.int .i64 (s : Int), .int .i64 (r : Int), .slice (some ⟨b, 0, none⟩) q q] := hx 15 (by decide)
          have e16 : x 16 = .int .i64 (y0 : Int) := hx 16 (by decide)
          have e17 : x 17 = .int .i64 (x0 : Int) := hx 17 (by decide)
          have e18 : x 18 = .int .i64 (x0 : Int) := hx 18 (by decide)
          have e19 : RowAt w1 (x 19) [(y0 : Int), (x0 : Int), (x0 : Int)] := hx 19 (by decide)
          have e20 : x 20 = .int .i64 u3 := hx 20 (by decide)
          have e21 : x 21 = .bool true := hx 21 (by decide)
          have e22 : x 22 = .bool false := hx 22 (by decide)
          clear hx
          obtain ⟨c0, c1, c2, hB⟩ := hS
          simp only [puts, Act.put, List.setIfInBounds_toArray, List.set_cons_zero, List.set_cons_succ, e0, e1, e2, e3, e4, e5, e6, e8, e9, e10, e11, e12, e14, e15, e16, e17, e18, e20, e21, e22]
          clear e0 e1 e2 e3 e4 e5 e6 e8 e9 e10 e11 e12 e14 e15 e16 e17 e18 e20 e21 e22
          refine NoPanic.normal ?_
          go_wp2
          go_roundw
          case rel =>
            refine ⟨y0 + 1, by omega, by go_num, fun z hz => ?_, c0, c1, c2, hB⟩
            by_cases hzy : z = y0
            · subst hzy; exact HFA.out
            · exact HY.out z (by omega)
          case measure => simp [intOf]; omega

      | false =>
        have HF := Lib.hid (HB.out.is_false fun h => by have := h x0 y0 hx hy; rw [HFA.out] at this; cases this)
        go_wp2
        refine wp_region_noPanic ?_
        refine wp_region_inv (fun w' => w'.cell? ⟨w.heap.size, 0, none⟩ = some (.int .i64 s) ∧ w'.cell? ⟨w.heap.size, 1, none⟩ = some (.int .i64 r) ∧ w'.cell? ⟨w.heap.size, 2, none⟩ = some (.slice (some ⟨b, 0, none⟩) q q) ∧ Below w.heap.size w w') (fun w1 w2 => Below w1.heap.size w1 w2) (fun k vv ww => match k with
          | 0 => vv = .func (.func g) #[] #[]
          | 1 => vv = .int .i64 (x0 : Int)
          | 2 => vv = .int .i64 (y0 : Int)
          | 3 => vv = .agg #[.int .i64 (s : Int), .int .i64 (r : Int), .slice (some ⟨b, 0, none⟩) q q]
          | 4 => vv = .int .i64 (x0 : Int)
          | 5 => vv = .int .i64 (x0 : Int)
          | 6 => vv = .int .i64 (y0 : Int)
          | 7 => RowAt ww vv [(x0 : Int), (x0 : Int), (y0 : Int)]
          | 8 => vv = .int .i64 u1
          | 9 => vv = .agg #[.int .i64 (s : Int), .int .i64 (r : Int), .slice (some ⟨b, 0, none⟩) q q]
          | 10 => vv = .int .i64 (x0 : Int)
          | 11 => vv = .int .i64 (y0 : Int)
          | 12 => vv = .int .i64 (x0 : Int)
          | 13 => RowAt ww vv [(x0 : Int), (y0 : Int), (x0 : Int)]
          | 14 => vv = .int .i64 u2
          | 15 => vv = .agg #[.int .i64 (s : Int), .int .i64 (r : Int), .slice (some ⟨b, 0, none⟩) q q]
          | 16 => vv = .int .i64 (y0 : Int)
          | 17 => vv = .int .i64 (x0 : Int)
          | 18 => vv = .int .i64 (x0 : Int)
          | 19 => RowAt ww vv [(y0 : Int), (x0 : Int), (x0 : Int)]
          | 20 => vv = .int .i64 u3
          | 21 => vv = .bool false
          | 22 => vv = .bool true
          | _ => True) [(22, some 42), (21, some 41), (20, some 40), (19, some 39), (18, some 38), (17, some 37), (16, some 36), (15, some 35), (14, some 34), (13, some 33), (12, some 32), (11, some 31), (10, some 30), (9, some 29), (8, some 28), (7, some 27), (6, some 26), (5, some 25), (4, some 24), (3, some 23), (2, some 22), (1, some 21), (0, some 20)] 23 (by kernel_rfl) rfl (by kernel_rfl) (by kernel_rfl) (by kernel_rfl) ?_ ?_ ?_ ?_
        · intro k v w1 w2 hN h
          match k, h with
          | 0, h => exact h
          | 1, h => exact h
          | 2, h => exact h
          | 3, h => exact h
          | 4, h => exact h
          | 5, h => exact h
          | 6, h => exact h
          | 7, h => exact RowAt.below h hN
          | 8, h => exact h
          | 9, h => exact h
          | 10, h => exact h
          | 11, h => exact h
          | 12, h => exact h
          | 13, h => exact RowAt.below h hN
          | 14, h => exact h
          | 15, h => exact h
          | 16, h => exact h
          | 17, h => exact h
          | 18, h => exact h
          | 19, h => exact RowAt.below h hN
          | 20, h => exact h
          | 21, h => exact h
          | 22, h => exact h
          | k + 23, _ => exact trivial
        · exact ⟨cb0, cb1, cb2, HW2.out.trans (((QW.refl wr).drew.below _).mono HW2.out.size)⟩
        · refine ⟨⟨⟨⟨⟨⟨⟨⟨⟨⟨⟨⟨⟨⟨⟨⟨⟨⟨⟨⟨⟨⟨⟨trivial, ?_⟩, ?_⟩, ?_⟩, ?_⟩, ?_⟩, ?_⟩, ?_⟩, ?_⟩, ?_⟩, ?_⟩, ?_⟩, ?_⟩, ?_⟩, ?_⟩, ?_⟩, ?_⟩, ?_⟩, ?_⟩, ?_⟩, ?_⟩, ?_⟩, ?_⟩, ?_⟩
          · refine StepOk.intro (some 20) rfl rfl (fun x w1 hS hdep K hK => ?_)
            clear hdep
            have hSS := Lib.hid hS
            obtain ⟨c0, c1, c2, hB⟩ := hS
            refine ⟨?_⟩
            simp only [puts, Act.put, List.setIfInBounds_toArray, List.set_cons_zero, List.set_cons_succ]
            go_simp
            exact hK.out _ (.func (.func g) #[] #[]) _ (by simp only [puts, Act.put, List.setIfInBounds_toArray, List.set_cons_zero, List.set_cons_succ]) (Below.refl _ _) (hSS.out) (rfl)
          · refine StepOk.intro (some 21) rfl rfl (fun x w1 hS hdep K hK => ?_)
            clear hdep
            have hSS := Lib.hid hS
            obtain ⟨c0, c1, c2, hB⟩ := hS
            refine ⟨?_⟩
            simp only [puts, Act.put, List.setIfInBounds_toArray, List.set_cons_zero, List.set_cons_succ]
            go_simp
            exact hK.out _ (.int .i64 (x0 : Int)) _ (by simp only [puts, Act.put, List.setIfInBounds_toArray, List.set_cons_zero, List.set_cons_succ]) (Below.refl _ _) (hSS.out) (rfl)
          · refine StepOk.intro (some 22) rfl rfl (fun x w1 hS hdep K hK => ?_)
            clear hdep
            have hSS := Lib.hid hS
            obtain ⟨c0, c1, c2, hB⟩ := hS
            refine ⟨?_⟩
            simp only [puts, Act.put, List.setIfInBounds_toArray, List.set_cons_zero, List.set_cons_succ]
            go_simp
            exact hK.out _ (.int .i64 (y0 : Int)) _ (by simp only [puts, Act.put, List.setIfInBounds_toArray, List.set_cons_zero, List.set_cons_succ]) (Below.refl _ _) (hSS.out) (rfl)
          · refine StepOk.intro (some 23) rfl rfl (fun x w1 hS hdep K hK => ?_)
            clear hdep
            have hSS := Lib.hid hS
            obtain ⟨c0, c1, c2, hB⟩ := hS
            refine ⟨?_⟩
            simp only [puts, Act.put, List.setIfInBounds_toArray, List.set_cons_zero, List.set_cons_succ]
            go_simp
            exact hK.out _ (.agg #[.int .i64 (s : Int), .int .i64 (r : Int), .slice (some ⟨b, 0, none⟩) q q]) _ (by simp only [puts, Act.put, List.setIfInBounds_toArray, List.set_cons_zero, List.set_cons_succ]) (Below.refl _ _) (hSS.out) (rfl)
          · refine StepOk.intro (some 24) rfl rfl (fun x w1 hS hdep K hK => ?_)
            clear hdep
            have hSS := Lib.hid hS
            obtain ⟨c0, c1, c2, hB⟩ := hS
            refine ⟨?_⟩
            simp only [puts, Act.put, List.setIfInBounds_toArray, List.set_cons_zero, List.set_cons_succ]
            go_simp
            exact hK.out _ (.int .i64 (x0 : Int)) _ (by simp only [puts, Act.put, List.setIfInBounds_toArray, List.set_cons_zero, List.set_cons_succ]) (Below.refl _ _) (hSS.out) (rfl)
          · refine StepOk.intro (some 25) rfl rfl (fun x w1 hS hdep K hK => ?_)
            clear hdep
            have hSS := Lib.hid hS
            obtain ⟨c0, c1, c2, hB⟩ := hS
            refine ⟨?_⟩
            simp only [puts, Act.put, List.setIfInBounds_toArray, List.set_cons_zero, List.set_cons_succ]
            go_simp
            exact hK.out _ (.int .i64 (x0 : Int)) _ (by simp only [puts, Act.put, List.setIfInBounds_toArray, List.set_cons_zero, List.set_cons_succ]) (Below.refl _ _) (hSS.out) (rfl)
          · refine StepOk.intro (some 26) rfl rfl (fun x w1 hS hdep K hK => ?_)
            clear hdep
            have hSS := Lib.hid hS
            obtain ⟨c0, c1, c2, hB⟩ := hS
            refine ⟨?_⟩
            simp only [puts, Act.put, List.setIfInBounds_toArray, List.set_cons_zero, List.set_cons_succ]
            go_simp
            exact hK.out _ (.int .i64 (y0 : Int)) _ (by simp only [puts, Act.put, List.setIfInBounds_toArray, List.set_cons_zero, List.set_cons_succ]) (Below.refl _ _) (hSS.out) (rfl)
          · refine StepOk.intro (some 27) rfl rfl (fun x w1 hS hdep K hK => ?_)
            have h4 : x 4 = .int .i64 (x0 : Int) := hdep 4 (by kernel_rfl)
            have h5 : x 5 = .int .i64 (x0 : Int) := hdep 5 (by kernel_rfl)
            have h6 : x 6 = .int .i64 (y0 : Int) := hdep 6 (by kernel_rfl)
            clear hdep
            have hSS := Lib.hid hS
            obtain ⟨c0, c1, c2, hB⟩ := hS
            refine ⟨?_⟩
            simp only [puts, Act.put, List.setIfInBounds_toArray, List.set_cons_zero, List.set_cons_succ, h4, h5, h6]
            go_simp
            exact hK.out _ (.slice (some ⟨w1.heap.size, 0, none⟩) 3 3) _ (by simp only [puts, Act.put, List.setIfInBounds_toArray, List.set_cons_zero, List.set_cons_succ, h4, h5, h6]) ((Below.refl _ _).alloc (Nat.le_refl _) _) (⟨below_cell ((Below.refl _ _).alloc (Nat.le_refl _) _) c0, below_cell ((Below.refl _ _).alloc (Nat.le_refl _) _) c1, below_cell ((Below.refl _ _).alloc (Nat.le_refl _) _) c2, hB.trans (((Below.refl _ _).alloc (Nat.le_refl _) _).mono hB.size)⟩) (row3 _ _ _ _)
          · refine StepOk.intro (some 28) rfl rfl (fun x w1 hS hdep K hK => ?_)
            have h3 : x 3 = .agg #[.int .i64 (s : Int), .int .i64 (r : Int), .slice (some ⟨b, 0, none⟩) q q] := hdep 3 (by kernel_rfl)
            have h7 : RowAt w1 (x 7) [(x0 : Int), (x0 : Int), (y0 : Int)] := hdep 7 (by kernel_rfl)
            clear hdep
            have hSS := Lib.hid hS
            obtain ⟨c0, c1, c2, hB⟩ := hS
            refine ⟨?_⟩
            simp only [puts, Act.put, List.setIfInBounds_toArray, List.set_cons_zero, List.set_cons_succ, h3]
            go_simp; go_at_call 146; refine (opAt s r b q m1 G 3 _ [(x0 : Int), (x0 : Int), (y0 : Int)] u1 _ (HTB.out.below hB) h7 hs14 h314 HT1.out HM1.out hm1 hq64 HG1.out hu1).mono ?_; rintro e w5 ⟨rfl, hb5⟩
            exact hK.out _ (.int .i64 u1) _ (by simp only [puts, Act.put, List.setIfInBounds_toArray, List.set_cons_zero, List.set_cons_succ, h3]) hb5 (⟨below_cell hb5 c0, below_cell hb5 c1, below_cell hb5 c2, hB.trans (hb5.mono hB.size)⟩) (rfl)
          · refine StepOk.intro (some 29) rfl rfl (fun x w1 hS hdep K hK => ?_)
            clear hdep
            have hSS := Lib.hid hS
            obtain ⟨c0, c1, c2, hB⟩ := hS
            refine ⟨?_⟩
            simp only [puts, Act.put, List.setIfInBounds_toArray, List.set_cons_zero, List.set_cons_succ]
            go_simp
            exact hK.out _ (.agg #[.int .i64 (s : Int), .int .i64 (r : Int), .slice (some ⟨b, 0, none⟩) q q]) _ (by simp only [puts, Act.put, List.setIfInBounds_toArray, List.set_cons_zero, List.set_cons_succ]) (Below.refl _ _) (hSS.out) (rfl)
          · refine StepOk.intro (some 30) rfl rfl (fun x w1 hS hdep K hK => ?_)
            clear hdep
            have hSS := Lib.hid hS
            obtain ⟨c0, c1, c2, hB⟩ := hS
            refine ⟨?_⟩
            simp only [puts, Act.put, List.setIfInBounds_toArray, List.set_cons_zero, List.set_cons_succ]
            go_simp
            exact hK.out _ (.int .i64 (x0 : Int)) _ (by simp only [puts, Act.put, List.setIfInBounds_toArray, List.set_cons_zero, List.set_cons_succ]) (Below.refl _ _) (hSS.out) (rfl)
          · refine StepOk.intro (some 31) rfl rfl (fun x w1 hS hdep K hK => ?_)
            clear hdep
            have hSS := Lib.hid hS
            obtain ⟨c0, c1, c2, hB⟩ := hS
            refine ⟨?_⟩
            simp only [puts, Act.put, List.setIfInBounds_toArray, List.set_cons_zero, List.set_cons_succ]
            go_simp
            exact hK.out _ (.int .i64 (y0 : Int)) _ (by simp only [puts, Act.put, List.setIfInBounds_toArray, List.set_cons_zero, List.set_cons_succ]) (Below.refl _ _) (hSS.out) (rfl)
          · refine StepOk.intro (some 32) rfl rfl (fun x w1 hS hdep K hK => ?_)
            clear hdep
            have hSS := Lib.hid hS
            obtain ⟨c0, c1, c2, hB⟩ := hS
            refine ⟨?_⟩
            simp only [puts, Act.put, List.setIfInBounds_toArray, List.set_cons_zero, List.set_cons_succ]
            go_simp
            exact hK.out _ (.int .i64 (x0 : Int)) _ (by simp only [puts, Act.put, List.setIfInBounds_toArray, List.set_cons_zero, List.set_cons_succ]) (Below.refl _ _) (hSS.out) (rfl)
          · refine StepOk.intro (some 33) rfl rfl (fun x w1 hS hdep K hK => ?_)
            have h10 : x 10 = .int .i64 (x0 : Int) := hdep 10 (by kernel_rfl)
            have h11 : x 11 = .int .i64 (y0 : Int) := hdep 11 (by kernel_rfl)
            have h12 : x 12 = .int .i64 (x0 : Int) := hdep 12 (by kernel_rfl)
            clear hdep
            have hSS := Lib.hid hS
            obtain ⟨c0, c1, c2, hB⟩ := hS
            refine ⟨?_⟩
            simp only [puts, Act.put, List.setIfInBounds_toArray, List.set_cons_zero, List.set_cons_succ, h10, h11, h12]
            go_simp
            exact hK.out _ (.slice (some ⟨w1.heap.size, 0, none⟩) 3 3) _ (by simp only [puts, Act.put, List.setIfInBounds_toArray, List.set_cons_zero, List.set_cons_succ, h10, h11, h12]) ((Below.refl _ _).alloc (Nat.le_refl _) _) (⟨below_cell ((Below.refl _ _).alloc (Nat.le_refl _) _) c0, below_cell ((Below.refl _ _).alloc (Nat.le_refl _) _) c1, below_cell ((Below.refl _ _).alloc (Nat.le_refl _) _) c2, hB.trans (((Below.refl _ _).alloc (Nat.le_refl _) _).mono hB.size)⟩) (row3 _ _ _ _)
          · refine StepOk.intro (some 34) rfl rfl (fun x w1 hS hdep K hK => ?_)
            have h8 : x 8 = .int .i64 u1 := hdep 8 (by kernel_rfl)
            have h9 : x 9 = .agg #[.int .i64 (s : Int), .int .i64 (r : Int), .slice (some ⟨b, 0, none⟩) q q] := hdep 9 (by kernel_rfl)
            have h13 : RowAt w1 (x 13) [(x0 : Int), (y0 : Int), (x0 : Int)] := hdep 13 (by kernel_rfl)
            clear hdep
            have hSS := Lib.hid hS
            obtain ⟨c0, c1, c2, hB⟩ := hS
            refine ⟨?_⟩
            simp only [puts, Act.put, List.setIfInBounds_toArray, List.set_cons_zero, List.set_cons_succ, h8, h9]
            go_simp; go_at_call 146; refine (opAt s r b q m2 G 3 _ [(x0 : Int), (y0 : Int), (x0 : Int)] u2 _ (HTB.out.below hB) h13 hs14 h314 HT2.out HM2.out hm2 hq64 HG2.out hu2).mono ?_; rintro e w5 ⟨rfl, hb5⟩
            exact hK.out _ (.int .i64 u2) _ (by simp only [puts, Act.put, List.setIfInBounds_toArray, List.set_cons_zero, List.set_cons_succ, h8, h9]) hb5 (⟨below_cell hb5 c0, below_cell hb5 c1, below_cell hb5 c2, hB.trans (hb5.mono hB.size)⟩) (rfl)
          · refine StepOk.intro (some 35) rfl rfl (fun x w1 hS hdep K hK => ?_)
            clear hdep
            have hSS := Lib.hid hS
            obtain ⟨c0, c1, c2, hB⟩ := hS
            refine ⟨?_⟩
            simp only [puts, Act.put, List.setIfInBounds_toArray, List.set_cons_zero, List.set_cons_succ]
            go_simp
            exact hK.out _ (.agg #[.int .i64 (s : Int), .int .i64 (r : Int), .slice (some ⟨b, 0, none⟩) q q]) _ (by simp only [puts, Act.put, List.setIfInBounds_toArray, List.set_cons_zero, List.set_cons_succ]) (Below.refl _ _) (hSS.out) (rfl)
          · refine StepOk.intro (some 36) rfl rfl (fun x w1 hS hdep K hK => ?_)
            clear hdep
            have hSS := Lib.hid hS
            obtain ⟨c0, c1, c2, hB⟩ := hS
            refine ⟨?_⟩
            simp only [puts, Act.put, List.setIfInBounds_toArray, List.set_cons_zero, List.set_cons_succ]
            go_simp
            exact hK.out _ (.int .i64 (y0 : Int)) _ (by simp only [puts, Act.put, List.setIfInBounds_toArray, List.set_cons_zero, List.set_cons_succ]) (Below.refl _ _) (hSS.out) (rfl)
          · refine StepOk.intro (some 37) rfl rfl (fun x w1 hS hdep K hK => ?_)
            clear hdep
            have hSS := Lib.hid hS
            obtain ⟨c0, c1, c2, hB⟩ := hS
            refine ⟨?_⟩
            simp only [puts, Act.put, List.setIfInBounds_toArray, List.set_cons_zero, List.set_cons_succ]
            go_simp
            exact hK.out _ (.int .i64 (x0 : Int)) _ (by simp only [puts, Act.put, List.setIfInBounds_toArray, List.set_cons_zero, List.set_cons_succ]) (Below.refl _ _) (hSS.out) (rfl)
          · refine StepOk.intro (some 38) rfl rfl (fun x w1 hS hdep K hK => ?_)
            clear hdep
            have hSS := Lib.hid hS
            obtain ⟨c0, c1, c2, hB⟩ := hS
            refine ⟨?_⟩
            simp only [puts, Act.put, List.setIfInBounds_toArray, List.set_cons_zero, List.set_cons_succ]
            go_simp
            exact hK.out _ (.int .i64 (x0 : Int)) _ (by simp only [puts, Act.put, List.setIfInBounds_toArray, List.set_cons_zero, List.set_cons_succ]) (Below.refl _ _) (hSS.out) (rfl)
          · refine StepOk.intro (some 39) rfl rfl (fun x w1 hS hdep K hK => ?_)
            have h16 : x 16 = .int .i64 (y0 : Int) := hdep 16 (by kernel_rfl)
            have h17 : x 17 = .int .i64 (x0 : Int) := hdep 17 (by kernel_rfl)
            have h18 : x 18 = .int .i64 (x0 : Int) := hdep 18 (by kernel_rfl)
            clear hdep
            have hSS := Lib.hid hS
            obtain ⟨c0, c1, c2, hB⟩ := hS
            refine ⟨?_⟩
            simp only [puts, Act.put, List.setIfInBounds_toArray, List.set_cons_zero, List.set_cons_succ, h16, h17, h18]
            go_simp
            exact hK.out _ (.slice (some ⟨w1.heap.size, 0, none⟩) 3 3) _ (by simp only [puts, Act.put, List.setIfInBounds_toArray, List.set_cons_zero, List.set_cons_succ, h16, h17, h18]) ((Below.refl _ _).alloc (Nat.le_refl _) _) (⟨below_cell ((Below.refl _ _).alloc (Nat.le_refl _) _) c0, below_cell ((Below.refl _ _).alloc (Nat.le_refl _) _) c1, below_cell ((Below.refl _ _).alloc (Nat.le_refl _) _) c2, hB.trans (((Below.refl _ _).alloc (Nat.le_refl _) _).mono hB.size)⟩) (row3 _ _ _ _)
          · refine StepOk.intro (some 40) rfl rfl (fun x w1 hS hdep K hK => ?_)
            have h14 : x 14 = .int .i64 u2 := hdep 14 (by kernel_rfl)
            have h15 : x 15 = .agg #[.int .i64 (s : Int), .int .i64 (r : Int), .slice (some ⟨b, 0, none⟩) q q] := hdep 15 (by kernel_rfl)
            have h19 : RowAt w1 (x 19) [(y0 : Int), (x0 : Int), (x0 : Int)] := hdep 19 (by kernel_rfl)
            clear hdep
            have hSS := Lib.hid hS
            obtain ⟨c0, c1, c2, hB⟩ := hS
            refine ⟨?_⟩
            simp only [puts, Act.put, List.setIfInBounds_toArray, List.set_cons_zero, List.set_cons_succ, h14, h15]
            go_simp; go_at_call 146; refine (opAt s r b q m3 G 3 _ [(y0 : Int), (x0 : Int), (x0 : Int)] u3 _ (HTB.out.below hB) h19 hs14 h314 HT3.out HM3.out hm3 hq64 HG3.out hu3).mono ?_; rintro e w5 ⟨rfl, hb5⟩
            exact hK.out _ (.int .i64 u3) _ (by simp only [puts, Act.put, List.setIfInBounds_toArray, List.set_cons_zero, List.set_cons_succ, h14, h15]) hb5 (⟨below_cell hb5 c0, below_cell hb5 c1, below_cell hb5 c2, hB.trans (hb5.mono hB.size)⟩) (rfl)
          · refine StepOk.intro (some 41) rfl rfl (fun x w1 hS hdep K hK => ?_)
            have h0 : x 0 = .func (.func g) #[] #[] := hdep 0 (by kernel_rfl)
            have h1 : x 1 = .int .i64 (x0 : Int) := hdep 1 (by kernel_rfl)
            have h2 : x 2 = .int .i64 (y0 : Int) := hdep 2 (by kernel_rfl)
            have h8 : x 8 = .int .i64 u1 := hdep 8 (by kernel_rfl)
            have h14 : x 14 = .int .i64 u2 := hdep 14 (by kernel_rfl)
            have h20 : x 20 = .int .i64 u3 := hdep 20 (by kernel_rfl)
            clear hdep
            have hSS := Lib.hid hS
            obtain ⟨c0, c1, c2, hB⟩ := hS
            refine ⟨?_⟩
            simp only [puts, Act.put, List.setIfInBounds_toArray, List.set_cons_zero, List.set_cons_succ, h0, h1, h2, h8, h14, h20]
            have hge := HGE.out
            go_simp; refine (HFN.out _ _ _ _ _ _).mono ?_; rintro e w5 ⟨rfl, rfl⟩
            rw [HFB.out]
            exact hK.out _ (.bool false) _ (by simp only [puts, Act.put, List.setIfInBounds_toArray, List.set_cons_zero, List.set_cons_succ, h0, h1, h2, h8, h14, h20]) (Below.refl _ _) (hSS.out) (rfl)
          · refine StepOk.intro (some 42) rfl rfl (fun x w1 hS hdep K hK => ?_)
            have h21 : x 21 = .bool false := hdep 21 (by kernel_rfl)
            clear hdep
            have hSS := Lib.hid hS
            obtain ⟨c0, c1, c2, hB⟩ := hS
            refine ⟨?_⟩
            simp only [puts, Act.put, List.setIfInBounds_toArray, List.set_cons_zero, List.set_cons_succ, h21]
            go_simp
            exact hK.out _ (.bool true) _ (by simp only [puts, Act.put, List.setIfInBounds_toArray, List.set_cons_zero, List.set_cons_succ, h21]) (Below.refl _ _) (hSS.out) (rfl)
        · intro x w1 hS hx
          have e0 : x 0 = .func (.func g) #[] #[] := hx 0 (by decide)
          have e1 : x 1 = .int .i64 (x0 : Int) := hx 1 (by decide)
          have e2 : x 2 = .int .i64 (y0 : Int) := hx 2 (by decide)
          have e3 : x 3 = .agg #[.int .i64 (s : Int), .int .i64 (r : Int), .slice (some ⟨b, 0, none⟩) q q] := hx 3 (by decide)
          have e4 : x 4 = .int .i64 (x0 : Int) := hx 4 (by decide)
          have e5 : x 5 = .int .i64 (x0 : Int) := hx 5 (by decide)
          have e6 : x 6 = .int .i64 (y0 : Int) := hx 6 (by decide)
          have e7 : RowAt w1 (x 7) [(x0 : Int), (x0 : Int), (y0 : Int)] := hx 7 (by decide)
          have e8 : x 8 = .int .i64 u1 := hx 8 (by decide)
          have e9 : x 9 = .agg #[.int .i64 (s : Int), .int .i64 (r : Int), .slice (some ⟨b, 0, none⟩) q q] := hx 9 (by decide)
          have e10 : x 10 = .int .i64 (x0 : Int) := hx 10 (by decide)
          have e11 : x 11 = .int .i64 (y0 : Int) := hx 11 (by decide)
          have e12 : x 12 = .int .i64 (x0 : Int) := hx 12 (by decide)
          have e13 : RowAt w1 (x 13) [(x0 : Int), (y0 : Int), (x0 : Int)] := hx 13 (by decide)
          have e14 : x 14 = .int .i64 u2 := hx 14 (by decide)
          have e15 : x 15 = .agg #[.int .i64 (s : Int), .int .i64 (r : Int), .slice (some ⟨b, 0, none⟩) q q] := hx 15 (by decide)
          have e16 : x 16 = .int .i64 (y0 : Int) := hx 16 (by decide)
          have e17 : x 17 = .int .i64 (x0 : Int) := hx 17 (by decide)
          have e18 : x 18 = .int .i64 (x0 : Int) := hx 18 (by decide)
          have e19 : RowAt w1 (x 19) [(y0 : Int), (x0 : Int), (x0 : Int)] := hx 19 (by decide)
          have e20 : x 20 = .int .i64 u3 := hx 20 (by decide)
          have e21 : x 21 = .bool false := hx 21 (by decide)
          have e22 : x 22 = .bool true := hx 22 (by decide)
          clear hx
          obtain ⟨c0, c1, c2, hB⟩ := hS
          simp only [puts, Act.put, List.setIfInBounds_toArray, List.set_cons_zero, List.set_cons_succ, e0, e1, e2, e3, e4, e5, e6, e8, e9, e10, e11, e12, e14, e15, e16, e17, e18, e20, e21, e22]
          clear e0 e1 e2 e3 e4 e5 e6 e8 e9 e10 e11 e12 e14 e15 e16 e17 e18 e20 e21 e22
          refine NoPanic.normal ?_
          go_wp2
          go_ret
          exact ⟨ret_bool HF.out.symm, hB⟩

end Go.Proofs.Ytclhcnfgpkhplaa
