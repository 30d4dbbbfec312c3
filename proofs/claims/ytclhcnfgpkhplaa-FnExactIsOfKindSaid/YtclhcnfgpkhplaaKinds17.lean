/-
  isCommutative, isSemilattice, isOfKind of the program; IsOfKind and KindsOf.
-/
import Derived.Test.YtclhcnfgpkhplaaKinds16
import Derived.Laws.EntriesVeiled
namespace Go.Proofs.Ytclhcnfgpkhplaa
open Go.RowKit

set_option linter.unusedSimpArgs false in
set_option maxHeartbeats 1000000 in
set_option maxRecDepth 100000 in
theorem isCommutative (s r b q : Nat) (G : Nat → Int) (tab : List Int) (bb : Bool) (w : World) (hT : TabAt w b G) (ho : OpOk s r tab) (hq : tab.length = q) (hG : ∀ i, i < q → G i = intN tab i) (hb : Tells bb (r = 2 ∧ SymP s r tab)) :
    Calls Try.prog 130 #[.agg #[.int .i64 (s : Int), .int .i64 (r : Int), .slice (some ⟨b, 0, none⟩) q q]] w fun e w' => e = .returned (.bool bb) ∧ Below w.heap.size w w' := by
  have HA : Hid (Below w.heap.size w (w.alloc (.cells #[.int .i64 (s : Int), .int .i64 (r : Int), .slice (some ⟨b, 0, none⟩) q q] 105))) := Lib.hid ((Below.refl _ _).alloc (Nat.le_refl _) _)
  have HTB := Lib.hid hT
  have HO := Lib.hid ho
  have HGG := Lib.hid hG
  have HLQ := Lib.hid hq
  have HB := Lib.hid hb
  clear hT ho hG hq hb
  have HBX := Lib.hid (Box.new 105 w #[.int .i64 (s : Int), .int .i64 (r : Int), .slice (some ⟨b, 0, none⟩) q q])
  have c1 := HBX.out.c 1 rfl
  by_cases hr : r = 2
  · have hre : ((r : Int) == 2) = true := by simp; omega
    have HR := Lib.hid hr
    clear hr
    go_enter Try.func130, Try.ntmps130
    go_wp2_with fail
    refine (isSymmetric s r b q G tab bb _ (HTB.out.below HA.out) HO.out HLQ.out HGG.out ⟨fun h => (HB.out.1 h).2, fun h => HB.out.2 ⟨HR.out, h⟩⟩).mono ?_
    rintro e w2 ⟨rfl, hb2⟩
    have HW2 := Lib.hid (HA.out.trans (hb2.mono HA.out.size))
    clear hb2
    go_wp2
    go_ret
    exact ⟨rfl, HW2.out⟩
  · have hre : ((r : Int) == 2) = false := by simp; omega
    have HF := Lib.hid (HB.out.is_false fun h => hr h.1)
    clear hr
    go_enter Try.func130, Try.ntmps130
    go_wp2
    go_ret
    exact ⟨ret_bool HF.out.symm, HA.out⟩

set_option linter.unusedSimpArgs false in
set_option maxHeartbeats 1000000 in
set_option maxRecDepth 100000 in
theorem isSemilattice (s r b q : Nat) (G : Nat → Int) (tab : List Int) (bb : Bool) (w : World) (hT : TabAt w b G) (ho : OpOk s r tab) (hq : tab.length = q) (hG : ∀ i, i < q → G i = intN tab i) (hb : Tells bb (r = 2 ∧ SymP s r tab ∧ IdemP s r tab ∧ AssocP s tab)) :
    Calls Try.prog 131 #[.agg #[.int .i64 (s : Int), .int .i64 (r : Int), .slice (some ⟨b, 0, none⟩) q q]] w fun e w' => e = .returned (.bool bb) ∧ Below w.heap.size w w' := by
  have HA : Hid (Below w.heap.size w (w.alloc (.cells #[.int .i64 (s : Int), .int .i64 (r : Int), .slice (some ⟨b, 0, none⟩) q q] 105))) := Lib.hid ((Below.refl _ _).alloc (Nat.le_refl _) _)
  have HTB := Lib.hid hT
  have HO := Lib.hid ho
  have HGG := Lib.hid hG
  have HLQ := Lib.hid hq
  have HB := Lib.hid hb
  clear hT ho hG hq hb
  have HBX := Lib.hid (Box.new 105 w #[.int .i64 (s : Int), .int .i64 (r : Int), .slice (some ⟨b, 0, none⟩) q q])
  have c0 := HBX.out.c 0 rfl
  have c1 := HBX.out.c 1 rfl
  have c2 := HBX.out.c 2 rfl
  by_cases hc : r = 2 ∧ SymP s r tab
  case neg =>
    have HI := Lib.hid (Tells.no hc)
    have HF := Lib.hid (HB.out.is_false fun h => hc ⟨h.1, h.2.1⟩)
    clear hc
    go_enter Try.func131, Try.ntmps131
    go_wp2_with fail
    refine (isCommutative s r b q G tab false _ (HTB.out.below HA.out) HO.out HLQ.out HGG.out HI.out).mono ?_
    rintro e w2 ⟨rfl, hb2⟩
    have HW2 := Lib.hid (HA.out.trans (hb2.mono HA.out.size))
    clear hb2
    go_wp2
    go_ret
    exact ⟨ret_bool HF.out.symm, HW2.out⟩
  obtain ⟨hr, hs⟩ := hc
  subst hr
  have HS := Lib.hid hs
  clear hs
  by_cases hi : IdemP s 2 tab
  case neg =>
    have HI2 := Lib.hid (Tells.no hi)
    have HF := Lib.hid (HB.out.is_false fun h => hi h.2.2.1)
    clear hi
    go_enter Try.func131, Try.ntmps131
    go_wp2_with fail
    refine (isCommutative s 2 b q G tab true _ (HTB.out.below HA.out) HO.out HLQ.out HGG.out (Tells.yes ⟨rfl, HS.out⟩)).mono ?_
    rintro e w2 ⟨rfl, hb2⟩
    have HW2 := Lib.hid (HA.out.trans (hb2.mono HA.out.size))
    have d0 := below_cell hb2 c0
    have d1 := below_cell hb2 c1
    have d2 := below_cell hb2 c2
    clear hb2 c0 c1 c2
    go_wp2_with fail
    refine (isIdempotent s 2 b q G tab false _ (HTB.out.below HW2.out) HO.out HLQ.out HGG.out HI2.out).mono ?_
    rintro e w3 ⟨rfl, hb3⟩
    have HW3 := Lib.hid (HW2.out.trans (hb3.mono HW2.out.size))
    clear hb3
    go_wp2
    go_ret
    exact ⟨ret_bool HF.out.symm, HW3.out⟩
  have HI2 := Lib.hid (Tells.yes hi)
  have HID := Lib.hid hi
  clear hi
  go_enter Try.func131, Try.ntmps131
  go_wp2_with fail
  refine (isCommutative s 2 b q G tab true _ (HTB.out.below HA.out) HO.out HLQ.out HGG.out (Tells.yes ⟨rfl, HS.out⟩)).mono ?_
  rintro e w2 ⟨rfl, hb2⟩
  have HW2 := Lib.hid (HA.out.trans (hb2.mono HA.out.size))
  have d0 := below_cell hb2 c0
  have d1 := below_cell hb2 c1
  have d2 := below_cell hb2 c2
  clear hb2 c0 c1 c2
  go_wp2_with fail
  refine (isIdempotent s 2 b q G tab true _ (HTB.out.below HW2.out) HO.out HLQ.out HGG.out HI2.out).mono ?_
  rintro e w3 ⟨rfl, hb3⟩
  have HW3 := Lib.hid (HW2.out.trans (hb3.mono HW2.out.size))
  have g0 := below_cell hb3 d0
  have g1 := below_cell hb3 d1
  have g2 := below_cell hb3 d2
  clear hb3 d0 d1 d2
  go_wp2_with fail
  refine (isAssociative s b q G tab bb _ (HTB.out.below HW3.out) HO.out HLQ.out HGG.out ⟨fun h => (HB.out.1 h).2.2.2, fun h => HB.out.2 ⟨by trivial, HS.out, HID.out, h⟩⟩).mono ?_
  rintro e w4 ⟨rfl, hb4⟩
  have HW4 := Lib.hid (HW3.out.trans (hb4.mono HW3.out.size))
  clear hb4
  go_wp2
  go_ret
  exact ⟨rfl, HW4.out⟩

set_option linter.unusedSimpArgs false in
set_option maxHeartbeats 1000000 in
set_option maxRecDepth 100000 in
theorem isOfKind1 (s r b q : Nat) (G : Nat → Int) (tab : List Int) (bb : Bool) (w : World) (hT : TabAt w b G) (ho : OpOk s r tab) (hq : tab.length = q) (hG : ∀ i, i < q → G i = intN tab i) (hb : Tells bb (KindP s r tab 1)) :
    Calls Try.prog 71 #[.agg #[.int .i64 (s : Int), .int .i64 (r : Int), .slice (some ⟨b, 0, none⟩) q q], .int .i64 1] w fun e w' => e = .returned (.bool bb) ∧ Below w.heap.size w w' := by
  have HA : Hid (Below w.heap.size w (w.alloc (.cells #[.int .i64 (s : Int), .int .i64 (r : Int), .slice (some ⟨b, 0, none⟩) q q] 105))) := Lib.hid ((Below.refl _ _).alloc (Nat.le_refl _) _)
  have HTB := Lib.hid hT
  have HO := Lib.hid ho
  have HGG := Lib.hid hG
  have HLQ := Lib.hid hq
  have HB := Lib.hid hb
  clear hT ho hG hq hb
  have HA2 : Hid (Below w.heap.size w ((w.alloc (.cells #[.int .i64 (s : Int), .int .i64 (r : Int), .slice (some ⟨b, 0, none⟩) q q] 105)).alloc (.cells #[.nilFunc, .func (.func 126) #[] #[], .func (.func 127) #[] #[], .func (.func 128) #[] #[], .func (.func 129) #[] #[], .func (.func 130) #[] #[], .func (.func 131) #[] #[], .func (.func 132) #[] #[], .func (.func 133) #[] #[], .func (.func 134) #[] #[], .func (.func 135) #[] #[]] 168))) := Lib.hid (HA.out.alloc (by simp) _)
  have HBX := Lib.hid ((Box.new 105 w #[.int .i64 (s : Int), .int .i64 (r : Int), .slice (some ⟨b, 0, none⟩) q q]).below ((Below.refl _ _).alloc (Nat.le_refl _) (.cells #[.nilFunc, .func (.func 126) #[] #[], .func (.func 127) #[] #[], .func (.func 128) #[] #[], .func (.func 129) #[] #[], .func (.func 130) #[] #[], .func (.func 131) #[] #[], .func (.func 132) #[] #[], .func (.func 133) #[] #[], .func (.func 134) #[] #[], .func (.func 135) #[] #[]] 168)))
  have HAR : Hid (Box 168 ((w.alloc (.cells #[.int .i64 (s : Int), .int .i64 (r : Int), .slice (some ⟨b, 0, none⟩) q q] 105)).alloc (.cells #[.nilFunc, .func (.func 126) #[] #[], .func (.func 127) #[] #[], .func (.func 128) #[] #[], .func (.func 129) #[] #[], .func (.func 130) #[] #[], .func (.func 131) #[] #[], .func (.func 132) #[] #[], .func (.func 133) #[] #[], .func (.func 134) #[] #[], .func (.func 135) #[] #[]] 168)) (w.heap.size + 1) #[.nilFunc, .func (.func 126) #[] #[], .func (.func 127) #[] #[], .func (.func 128) #[] #[], .func (.func 129) #[] #[], .func (.func 130) #[] #[], .func (.func 131) #[] #[], .func (.func 132) #[] #[], .func (.func 133) #[] #[], .func (.func 134) #[] #[], .func (.func 135) #[] #[]]) := Lib.hid (by
    have h := Box.new 168 (w.alloc (.cells #[.int .i64 (s : Int), .int .i64 (r : Int), .slice (some ⟨b, 0, none⟩) q q] 105)) #[.nilFunc, .func (.func 126) #[] #[], .func (.func 127) #[] #[], .func (.func 128) #[] #[], .func (.func 129) #[] #[], .func (.func 130) #[] #[], .func (.func 131) #[] #[], .func (.func 132) #[] #[], .func (.func 133) #[] #[], .func (.func 134) #[] #[], .func (.func 135) #[] #[]]
    rwa [World.size_alloc] at h)
  go_enter Try.func71, Try.ntmps71
  go_wp2
  refine wp_region_noPanic ?_
  refine wp_region_inv (fun w' => w'.cell? ⟨w.heap.size, 0, none⟩ = some (.int .i64 (s : Int)) ∧ w'.cell? ⟨w.heap.size, 1, none⟩ = some (.int .i64 (r : Int)) ∧ w'.cell? ⟨w.heap.size, 2, none⟩ = some (.slice (some ⟨b, 0, none⟩) q q) ∧ w'.cell? ⟨w.heap.size + 1, 1, none⟩ = some (.func (.func 126) #[] #[]) ∧ Below w.heap.size w w') (fun w1 w2 => Below w1.heap.size w1 w2) (fun k vv ww => match k with
    | 0 => vv = .int .i64 1
    | 1 => vv = .pointer (some ⟨w.heap.size + 1, 1, none⟩)
    | 2 => vv = .func (.func 126) #[] #[]
    | 3 => vv = .agg #[.int .i64 (s : Int), .int .i64 (r : Int), .slice (some ⟨b, 0, none⟩) q q]
    | 4 => vv = .bool bb
    | 5 => vv = .bool bb
    | _ => True) [(5, some 4), (4, some 11), (3, some 10), (2, some 9), (1, some 8), (0, some 7)] 6 (by kernel_rfl) rfl (by kernel_rfl) (by kernel_rfl) (by kernel_rfl) ?_ ?_ ?_ ?_
  · intro k v w1 w2 hN h
    match k, h with
    | 0, h => exact h
    | 1, h => exact h
    | 2, h => exact h
    | 3, h => exact h
    | 4, h => exact h
    | 5, h => exact h
    | k + 6, _ => exact trivial
  · exact ⟨HBX.out.c 0 rfl, HBX.out.c 1 rfl, HBX.out.c 2 rfl, HAR.out.c 1 rfl, HA2.out.drew⟩
  · refine ⟨⟨⟨⟨⟨⟨trivial, ?_⟩, ?_⟩, ?_⟩, ?_⟩, ?_⟩, ?_⟩
    · refine StepOk.intro (some 7) rfl rfl (fun x w1 hS hdep K hK => ?_)
      clear hdep
      have hSS := Lib.hid hS
      obtain ⟨c0, c1, c2, c3, hB⟩ := hS
      refine ⟨?_⟩
      simp only [puts, Act.put, List.setIfInBounds_toArray, List.set_cons_zero, List.set_cons_succ]
      go_simp
      exact hK.out _ (.int .i64 1) _ (by simp only [puts, Act.put, List.setIfInBounds_toArray, List.set_cons_zero, List.set_cons_succ]) (Below.refl _ _) (hSS.out) (rfl)
    · refine StepOk.intro (some 8) rfl rfl (fun x w1 hS hdep K hK => ?_)
      have h0 : x 0 = .int .i64 1 := hdep 0 (by kernel_rfl)
      clear hdep
      have hSS := Lib.hid hS
      obtain ⟨c0, c1, c2, c3, hB⟩ := hS
      refine ⟨?_⟩
      simp only [puts, Act.put, List.setIfInBounds_toArray, List.set_cons_zero, List.set_cons_succ, h0]
      go_simp
      exact hK.out _ (.pointer (some ⟨w.heap.size + 1, 1, none⟩)) _ (by simp only [puts, Act.put, List.setIfInBounds_toArray, List.set_cons_zero, List.set_cons_succ, h0]) (Below.refl _ _) (hSS.out) (rfl)
    · refine StepOk.intro (some 9) rfl rfl (fun x w1 hS hdep K hK => ?_)
      have h1 : x 1 = .pointer (some ⟨w.heap.size + 1, 1, none⟩) := hdep 1 (by kernel_rfl)
      clear hdep
      have hSS := Lib.hid hS
      obtain ⟨c0, c1, c2, c3, hB⟩ := hS
      refine ⟨?_⟩
      simp only [puts, Act.put, List.setIfInBounds_toArray, List.set_cons_zero, List.set_cons_succ, h1]
      go_simp
      exact hK.out _ (.func (.func 126) #[] #[]) _ (by simp only [puts, Act.put, List.setIfInBounds_toArray, List.set_cons_zero, List.set_cons_succ, h1]) (Below.refl _ _) (hSS.out) (rfl)
    · refine StepOk.intro (some 10) rfl rfl (fun x w1 hS hdep K hK => ?_)
      clear hdep
      have hSS := Lib.hid hS
      obtain ⟨c0, c1, c2, c3, hB⟩ := hS
      refine ⟨?_⟩
      simp only [puts, Act.put, List.setIfInBounds_toArray, List.set_cons_zero, List.set_cons_succ]
      go_simp
      exact hK.out _ (.agg #[.int .i64 (s : Int), .int .i64 (r : Int), .slice (some ⟨b, 0, none⟩) q q]) _ (by simp only [puts, Act.put, List.setIfInBounds_toArray, List.set_cons_zero, List.set_cons_succ]) (Below.refl _ _) (hSS.out) (rfl)
    · refine StepOk.intro (some 11) rfl rfl (fun x w1 hS hdep K hK => ?_)
      have h2 : x 2 = .func (.func 126) #[] #[] := hdep 2 (by kernel_rfl)
      have h3 : x 3 = .agg #[.int .i64 (s : Int), .int .i64 (r : Int), .slice (some ⟨b, 0, none⟩) q q] := hdep 3 (by kernel_rfl)
      clear hdep
      have hSS := Lib.hid hS
      obtain ⟨c0, c1, c2, c3, hB⟩ := hS
      refine ⟨?_⟩
      simp only [puts, Act.put, List.setIfInBounds_toArray, List.set_cons_zero, List.set_cons_succ, h2, h3]
      go_simp; go_at_call 126; refine (isProjection s r b q G tab bb _ (HTB.out.below hB) HO.out HLQ.out HGG.out HB.out).mono ?_; rintro e w5 ⟨rfl, hb5⟩
      exact hK.out _ (.bool bb) _ (by simp only [puts, Act.put, List.setIfInBounds_toArray, List.set_cons_zero, List.set_cons_succ, h2, h3]) hb5 (⟨below_cell hb5 c0, below_cell hb5 c1, below_cell hb5 c2, below_cell hb5 c3, hB.trans (hb5.mono hB.size)⟩) (rfl)
    · refine StepOk.intro (some 4) rfl rfl (fun x w1 hS hdep K hK => ?_)
      have h0 : x 0 = .int .i64 1 := hdep 0 (by kernel_rfl)
      have h1 : x 1 = .pointer (some ⟨w.heap.size + 1, 1, none⟩) := hdep 1 (by kernel_rfl)
      have h2 : x 2 = .func (.func 126) #[] #[] := hdep 2 (by kernel_rfl)
      have h3 : x 3 = .agg #[.int .i64 (s : Int), .int .i64 (r : Int), .slice (some ⟨b, 0, none⟩) q q] := hdep 3 (by kernel_rfl)
      have h4 : x 4 = .bool bb := hdep 4 (by kernel_rfl)
      clear hdep
      have hSS := Lib.hid hS
      obtain ⟨c0, c1, c2, c3, hB⟩ := hS
      refine ⟨?_⟩
      simp only [puts, Act.put, List.setIfInBounds_toArray, List.set_cons_zero, List.set_cons_succ, h0, h1, h2, h3, h4]
      go_simp
      exact hK.out _ (.bool bb) _ (by simp only [puts, Act.put, List.setIfInBounds_toArray, List.set_cons_zero, List.set_cons_succ, h0, h1, h2, h3, h4]) (Below.refl _ _) (hSS.out) (rfl)
  · intro x w1 hS hx
    have e0 : x 0 = .int .i64 1 := hx 0 (by decide)
    have e1 : x 1 = .pointer (some ⟨w.heap.size + 1, 1, none⟩) := hx 1 (by decide)
    have e2 : x 2 = .func (.func 126) #[] #[] := hx 2 (by decide)
    have e3 : x 3 = .agg #[.int .i64 (s : Int), .int .i64 (r : Int), .slice (some ⟨b, 0, none⟩) q q] := hx 3 (by decide)
    have e4 : x 4 = .bool bb := hx 4 (by decide)
    have e5 : x 5 = .bool bb := hx 5 (by decide)
    clear hx
    obtain ⟨c0, c1, c2, c3, hB⟩ := hS
    simp only [puts, Act.put, List.setIfInBounds_toArray, List.set_cons_zero, List.set_cons_succ, e0, e1, e2, e3, e4, e5]
    clear e0 e1 e2 e3 e4 e5
    refine NoPanic.normal ?_
    go_wp2
    go_ret
    exact ⟨rfl, hB⟩

set_option linter.unusedSimpArgs false in
set_option maxHeartbeats 1000000 in
set_option maxRecDepth 100000 in
theorem isOfKind2 (s r b q : Nat) (G : Nat → Int) (tab : List Int) (bb : Bool) (w : World) (hT : TabAt w b G) (ho : OpOk s r tab) (hq : tab.length = q) (hG : ∀ i, i < q → G i = intN tab i) (hb : Tells bb (KindP s r tab 2)) :
    Calls Try.prog 71 #[.agg #[.int .i64 (s : Int), .int .i64 (r : Int), .slice (some ⟨b, 0, none⟩) q q], .int .i64 2] w fun e w' => e = .returned (.bool bb) ∧ Below w.heap.size w w' := by
  have HA : Hid (Below w.heap.size w (w.alloc (.cells #[.int .i64 (s : Int), .int .i64 (r : Int), .slice (some ⟨b, 0, none⟩) q q] 105))) := Lib.hid ((Below.refl _ _).alloc (Nat.le_refl _) _)
  have HTB := Lib.hid hT
  have HO := Lib.hid ho
  have HGG := Lib.hid hG
  have HLQ := Lib.hid hq
  have HB := Lib.hid hb
  clear hT ho hG hq hb
  have HA2 : Hid (Below w.heap.size w ((w.alloc (.cells #[.int .i64 (s : Int), .int .i64 (r : Int), .slice (some ⟨b, 0, none⟩) q q] 105)).alloc (.cells #[.nilFunc, .func (.func 126) #[] #[], .func (.func 127) #[] #[], .func (.func 128) #[] #[], .func (.func 129) #[] #[], .func (.func 130) #[] #[], .func (.func 131) #[] #[], .func (.func 132) #[] #[], .func (.func 133) #[] #[], .func (.func 134) #[] #[], .func (.func 135) #[] #[]] 168))) := Lib.hid (HA.out.alloc (by simp) _)
  have HBX := Lib.hid ((Box.new 105 w #[.int .i64 (s : Int), .int .i64 (r : Int), .slice (some ⟨b, 0, none⟩) q q]).below ((Below.refl _ _).alloc (Nat.le_refl _) (.cells #[.nilFunc, .func (.func 126) #[] #[], .func (.func 127) #[] #[], .func (.func 128) #[] #[], .func (.func 129) #[] #[], .func (.func 130) #[] #[], .func (.func 131) #[] #[], .func (.func 132) #[] #[], .func (.func 133) #[] #[], .func (.func 134) #[] #[], .func (.func 135) #[] #[]] 168)))
  have HAR : Hid (Box 168 ((w.alloc (.cells #[.int .i64 (s : Int), .int .i64 (r : Int), .slice (some ⟨b, 0, none⟩) q q] 105)).alloc (.cells #[.nilFunc, .func (.func 126) #[] #[], .func (.func 127) #[] #[], .func (.func 128) #[] #[], .func (.func 129) #[] #[], .func (.func 130) #[] #[], .func (.func 131) #[] #[], .func (.func 132) #[] #[], .func (.func 133) #[] #[], .func (.func 134) #[] #[], .func (.func 135) #[] #[]] 168)) (w.heap.size + 1) #[.nilFunc, .func (.func 126) #[] #[], .func (.func 127) #[] #[], .func (.func 128) #[] #[], .func (.func 129) #[] #[], .func (.func 130) #[] #[], .func (.func 131) #[] #[], .func (.func 132) #[] #[], .func (.func 133) #[] #[], .func (.func 134) #[] #[], .func (.func 135) #[] #[]]) := Lib.hid (by
    have h := Box.new 168 (w.alloc (.cells #[.int .i64 (s : Int), .int .i64 (r : Int), .slice (some ⟨b, 0, none⟩) q q] 105)) #[.nilFunc, .func (.func 126) #[] #[], .func (.func 127) #[] #[], .func (.func 128) #[] #[], .func (.func 129) #[] #[], .func (.func 130) #[] #[], .func (.func 131) #[] #[], .func (.func 132) #[] #[], .func (.func 133) #[] #[], .func (.func 134) #[] #[], .func (.func 135) #[] #[]]
    rwa [World.size_alloc] at h)
  go_enter Try.func71, Try.ntmps71
  go_wp2
  refine wp_region_noPanic ?_
  refine wp_region_inv (fun w' => w'.cell? ⟨w.heap.size, 0, none⟩ = some (.int .i64 (s : Int)) ∧ w'.cell? ⟨w.heap.size, 1, none⟩ = some (.int .i64 (r : Int)) ∧ w'.cell? ⟨w.heap.size, 2, none⟩ = some (.slice (some ⟨b, 0, none⟩) q q) ∧ w'.cell? ⟨w.heap.size + 1, 2, none⟩ = some (.func (.func 127) #[] #[]) ∧ Below w.heap.size w w') (fun w1 w2 => Below w1.heap.size w1 w2) (fun k vv ww => match k with
    | 0 => vv = .int .i64 2
    | 1 => vv = .pointer (some ⟨w.heap.size + 1, 2, none⟩)
    | 2 => vv = .func (.func 127) #[] #[]
    | 3 => vv = .agg #[.int .i64 (s : Int), .int .i64 (r : Int), .slice (some ⟨b, 0, none⟩) q q]
    | 4 => vv = .bool bb
    | 5 => vv = .bool bb
    | _ => True) [(5, some 4), (4, some 11), (3, some 10), (2, some 9), (1, some 8), (0, some 7)] 6 (by kernel_rfl) rfl (by kernel_rfl) (by kernel_rfl) (by kernel_rfl) ?_ ?_ ?_ ?_
  · intro k v w1 w2 hN h
    match k, h with
    | 0, h => exact h
    | 1, h => exact h
    | 2, h => exact h
    | 3, h => exact h
    | 4, h => exact h
    | 5, h => exact h
    | k + 6, _ => exact trivial
  · exact ⟨HBX.out.c 0 rfl, HBX.out.c 1 rfl, HBX.out.c 2 rfl, HAR.out.c 2 rfl, HA2.out.drew⟩
  · refine ⟨⟨⟨⟨⟨⟨trivial, ?_⟩, ?_⟩, ?_⟩, ?_⟩, ?_⟩, ?_⟩
    · refine StepOk.intro (some 7) rfl rfl (fun x w1 hS hdep K hK => ?_)
      clear hdep
      have hSS := Lib.hid hS
      obtain ⟨c0, c1, c2, c3, hB⟩ := hS
      refine ⟨?_⟩
      simp only [puts, Act.put, List.setIfInBounds_toArray, List.set_cons_zero, List.set_cons_succ]
      go_simp
      exact hK.out _ (.int .i64 2) _ (by simp only [puts, Act.put, List.setIfInBounds_toArray, List.set_cons_zero, List.set_cons_succ]) (Below.refl _ _) (hSS.out) (rfl)
    · refine StepOk.intro (some 8) rfl rfl (fun x w1 hS hdep K hK => ?_)
      have h0 : x 0 = .int .i64 2 := hdep 0 (by kernel_rfl)
      clear hdep
      have hSS := Lib.hid hS
      obtain ⟨c0, c1, c2, c3, hB⟩ := hS
      refine ⟨?_⟩
      simp only [puts, Act.put, List.setIfInBounds_toArray, List.set_cons_zero, List.set_cons_succ, h0]
      go_simp
      exact hK.out _ (.pointer (some ⟨w.heap.size + 1, 2, none⟩)) _ (by simp only [puts, Act.put, List.setIfInBounds_toArray, List.set_cons_zero, List.set_cons_succ, h0]) (Below.refl _ _) (hSS.out) (rfl)
    · refine StepOk.intro (some 9) rfl rfl (fun x w1 hS hdep K hK => ?_)
      have h1 : x 1 = .pointer (some ⟨w.heap.size + 1, 2, none⟩) := hdep 1 (by kernel_rfl)
      clear hdep
      have hSS := Lib.hid hS
      obtain ⟨c0, c1, c2, c3, hB⟩ := hS
      refine ⟨?_⟩
      simp only [puts, Act.put, List.setIfInBounds_toArray, List.set_cons_zero, List.set_cons_succ, h1]
      go_simp
      exact hK.out _ (.func (.func 127) #[] #[]) _ (by simp only [puts, Act.put, List.setIfInBounds_toArray, List.set_cons_zero, List.set_cons_succ, h1]) (Below.refl _ _) (hSS.out) (rfl)
    · refine StepOk.intro (some 10) rfl rfl (fun x w1 hS hdep K hK => ?_)
      clear hdep
      have hSS := Lib.hid hS
      obtain ⟨c0, c1, c2, c3, hB⟩ := hS
      refine ⟨?_⟩
      simp only [puts, Act.put, List.setIfInBounds_toArray, List.set_cons_zero, List.set_cons_succ]
      go_simp
      exact hK.out _ (.agg #[.int .i64 (s : Int), .int .i64 (r : Int), .slice (some ⟨b, 0, none⟩) q q]) _ (by simp only [puts, Act.put, List.setIfInBounds_toArray, List.set_cons_zero, List.set_cons_succ]) (Below.refl _ _) (hSS.out) (rfl)
    · refine StepOk.intro (some 11) rfl rfl (fun x w1 hS hdep K hK => ?_)
      have h2 : x 2 = .func (.func 127) #[] #[] := hdep 2 (by kernel_rfl)
      have h3 : x 3 = .agg #[.int .i64 (s : Int), .int .i64 (r : Int), .slice (some ⟨b, 0, none⟩) q q] := hdep 3 (by kernel_rfl)
      clear hdep
      have hSS := Lib.hid hS
      obtain ⟨c0, c1, c2, c3, hB⟩ := hS
      refine ⟨?_⟩
      simp only [puts, Act.put, List.setIfInBounds_toArray, List.set_cons_zero, List.set_cons_succ, h2, h3]
      go_simp; go_at_call 127; refine (isConstant s r b q G tab bb _ (HTB.out.below hB) HO.out HLQ.out HGG.out HB.out).mono ?_; rintro e w5 ⟨rfl, hb5⟩
      exact hK.out _ (.bool bb) _ (by simp only [puts, Act.put, List.setIfInBounds_toArray, List.set_cons_zero, List.set_cons_succ, h2, h3]) hb5 (⟨below_cell hb5 c0, below_cell hb5 c1, below_cell hb5 c2, below_cell hb5 c3, hB.trans (hb5.mono hB.size)⟩) (rfl)
    · refine StepOk.intro (some 4) rfl rfl (fun x w1 hS hdep K hK => ?_)
      have h0 : x 0 = .int .i64 2 := hdep 0 (by kernel_rfl)
      have h1 : x 1 = .pointer (some ⟨w.heap.size + 1, 2, none⟩) := hdep 1 (by kernel_rfl)
      have h2 : x 2 = .func (.func 127) #[] #[] := hdep 2 (by kernel_rfl)
      have h3 : x 3 = .agg #[.int .i64 (s : Int), .int .i64 (r : Int), .slice (some ⟨b, 0, none⟩) q q] := hdep 3 (by kernel_rfl)
      have h4 : x 4 = .bool bb := hdep 4 (by kernel_rfl)
      clear hdep
      have hSS := Lib.hid hS
      obtain ⟨c0, c1, c2, c3, hB⟩ := hS
      refine ⟨?_⟩
      simp only [puts, Act.put, List.setIfInBounds_toArray, List.set_cons_zero, List.set_cons_succ, h0, h1, h2, h3, h4]
      go_simp
      exact hK.out _ (.bool bb) _ (by simp only [puts, Act.put, List.setIfInBounds_toArray, List.set_cons_zero, List.set_cons_succ, h0, h1, h2, h3, h4]) (Below.refl _ _) (hSS.out) (rfl)
  · intro x w1 hS hx
    have e0 : x 0 = .int .i64 2 := hx 0 (by decide)
    have e1 : x 1 = .pointer (some ⟨w.heap.size + 1, 2, none⟩) := hx 1 (by decide)
    have e2 : x 2 = .func (.func 127) #[] #[] := hx 2 (by decide)
    have e3 : x 3 = .agg #[.int .i64 (s : Int), .int .i64 (r : Int), .slice (some ⟨b, 0, none⟩) q q] := hx 3 (by decide)
    have e4 : x 4 = .bool bb := hx 4 (by decide)
    have e5 : x 5 = .bool bb := hx 5 (by decide)
    clear hx
    obtain ⟨c0, c1, c2, c3, hB⟩ := hS
    simp only [puts, Act.put, List.setIfInBounds_toArray, List.set_cons_zero, List.set_cons_succ, e0, e1, e2, e3, e4, e5]
    clear e0 e1 e2 e3 e4 e5
    refine NoPanic.normal ?_
    go_wp2
    go_ret
    exact ⟨rfl, hB⟩

set_option linter.unusedSimpArgs false in
set_option maxHeartbeats 1000000 in
set_option maxRecDepth 100000 in
theorem isOfKind3 (s r b q : Nat) (G : Nat → Int) (tab : List Int) (bb : Bool) (w : World) (hT : TabAt w b G) (ho : OpOk s r tab) (hq : tab.length = q) (hG : ∀ i, i < q → G i = intN tab i) (hb : Tells bb (KindP s r tab 3)) :
    Calls Try.prog 71 #[.agg #[.int .i64 (s : Int), .int .i64 (r : Int), .slice (some ⟨b, 0, none⟩) q q], .int .i64 3] w fun e w' => e = .returned (.bool bb) ∧ Below w.heap.size w w' := by
  have HA : Hid (Below w.heap.size w (w.alloc (.cells #[.int .i64 (s : Int), .int .i64 (r : Int), .slice (some ⟨b, 0, none⟩) q q] 105))) := Lib.hid ((Below.refl _ _).alloc (Nat.le_refl _) _)
  have HTB := Lib.hid hT
  have HO := Lib.hid ho
  have HGG := Lib.hid hG
  have HLQ := Lib.hid hq
  have HB := Lib.hid hb
  clear hT ho hG hq hb
  have HA2 : Hid (Below w.heap.size w ((w.alloc (.cells #[.int .i64 (s : Int), .int .i64 (r : Int), .slice (some ⟨b, 0, none⟩) q q] 105)).alloc (.cells #[.nilFunc, .func (.func 126) #[] #[], .func (.func 127) #[] #[], .func (.func 128) #[] #[], .func (.func 129) #[] #[], .func (.func 130) #[] #[], .func (.func 131) #[] #[], .func (.func 132) #[] #[], .func (.func 133) #[] #[], .func (.func 134) #[] #[], .func (.func 135) #[] #[]] 168))) := Lib.hid (HA.out.alloc (by simp) _)
  have HBX := Lib.hid ((Box.new 105 w #[.int .i64 (s : Int), .int .i64 (r : Int), .slice (some ⟨b, 0, none⟩) q q]).below ((Below.refl _ _).alloc (Nat.le_refl _) (.cells #[.nilFunc, .func (.func 126) #[] #[], .func (.func 127) #[] #[], .func (.func 128) #[] #[], .func (.func 129) #[] #[], .func (.func 130) #[] #[], .func (.func 131) #[] #[], .func (.func 132) #[] #[], .func (.func 133) #[] #[], .func (.func 134) #[] #[], .func (.func 135) #[] #[]] 168)))
  have HAR : Hid (Box 168 ((w.alloc (.cells #[.int .i64 (s : Int), .int .i64 (r : Int), .slice (some ⟨b, 0, none⟩) q q] 105)).alloc (.cells #[.nilFunc, .func (.func 126) #[] #[], .func (.func 127) #[] #[], .func (.func 128) #[] #[], .func (.func 129) #[] #[], .func (.func 130) #[] #[], .func (.func 131) #[] #[], .func (.func 132) #[] #[], .func (.func 133) #[] #[], .func (.func 134) #[] #[], .func (.func 135) #[] #[]] 168)) (w.heap.size + 1) #[.nilFunc, .func (.func 126) #[] #[], .func (.func 127) #[] #[], .func (.func 128) #[] #[], .func (.func 129) #[] #[], .func (.func 130) #[] #[], .func (.func 131) #[] #[], .func (.func 132) #[] #[], .func (.func 133) #[] #[], .func (.func 134) #[] #[], .func (.func 135) #[] #[]]) := Lib.hid (by
    have h := Box.new 168 (w.alloc (.cells #[.int .i64 (s : Int), .int .i64 (r : Int), .slice (some ⟨b, 0, none⟩) q q] 105)) #[.nilFunc, .func (.func 126) #[] #[], .func (.func 127) #[] #[], .func (.func 128) #[] #[], .func (.func 129) #[] #[], .func (.func 130) #[] #[], .func (.func 131) #[] #[], .func (.func 132) #[] #[], .func (.func 133) #[] #[], .func (.func 134) #[] #[], .func (.func 135) #[] #[]]
    rwa [World.size_alloc] at h)
  go_enter Try.func71, Try.ntmps71
  go_wp2
  refine wp_region_noPanic ?_
  refine wp_region_inv (fun w' => w'.cell? ⟨w.heap.size, 0, none⟩ = some (.int .i64 (s : Int)) ∧ w'.cell? ⟨w.heap.size, 1, none⟩ = some (.int .i64 (r : Int)) ∧ w'.cell? ⟨w.heap.size, 2, none⟩ = some (.slice (some ⟨b, 0, none⟩) q q) ∧ w'.cell? ⟨w.heap.size + 1, 3, none⟩ = some (.func (.func 128) #[] #[]) ∧ Below w.heap.size w w') (fun w1 w2 => Below w1.heap.size w1 w2) (fun k vv ww => match k with
    | 0 => vv = .int .i64 3
    | 1 => vv = .pointer (some ⟨w.heap.size + 1, 3, none⟩)
    | 2 => vv = .func (.func 128) #[] #[]
    | 3 => vv = .agg #[.int .i64 (s : Int), .int .i64 (r : Int), .slice (some ⟨b, 0, none⟩) q q]
    | 4 => vv = .bool bb
    | 5 => vv = .bool bb
    | _ => True) [(5, some 4), (4, some 11), (3, some 10), (2, some 9), (1, some 8), (0, some 7)] 6 (by kernel_rfl) rfl (by kernel_rfl) (by kernel_rfl) (by kernel_rfl) ?_ ?_ ?_ ?_
  · intro k v w1 w2 hN h
    match k, h with
    | 0, h => exact h
    | 1, h => exact h
    | 2, h => exact h
    | 3, h => exact h
    | 4, h => exact h
    | 5, h => exact h
    | k + 6, _ => exact trivial
  · exact ⟨HBX.out.c 0 rfl, HBX.out.c 1 rfl, HBX.out.c 2 rfl, HAR.out.c 3 rfl, HA2.out.drew⟩
  · refine ⟨⟨⟨⟨⟨⟨trivial, ?_⟩, ?_⟩, ?_⟩, ?_⟩, ?_⟩, ?_⟩
    · refine StepOk.intro (some 7) rfl rfl (fun x w1 hS hdep K hK => ?_)
      clear hdep
      have hSS := Lib.hid hS
      obtain ⟨c0, c1, c2, c3, hB⟩ := hS
      refine ⟨?_⟩
      simp only [puts, Act.put, List.setIfInBounds_toArray, List.set_cons_zero, List.set_cons_succ]
      go_simp
      exact hK.out _ (.int .i64 3) _ (by simp only [puts, Act.put, List.setIfInBounds_toArray, List.set_cons_zero, List.set_cons_succ]) (Below.refl _ _) (hSS.out) (rfl)
    · refine StepOk.intro (some 8) rfl rfl (fun x w1 hS hdep K hK => ?_)
      have h0 : x 0 = .int .i64 3 := hdep 0 (by kernel_rfl)
      clear hdep
      have hSS := Lib.hid hS
      obtain ⟨c0, c1, c2, c3, hB⟩ := hS
      refine ⟨?_⟩
      simp only [puts, Act.put, List.setIfInBounds_toArray, List.set_cons_zero, List.set_cons_succ, h0]
      go_simp
      exact hK.out _ (.pointer (some ⟨w.heap.size + 1, 3, none⟩)) _ (by simp only [puts, Act.put, List.setIfInBounds_toArray, List.set_cons_zero, List.set_cons_succ, h0]) (Below.refl _ _) (hSS.out) (rfl)
    · refine StepOk.intro (some 9) rfl rfl (fun x w1 hS hdep K hK => ?_)
      have h1 : x 1 = .pointer (some ⟨w.heap.size + 1, 3, none⟩) := hdep 1 (by kernel_rfl)
      clear hdep
      have hSS := Lib.hid hS
      obtain ⟨c0, c1, c2, c3, hB⟩ := hS
      refine ⟨?_⟩
      simp only [puts, Act.put, List.setIfInBounds_toArray, List.set_cons_zero, List.set_cons_succ, h1]
      go_simp
      exact hK.out _ (.func (.func 128) #[] #[]) _ (by simp only [puts, Act.put, List.setIfInBounds_toArray, List.set_cons_zero, List.set_cons_succ, h1]) (Below.refl _ _) (hSS.out) (rfl)
    · refine StepOk.intro (some 10) rfl rfl (fun x w1 hS hdep K hK => ?_)
      clear hdep
      have hSS := Lib.hid hS
      obtain ⟨c0, c1, c2, c3, hB⟩ := hS
      refine ⟨?_⟩
      simp only [puts, Act.put, List.setIfInBounds_toArray, List.set_cons_zero, List.set_cons_succ]
      go_simp
      exact hK.out _ (.agg #[.int .i64 (s : Int), .int .i64 (r : Int), .slice (some ⟨b, 0, none⟩) q q]) _ (by simp only [puts, Act.put, List.setIfInBounds_toArray, List.set_cons_zero, List.set_cons_succ]) (Below.refl _ _) (hSS.out) (rfl)
    · refine StepOk.intro (some 11) rfl rfl (fun x w1 hS hdep K hK => ?_)
      have h2 : x 2 = .func (.func 128) #[] #[] := hdep 2 (by kernel_rfl)
      have h3 : x 3 = .agg #[.int .i64 (s : Int), .int .i64 (r : Int), .slice (some ⟨b, 0, none⟩) q q] := hdep 3 (by kernel_rfl)
      clear hdep
      have hSS := Lib.hid hS
      obtain ⟨c0, c1, c2, c3, hB⟩ := hS
      refine ⟨?_⟩
      simp only [puts, Act.put, List.setIfInBounds_toArray, List.set_cons_zero, List.set_cons_succ, h2, h3]
      go_simp; go_at_call 128; refine (isIdempotent s r b q G tab bb _ (HTB.out.below hB) HO.out HLQ.out HGG.out HB.out).mono ?_; rintro e w5 ⟨rfl, hb5⟩
      exact hK.out _ (.bool bb) _ (by simp only [puts, Act.put, List.setIfInBounds_toArray, List.set_cons_zero, List.set_cons_succ, h2, h3]) hb5 (⟨below_cell hb5 c0, below_cell hb5 c1, below_cell hb5 c2, below_cell hb5 c3, hB.trans (hb5.mono hB.size)⟩) (rfl)
    · refine StepOk.intro (some 4) rfl rfl (fun x w1 hS hdep K hK => ?_)
      have h0 : x 0 = .int .i64 3 := hdep 0 (by kernel_rfl)
      have h1 : x 1 = .pointer (some ⟨w.heap.size + 1, 3, none⟩) := hdep 1 (by kernel_rfl)
      have h2 : x 2 = .func (.func 128) #[] #[] := hdep 2 (by kernel_rfl)
      have h3 : x 3 = .agg #[.int .i64 (s : Int), .int .i64 (r : Int), .slice (some ⟨b, 0, none⟩) q q] := hdep 3 (by kernel_rfl)
      have h4 : x 4 = .bool bb := hdep 4 (by kernel_rfl)
      clear hdep
      have hSS := Lib.hid hS
      obtain ⟨c0, c1, c2, c3, hB⟩ := hS
      refine ⟨?_⟩
      simp only [puts, Act.put, List.setIfInBounds_toArray, List.set_cons_zero, List.set_cons_succ, h0, h1, h2, h3, h4]
      go_simp
      exact hK.out _ (.bool bb) _ (by simp only [puts, Act.put, List.setIfInBounds_toArray, List.set_cons_zero, List.set_cons_succ, h0, h1, h2, h3, h4]) (Below.refl _ _) (hSS.out) (rfl)
  · intro x w1 hS hx
    have e0 : x 0 = .int .i64 3 := hx 0 (by decide)
    have e1 : x 1 = .pointer (some ⟨w.heap.size + 1, 3, none⟩) := hx 1 (by decide)
    have e2 : x 2 = .func (.func 128) #[] #[] := hx 2 (by decide)
    have e3 : x 3 = .agg #[.int .i64 (s : Int), .int .i64 (r : Int), .slice (some ⟨b, 0, none⟩) q q] := hx 3 (by decide)
    have e4 : x 4 = .bool bb := hx 4 (by decide)
    have e5 : x 5 = .bool bb := hx 5 (by decide)
    clear hx
    obtain ⟨c0, c1, c2, c3, hB⟩ := hS
    simp only [puts, Act.put, List.setIfInBounds_toArray, List.set_cons_zero, List.set_cons_succ, e0, e1, e2, e3, e4, e5]
    clear e0 e1 e2 e3 e4 e5
    refine NoPanic.normal ?_
    go_wp2
    go_ret
    exact ⟨rfl, hB⟩

set_option linter.unusedSimpArgs false in
set_option maxHeartbeats 1000000 in
set_option maxRecDepth 100000 in
theorem isOfKind4 (s r b q : Nat) (G : Nat → Int) (tab : List Int) (bb : Bool) (w : World) (hT : TabAt w b G) (ho : OpOk s r tab) (hq : tab.length = q) (hG : ∀ i, i < q → G i = intN tab i) (hb : Tells bb (KindP s r tab 4)) :
    Calls Try.prog 71 #[.agg #[.int .i64 (s : Int), .int .i64 (r : Int), .slice (some ⟨b, 0, none⟩) q q], .int .i64 4] w fun e w' => e = .returned (.bool bb) ∧ Below w.heap.size w w' := by
  have HA : Hid (Below w.heap.size w (w.alloc (.cells #[.int .i64 (s : Int), .int .i64 (r : Int), .slice (some ⟨b, 0, none⟩) q q] 105))) := Lib.hid ((Below.refl _ _).alloc (Nat.le_refl _) _)
  have HTB := Lib.hid hT
  have HO := Lib.hid ho
  have HGG := Lib.hid hG
  have HLQ := Lib.hid hq
  have HB := Lib.hid hb
  clear hT ho hG hq hb
  have HA2 : Hid (Below w.heap.size w ((w.alloc (.cells #[.int .i64 (s : Int), .int .i64 (r : Int), .slice (some ⟨b, 0, none⟩) q q] 105)).alloc (.cells #[.nilFunc, .func (.func 126) #[] #[], .func (.func 127) #[] #[], .func (.func 128) #[] #[], .func (.func 129) #[] #[], .func (.func 130) #[] #[], .func (.func 131) #[] #[], .func (.func 132) #[] #[], .func (.func 133) #[] #[], .func (.func 134) #[] #[], .func (.func 135) #[] #[]] 168))) := Lib.hid (HA.out.alloc (by simp) _)
  have HBX := Lib.hid ((Box.new 105 w #[.int .i64 (s : Int), .int .i64 (r : Int), .slice (some ⟨b, 0, none⟩) q q]).below ((Below.refl _ _).alloc (Nat.le_refl _) (.cells #[.nilFunc, .func (.func 126) #[] #[], .func (.func 127) #[] #[], .func (.func 128) #[] #[], .func (.func 129) #[] #[], .func (.func 130) #[] #[], .func (.func 131) #[] #[], .func (.func 132) #[] #[], .func (.func 133) #[] #[], .func (.func 134) #[] #[], .func (.func 135) #[] #[]] 168)))
  have HAR : Hid (Box 168 ((w.alloc (.cells #[.int .i64 (s : Int), .int .i64 (r : Int), .slice (some ⟨b, 0, none⟩) q q] 105)).alloc (.cells #[.nilFunc, .func (.func 126) #[] #[], .func (.func 127) #[] #[], .func (.func 128) #[] #[], .func (.func 129) #[] #[], .func (.func 130) #[] #[], .func (.func 131) #[] #[], .func (.func 132) #[] #[], .func (.func 133) #[] #[], .func (.func 134) #[] #[], .func (.func 135) #[] #[]] 168)) (w.heap.size + 1) #[.nilFunc, .func (.func 126) #[] #[], .func (.func 127) #[] #[], .func (.func 128) #[] #[], .func (.func 129) #[] #[], .func (.func 130) #[] #[], .func (.func 131) #[] #[], .func (.func 132) #[] #[], .func (.func 133) #[] #[], .func (.func 134) #[] #[], .func (.func 135) #[] #[]]) := Lib.hid (by
    have h := Box.new 168 (w.alloc (.cells #[.int .i64 (s : Int), .int .i64 (r : Int), .slice (some ⟨b, 0, none⟩) q q] 105)) #[.nilFunc, .func (.func 126) #[] #[], .func (.func 127) #[] #[], .func (.func 128) #[] #[], .func (.func 129) #[] #[], .func (.func 130) #[] #[], .func (.func 131) #[] #[], .func (.func 132) #[] #[], .func (.func 133) #[] #[], .func (.func 134) #[] #[], .func (.func 135) #[] #[]]
    rwa [World.size_alloc] at h)
  go_enter Try.func71, Try.ntmps71
  go_wp2
  refine wp_region_noPanic ?_
  refine wp_region_inv (fun w' => w'.cell? ⟨w.heap.size, 0, none⟩ = some (.int .i64 (s : Int)) ∧ w'.cell? ⟨w.heap.size, 1, none⟩ = some (.int .i64 (r : Int)) ∧ w'.cell? ⟨w.heap.size, 2, none⟩ = some (.slice (some ⟨b, 0, none⟩) q q) ∧ w'.cell? ⟨w.heap.size + 1, 4, none⟩ = some (.func (.func 129) #[] #[]) ∧ Below w.heap.size w w') (fun w1 w2 => Below w1.heap.size w1 w2) (fun k vv ww => match k with
    | 0 => vv = .int .i64 4
    | 1 => vv = .pointer (some ⟨w.heap.size + 1, 4, none⟩)
    | 2 => vv = .func (.func 129) #[] #[]
    | 3 => vv = .agg #[.int .i64 (s : Int), .int .i64 (r : Int), .slice (some ⟨b, 0, none⟩) q q]
    | 4 => vv = .bool bb
    | 5 => vv = .bool bb
    | _ => True) [(5, some 4), (4, some 11), (3, some 10), (2, some 9), (1, some 8), (0, some 7)] 6 (by kernel_rfl) rfl (by kernel_rfl) (by kernel_rfl) (by kernel_rfl) ?_ ?_ ?_ ?_
  · intro k v w1 w2 hN h
    match k, h with
    | 0, h => exact h
    | 1, h => exact h
    | 2, h => exact h
    | 3, h => exact h
    | 4, h => exact h
    | 5, h => exact h
    | k + 6, _ => exact trivial
  · exact ⟨HBX.out.c 0 rfl, HBX.out.c 1 rfl, HBX.out.c 2 rfl, HAR.out.c 4 rfl, HA2.out.drew⟩
  · refine ⟨⟨⟨⟨⟨⟨trivial, ?_⟩, ?_⟩, ?_⟩, ?_⟩, ?_⟩, ?_⟩
    · refine StepOk.intro (some 7) rfl rfl (fun x w1 hS hdep K hK => ?_)
      clear hdep
      have hSS := Lib.hid hS
      obtain ⟨c0, c1, c2, c3, hB⟩ := hS
      refine ⟨?_⟩
      simp only [puts, Act.put, List.setIfInBounds_toArray, List.set_cons_zero, List.set_cons_succ]
      go_simp
      exact hK.out _ (.int .i64 4) _ (by simp only [puts, Act.put, List.setIfInBounds_toArray, List.set_cons_zero, List.set_cons_succ]) (Below.refl _ _) (hSS.out) (rfl)
    · refine StepOk.intro (some 8) rfl rfl (fun x w1 hS hdep K hK => ?_)
      have h0 : x 0 = .int .i64 4 := hdep 0 (by kernel_rfl)
      clear hdep
      have hSS := Lib.hid hS
      obtain ⟨c0, c1, c2, c3, hB⟩ := hS
      refine ⟨?_⟩
      simp only [puts, Act.put, List.setIfInBounds_toArray, List.set_cons_zero, List.set_cons_succ, h0]
      go_simp
      exact hK.out _ (.pointer (some ⟨w.heap.size + 1, 4, none⟩)) _ (by simp only [puts, Act.put, List.setIfInBounds_toArray, List.set_cons_zero, List.set_cons_succ, h0]) (Below.refl _ _) (hSS.out) (rfl)
    · refine StepOk.intro (some 9) rfl rfl (fun x w1 hS hdep K hK => ?_)
      have h1 : x 1 = .pointer (some ⟨w.heap.size + 1, 4, none⟩) := hdep 1 (by kernel_rfl)
      clear hdep
      have hSS := Lib.hid hS
      obtain ⟨c0, c1, c2, c3, hB⟩ := hS
      refine ⟨?_⟩
      simp only [puts, Act.put, List.setIfInBounds_toArray, List.set_cons_zero, List.set_cons_succ, h1]
      go_simp
      exact hK.out _ (.func (.func 129) #[] #[]) _ (by simp only [puts, Act.put, List.setIfInBounds_toArray, List.set_cons_zero, List.set_cons_succ, h1]) (Below.refl _ _) (hSS.out) (rfl)
    · refine StepOk.intro (some 10) rfl rfl (fun x w1 hS hdep K hK => ?_)
      clear hdep
      have hSS := Lib.hid hS
      obtain ⟨c0, c1, c2, c3, hB⟩ := hS
      refine ⟨?_⟩
      simp only [puts, Act.put, List.setIfInBounds_toArray, List.set_cons_zero, List.set_cons_succ]
      go_simp
      exact hK.out _ (.agg #[.int .i64 (s : Int), .int .i64 (r : Int), .slice (some ⟨b, 0, none⟩) q q]) _ (by simp only [puts, Act.put, List.setIfInBounds_toArray, List.set_cons_zero, List.set_cons_succ]) (Below.refl _ _) (hSS.out) (rfl)
    · refine StepOk.intro (some 11) rfl rfl (fun x w1 hS hdep K hK => ?_)
      have h2 : x 2 = .func (.func 129) #[] #[] := hdep 2 (by kernel_rfl)
      have h3 : x 3 = .agg #[.int .i64 (s : Int), .int .i64 (r : Int), .slice (some ⟨b, 0, none⟩) q q] := hdep 3 (by kernel_rfl)
      clear hdep
      have hSS := Lib.hid hS
      obtain ⟨c0, c1, c2, c3, hB⟩ := hS
      refine ⟨?_⟩
      simp only [puts, Act.put, List.setIfInBounds_toArray, List.set_cons_zero, List.set_cons_succ, h2, h3]
      go_simp; go_at_call 129; refine (isConservative s r b q G tab bb _ (HTB.out.below hB) HO.out HLQ.out HGG.out HB.out).mono ?_; rintro e w5 ⟨rfl, hb5⟩
      exact hK.out _ (.bool bb) _ (by simp only [puts, Act.put, List.setIfInBounds_toArray, List.set_cons_zero, List.set_cons_succ, h2, h3]) hb5 (⟨below_cell hb5 c0, below_cell hb5 c1, below_cell hb5 c2, below_cell hb5 c3, hB.trans (hb5.mono hB.size)⟩) (rfl)
    · refine StepOk.intro (some 4) rfl rfl (fun x w1 hS hdep K hK => ?_)
      have h0 : x 0 = .int .i64 4 := hdep 0 (by kernel_rfl)
      have h1 : x 1 = .pointer (some ⟨w.heap.size + 1, 4, none⟩) := hdep 1 (by kernel_rfl)
      have h2 : x 2 = .func (.func 129) #[] #[] := hdep 2 (by kernel_rfl)
      have h3 : x 3 = .agg #[.int .i64 (s : Int), .int .i64 (r : Int), .slice (some ⟨b, 0, none⟩) q q] := hdep 3 (by kernel_rfl)
      have h4 : x 4 = .bool bb := hdep 4 (by kernel_rfl)
      clear hdep
      have hSS := Lib.hid hS
      obtain ⟨c0, c1, c2, c3, hB⟩ := hS
      refine ⟨?_⟩
      simp only [puts, Act.put, List.setIfInBounds_toArray, List.set_cons_zero, List.set_cons_succ, h0, h1, h2, h3, h4]
      go_simp
      exact hK.out _ (.bool bb) _ (by simp only [puts, Act.put, List.setIfInBounds_toArray, List.set_cons_zero, List.set_cons_succ, h0, h1, h2, h3, h4]) (Below.refl _ _) (hSS.out) (rfl)
  · intro x w1 hS hx
    have e0 : x 0 = .int .i64 4 := hx 0 (by decide)
    have e1 : x 1 = .pointer (some ⟨w.heap.size + 1, 4, none⟩) := hx 1 (by decide)
    have e2 : x 2 = .func (.func 129) #[] #[] := hx 2 (by decide)
    have e3 : x 3 = .agg #[.int .i64 (s : Int), .int .i64 (r : Int), .slice (some ⟨b, 0, none⟩) q q] := hx 3 (by decide)
    have e4 : x 4 = .bool bb := hx 4 (by decide)
    have e5 : x 5 = .bool bb := hx 5 (by decide)
    clear hx
    obtain ⟨c0, c1, c2, c3, hB⟩ := hS
    simp only [puts, Act.put, List.setIfInBounds_toArray, List.set_cons_zero, List.set_cons_succ, e0, e1, e2, e3, e4, e5]
    clear e0 e1 e2 e3 e4 e5
    refine NoPanic.normal ?_
    go_wp2
    go_ret
    exact ⟨rfl, hB⟩

set_option linter.unusedSimpArgs false in
set_option maxHeartbeats 1000000 in
set_option maxRecDepth 100000 in
theorem isOfKind5 (s r b q : Nat) (G : Nat → Int) (tab : List Int) (bb : Bool) (w : World) (hT : TabAt w b G) (ho : OpOk s r tab) (hq : tab.length = q) (hG : ∀ i, i < q → G i = intN tab i) (hb : Tells bb (KindP s r tab 5)) :
    Calls Try.prog 71 #[.agg #[.int .i64 (s : Int), .int .i64 (r : Int), .slice (some ⟨b, 0, none⟩) q q], .int .i64 5] w fun e w' => e = .returned (.bool bb) ∧ Below w.heap.size w w' := by
  have HA : Hid (Below w.heap.size w (w.alloc (.cells #[.int .i64 (s : Int), .int .i64 (r : Int), .slice (some ⟨b, 0, none⟩) q q] 105))) := Lib.hid ((Below.refl _ _).alloc (Nat.le_refl _) _)
  have HTB := Lib.hid hT
  have HO := Lib.hid ho
  have HGG := Lib.hid hG
  have HLQ := Lib.hid hq
  have HB := Lib.hid hb
  clear hT ho hG hq hb
  have HA2 : Hid (Below w.heap.size w ((w.alloc (.cells #[.int .i64 (s : Int), .int .i64 (r : Int), .slice (some ⟨b, 0, none⟩) q q] 105)).alloc (.cells #[.nilFunc, .func (.func 126) #[] #[], .func (.func 127) #[] #[], .func (.func 128) #[] #[], .func (.func 129) #[] #[], .func (.func 130) #[] #[], .func (.func 131) #[] #[], .func (.func 132) #[] #[], .func (.func 133) #[] #[], .func (.func 134) #[] #[], .func (.func 135) #[] #[]] 168))) := Lib.hid (HA.out.alloc (by simp) _)
  have HBX := Lib.hid ((Box.new 105 w #[.int .i64 (s : Int), .int .i64 (r : Int), .slice (some ⟨b, 0, none⟩) q q]).below ((Below.refl _ _).alloc (Nat.le_refl _) (.cells #[.nilFunc, .func (.func 126) #[] #[], .func (.func 127) #[] #[], .func (.func 128) #[] #[], .func (.func 129) #[] #[], .func (.func 130) #[] #[], .func (.func 131) #[] #[], .func (.func 132) #[] #[], .func (.func 133) #[] #[], .func (.func 134) #[] #[], .func (.func 135) #[] #[]] 168)))
  have HAR : Hid (Box 168 ((w.alloc (.cells #[.int .i64 (s : Int), .int .i64 (r : Int), .slice (some ⟨b, 0, none⟩) q q] 105)).alloc (.cells #[.nilFunc, .func (.func 126) #[] #[], .func (.func 127) #[] #[], .func (.func 128) #[] #[], .func (.func 129) #[] #[], .func (.func 130) #[] #[], .func (.func 131) #[] #[], .func (.func 132) #[] #[], .func (.func 133) #[] #[], .func (.func 134) #[] #[], .func (.func 135) #[] #[]] 168)) (w.heap.size + 1) #[.nilFunc, .func (.func 126) #[] #[], .func (.func 127) #[] #[], .func (.func 128) #[] #[], .func (.func 129) #[] #[], .func (.func 130) #[] #[], .func (.func 131) #[] #[], .func (.func 132) #[] #[], .func (.func 133) #[] #[], .func (.func 134) #[] #[], .func (.func 135) #[] #[]]) := Lib.hid (by
    have h := Box.new 168 (w.alloc (.cells #[.int .i64 (s : Int), .int .i64 (r : Int), .slice (some ⟨b, 0, none⟩) q q] 105)) #[.nilFunc, .func (.func 126) #[] #[], .func (.func 127) #[] #[], .func (.func 128) #[] #[], .func (.func 129) #[] #[], .func (.func 130) #[] #[], .func (.func 131) #[] #[], .func (.func 132) #[] #[], .func (.func 133) #[] #[], .func (.func 134) #[] #[], .func (.func 135) #[] #[]]
    rwa [World.size_alloc] at h)
  go_enter Try.func71, Try.ntmps71
  go_wp2
  refine wp_region_noPanic ?_
  refine wp_region_inv (fun w' => w'.cell? ⟨w.heap.size, 0, none⟩ = some (.int .i64 (s : Int)) ∧ w'.cell? ⟨w.heap.size, 1, none⟩ = some (.int .i64 (r : Int)) ∧ w'.cell? ⟨w.heap.size, 2, none⟩ = some (.slice (some ⟨b, 0, none⟩) q q) ∧ w'.cell? ⟨w.heap.size + 1, 5, none⟩ = some (.func (.func 130) #[] #[]) ∧ Below w.heap.size w w') (fun w1 w2 => Below w1.heap.size w1 w2) (fun k vv ww => match k with
    | 0 => vv = .int .i64 5
    | 1 => vv = .pointer (some ⟨w.heap.size + 1, 5, none⟩)
    | 2 => vv = .func (.func 130) #[] #[]
    | 3 => vv = .agg #[.int .i64 (s : Int), .int .i64 (r : Int), .slice (some ⟨b, 0, none⟩) q q]
    | 4 => vv = .bool bb
    | 5 => vv = .bool bb
    | _ => True) [(5, some 4), (4, some 11), (3, some 10), (2, some 9), (1, some 8), (0, some 7)] 6 (by kernel_rfl) rfl (by kernel_rfl) (by kernel_rfl) (by kernel_rfl) ?_ ?_ ?_ ?_
  · intro k v w1 w2 hN h
    match k, h with
    | 0, h => exact h
    | 1, h => exact h
    | 2, h => exact h
    | 3, h => exact h
    | 4, h => exact h
    | 5, h => exact h
    | k + 6, _ => exact trivial
  · exact ⟨HBX.out.c 0 rfl, HBX.out.c 1 rfl, HBX.out.c 2 rfl, HAR.out.c 5 rfl, HA2.out.drew⟩
  · refine ⟨⟨⟨⟨⟨⟨trivial, ?_⟩, ?_⟩, ?_⟩, ?_⟩, ?_⟩, ?_⟩
    · refine StepOk.intro (some 7) rfl rfl (fun x w1 hS hdep K hK => ?_)
      clear hdep
      have hSS := Lib.hid hS
      obtain ⟨c0, c1, c2, c3, hB⟩ := hS
      refine ⟨?_⟩
      simp only [puts, Act.put, List.setIfInBounds_toArray, List.set_cons_zero, List.set_cons_succ]
      go_simp
      exact hK.out _ (.int .i64 5) _ (by simp only [puts, Act.put, List.setIfInBounds_toArray, List.set_cons_zero, List.set_cons_succ]) (Below.refl _ _) (hSS.out) (rfl)
    · refine StepOk.intro (some 8) rfl rfl (fun x w1 hS hdep K hK => ?_)
      have h0 : x 0 = .int .i64 5 := hdep 0 (by kernel_rfl)
      clear hdep
      have hSS := Lib.hid hS
      obtain ⟨c0, c1, c2, c3, hB⟩ := hS
      refine ⟨?_⟩
      simp only [puts, Act.put, List.setIfInBounds_toArray, List.set_cons_zero, List.set_cons_succ, h0]
      go_simp
      exact hK.out _ (.pointer (some ⟨w.heap.size + 1, 5, none⟩)) _ (by simp only [puts, Act.put, List.setIfInBounds_toArray, List.set_cons_zero, List.set_cons_succ, h0]) (Below.refl _ _) (hSS.out) (rfl)
    · refine StepOk.intro (some 9) rfl rfl (fun x w1 hS hdep K hK => ?_)
      have h1 : x 1 = .pointer (some ⟨w.heap.size + 1, 5, none⟩) := hdep 1 (by kernel_rfl)
      clear hdep
      have hSS := Lib.hid hS
      obtain ⟨c0, c1, c2, c3, hB⟩ := hS
      refine ⟨?_⟩
      simp only [puts, Act.put, List.setIfInBounds_toArray, List.set_cons_zero, List.set_cons_succ, h1]
      go_simp
      exact hK.out _ (.func (.func 130) #[] #[]) _ (by simp only [puts, Act.put, List.setIfInBounds_toArray, List.set_cons_zero, List.set_cons_succ, h1]) (Below.refl _ _) (hSS.out) (rfl)
    · refine StepOk.intro (some 10) rfl rfl (fun x w1 hS hdep K hK => ?_)
      clear hdep
      have hSS := Lib.hid hS
      obtain ⟨c0, c1, c2, c3, hB⟩ := hS
      refine ⟨?_⟩
      simp only [puts, Act.put, List.setIfInBounds_toArray, List.set_cons_zero, List.set_cons_succ]
      go_simp
      exact hK.out _ (.agg #[.int .i64 (s : Int), .int .i64 (r : Int), .slice (some ⟨b, 0, none⟩) q q]) _ (by simp only [puts, Act.put, List.setIfInBounds_toArray, List.set_cons_zero, List.set_cons_succ]) (Below.refl _ _) (hSS.out) (rfl)
    · refine StepOk.intro (some 11) rfl rfl (fun x w1 hS hdep K hK => ?_)
      have h2 : x 2 = .func (.func 130) #[] #[] := hdep 2 (by kernel_rfl)
      have h3 : x 3 = .agg #[.int .i64 (s : Int), .int .i64 (r : Int), .slice (some ⟨b, 0, none⟩) q q] := hdep 3 (by kernel_rfl)
      clear hdep
      have hSS := Lib.hid hS
      obtain ⟨c0, c1, c2, c3, hB⟩ := hS
      refine ⟨?_⟩
      simp only [puts, Act.put, List.setIfInBounds_toArray, List.set_cons_zero, List.set_cons_succ, h2, h3]
      go_simp; go_at_call 130; refine (isCommutative s r b q G tab bb _ (HTB.out.below hB) HO.out HLQ.out HGG.out HB.out).mono ?_; rintro e w5 ⟨rfl, hb5⟩
      exact hK.out _ (.bool bb) _ (by simp only [puts, Act.put, List.setIfInBounds_toArray, List.set_cons_zero, List.set_cons_succ, h2, h3]) hb5 (⟨below_cell hb5 c0, below_cell hb5 c1, below_cell hb5 c2, below_cell hb5 c3, hB.trans (hb5.mono hB.size)⟩) (rfl)
    · refine StepOk.intro (some 4) rfl rfl (fun x w1 hS hdep K hK => ?_)
      have h0 : x 0 = .int .i64 5 := hdep 0 (by kernel_rfl)
      have h1 : x 1 = .pointer (some ⟨w.heap.size + 1, 5, none⟩) := hdep 1 (by kernel_rfl)
      have h2 : x 2 = .func (.func 130) #[] #[] := hdep 2 (by kernel_rfl)
      have h3 : x 3 = .agg #[.int .i64 (s : Int), .int .i64 (r : Int), .slice (some ⟨b, 0, none⟩) q q] := hdep 3 (by kernel_rfl)
      have h4 : x 4 = .bool bb := hdep 4 (by kernel_rfl)
      clear hdep
      have hSS := Lib.hid hS
      obtain ⟨c0, c1, c2, c3, hB⟩ := hS
      refine ⟨?_⟩
      simp only [puts, Act.put, List.setIfInBounds_toArray, List.set_cons_zero, List.set_cons_succ, h0, h1, h2, h3, h4]
      go_simp
      exact hK.out _ (.bool bb) _ (by simp only [puts, Act.put, List.setIfInBounds_toArray, List.set_cons_zero, List.set_cons_succ, h0, h1, h2, h3, h4]) (Below.refl _ _) (hSS.out) (rfl)
  · intro x w1 hS hx
    have e0 : x 0 = .int .i64 5 := hx 0 (by decide)
    have e1 : x 1 = .pointer (some ⟨w.heap.size + 1, 5, none⟩) := hx 1 (by decide)
    have e2 : x 2 = .func (.func 130) #[] #[] := hx 2 (by decide)
    have e3 : x 3 = .agg #[.int .i64 (s : Int), .int .i64 (r : Int), .slice (some ⟨b, 0, none⟩) q q] := hx 3 (by decide)
    have e4 : x 4 = .bool bb := hx 4 (by decide)
    have e5 : x 5 = .bool bb := hx 5 (by decide)
    clear hx
    obtain ⟨c0, c1, c2, c3, hB⟩ := hS
    simp only [puts, Act.put, List.setIfInBounds_toArray, List.set_cons_zero, List.set_cons_succ, e0, e1, e2, e3, e4, e5]
    clear e0 e1 e2 e3 e4 e5
    refine NoPanic.normal ?_
    go_wp2
    go_ret
    exact ⟨rfl, hB⟩

set_option linter.unusedSimpArgs false in
set_option maxHeartbeats 1000000 in
set_option maxRecDepth 100000 in
theorem isOfKind6 (s r b q : Nat) (G : Nat → Int) (tab : List Int) (bb : Bool) (w : World) (hT : TabAt w b G) (ho : OpOk s r tab) (hq : tab.length = q) (hG : ∀ i, i < q → G i = intN tab i) (hb : Tells bb (KindP s r tab 6)) :
    Calls Try.prog 71 #[.agg #[.int .i64 (s : Int), .int .i64 (r : Int), .slice (some ⟨b, 0, none⟩) q q], .int .i64 6] w fun e w' => e = .returned (.bool bb) ∧ Below w.heap.size w w' := by
  have HA : Hid (Below w.heap.size w (w.alloc (.cells #[.int .i64 (s : Int), .int .i64 (r : Int), .slice (some ⟨b, 0, none⟩) q q] 105))) := Lib.hid ((Below.refl _ _).alloc (Nat.le_refl _) _)
  have HTB := Lib.hid hT
  have HO := Lib.hid ho
  have HGG := Lib.hid hG
  have HLQ := Lib.hid hq
  have HB := Lib.hid hb
  clear hT ho hG hq hb
  have HA2 : Hid (Below w.heap.size w ((w.alloc (.cells #[.int .i64 (s : Int), .int .i64 (r : Int), .slice (some ⟨b, 0, none⟩) q q] 105)).alloc (.cells #[.nilFunc, .func (.func 126) #[] #[], .func (.func 127) #[] #[], .func (.func 128) #[] #[], .func (.func 129) #[] #[], .func (.func 130) #[] #[], .func (.func 131) #[] #[], .func (.func 132) #[] #[], .func (.func 133) #[] #[], .func (.func 134) #[] #[], .func (.func 135) #[] #[]] 168))) := Lib.hid (HA.out.alloc (by simp) _)
  have HBX := Lib.hid ((Box.new 105 w #[.int .i64 (s : Int), .int .i64 (r : Int), .slice (some ⟨b, 0, none⟩) q q]).below ((Below.refl _ _).alloc (Nat.le_refl _) (.cells #[.nilFunc, .func (.func 126) #[] #[], .func (.func 127) #[] #[], .func (.func 128) #[] #[], .func (.func 129) #[] #[], .func (.func 130) #[] #[], .func (.func 131) #[] #[], .func (.func 132) #[] #[], .func (.func 133) #[] #[], .func (.func 134) #[] #[], .func (.func 135) #[] #[]] 168)))
  have HAR : Hid (Box 168 ((w.alloc (.cells #[.int .i64 (s : Int), .int .i64 (r : Int), .slice (some ⟨b, 0, none⟩) q q] 105)).alloc (.cells #[.nilFunc, .func (.func 126) #[] #[], .func (.func 127) #[] #[], .func (.func 128) #[] #[], .func (.func 129) #[] #[], .func (.func 130) #[] #[], .func (.func 131) #[] #[], .func (.func 132) #[] #[], .func (.func 133) #[] #[], .func (.func 134) #[] #[], .func (.func 135) #[] #[]] 168)) (w.heap.size + 1) #[.nilFunc, .func (.func 126) #[] #[], .func (.func 127) #[] #[], .func (.func 128) #[] #[], .func (.func 129) #[] #[], .func (.func 130) #[] #[], .func (.func 131) #[] #[], .func (.func 132) #[] #[], .func (.func 133) #[] #[], .func (.func 134) #[] #[], .func (.func 135) #[] #[]]) := Lib.hid (by
    have h := Box.new 168 (w.alloc (.cells #[.int .i64 (s : Int), .int .i64 (r : Int), .slice (some ⟨b, 0, none⟩) q q] 105)) #[.nilFunc, .func (.func 126) #[] #[], .func (.func 127) #[] #[], .func (.func 128) #[] #[], .func (.func 129) #[] #[], .func (.func 130) #[] #[], .func (.func 131) #[] #[], .func (.func 132) #[] #[], .func (.func 133) #[] #[], .func (.func 134) #[] #[], .func (.func 135) #[] #[]]
    rwa [World.size_alloc] at h)
  go_enter Try.func71, Try.ntmps71
  go_wp2
  refine wp_region_noPanic ?_
  refine wp_region_inv (fun w' => w'.cell? ⟨w.heap.size, 0, none⟩ = some (.int .i64 (s : Int)) ∧ w'.cell? ⟨w.heap.size, 1, none⟩ = some (.int .i64 (r : Int)) ∧ w'.cell? ⟨w.heap.size, 2, none⟩ = some (.slice (some ⟨b, 0, none⟩) q q) ∧ w'.cell? ⟨w.heap.size + 1, 6, none⟩ = some (.func (.func 131) #[] #[]) ∧ Below w.heap.size w w') (fun w1 w2 => Below w1.heap.size w1 w2) (fun k vv ww => match k with
    | 0 => vv = .int .i64 6
    | 1 => vv = .pointer (some ⟨w.heap.size + 1, 6, none⟩)
    | 2 => vv = .func (.func 131) #[] #[]
    | 3 => vv = .agg #[.int .i64 (s : Int), .int .i64 (r : Int), .slice (some ⟨b, 0, none⟩) q q]
    | 4 => vv = .bool bb
    | 5 => vv = .bool bb
    | _ => True) [(5, some 4), (4, some 11), (3, some 10), (2, some 9), (1, some 8), (0, some 7)] 6 (by kernel_rfl) rfl (by kernel_rfl) (by kernel_rfl) (by kernel_rfl) ?_ ?_ ?_ ?_
  · intro k v w1 w2 hN h
    match k, h with
    | 0, h => exact h
    | 1, h => exact h
    | 2, h => exact h
    | 3, h => exact h
    | 4, h => exact h
    | 5, h => exact h
    | k + 6, _ => exact trivial
  · exact ⟨HBX.out.c 0 rfl, HBX.out.c 1 rfl, HBX.out.c 2 rfl, HAR.out.c 6 rfl, HA2.out.drew⟩
  · refine ⟨⟨⟨⟨⟨⟨trivial, ?_⟩, ?_⟩, ?_⟩, ?_⟩, ?_⟩, ?_⟩
    · refine StepOk.intro (some 7) rfl rfl (fun x w1 hS hdep K hK => ?_)
      clear hdep
      have hSS := Lib.hid hS
      obtain ⟨c0, c1, c2, c3, hB⟩ := hS
      refine ⟨?_⟩
      simp only [puts, Act.put, List.setIfInBounds_toArray, List.set_cons_zero, List.set_cons_succ]
      go_simp
      exact hK.out _ (.int .i64 6) _ (by simp only [puts, Act.put, List.setIfInBounds_toArray, List.set_cons_zero, List.set_cons_succ]) (Below.refl _ _) (hSS.out) (rfl)
    · refine StepOk.intro (some 8) rfl rfl (fun x w1 hS hdep K hK => ?_)
      have h0 : x 0 = .int .i64 6 := hdep 0 (by kernel_rfl)
      clear hdep
      have hSS := Lib.hid hS
      obtain ⟨c0, c1, c2, c3, hB⟩ := hS
      refine ⟨?_⟩
      simp only [puts, Act.put, List.setIfInBounds_toArray, List.set_cons_zero, List.set_cons_succ, h0]
      go_simp
      exact hK.out _ (.pointer (some ⟨w.heap.size + 1, 6, none⟩)) _ (by simp only [puts, Act.put, List.setIfInBounds_toArray, List.set_cons_zero, List.set_cons_succ, h0]) (Below.refl _ _) (hSS.out) (rfl)
    · refine StepOk.intro (some 9) rfl rfl (fun x w1 hS hdep K hK => ?_)
      have h1 : x 1 = .pointer (some ⟨w.heap.size + 1, 6, none⟩) := hdep 1 (by kernel_rfl)
      clear hdep
      have hSS := Lib.hid hS
      obtain ⟨c0, c1, c2, c3, hB⟩ := hS
      refine ⟨?_⟩
      simp only [puts, Act.put, List.setIfInBounds_toArray, List.set_cons_zero, List.set_cons_succ, h1]
      go_simp
      exact hK.out _ (.func (.func 131) #[] #[]) _ (by simp only [puts, Act.put, List.setIfInBounds_toArray, List.set_cons_zero, List.set_cons_succ, h1]) (Below.refl _ _) (hSS.out) (rfl)
    · refine StepOk.intro (some 10) rfl rfl (fun x w1 hS hdep K hK => ?_)
      clear hdep
      have hSS := Lib.hid hS
      obtain ⟨c0, c1, c2, c3, hB⟩ := hS
      refine ⟨?_⟩
      simp only [puts, Act.put, List.setIfInBounds_toArray, List.set_cons_zero, List.set_cons_succ]
      go_simp
      exact hK.out _ (.agg #[.int .i64 (s : Int), .int .i64 (r : Int), .slice (some ⟨b, 0, none⟩) q q]) _ (by simp only [puts, Act.put, List.setIfInBounds_toArray, List.set_cons_zero, List.set_cons_succ]) (Below.refl _ _) (hSS.out) (rfl)
    · refine StepOk.intro (some 11) rfl rfl (fun x w1 hS hdep K hK => ?_)
      have h2 : x 2 = .func (.func 131) #[] #[] := hdep 2 (by kernel_rfl)
      have h3 : x 3 = .agg #[.int .i64 (s : Int), .int .i64 (r : Int), .slice (some ⟨b, 0, none⟩) q q] := hdep 3 (by kernel_rfl)
      clear hdep
      have hSS := Lib.hid hS
      obtain ⟨c0, c1, c2, c3, hB⟩ := hS
      refine ⟨?_⟩
      simp only [puts, Act.put, List.setIfInBounds_toArray, List.set_cons_zero, List.set_cons_succ, h2, h3]
      go_simp; go_at_call 131; refine (isSemilattice s r b q G tab bb _ (HTB.out.below hB) HO.out HLQ.out HGG.out HB.out).mono ?_; rintro e w5 ⟨rfl, hb5⟩
      exact hK.out _ (.bool bb) _ (by simp only [puts, Act.put, List.setIfInBounds_toArray, List.set_cons_zero, List.set_cons_succ, h2, h3]) hb5 (⟨below_cell hb5 c0, below_cell hb5 c1, below_cell hb5 c2, below_cell hb5 c3, hB.trans (hb5.mono hB.size)⟩) (rfl)
    · refine StepOk.intro (some 4) rfl rfl (fun x w1 hS hdep K hK => ?_)
      have h0 : x 0 = .int .i64 6 := hdep 0 (by kernel_rfl)
      have h1 : x 1 = .pointer (some ⟨w.heap.size + 1, 6, none⟩) := hdep 1 (by kernel_rfl)
      have h2 : x 2 = .func (.func 131) #[] #[] := hdep 2 (by kernel_rfl)
      have h3 : x 3 = .agg #[.int .i64 (s : Int), .int .i64 (r : Int), .slice (some ⟨b, 0, none⟩) q q] := hdep 3 (by kernel_rfl)
      have h4 : x 4 = .bool bb := hdep 4 (by kernel_rfl)
      clear hdep
      have hSS := Lib.hid hS
      obtain ⟨c0, c1, c2, c3, hB⟩ := hS
      refine ⟨?_⟩
      simp only [puts, Act.put, List.setIfInBounds_toArray, List.set_cons_zero, List.set_cons_succ, h0, h1, h2, h3, h4]
      go_simp
      exact hK.out _ (.bool bb) _ (by simp only [puts, Act.put, List.setIfInBounds_toArray, List.set_cons_zero, List.set_cons_succ, h0, h1, h2, h3, h4]) (Below.refl _ _) (hSS.out) (rfl)
  · intro x w1 hS hx
    have e0 : x 0 = .int .i64 6 := hx 0 (by decide)
    have e1 : x 1 = .pointer (some ⟨w.heap.size + 1, 6, none⟩) := hx 1 (by decide)
    have e2 : x 2 = .func (.func 131) #[] #[] := hx 2 (by decide)
    have e3 : x 3 = .agg #[.int .i64 (s : Int), .int .i64 (r : Int), .slice (some ⟨b, 0, none⟩) q q] := hx 3 (by decide)
    have e4 : x 4 = .bool bb := hx 4 (by decide)
    have e5 : x 5 = .bool bb := hx 5 (by decide)
    clear hx
    obtain ⟨c0, c1, c2, c3, hB⟩ := hS
    simp only [puts, Act.put, List.setIfInBounds_toArray, List.set_cons_zero, List.set_cons_succ, e0, e1, e2, e3, e4, e5]
    clear e0 e1 e2 e3 e4 e5
    refine NoPanic.normal ?_
    go_wp2
    go_ret
    exact ⟨rfl, hB⟩

set_option linter.unusedSimpArgs false in
set_option maxHeartbeats 1000000 in
set_option maxRecDepth 100000 in
theorem isOfKind7 (s r b q : Nat) (G : Nat → Int) (tab : List Int) (bb : Bool) (w : World) (hT : TabAt w b G) (ho : OpOk s r tab) (hq : tab.length = q) (hG : ∀ i, i < q → G i = intN tab i) (hb : Tells bb (KindP s r tab 7)) :
    Calls Try.prog 71 #[.agg #[.int .i64 (s : Int), .int .i64 (r : Int), .slice (some ⟨b, 0, none⟩) q q], .int .i64 7] w fun e w' => e = .returned (.bool bb) ∧ Below w.heap.size w w' := by
  have HA : Hid (Below w.heap.size w (w.alloc (.cells #[.int .i64 (s : Int), .int .i64 (r : Int), .slice (some ⟨b, 0, none⟩) q q] 105))) := Lib.hid ((Below.refl _ _).alloc (Nat.le_refl _) _)
  have HTB := Lib.hid hT
  have HO := Lib.hid ho
  have HGG := Lib.hid hG
  have HLQ := Lib.hid hq
  have HB := Lib.hid hb
  clear hT ho hG hq hb
  have HA2 : Hid (Below w.heap.size w ((w.alloc (.cells #[.int .i64 (s : Int), .int .i64 (r : Int), .slice (some ⟨b, 0, none⟩) q q] 105)).alloc (.cells #[.nilFunc, .func (.func 126) #[] #[], .func (.func 127) #[] #[], .func (.func 128) #[] #[], .func (.func 129) #[] #[], .func (.func 130) #[] #[], .func (.func 131) #[] #[], .func (.func 132) #[] #[], .func (.func 133) #[] #[], .func (.func 134) #[] #[], .func (.func 135) #[] #[]] 168))) := Lib.hid (HA.out.alloc (by simp) _)
  have HBX := Lib.hid ((Box.new 105 w #[.int .i64 (s : Int), .int .i64 (r : Int), .slice (some ⟨b, 0, none⟩) q q]).below ((Below.refl _ _).alloc (Nat.le_refl _) (.cells #[.nilFunc, .func (.func 126) #[] #[], .func (.func 127) #[] #[], .func (.func 128) #[] #[], .func (.func 129) #[] #[], .func (.func 130) #[] #[], .func (.func 131) #[] #[], .func (.func 132) #[] #[], .func (.func 133) #[] #[], .func (.func 134) #[] #[], .func (.func 135) #[] #[]] 168)))
  have HAR : Hid (Box 168 ((w.alloc (.cells #[.int .i64 (s : Int), .int .i64 (r : Int), .slice (some ⟨b, 0, none⟩) q q] 105)).alloc (.cells #[.nilFunc, .func (.func 126) #[] #[], .func (.func 127) #[] #[], .func (.func 128) #[] #[], .func (.func 129) #[] #[], .func (.func 130) #[] #[], .func (.func 131) #[] #[], .func (.func 132) #[] #[], .func (.func 133) #[] #[], .func (.func 134) #[] #[], .func (.func 135) #[] #[]] 168)) (w.heap.size + 1) #[.nilFunc, .func (.func 126) #[] #[], .func (.func 127) #[] #[], .func (.func 128) #[] #[], .func (.func 129) #[] #[], .func (.func 130) #[] #[], .func (.func 131) #[] #[], .func (.func 132) #[] #[], .func (.func 133) #[] #[], .func (.func 134) #[] #[], .func (.func 135) #[] #[]]) := Lib.hid (by
    have h := Box.new 168 (w.alloc (.cells #[.int .i64 (s : Int), .int .i64 (r : Int), .slice (some ⟨b, 0, none⟩) q q] 105)) #[.nilFunc, .func (.func 126) #[] #[], .func (.func 127) #[] #[], .func (.func 128) #[] #[], .func (.func 129) #[] #[], .func (.func 130) #[] #[], .func (.func 131) #[] #[], .func (.func 132) #[] #[], .func (.func 133) #[] #[], .func (.func 134) #[] #[], .func (.func 135) #[] #[]]
    rwa [World.size_alloc] at h)
  go_enter Try.func71, Try.ntmps71
  go_wp2
  refine wp_region_noPanic ?_
  refine wp_region_inv (fun w' => w'.cell? ⟨w.heap.size, 0, none⟩ = some (.int .i64 (s : Int)) ∧ w'.cell? ⟨w.heap.size, 1, none⟩ = some (.int .i64 (r : Int)) ∧ w'.cell? ⟨w.heap.size, 2, none⟩ = some (.slice (some ⟨b, 0, none⟩) q q) ∧ w'.cell? ⟨w.heap.size + 1, 7, none⟩ = some (.func (.func 132) #[] #[]) ∧ Below w.heap.size w w') (fun w1 w2 => Below w1.heap.size w1 w2) (fun k vv ww => match k with
    | 0 => vv = .int .i64 7
    | 1 => vv = .pointer (some ⟨w.heap.size + 1, 7, none⟩)
    | 2 => vv = .func (.func 132) #[] #[]
    | 3 => vv = .agg #[.int .i64 (s : Int), .int .i64 (r : Int), .slice (some ⟨b, 0, none⟩) q q]
    | 4 => vv = .bool bb
    | 5 => vv = .bool bb
    | _ => True) [(5, some 4), (4, some 11), (3, some 10), (2, some 9), (1, some 8), (0, some 7)] 6 (by kernel_rfl) rfl (by kernel_rfl) (by kernel_rfl) (by kernel_rfl) ?_ ?_ ?_ ?_
  · intro k v w1 w2 hN h
    match k, h with
    | 0, h => exact h
    | 1, h => exact h
    | 2, h => exact h
    | 3, h => exact h
    | 4, h => exact h
    | 5, h => exact h
    | k + 6, _ => exact trivial
  · exact ⟨HBX.out.c 0 rfl, HBX.out.c 1 rfl, HBX.out.c 2 rfl, HAR.out.c 7 rfl, HA2.out.drew⟩
  · refine ⟨⟨⟨⟨⟨⟨trivial, ?_⟩, ?_⟩, ?_⟩, ?_⟩, ?_⟩, ?_⟩
    · refine StepOk.intro (some 7) rfl rfl (fun x w1 hS hdep K hK => ?_)
      clear hdep
      have hSS := Lib.hid hS
      obtain ⟨c0, c1, c2, c3, hB⟩ := hS
      refine ⟨?_⟩
      simp only [puts, Act.put, List.setIfInBounds_toArray, List.set_cons_zero, List.set_cons_succ]
      go_simp
      exact hK.out _ (.int .i64 7) _ (by simp only [puts, Act.put, List.setIfInBounds_toArray, List.set_cons_zero, List.set_cons_succ]) (Below.refl _ _) (hSS.out) (rfl)
    · refine StepOk.intro (some 8) rfl rfl (fun x w1 hS hdep K hK => ?_)
      have h0 : x 0 = .int .i64 7 := hdep 0 (by kernel_rfl)
      clear hdep
      have hSS := Lib.hid hS
      obtain ⟨c0, c1, c2, c3, hB⟩ := hS
      refine ⟨?_⟩
      simp only [puts, Act.put, List.setIfInBounds_toArray, List.set_cons_zero, List.set_cons_succ, h0]
      go_simp
      exact hK.out _ (.pointer (some ⟨w.heap.size + 1, 7, none⟩)) _ (by simp only [puts, Act.put, List.setIfInBounds_toArray, List.set_cons_zero, List.set_cons_succ, h0]) (Below.refl _ _) (hSS.out) (rfl)
    · refine StepOk.intro (some 9) rfl rfl (fun x w1 hS hdep K hK => ?_)
      have h1 : x 1 = .pointer (some ⟨w.heap.size + 1, 7, none⟩) := hdep 1 (by kernel_rfl)
      clear hdep
      have hSS := Lib.hid hS
      obtain ⟨c0, c1, c2, c3, hB⟩ := hS
      refine ⟨?_⟩
      simp only [puts, Act.put, List.setIfInBounds_toArray, List.set_cons_zero, List.set_cons_succ, h1]
      go_simp
      exact hK.out _ (.func (.func 132) #[] #[]) _ (by simp only [puts, Act.put, List.setIfInBounds_toArray, List.set_cons_zero, List.set_cons_succ, h1]) (Below.refl _ _) (hSS.out) (rfl)
    · refine StepOk.intro (some 10) rfl rfl (fun x w1 hS hdep K hK => ?_)
      clear hdep
      have hSS := Lib.hid hS
      obtain ⟨c0, c1, c2, c3, hB⟩ := hS
      refine ⟨?_⟩
      simp only [puts, Act.put, List.setIfInBounds_toArray, List.set_cons_zero, List.set_cons_succ]
      go_simp
      exact hK.out _ (.agg #[.int .i64 (s : Int), .int .i64 (r : Int), .slice (some ⟨b, 0, none⟩) q q]) _ (by simp only [puts, Act.put, List.setIfInBounds_toArray, List.set_cons_zero, List.set_cons_succ]) (Below.refl _ _) (hSS.out) (rfl)
    · refine StepOk.intro (some 11) rfl rfl (fun x w1 hS hdep K hK => ?_)
      have h2 : x 2 = .func (.func 132) #[] #[] := hdep 2 (by kernel_rfl)
      have h3 : x 3 = .agg #[.int .i64 (s : Int), .int .i64 (r : Int), .slice (some ⟨b, 0, none⟩) q q] := hdep 3 (by kernel_rfl)
      clear hdep
      have hSS := Lib.hid hS
      obtain ⟨c0, c1, c2, c3, hB⟩ := hS
      refine ⟨?_⟩
      simp only [puts, Act.put, List.setIfInBounds_toArray, List.set_cons_zero, List.set_cons_succ, h2, h3]
      go_simp; go_at_call 132; refine (isMajority s r b q G tab bb _ (HTB.out.below hB) HO.out HLQ.out HGG.out HB.out).mono ?_; rintro e w5 ⟨rfl, hb5⟩
      exact hK.out _ (.bool bb) _ (by simp only [puts, Act.put, List.setIfInBounds_toArray, List.set_cons_zero, List.set_cons_succ, h2, h3]) hb5 (⟨below_cell hb5 c0, below_cell hb5 c1, below_cell hb5 c2, below_cell hb5 c3, hB.trans (hb5.mono hB.size)⟩) (rfl)
    · refine StepOk.intro (some 4) rfl rfl (fun x w1 hS hdep K hK => ?_)
      have h0 : x 0 = .int .i64 7 := hdep 0 (by kernel_rfl)
      have h1 : x 1 = .pointer (some ⟨w.heap.size + 1, 7, none⟩) := hdep 1 (by kernel_rfl)
      have h2 : x 2 = .func (.func 132) #[] #[] := hdep 2 (by kernel_rfl)
      have h3 : x 3 = .agg #[.int .i64 (s : Int), .int .i64 (r : Int), .slice (some ⟨b, 0, none⟩) q q] := hdep 3 (by kernel_rfl)
      have h4 : x 4 = .bool bb := hdep 4 (by kernel_rfl)
      clear hdep
      have hSS := Lib.hid hS
      obtain ⟨c0, c1, c2, c3, hB⟩ := hS
      refine ⟨?_⟩
      simp only [puts, Act.put, List.setIfInBounds_toArray, List.set_cons_zero, List.set_cons_succ, h0, h1, h2, h3, h4]
      go_simp
      exact hK.out _ (.bool bb) _ (by simp only [puts, Act.put, List.setIfInBounds_toArray, List.set_cons_zero, List.set_cons_succ, h0, h1, h2, h3, h4]) (Below.refl _ _) (hSS.out) (rfl)
  · intro x w1 hS hx
    have e0 : x 0 = .int .i64 7 := hx 0 (by decide)
    have e1 : x 1 = .pointer (some ⟨w.heap.size + 1, 7, none⟩) := hx 1 (by decide)
    have e2 : x 2 = .func (.func 132) #[] #[] := hx 2 (by decide)
    have e3 : x 3 = .agg #[.int .i64 (s : Int), .int .i64 (r : Int), .slice (some ⟨b, 0, none⟩) q q] := hx 3 (by decide)
    have e4 : x 4 = .bool bb := hx 4 (by decide)
    have e5 : x 5 = .bool bb := hx 5 (by decide)
    clear hx
    obtain ⟨c0, c1, c2, c3, hB⟩ := hS
    simp only [puts, Act.put, List.setIfInBounds_toArray, List.set_cons_zero, List.set_cons_succ, e0, e1, e2, e3, e4, e5]
    clear e0 e1 e2 e3 e4 e5
    refine NoPanic.normal ?_
    go_wp2
    go_ret
    exact ⟨rfl, hB⟩

set_option linter.unusedSimpArgs false in
set_option maxHeartbeats 1000000 in
set_option maxRecDepth 100000 in
theorem isOfKind8 (s r b q : Nat) (G : Nat → Int) (tab : List Int) (bb : Bool) (w : World) (hT : TabAt w b G) (ho : OpOk s r tab) (hq : tab.length = q) (hG : ∀ i, i < q → G i = intN tab i) (hb : Tells bb (KindP s r tab 8)) :
    Calls Try.prog 71 #[.agg #[.int .i64 (s : Int), .int .i64 (r : Int), .slice (some ⟨b, 0, none⟩) q q], .int .i64 8] w fun e w' => e = .returned (.bool bb) ∧ Below w.heap.size w w' := by
  have HA : Hid (Below w.heap.size w (w.alloc (.cells #[.int .i64 (s : Int), .int .i64 (r : Int), .slice (some ⟨b, 0, none⟩) q q] 105))) := Lib.hid ((Below.refl _ _).alloc (Nat.le_refl _) _)
  have HTB := Lib.hid hT
  have HO := Lib.hid ho
  have HGG := Lib.hid hG
  have HLQ := Lib.hid hq
  have HB := Lib.hid hb
  clear hT ho hG hq hb
  have HA2 : Hid (Below w.heap.size w ((w.alloc (.cells #[.int .i64 (s : Int), .int .i64 (r : Int), .slice (some ⟨b, 0, none⟩) q q] 105)).alloc (.cells #[.nilFunc, .func (.func 126) #[] #[], .func (.func 127) #[] #[], .func (.func 128) #[] #[], .func (.func 129) #[] #[], .func (.func 130) #[] #[], .func (.func 131) #[] #[], .func (.func 132) #[] #[], .func (.func 133) #[] #[], .func (.func 134) #[] #[], .func (.func 135) #[] #[]] 168))) := Lib.hid (HA.out.alloc (by simp) _)
  have HBX := Lib.hid ((Box.new 105 w #[.int .i64 (s : Int), .int .i64 (r : Int), .slice (some ⟨b, 0, none⟩) q q]).below ((Below.refl _ _).alloc (Nat.le_refl _) (.cells #[.nilFunc, .func (.func 126) #[] #[], .func (.func 127) #[] #[], .func (.func 128) #[] #[], .func (.func 129) #[] #[], .func (.func 130) #[] #[], .func (.func 131) #[] #[], .func (.func 132) #[] #[], .func (.func 133) #[] #[], .func (.func 134) #[] #[], .func (.func 135) #[] #[]] 168)))
  have HAR : Hid (Box 168 ((w.alloc (.cells #[.int .i64 (s : Int), .int .i64 (r : Int), .slice (some ⟨b, 0, none⟩) q q] 105)).alloc (.cells #[.nilFunc, .func (.func 126) #[] #[], .func (.func 127) #[] #[], .func (.func 128) #[] #[], .func (.func 129) #[] #[], .func (.func 130) #[] #[], .func (.func 131) #[] #[], .func (.func 132) #[] #[], .func (.func 133) #[] #[], .func (.func 134) #[] #[], .func (.func 135) #[] #[]] 168)) (w.heap.size + 1) #[.nilFunc, .func (.func 126) #[] #[], .func (.func 127) #[] #[], .func (.func 128) #[] #[], .func (.func 129) #[] #[], .func (.func 130) #[] #[], .func (.func 131) #[] #[], .func (.func 132) #[] #[], .func (.func 133) #[] #[], .func (.func 134) #[] #[], .func (.func 135) #[] #[]]) := Lib.hid (by
    have h := Box.new 168 (w.alloc (.cells #[.int .i64 (s : Int), .int .i64 (r : Int), .slice (some ⟨b, 0, none⟩) q q] 105)) #[.nilFunc, .func (.func 126) #[] #[], .func (.func 127) #[] #[], .func (.func 128) #[] #[], .func (.func 129) #[] #[], .func (.func 130) #[] #[], .func (.func 131) #[] #[], .func (.func 132) #[] #[], .func (.func 133) #[] #[], .func (.func 134) #[] #[], .func (.func 135) #[] #[]]
    rwa [World.size_alloc] at h)
  go_enter Try.func71, Try.ntmps71
  go_wp2
  refine wp_region_noPanic ?_
  refine wp_region_inv (fun w' => w'.cell? ⟨w.heap.size, 0, none⟩ = some (.int .i64 (s : Int)) ∧ w'.cell? ⟨w.heap.size, 1, none⟩ = some (.int .i64 (r : Int)) ∧ w'.cell? ⟨w.heap.size, 2, none⟩ = some (.slice (some ⟨b, 0, none⟩) q q) ∧ w'.cell? ⟨w.heap.size + 1, 8, none⟩ = some (.func (.func 133) #[] #[]) ∧ Below w.heap.size w w') (fun w1 w2 => Below w1.heap.size w1 w2) (fun k vv ww => match k with
    | 0 => vv = .int .i64 8
    | 1 => vv = .pointer (some ⟨w.heap.size + 1, 8, none⟩)
    | 2 => vv = .func (.func 133) #[] #[]
    | 3 => vv = .agg #[.int .i64 (s : Int), .int .i64 (r : Int), .slice (some ⟨b, 0, none⟩) q q]
    | 4 => vv = .bool bb
    | 5 => vv = .bool bb
    | _ => True) [(5, some 4), (4, some 11), (3, some 10), (2, some 9), (1, some 8), (0, some 7)] 6 (by kernel_rfl) rfl (by kernel_rfl) (by kernel_rfl) (by kernel_rfl) ?_ ?_ ?_ ?_
  · intro k v w1 w2 hN h
    match k, h with
    | 0, h => exact h
    | 1, h => exact h
    | 2, h => exact h
    | 3, h => exact h
    | 4, h => exact h
    | 5, h => exact h
    | k + 6, _ => exact trivial
  · exact ⟨HBX.out.c 0 rfl, HBX.out.c 1 rfl, HBX.out.c 2 rfl, HAR.out.c 8 rfl, HA2.out.drew⟩
  · refine ⟨⟨⟨⟨⟨⟨trivial, ?_⟩, ?_⟩, ?_⟩, ?_⟩, ?_⟩, ?_⟩
    · refine StepOk.intro (some 7) rfl rfl (fun x w1 hS hdep K hK => ?_)
      clear hdep
      have hSS := Lib.hid hS
      obtain ⟨c0, c1, c2, c3, hB⟩ := hS
      refine ⟨?_⟩
      simp only [puts, Act.put, List.setIfInBounds_toArray, List.set_cons_zero, List.set_cons_succ]
      go_simp
      exact hK.out _ (.int .i64 8) _ (by simp only [puts, Act.put, List.setIfInBounds_toArray, List.set_cons_zero, List.set_cons_succ]) (Below.refl _ _) (hSS.out) (rfl)
    · refine StepOk.intro (some 8) rfl rfl (fun x w1 hS hdep K hK => ?_)
      have h0 : x 0 = .int .i64 8 := hdep 0 (by kernel_rfl)
      clear hdep
      have hSS := Lib.hid hS
      obtain ⟨c0, c1, c2, c3, hB⟩ := hS
      refine ⟨?_⟩
      simp only [puts, Act.put, List.setIfInBounds_toArray, List.set_cons_zero, List.set_cons_succ, h0]
      go_simp
      exact hK.out _ (.pointer (some ⟨w.heap.size + 1, 8, none⟩)) _ (by simp only [puts, Act.put, List.setIfInBounds_toArray, List.set_cons_zero, List.set_cons_succ, h0]) (Below.refl _ _) (hSS.out) (rfl)
    · refine StepOk.intro (some 9) rfl rfl (fun x w1 hS hdep K hK => ?_)
      have h1 : x 1 = .pointer (some ⟨w.heap.size + 1, 8, none⟩) := hdep 1 (by kernel_rfl)
      clear hdep
      have hSS := Lib.hid hS
      obtain ⟨c0, c1, c2, c3, hB⟩ := hS
      refine ⟨?_⟩
      simp only [puts, Act.put, List.setIfInBounds_toArray, List.set_cons_zero, List.set_cons_succ, h1]
      go_simp
      exact hK.out _ (.func (.func 133) #[] #[]) _ (by simp only [puts, Act.put, List.setIfInBounds_toArray, List.set_cons_zero, List.set_cons_succ, h1]) (Below.refl _ _) (hSS.out) (rfl)
    · refine StepOk.intro (some 10) rfl rfl (fun x w1 hS hdep K hK => ?_)
      clear hdep
      have hSS := Lib.hid hS
      obtain ⟨c0, c1, c2, c3, hB⟩ := hS
      refine ⟨?_⟩
      simp only [puts, Act.put, List.setIfInBounds_toArray, List.set_cons_zero, List.set_cons_succ]
      go_simp
      exact hK.out _ (.agg #[.int .i64 (s : Int), .int .i64 (r : Int), .slice (some ⟨b, 0, none⟩) q q]) _ (by simp only [puts, Act.put, List.setIfInBounds_toArray, List.set_cons_zero, List.set_cons_succ]) (Below.refl _ _) (hSS.out) (rfl)
    · refine StepOk.intro (some 11) rfl rfl (fun x w1 hS hdep K hK => ?_)
      have h2 : x 2 = .func (.func 133) #[] #[] := hdep 2 (by kernel_rfl)
      have h3 : x 3 = .agg #[.int .i64 (s : Int), .int .i64 (r : Int), .slice (some ⟨b, 0, none⟩) q q] := hdep 3 (by kernel_rfl)
      clear hdep
      have hSS := Lib.hid hS
      obtain ⟨c0, c1, c2, c3, hB⟩ := hS
      refine ⟨?_⟩
      simp only [puts, Act.put, List.setIfInBounds_toArray, List.set_cons_zero, List.set_cons_succ, h2, h3]
      go_simp; go_at_call 133; refine (isMinority s r b q G tab bb _ (HTB.out.below hB) HO.out HLQ.out HGG.out HB.out).mono ?_; rintro e w5 ⟨rfl, hb5⟩
      exact hK.out _ (.bool bb) _ (by simp only [puts, Act.put, List.setIfInBounds_toArray, List.set_cons_zero, List.set_cons_succ, h2, h3]) hb5 (⟨below_cell hb5 c0, below_cell hb5 c1, below_cell hb5 c2, below_cell hb5 c3, hB.trans (hb5.mono hB.size)⟩) (rfl)
    · refine StepOk.intro (some 4) rfl rfl (fun x w1 hS hdep K hK => ?_)
      have h0 : x 0 = .int .i64 8 := hdep 0 (by kernel_rfl)
      have h1 : x 1 = .pointer (some ⟨w.heap.size + 1, 8, none⟩) := hdep 1 (by kernel_rfl)
      have h2 : x 2 = .func (.func 133) #[] #[] := hdep 2 (by kernel_rfl)
      have h3 : x 3 = .agg #[.int .i64 (s : Int), .int .i64 (r : Int), .slice (some ⟨b, 0, none⟩) q q] := hdep 3 (by kernel_rfl)
      have h4 : x 4 = .bool bb := hdep 4 (by kernel_rfl)
      clear hdep
      have hSS := Lib.hid hS
      obtain ⟨c0, c1, c2, c3, hB⟩ := hS
      refine ⟨?_⟩
      simp only [puts, Act.put, List.setIfInBounds_toArray, List.set_cons_zero, List.set_cons_succ, h0, h1, h2, h3, h4]
      go_simp
      exact hK.out _ (.bool bb) _ (by simp only [puts, Act.put, List.setIfInBounds_toArray, List.set_cons_zero, List.set_cons_succ, h0, h1, h2, h3, h4]) (Below.refl _ _) (hSS.out) (rfl)
  · intro x w1 hS hx
    have e0 : x 0 = .int .i64 8 := hx 0 (by decide)
    have e1 : x 1 = .pointer (some ⟨w.heap.size + 1, 8, none⟩) := hx 1 (by decide)
    have e2 : x 2 = .func (.func 133) #[] #[] := hx 2 (by decide)
    have e3 : x 3 = .agg #[.int .i64 (s : Int), .int .i64 (r : Int), .slice (some ⟨b, 0, none⟩) q q] := hx 3 (by decide)
    have e4 : x 4 = .bool bb := hx 4 (by decide)
    have e5 : x 5 = .bool bb := hx 5 (by decide)
    clear hx
    obtain ⟨c0, c1, c2, c3, hB⟩ := hS
    simp only [puts, Act.put, List.setIfInBounds_toArray, List.set_cons_zero, List.set_cons_succ, e0, e1, e2, e3, e4, e5]
    clear e0 e1 e2 e3 e4 e5
    refine NoPanic.normal ?_
    go_wp2
    go_ret
    exact ⟨rfl, hB⟩

set_option linter.unusedSimpArgs false in
set_option maxHeartbeats 1000000 in
set_option maxRecDepth 100000 in
theorem isOfKind9 (s r b q : Nat) (G : Nat → Int) (tab : List Int) (bb : Bool) (w : World) (hT : TabAt w b G) (ho : OpOk s r tab) (hq : tab.length = q) (hG : ∀ i, i < q → G i = intN tab i) (hb : Tells bb (KindP s r tab 9)) :
    Calls Try.prog 71 #[.agg #[.int .i64 (s : Int), .int .i64 (r : Int), .slice (some ⟨b, 0, none⟩) q q], .int .i64 9] w fun e w' => e = .returned (.bool bb) ∧ Below w.heap.size w w' := by
  have HA : Hid (Below w.heap.size w (w.alloc (.cells #[.int .i64 (s : Int), .int .i64 (r : Int), .slice (some ⟨b, 0, none⟩) q q] 105))) := Lib.hid ((Below.refl _ _).alloc (Nat.le_refl _) _)
  have HTB := Lib.hid hT
  have HO := Lib.hid ho
  have HGG := Lib.hid hG
  have HLQ := Lib.hid hq
  have HB := Lib.hid hb
  clear hT ho hG hq hb
  have HA2 : Hid (Below w.heap.size w ((w.alloc (.cells #[.int .i64 (s : Int), .int .i64 (r : Int), .slice (some ⟨b, 0, none⟩) q q] 105)).alloc (.cells #[.nilFunc, .func (.func 126) #[] #[], .func (.func 127) #[] #[], .func (.func 128) #[] #[], .func (.func 129) #[] #[], .func (.func 130) #[] #[], .func (.func 131) #[] #[], .func (.func 132) #[] #[], .func (.func 133) #[] #[], .func (.func 134) #[] #[], .func (.func 135) #[] #[]] 168))) := Lib.hid (HA.out.alloc (by simp) _)
  have HBX := Lib.hid ((Box.new 105 w #[.int .i64 (s : Int), .int .i64 (r : Int), .slice (some ⟨b, 0, none⟩) q q]).below ((Below.refl _ _).alloc (Nat.le_refl _) (.cells #[.nilFunc, .func (.func 126) #[] #[], .func (.func 127) #[] #[], .func (.func 128) #[] #[], .func (.func 129) #[] #[], .func (.func 130) #[] #[], .func (.func 131) #[] #[], .func (.func 132) #[] #[], .func (.func 133) #[] #[], .func (.func 134) #[] #[], .func (.func 135) #[] #[]] 168)))
  have HAR : Hid (Box 168 ((w.alloc (.cells #[.int .i64 (s : Int), .int .i64 (r : Int), .slice (some ⟨b, 0, none⟩) q q] 105)).alloc (.cells #[.nilFunc, .func (.func 126) #[] #[], .func (.func 127) #[] #[], .func (.func 128) #[] #[], .func (.func 129) #[] #[], .func (.func 130) #[] #[], .func (.func 131) #[] #[], .func (.func 132) #[] #[], .func (.func 133) #[] #[], .func (.func 134) #[] #[], .func (.func 135) #[] #[]] 168)) (w.heap.size + 1) #[.nilFunc, .func (.func 126) #[] #[], .func (.func 127) #[] #[], .func (.func 128) #[] #[], .func (.func 129) #[] #[], .func (.func 130) #[] #[], .func (.func 131) #[] #[], .func (.func 132) #[] #[], .func (.func 133) #[] #[], .func (.func 134) #[] #[], .func (.func 135) #[] #[]]) := Lib.hid (by
    have h := Box.new 168 (w.alloc (.cells #[.int .i64 (s : Int), .int .i64 (r : Int), .slice (some ⟨b, 0, none⟩) q q] 105)) #[.nilFunc, .func (.func 126) #[] #[], .func (.func 127) #[] #[], .func (.func 128) #[] #[], .func (.func 129) #[] #[], .func (.func 130) #[] #[], .func (.func 131) #[] #[], .func (.func 132) #[] #[], .func (.func 133) #[] #[], .func (.func 134) #[] #[], .func (.func 135) #[] #[]]
    rwa [World.size_alloc] at h)
  go_enter Try.func71, Try.ntmps71
  go_wp2
  refine wp_region_noPanic ?_
  refine wp_region_inv (fun w' => w'.cell? ⟨w.heap.size, 0, none⟩ = some (.int .i64 (s : Int)) ∧ w'.cell? ⟨w.heap.size, 1, none⟩ = some (.int .i64 (r : Int)) ∧ w'.cell? ⟨w.heap.size, 2, none⟩ = some (.slice (some ⟨b, 0, none⟩) q q) ∧ w'.cell? ⟨w.heap.size + 1, 9, none⟩ = some (.func (.func 134) #[] #[]) ∧ Below w.heap.size w w') (fun w1 w2 => Below w1.heap.size w1 w2) (fun k vv ww => match k with
    | 0 => vv = .int .i64 9
    | 1 => vv = .pointer (some ⟨w.heap.size + 1, 9, none⟩)
    | 2 => vv = .func (.func 134) #[] #[]
    | 3 => vv = .agg #[.int .i64 (s : Int), .int .i64 (r : Int), .slice (some ⟨b, 0, none⟩) q q]
    | 4 => vv = .bool bb
    | 5 => vv = .bool bb
    | _ => True) [(5, some 4), (4, some 11), (3, some 10), (2, some 9), (1, some 8), (0, some 7)] 6 (by kernel_rfl) rfl (by kernel_rfl) (by kernel_rfl) (by kernel_rfl) ?_ ?_ ?_ ?_
  · intro k v w1 w2 hN h
    match k, h with
    | 0, h => exact h
    | 1, h => exact h
    | 2, h => exact h
    | 3, h => exact h
    | 4, h => exact h
    | 5, h => exact h
    | k + 6, _ => exact trivial
  · exact ⟨HBX.out.c 0 rfl, HBX.out.c 1 rfl, HBX.out.c 2 rfl, HAR.out.c 9 rfl, HA2.out.drew⟩
  · refine ⟨⟨⟨⟨⟨⟨trivial, ?_⟩, ?_⟩, ?_⟩, ?_⟩, ?_⟩, ?_⟩
    · refine StepOk.intro (some 7) rfl rfl (fun x w1 hS hdep K hK => ?_)
      clear hdep
      have hSS := Lib.hid hS
      obtain ⟨c0, c1, c2, c3, hB⟩ := hS
      refine ⟨?_⟩
      simp only [puts, Act.put, List.setIfInBounds_toArray, List.set_cons_zero, List.set_cons_succ]
      go_simp
      exact hK.out _ (.int .i64 9) _ (by simp only [puts, Act.put, List.setIfInBounds_toArray, List.set_cons_zero, List.set_cons_succ]) (Below.refl _ _) (hSS.out) (rfl)
    · refine StepOk.intro (some 8) rfl rfl (fun x w1 hS hdep K hK => ?_)
      have h0 : x 0 = .int .i64 9 := hdep 0 (by kernel_rfl)
      clear hdep
      have hSS := Lib.hid hS
      obtain ⟨c0, c1, c2, c3, hB⟩ := hS
      refine ⟨?_⟩
      simp only [puts, Act.put, List.setIfInBounds_toArray, List.set_cons_zero, List.set_cons_succ, h0]
      go_simp
      exact hK.out _ (.pointer (some ⟨w.heap.size + 1, 9, none⟩)) _ (by simp only [puts, Act.put, List.setIfInBounds_toArray, List.set_cons_zero, List.set_cons_succ, h0]) (Below.refl _ _) (hSS.out) (rfl)
    · refine StepOk.intro (some 9) rfl rfl (fun x w1 hS hdep K hK => ?_)
      have h1 : x 1 = .pointer (some ⟨w.heap.size + 1, 9, none⟩) := hdep 1 (by kernel_rfl)
      clear hdep
      have hSS := Lib.hid hS
      obtain ⟨c0, c1, c2, c3, hB⟩ := hS
      refine ⟨?_⟩
      simp only [puts, Act.put, List.setIfInBounds_toArray, List.set_cons_zero, List.set_cons_succ, h1]
      go_simp
      exact hK.out _ (.func (.func 134) #[] #[]) _ (by simp only [puts, Act.put, List.setIfInBounds_toArray, List.set_cons_zero, List.set_cons_succ, h1]) (Below.refl _ _) (hSS.out) (rfl)
    · refine StepOk.intro (some 10) rfl rfl (fun x w1 hS hdep K hK => ?_)
      clear hdep
      have hSS := Lib.hid hS
      obtain ⟨c0, c1, c2, c3, hB⟩ := hS
      refine ⟨?_⟩
      simp only [puts, Act.put, List.setIfInBounds_toArray, List.set_cons_zero, List.set_cons_succ]
      go_simp
      exact hK.out _ (.agg #[.int .i64 (s : Int), .int .i64 (r : Int), .slice (some ⟨b, 0, none⟩) q q]) _ (by simp only [puts, Act.put, List.setIfInBounds_toArray, List.set_cons_zero, List.set_cons_succ]) (Below.refl _ _) (hSS.out) (rfl)
    · refine StepOk.intro (some 11) rfl rfl (fun x w1 hS hdep K hK => ?_)
      have h2 : x 2 = .func (.func 134) #[] #[] := hdep 2 (by kernel_rfl)
      have h3 : x 3 = .agg #[.int .i64 (s : Int), .int .i64 (r : Int), .slice (some ⟨b, 0, none⟩) q q] := hdep 3 (by kernel_rfl)
      clear hdep
      have hSS := Lib.hid hS
      obtain ⟨c0, c1, c2, c3, hB⟩ := hS
      refine ⟨?_⟩
      simp only [puts, Act.put, List.setIfInBounds_toArray, List.set_cons_zero, List.set_cons_succ, h2, h3]
      go_simp; go_at_call 134; refine (isMaltsev s r b q G tab bb _ (HTB.out.below hB) HO.out HLQ.out HGG.out HB.out).mono ?_; rintro e w5 ⟨rfl, hb5⟩
      exact hK.out _ (.bool bb) _ (by simp only [puts, Act.put, List.setIfInBounds_toArray, List.set_cons_zero, List.set_cons_succ, h2, h3]) hb5 (⟨below_cell hb5 c0, below_cell hb5 c1, below_cell hb5 c2, below_cell hb5 c3, hB.trans (hb5.mono hB.size)⟩) (rfl)
    · refine StepOk.intro (some 4) rfl rfl (fun x w1 hS hdep K hK => ?_)
      have h0 : x 0 = .int .i64 9 := hdep 0 (by kernel_rfl)
      have h1 : x 1 = .pointer (some ⟨w.heap.size + 1, 9, none⟩) := hdep 1 (by kernel_rfl)
      have h2 : x 2 = .func (.func 134) #[] #[] := hdep 2 (by kernel_rfl)
      have h3 : x 3 = .agg #[.int .i64 (s : Int), .int .i64 (r : Int), .slice (some ⟨b, 0, none⟩) q q] := hdep 3 (by kernel_rfl)
      have h4 : x 4 = .bool bb := hdep 4 (by kernel_rfl)
      clear hdep
      have hSS := Lib.hid hS
      obtain ⟨c0, c1, c2, c3, hB⟩ := hS
      refine ⟨?_⟩
      simp only [puts, Act.put, List.setIfInBounds_toArray, List.set_cons_zero, List.set_cons_succ, h0, h1, h2, h3, h4]
      go_simp
      exact hK.out _ (.bool bb) _ (by simp only [puts, Act.put, List.setIfInBounds_toArray, List.set_cons_zero, List.set_cons_succ, h0, h1, h2, h3, h4]) (Below.refl _ _) (hSS.out) (rfl)
  · intro x w1 hS hx
    have e0 : x 0 = .int .i64 9 := hx 0 (by decide)
    have e1 : x 1 = .pointer (some ⟨w.heap.size + 1, 9, none⟩) := hx 1 (by decide)
    have e2 : x 2 = .func (.func 134) #[] #[] := hx 2 (by decide)
    have e3 : x 3 = .agg #[.int .i64 (s : Int), .int .i64 (r : Int), .slice (some ⟨b, 0, none⟩) q q] := hx 3 (by decide)
    have e4 : x 4 = .bool bb := hx 4 (by decide)
    have e5 : x 5 = .bool bb := hx 5 (by decide)
    clear hx
    obtain ⟨c0, c1, c2, c3, hB⟩ := hS
    simp only [puts, Act.put, List.setIfInBounds_toArray, List.set_cons_zero, List.set_cons_succ, e0, e1, e2, e3, e4, e5]
    clear e0 e1 e2 e3 e4 e5
    refine NoPanic.normal ?_
    go_wp2
    go_ret
    exact ⟨rfl, hB⟩

set_option linter.unusedSimpArgs false in
set_option maxHeartbeats 1000000 in
set_option maxRecDepth 100000 in
theorem isOfKind10 (s r b q : Nat) (G : Nat → Int) (tab : List Int) (bb : Bool) (w : World) (hT : TabAt w b G) (ho : OpOk s r tab) (hq : tab.length = q) (hG : ∀ i, i < q → G i = intN tab i) (hb : Tells bb (KindP s r tab 10)) :
    Calls Try.prog 71 #[.agg #[.int .i64 (s : Int), .int .i64 (r : Int), .slice (some ⟨b, 0, none⟩) q q], .int .i64 10] w fun e w' => e = .returned (.bool bb) ∧ Below w.heap.size w w' := by
  have HA : Hid (Below w.heap.size w (w.alloc (.cells #[.int .i64 (s : Int), .int .i64 (r : Int), .slice (some ⟨b, 0, none⟩) q q] 105))) := Lib.hid ((Below.refl _ _).alloc (Nat.le_refl _) _)
  have HTB := Lib.hid hT
  have HO := Lib.hid ho
  have HGG := Lib.hid hG
  have HLQ := Lib.hid hq
  have HB := Lib.hid hb
  clear hT ho hG hq hb
  have HA2 : Hid (Below w.heap.size w ((w.alloc (.cells #[.int .i64 (s : Int), .int .i64 (r : Int), .slice (some ⟨b, 0, none⟩) q q] 105)).alloc (.cells #[.nilFunc, .func (.func 126) #[] #[], .func (.func 127) #[] #[], .func (.func 128) #[] #[], .func (.func 129) #[] #[], .func (.func 130) #[] #[], .func (.func 131) #[] #[], .func (.func 132) #[] #[], .func (.func 133) #[] #[], .func (.func 134) #[] #[], .func (.func 135) #[] #[]] 168))) := Lib.hid (HA.out.alloc (by simp) _)
  have HBX := Lib.hid ((Box.new 105 w #[.int .i64 (s : Int), .int .i64 (r : Int), .slice (some ⟨b, 0, none⟩) q q]).below ((Below.refl _ _).alloc (Nat.le_refl _) (.cells #[.nilFunc, .func (.func 126) #[] #[], .func (.func 127) #[] #[], .func (.func 128) #[] #[], .func (.func 129) #[] #[], .func (.func 130) #[] #[], .func (.func 131) #[] #[], .func (.func 132) #[] #[], .func (.func 133) #[] #[], .func (.func 134) #[] #[], .func (.func 135) #[] #[]] 168)))
  have HAR : Hid (Box 168 ((w.alloc (.cells #[.int .i64 (s : Int), .int .i64 (r : Int), .slice (some ⟨b, 0, none⟩) q q] 105)).alloc (.cells #[.nilFunc, .func (.func 126) #[] #[], .func (.func 127) #[] #[], .func (.func 128) #[] #[], .func (.func 129) #[] #[], .func (.func 130) #[] #[], .func (.func 131) #[] #[], .func (.func 132) #[] #[], .func (.func 133) #[] #[], .func (.func 134) #[] #[], .func (.func 135) #[] #[]] 168)) (w.heap.size + 1) #[.nilFunc, .func (.func 126) #[] #[], .func (.func 127) #[] #[], .func (.func 128) #[] #[], .func (.func 129) #[] #[], .func (.func 130) #[] #[], .func (.func 131) #[] #[], .func (.func 132) #[] #[], .func (.func 133) #[] #[], .func (.func 134) #[] #[], .func (.func 135) #[] #[]]) := Lib.hid (by
    have h := Box.new 168 (w.alloc (.cells #[.int .i64 (s : Int), .int .i64 (r : Int), .slice (some ⟨b, 0, none⟩) q q] 105)) #[.nilFunc, .func (.func 126) #[] #[], .func (.func 127) #[] #[], .func (.func 128) #[] #[], .func (.func 129) #[] #[], .func (.func 130) #[] #[], .func (.func 131) #[] #[], .func (.func 132) #[] #[], .func (.func 133) #[] #[], .func (.func 134) #[] #[], .func (.func 135) #[] #[]]
    rwa [World.size_alloc] at h)
  go_enter Try.func71, Try.ntmps71
  go_wp2
  refine wp_region_noPanic ?_
  refine wp_region_inv (fun w' => w'.cell? ⟨w.heap.size, 0, none⟩ = some (.int .i64 (s : Int)) ∧ w'.cell? ⟨w.heap.size, 1, none⟩ = some (.int .i64 (r : Int)) ∧ w'.cell? ⟨w.heap.size, 2, none⟩ = some (.slice (some ⟨b, 0, none⟩) q q) ∧ w'.cell? ⟨w.heap.size + 1, 10, none⟩ = some (.func (.func 135) #[] #[]) ∧ Below w.heap.size w w') (fun w1 w2 => Below w1.heap.size w1 w2) (fun k vv ww => match k with
    | 0 => vv = .int .i64 10
    | 1 => vv = .pointer (some ⟨w.heap.size + 1, 10, none⟩)
    | 2 => vv = .func (.func 135) #[] #[]
    | 3 => vv = .agg #[.int .i64 (s : Int), .int .i64 (r : Int), .slice (some ⟨b, 0, none⟩) q q]
    | 4 => vv = .bool bb
    | 5 => vv = .bool bb
    | _ => True) [(5, some 4), (4, some 11), (3, some 10), (2, some 9), (1, some 8), (0, some 7)] 6 (by kernel_rfl) rfl (by kernel_rfl) (by kernel_rfl) (by kernel_rfl) ?_ ?_ ?_ ?_
  · intro k v w1 w2 hN h
    match k, h with
    | 0, h => exact h
    | 1, h => exact h
    | 2, h => exact h
    | 3, h => exact h
    | 4, h => exact h
    | 5, h => exact h
    | k + 6, _ => exact trivial
  · exact ⟨HBX.out.c 0 rfl, HBX.out.c 1 rfl, HBX.out.c 2 rfl, HAR.out.c 10 rfl, HA2.out.drew⟩
  · refine ⟨⟨⟨⟨⟨⟨trivial, ?_⟩, ?_⟩, ?_⟩, ?_⟩, ?_⟩, ?_⟩
    · refine StepOk.intro (some 7) rfl rfl (fun x w1 hS hdep K hK => ?_)
      clear hdep
      have hSS := Lib.hid hS
      obtain ⟨c0, c1, c2, c3, hB⟩ := hS
      refine ⟨?_⟩
      simp only [puts, Act.put, List.setIfInBounds_toArray, List.set_cons_zero, List.set_cons_succ]
      go_simp
      exact hK.out _ (.int .i64 10) _ (by simp only [puts, Act.put, List.setIfInBounds_toArray, List.set_cons_zero, List.set_cons_succ]) (Below.refl _ _) (hSS.out) (rfl)
    · refine StepOk.intro (some 8) rfl rfl (fun x w1 hS hdep K hK => ?_)
      have h0 : x 0 = .int .i64 10 := hdep 0 (by kernel_rfl)
      clear hdep
      have hSS := Lib.hid hS
      obtain ⟨c0, c1, c2, c3, hB⟩ := hS
      refine ⟨?_⟩
      simp only [puts, Act.put, List.setIfInBounds_toArray, List.set_cons_zero, List.set_cons_succ, h0]
      go_simp
      exact hK.out _ (.pointer (some ⟨w.heap.size + 1, 10, none⟩)) _ (by simp only [puts, Act.put, List.setIfInBounds_toArray, List.set_cons_zero, List.set_cons_succ, h0]) (Below.refl _ _) (hSS.out) (rfl)
    · refine StepOk.intro (some 9) rfl rfl (fun x w1 hS hdep K hK => ?_)
      have h1 : x 1 = .pointer (some ⟨w.heap.size + 1, 10, none⟩) := hdep 1 (by kernel_rfl)
      clear hdep
      have hSS := Lib.hid hS
      obtain ⟨c0, c1, c2, c3, hB⟩ := hS
      refine ⟨?_⟩
      simp only [puts, Act.put, List.setIfInBounds_toArray, List.set_cons_zero, List.set_cons_succ, h1]
      go_simp
      exact hK.out _ (.func (.func 135) #[] #[]) _ (by simp only [puts, Act.put, List.setIfInBounds_toArray, List.set_cons_zero, List.set_cons_succ, h1]) (Below.refl _ _) (hSS.out) (rfl)
    · refine StepOk.intro (some 10) rfl rfl (fun x w1 hS hdep K hK => ?_)
      clear hdep
      have hSS := Lib.hid hS
      obtain ⟨c0, c1, c2, c3, hB⟩ := hS
      refine ⟨?_⟩
      simp only [puts, Act.put, List.setIfInBounds_toArray, List.set_cons_zero, List.set_cons_succ]
      go_simp
      exact hK.out _ (.agg #[.int .i64 (s : Int), .int .i64 (r : Int), .slice (some ⟨b, 0, none⟩) q q]) _ (by simp only [puts, Act.put, List.setIfInBounds_toArray, List.set_cons_zero, List.set_cons_succ]) (Below.refl _ _) (hSS.out) (rfl)
    · refine StepOk.intro (some 11) rfl rfl (fun x w1 hS hdep K hK => ?_)
      have h2 : x 2 = .func (.func 135) #[] #[] := hdep 2 (by kernel_rfl)
      have h3 : x 3 = .agg #[.int .i64 (s : Int), .int .i64 (r : Int), .slice (some ⟨b, 0, none⟩) q q] := hdep 3 (by kernel_rfl)
      clear hdep
      have hSS := Lib.hid hS
      obtain ⟨c0, c1, c2, c3, hB⟩ := hS
      refine ⟨?_⟩
      simp only [puts, Act.put, List.setIfInBounds_toArray, List.set_cons_zero, List.set_cons_succ, h2, h3]
      go_simp; go_at_call 135; refine (isSymmetric s r b q G tab bb _ (HTB.out.below hB) HO.out HLQ.out HGG.out HB.out).mono ?_; rintro e w5 ⟨rfl, hb5⟩
      exact hK.out _ (.bool bb) _ (by simp only [puts, Act.put, List.setIfInBounds_toArray, List.set_cons_zero, List.set_cons_succ, h2, h3]) hb5 (⟨below_cell hb5 c0, below_cell hb5 c1, below_cell hb5 c2, below_cell hb5 c3, hB.trans (hb5.mono hB.size)⟩) (rfl)
    · refine StepOk.intro (some 4) rfl rfl (fun x w1 hS hdep K hK => ?_)
      have h0 : x 0 = .int .i64 10 := hdep 0 (by kernel_rfl)
      have h1 : x 1 = .pointer (some ⟨w.heap.size + 1, 10, none⟩) := hdep 1 (by kernel_rfl)
      have h2 : x 2 = .func (.func 135) #[] #[] := hdep 2 (by kernel_rfl)
      have h3 : x 3 = .agg #[.int .i64 (s : Int), .int .i64 (r : Int), .slice (some ⟨b, 0, none⟩) q q] := hdep 3 (by kernel_rfl)
      have h4 : x 4 = .bool bb := hdep 4 (by kernel_rfl)
      clear hdep
      have hSS := Lib.hid hS
      obtain ⟨c0, c1, c2, c3, hB⟩ := hS
      refine ⟨?_⟩
      simp only [puts, Act.put, List.setIfInBounds_toArray, List.set_cons_zero, List.set_cons_succ, h0, h1, h2, h3, h4]
      go_simp
      exact hK.out _ (.bool bb) _ (by simp only [puts, Act.put, List.setIfInBounds_toArray, List.set_cons_zero, List.set_cons_succ, h0, h1, h2, h3, h4]) (Below.refl _ _) (hSS.out) (rfl)
  · intro x w1 hS hx
    have e0 : x 0 = .int .i64 10 := hx 0 (by decide)
    have e1 : x 1 = .pointer (some ⟨w.heap.size + 1, 10, none⟩) := hx 1 (by decide)
    have e2 : x 2 = .func (.func 135) #[] #[] := hx 2 (by decide)
    have e3 : x 3 = .agg #[.int .i64 (s : Int), .int .i64 (r : Int), .slice (some ⟨b, 0, none⟩) q q] := hx 3 (by decide)
    have e4 : x 4 = .bool bb := hx 4 (by decide)
    have e5 : x 5 = .bool bb := hx 5 (by decide)
    clear hx
    obtain ⟨c0, c1, c2, c3, hB⟩ := hS
    simp only [puts, Act.put, List.setIfInBounds_toArray, List.set_cons_zero, List.set_cons_succ, e0, e1, e2, e3, e4, e5]
    clear e0 e1 e2 e3 e4 e5
    refine NoPanic.normal ?_
    go_wp2
    go_ret
    exact ⟨rfl, hB⟩

theorem isOfKind (k : Nat) (hk : 1 ≤ k ∧ k ≤ 10) (s r b q : Nat) (G : Nat → Int) (tab : List Int) (bb : Bool) (w : World) (hT : TabAt w b G) (ho : OpOk s r tab) (hq : tab.length = q) (hG : ∀ i, i < q → G i = intN tab i) (hb : Tells bb (KindP s r tab k)) :
    Calls Try.prog 71 #[.agg #[.int .i64 (s : Int), .int .i64 (r : Int), .slice (some ⟨b, 0, none⟩) q q], .int .i64 (k : Int)] w fun e w' => e = .returned (.bool bb) ∧ Below w.heap.size w w' := by
  obtain rfl | rfl | rfl | rfl | rfl | rfl | rfl | rfl | rfl | rfl : k = 1 ∨ k = 2 ∨ k = 3 ∨ k = 4 ∨ k = 5 ∨ k = 6 ∨ k = 7 ∨ k = 8 ∨ k = 9 ∨ k = 10 := by omega
  · exact isOfKind1 s r b q G tab bb w hT ho hq hG hb
  · exact isOfKind2 s r b q G tab bb w hT ho hq hG hb
  · exact isOfKind3 s r b q G tab bb w hT ho hq hG hb
  · exact isOfKind4 s r b q G tab bb w hT ho hq hG hb
  · exact isOfKind5 s r b q G tab bb w hT ho hq hG hb
  · exact isOfKind6 s r b q G tab bb w hT ho hq hG hb
  · exact isOfKind7 s r b q G tab bb w hT ho hq hG hb
  · exact isOfKind8 s r b q G tab bb w hT ho hq hG hb
  · exact isOfKind9 s r b q G tab bb w hT ho hq hG hb
  · exact isOfKind10 s r b q G tab bb w hT ho hq hG hb

set_option linter.unusedSimpArgs false in
set_option maxHeartbeats 1000000 in
set_option maxRecDepth 100000 in
theorem implIsOfKind (size ar : Int) (a : Option Addr) (n c : Nat) (tab : List Int) (kind : Int) (bb : Bool) (cd : Int) (w : World) (h : RowAt w (.slice a n c) tab) (hi : IsOfKindIs size ar tab kind bb cd) :
    Calls Try.prog 18 #[.int .i64 size, .agg #[.int .i64 ar, .slice a n c], .int .i64 kind] w fun e w' => e = .returned (.tuple #[.bool bb, .int .i64 cd]) ∧ Below w.heap.size w w' := by
  have HA : Hid (Below w.heap.size w (w.alloc (.cells #[.int .i64 ar, .slice a n c] 28))) := Lib.hid ((Below.refl _ _).alloc (Nat.le_refl _) _)
  have HR := Lib.hid (h.below HA.out)
  have HBX := Lib.hid (Box.new 28 w #[.int .i64 ar, .slice a n c])
  have c0 := HBX.out.c 0 rfl
  have c1 := HBX.out.c 1 rfl
  clear h
  rcases hi with ⟨ho, rfl, rfl⟩ | ⟨ho, hk, rfl, rfl⟩ | ⟨ho, hk, hb, rfl⟩
  · have HO := Lib.hid (Tells.no ho)
    clear ho
    go_enter Try.func18, Try.ntmps18
    go_wp2_with fail
    refine (implValidOp _ _ _ _ _ _ false _ HR.out HO.out).mono ?_
    rintro e w1 ⟨rfl, hb1⟩
    have HW1 := Lib.hid (HA.out.trans (hb1.mono HA.out.size))
    clear hb1
    go_wp2
    go_ret2
    exact ⟨rfl, HW1.out⟩
  · have HO := Lib.hid (Tells.yes ho)
    have HI := Lib.hid (Tells.no hk)
    clear ho hk
    go_enter Try.func18, Try.ntmps18
    go_wp2_with fail
    refine (implValidOp _ _ _ _ _ _ true _ HR.out HO.out).mono ?_
    rintro e w1 ⟨rfl, hb1⟩
    have HW1 := Lib.hid (HA.out.trans (hb1.mono HA.out.size))
    clear hb1
    go_wp2_with fail
    refine (isKind kind false _ HI.out).mono ?_
    rintro e w2 ⟨rfl, rfl⟩
    go_wp2
    go_ret2
    exact ⟨rfl, HW1.out⟩
  · obtain ⟨s, rfl⟩ : ∃ s : Nat, size = s := ⟨size.toNat, by have := ho.1.1; omega⟩
    obtain ⟨r, rfl⟩ : ∃ r : Nat, ar = r := ⟨ar.toNat, by have := ho.2.1.1; omega⟩
    obtain ⟨k, rfl⟩ : ∃ k : Nat, kind = k := ⟨kind.toNat, by have := hk.1; omega⟩
    have HK : Hid (1 ≤ k ∧ k ≤ 10) := Lib.hid ⟨by have := hk.1; omega, by have := hk.2; omega⟩
    have HO := Lib.hid (Tells.yes ho)
    have HOP := Lib.hid ho
    have HI := Lib.hid (Tells.yes hk)
    have HKB : Hid (Tells bb (KindP s r tab k)) := Lib.hid (by rw [hb]; exact kindB_tells s r tab k)
    clear ho hk hb
    go_enter Try.func18, Try.ntmps18
    go_wp2_with fail
    refine (implValidOp _ _ _ _ _ _ true _ HR.out HO.out).mono ?_
    rintro e w1 ⟨rfl, hb1⟩
    have HW1 := Lib.hid (HA.out.trans (hb1.mono HA.out.size))
    have HR1 := Lib.hid (HR.out.below hb1)
    have d0 := below_cell hb1 c0
    have d1 := below_cell hb1 c1
    clear hb1 c0 c1
    go_wp2_with fail
    refine (isKind k true _ HI.out).mono ?_
    rintro e w2 ⟨rfl, rfl⟩
    go_wp2_with fail
    refine (tableOf s r a n c tab _ HR1.out HOP.out).mono ?_
    rintro e w3 ⟨b, F', rfl, hT, hF, hb0, hb3⟩
    have HW3 := Lib.hid (HW1.out.trans (hb3.mono HW1.out.size))
    have HT := Lib.hid hT
    have HFF := Lib.hid hF
    clear hT hF hb0 hb3 d0 d1
    go_wp2_with fail
    refine (isOfKind k HK.out s r b tab.length F' tab bb _ HT.out HOP.out rfl HFF.out HKB.out).mono ?_
    rintro e w4 ⟨rfl, hb4⟩
    have HW4 := Lib.hid (HW3.out.trans (hb4.mono HW3.out.size))
    clear hb4
    go_wp2
    go_ret2
    exact ⟨rfl, HW4.out⟩

end Go.Proofs.Ytclhcnfgpkhplaa
