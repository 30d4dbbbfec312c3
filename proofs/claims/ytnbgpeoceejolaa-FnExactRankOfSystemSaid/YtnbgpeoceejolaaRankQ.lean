/-
  RankOfSystem, countAnswers and CountAnswers of the program.
-/
import Derived.Test.YtnbgpeoceejolaaRankP
namespace Go.Proofs.Ytnbgpeoceejolaa
open Go.RowKit

set_option maxHeartbeats 1000000 in
theorem tupleCountE (size ar : Nat) (h2 : size ≤ 3) (h4 : ar ≤ 12) (w : World) :
    Calls Try.prog 139 #[.int .i64 size, .int .i64 ar] w fun e w' => e = .returned (.int .i64 ((size ^ ar : Nat) : Int)) ∧ w = w' := by
  go_enter Try.func139, Try.ntmps139
  go_wp2
  go_loop [5, 7] (fun p i => ∃ k : Nat, k ≤ ar ∧ i = .int .i64 k ∧ p = .int .i64 ((size ^ k : Nat) : Int)) (fun _ i => ar - (intOf i).toNat)
  case atStart => exact ⟨0, Nat.zero_le _, rfl, rfl⟩
  case round =>
    obtain ⟨k, hk, rfl, rfl⟩ := hrel
    by_cases hlt : k < ar
    · have hlt' : (k : Int) < (ar : Int) := by omega
      have hp := pow_le3E h2 (show k ≤ 12 by omega)
      have hs := Nat.pow_succ (n := size) (m := k)
      have hs2 := pow_le3E h2 (show k + 1 ≤ 12 by omega)
      generalize size ^ k = p at *
      generalize hqq : size ^ (k + 1) = q at *
      have hm : (p : Int) * (size : Int) = (q : Int) := by rw [hs, Int.natCast_mul]
      have HQ := Lib.hid hqq
      clear hs hqq
      go_wp2
      go_round
      case rel => exact ⟨k + 1, by omega, by go_num, by rw [HQ.out]⟩
      case measure => simp [intOf]; omega
    · obtain rfl : k = ar := by omega
      go_wp2
      go_ret
      exact ⟨rfl, rfl⟩

set_option linter.unusedSimpArgs false in
set_option maxHeartbeats 4000000 in
set_option maxRecDepth 100000 in
theorem implRankOfSystem (p u : Int) (a : Option Addr) (n c : Nat) (rs : List (Int × List Int)) (r cd : Int) (w : World) (h : EqsAt w (.slice a n c) rs) (hi : RankOfSystemIs p u rs r cd) :
    Calls Try.prog 18 #[.agg #[.int .i64 p, .int .i64 u, .slice a n c]] w fun e w' => e = .returned (.tuple #[.int .i64 r, .int .i64 cd]) ∧ Below w.heap.size w w' := by
  have HBX := Lib.hid (Box.new 30 w #[.int .i64 p, .int .i64 u, .slice a n c])
  have HW : Hid (Below w.heap.size w (w.alloc (.cells #[.int .i64 p, .int .i64 u, .slice a n c] 30))) := Lib.hid ((Below.refl _ _).alloc (Nat.le_refl _) _)
  have HEQ := Lib.hid (h.below HW.out)
  have HI := Lib.hid hi
  have x0 := HBX.out.c 0 rfl
  have x1 := HBX.out.c 1 rfl
  have x2 := HBX.out.c 2 rfl
  clear h hi
  go_enter Try.func18, Try.ntmps18
  by_cases hok : SysOk p u rs
  · have HOK := Lib.hid hok
    obtain ⟨un, rfl⟩ : ∃ un : Nat, u = un := ⟨u.toNat, by have := hok.2.1; unfold InP at this; omega⟩
    have hn24 := hok.2.2.1
    have hu12 : un ≤ 12 := by have := hok.2.1; unfold InP at this; omega
    have HDN := Lib.hid (elimE_good (l := un + 1 + rs.length) (by rcases hok.1 with rfl | rfl <;> omega) (row0_good hok) un).2
    clear hok
    go_wp2_with fail
    refine (implValidSystem _ _ _ _ _ rs true _ HEQ.out (Tells.yes HOK.out)).mono ?_
    rintro e w2 ⟨rfl, hb2⟩
    have y0 := below_cell hb2 x0
    have y1 := below_cell hb2 x1
    have y2 := below_cell hb2 x2
    have HEQ2 := Lib.hid (HEQ.out.below hb2)
    have HW2 := Lib.hid (HW.out.trans (hb2.mono HW.out.size))
    clear hb2 x0 x1 x2
    go_wp2_with fail
    refine (eliminationOfC p un a n c rs _ HEQ2.out HOK.out).mono ?_
    rintro e w3 ⟨eb, rb, g, s, F, rfl, he, _, _, _, hb3⟩
    have HE := Lib.hid he
    have HW3 := Lib.hid (HW2.out.trans (hb3.mono HW2.out.size))
    obtain ⟨b, hb⟩ := Tells.exists (¬ NoAns p un rs)
    have HB := Lib.hid hb
    clear he hb3 hb y0 y1 y2
    go_wp2_with fail
    refine (hasAnswersC eb rb g rs.length (un + 1 + rs.length) un _ s p F _ b _ HE.out (by omega) HDN.out (by omega) HB.out).mono ?_
    rintro e w4 ⟨rfl, rfl⟩
    have z3 : w3.cell? ⟨eb, 3, none⟩ = some (.int .i64 ((elimE p rs.length (row0 rs) un).2 : Int)) := HE.out.box.c 3 rfl
    cases b with
    | true =>
      go_wp2
      go_ret2
      rcases HI.out with ⟨_, _, rfl, rfl⟩ | ⟨_, h2, _⟩ | ⟨h1, _⟩
      · exact ⟨rfl, HW3.out.drew⟩
      · exact absurd h2 (HB.out.1 rfl)
      · exact absurd HOK.out h1
    | false =>
      go_wp2
      go_ret2
      rcases HI.out with ⟨_, h2, _⟩ | ⟨_, _, rfl, rfl⟩ | ⟨h1, _⟩
      · exact absurd (HB.out.2 h2) (by simp)
      · exact ⟨rfl, HW3.out.drew⟩
      · exact absurd HOK.out h1
  · have HOK := Lib.hid hok
    clear hok
    go_wp2_with fail
    refine (implValidSystem _ _ _ _ _ rs false _ HEQ.out (Tells.no HOK.out)).mono ?_
    rintro e w2 ⟨rfl, hb2⟩
    have HW2 := Lib.hid (HW.out.trans (hb2.mono HW.out.size))
    clear hb2
    go_wp2
    go_ret2
    rcases HI.out with ⟨h1, _⟩ | ⟨h1, _⟩ | ⟨_, rfl, rfl⟩
    · exact absurd h1 HOK.out
    · exact absurd h1 HOK.out
    · exact ⟨rfl, HW2.out⟩

set_option linter.unusedSimpArgs false in
set_option maxHeartbeats 4000000 in
set_option maxRecDepth 100000 in
theorem count2 (eb rb g n l u d : Nat) (s : Nat → Nat) (F : Nat → Int) (R : Nat → List Int) (b : Bool) (w : World) (h : ElimAt w eb rb g n l u d s 2 F R) (hul : u < l) (hd : d ≤ n) (hn : n ≤ 1000) (hu : u ≤ 12) (hdu : d ≤ u) (hb : Tells b (¬ ∃ j, d ≤ j ∧ j < n ∧ intN (R j) u ≠ 0)) :
    Calls Try.prog 80 #[.pointer (some ⟨eb, 0, none⟩)] w fun e w' => e = .returned (.int .i64 (if b then ((2 ^ (u - d) : Nat) : Int) else 0)) ∧ Below w.heap.size w w' := by
  have HE := Lib.hid h
  have HB := Lib.hid hb
  have HD : Hid (Below w.heap.size w w.drew.drew) := Lib.hid (Below.refl _ _).drew.drew
  have e0 : w.drew.drew.cell? ⟨eb, 0, none⟩ = some (modV 2) := h.box.c 0 rfl
  have e1 : w.drew.drew.cell? ⟨eb, 1, none⟩ = some (.int .i64 (u : Int)) := h.box.c 1 rfl
  have e3 : w.drew.drew.cell? ⟨eb, 3, none⟩ = some (.int .i64 (d : Int)) := h.box.c 3 rfl
  have hmp := method_prime2
  have hmv : modV 2 = .iface 247 (.agg #[]) := rfl
  rw [hmv] at e0
  have hsub : (u : Int) - (d : Int) = ((u - d : Nat) : Int) := by omega
  have hwr : IntKind.i64.wrap (((u - d : Nat) : Int)) = ((u - d : Nat) : Int) := IntWalk.i64_in _ (by omega)
  clear h hb hmv
  go_enter Try.func80, Try.ntmps80
  go_wp2_with fail
  refine (hasAnswersC eb rb g n l u d s 2 F R b _ HE.out hul hd hn HB.out).mono ?_
  rintro e w2 ⟨rfl, rfl⟩
  cases b with
  | true =>
    go_wp2_with fail
    refine wp_region_noPanic ?_
    refine wp_region_late (S := (fun w' => w'.cell? ⟨eb, 0, none⟩ = some (.iface 247 (.agg #[])) ∧ w'.cell? ⟨eb, 1, none⟩ = some (.int .i64 (u : Int)) ∧ w'.cell? ⟨eb, 3, none⟩ = some (.int .i64 (d : Int)) ∧ Below w.heap.size w w')) [14] (by kernel_rfl) ?_ (fun hHeld => ?_)
    · exact ⟨e0, e1, e3, HD.out⟩
    refine wpAnyL_free (i := 0) (v := ?_) (some 6) rfl rfl (by kernel_rfl) (by kernel_rfl) (by kernel_rfl) (by decide) (fun _ _ _ h => h) (Or.inl ⟨by rfl, ?_⟩) (fun h0 => by assumption) ?_
    rotate_left
    · intro wS
      go_simp
      try with_reducible rfl
    try simp only [Act.put, List.setIfInBounds_toArray, List.set_cons_zero, List.set_cons_succ]
    refine wpAnyL_free (i := 1) (v := ?_) (some 7) rfl rfl (by kernel_rfl) (by kernel_rfl) (by kernel_rfl) (by decide) (fun _ _ _ h => h) (Or.inl ⟨by rfl, ?_⟩) (fun h0 => by assumption) ?_
    rotate_left
    · intro wS
      go_simp
      try with_reducible rfl
    try simp only [Act.put, List.setIfInBounds_toArray, List.set_cons_zero, List.set_cons_succ]
    refine wpAnyL_free (i := 2) (v := ?_) (some 8) rfl rfl (by kernel_rfl) (by kernel_rfl) (by kernel_rfl) (by decide) (fun _ _ _ h => h) (Or.inl ⟨by rfl, ?_⟩) (fun h0 => by assumption) ?_
    rotate_left
    · intro wS
      go_simp
      try with_reducible rfl
    try simp only [Act.put, List.setIfInBounds_toArray, List.set_cons_zero, List.set_cons_succ]
    refine wpAnyL_take (i := 3) (v := ?_) (some 9) rfl rfl (by kernel_rfl) (by kernel_rfl) (by kernel_rfl) (by kernel_rfl) (by kernel_rfl) (fun _ _ _ h => h) (Or.inl ⟨by rfl, ?_⟩) (by assumption) ?_
    rotate_left
    · intro wS hSw
      try dsimp only at hSw
      go_simp
      try with_reducible rfl
    try simp only [Act.put, List.setIfInBounds_toArray, List.set_cons_zero, List.set_cons_succ]
    refine wpAnyL_free (i := 5) (v := ?_) (some 11) rfl rfl (by kernel_rfl) (by kernel_rfl) (by kernel_rfl) (by decide) (fun _ _ _ h => h) (Or.inl ⟨by rfl, ?_⟩) (fun h0 => by assumption) ?_
    rotate_left
    · intro wS
      go_simp
      try with_reducible rfl
    try simp only [Act.put, List.setIfInBounds_toArray, List.set_cons_zero, List.set_cons_succ]
    refine wpAnyL_free (i := 6) (v := ?_) (some 12) rfl rfl (by kernel_rfl) (by kernel_rfl) (by kernel_rfl) (by decide) (fun _ _ _ h => h) (Or.inl ⟨by rfl, ?_⟩) (fun h0 => by assumption) ?_
    rotate_left
    · intro wS
      go_simp
      try with_reducible rfl
    try simp only [Act.put, List.setIfInBounds_toArray, List.set_cons_zero, List.set_cons_succ]
    refine wpAnyL_free (i := 7) (v := ?_) (some 13) rfl rfl (by kernel_rfl) (by kernel_rfl) (by kernel_rfl) (by decide) (fun _ _ _ h => h) (Or.inl ⟨by rfl, ?_⟩) (fun h0 => by assumption) ?_
    rotate_left
    · intro wS
      go_simp
      try with_reducible rfl
    try simp only [Act.put, List.setIfInBounds_toArray, List.set_cons_zero, List.set_cons_succ]
    refine wpAnyL_take (i := 8) (v := ?_) (some 14) rfl rfl (by kernel_rfl) (by kernel_rfl) (by kernel_rfl) (by kernel_rfl) (by kernel_rfl) (fun _ _ _ h => h) (Or.inl ⟨by rfl, ?_⟩) (by assumption) ?_
    rotate_left
    · intro wS hSw
      try dsimp only at hSw
      go_simp
      try with_reducible rfl
    try simp only [Act.put, List.setIfInBounds_toArray, List.set_cons_zero, List.set_cons_succ]
    refine wpAnyL_free (i := 9) (v := ?_) (some 15) rfl rfl (by kernel_rfl) (by kernel_rfl) (by kernel_rfl) (by decide) (fun _ _ _ h => h) (Or.inl ⟨by rfl, ?_⟩) (fun h0 => by assumption) ?_
    rotate_left
    · intro wS
      go_simp
      try with_reducible rfl
    try simp only [Act.put, List.setIfInBounds_toArray, List.set_cons_zero, List.set_cons_succ]
    refine wpAnyL_free (i := 10) (v := ?_) (some 16) rfl rfl (by kernel_rfl) (by kernel_rfl) (by kernel_rfl) (by decide) (fun _ _ _ h => h) (Or.inl ⟨by rfl, ?_⟩) (fun h0 => by assumption) ?_
    rotate_left
    · intro wS
      go_simp
      try with_reducible rfl
    try simp only [Act.put, List.setIfInBounds_toArray, List.set_cons_zero, List.set_cons_succ]
    refine wpAnyL_free (i := 11) (v := ?_) (some 17) rfl rfl (by kernel_rfl) (by kernel_rfl) (by kernel_rfl) (by decide) (fun _ _ _ h => h) (Or.inl ⟨by rfl, ?_⟩) (fun h0 => by assumption) ?_
    rotate_left
    · intro wS
      go_simp
      try with_reducible rfl
    try simp only [Act.put, List.setIfInBounds_toArray, List.set_cons_zero, List.set_cons_succ]
    refine wpAnyL_take (i := 12) (v := ?_) (some 18) rfl rfl (by kernel_rfl) (by kernel_rfl) (by kernel_rfl) (by kernel_rfl) (by kernel_rfl) (fun _ _ _ h => h) (Or.inl ⟨by rfl, ?_⟩) (by assumption) ?_
    rotate_left
    · intro wS hSw
      try dsimp only at hSw
      go_simp
      try with_reducible rfl
    try simp only [Act.put, List.setIfInBounds_toArray, List.set_cons_zero, List.set_cons_succ]
    refine wpAnyL_free (i := 13) (v := ?_) (some 19) rfl rfl (by kernel_rfl) (by kernel_rfl) (by kernel_rfl) (by decide) (fun _ _ _ h => h) (Or.inl ⟨by rfl, ?_⟩) (fun h0 => by assumption) ?_
    rotate_left
    · intro wS
      go_simp
      try with_reducible rfl
    try simp only [Act.put, List.setIfInBounds_toArray, List.set_cons_zero, List.set_cons_succ]
    refine wpAnyL_ready (rs := [4]) (by kernel_rfl) (by simp) ?_
    refine AllReadyL.cons rfl (fun K hK => ?_) AllReadyL.nil
    go_simp; go_at_call 253; refine (prime2 _).mono ?_; rintro e w5 ⟨rfl, hb5⟩; have HB0 := Lib.hid (hHeld.2.2.2.trans (hb5.mono hHeld.2.2.2.size))
    refine hK.out _ _ ?_ (fun hHeld => ?_)
    · exact ⟨below_cell hb5 hHeld.1, below_cell hb5 hHeld.2.1, below_cell hb5 hHeld.2.2.1, HB0.out⟩
    clear hK K
    try simp only [Act.put, List.setIfInBounds_toArray, List.set_cons_zero, List.set_cons_succ]
    refine wpAnyL_ready (rs := [14]) (by kernel_rfl) (by simp) ?_
    refine AllReadyL.last rfl (by kernel_rfl) (fun K hK => ?_) AllReadyL.nil
    go_simp; go_at_call 139; refine (tupleCountE 2 (u - d) (by decide) (by omega) _).mono ?_; rintro e w6 ⟨rfl, rfl⟩; have HB5 := Lib.hid hHeld.2.2.2
    refine hK.out _ _ ?_
    clear hK K
    try simp only [Act.put, List.setIfInBounds_toArray, List.set_cons_zero, List.set_cons_succ]
    refine wpAnyL_free (i := 15) (v := ?_) (some 2) rfl rfl (by kernel_rfl) (by kernel_rfl) (by kernel_rfl) (by decide) (fun _ _ _ h => h) (Or.inl ⟨by rfl, ?_⟩) (fun h0 => absurd h0 (by decide)) ?_
    rotate_left
    · intro wS
      go_simp
      try with_reducible rfl
    try simp only [Act.put, List.setIfInBounds_toArray, List.set_cons_zero, List.set_cons_succ]
    refine wpAnyL_done (by kernel_rfl) ?_ _
    refine NoPanic.normal ?_
    clear hHeld
    go_wp2
    go_ret
    exact ⟨by simp, HB5.out⟩
  | false =>
    go_wp2
    go_ret
    exact ⟨by simp, (Below.refl _ _).drew⟩

set_option linter.unusedSimpArgs false in
set_option maxHeartbeats 4000000 in
set_option maxRecDepth 100000 in
theorem count3 (eb rb g n l u d : Nat) (s : Nat → Nat) (F : Nat → Int) (R : Nat → List Int) (b : Bool) (w : World) (h : ElimAt w eb rb g n l u d s 3 F R) (hul : u < l) (hd : d ≤ n) (hn : n ≤ 1000) (hu : u ≤ 12) (hdu : d ≤ u) (hb : Tells b (¬ ∃ j, d ≤ j ∧ j < n ∧ intN (R j) u ≠ 0)) :
    Calls Try.prog 80 #[.pointer (some ⟨eb, 0, none⟩)] w fun e w' => e = .returned (.int .i64 (if b then ((3 ^ (u - d) : Nat) : Int) else 0)) ∧ Below w.heap.size w w' := by
  have HE := Lib.hid h
  have HB := Lib.hid hb
  have HD : Hid (Below w.heap.size w w.drew.drew) := Lib.hid (Below.refl _ _).drew.drew
  have e0 : w.drew.drew.cell? ⟨eb, 0, none⟩ = some (modV 3) := h.box.c 0 rfl
  have e1 : w.drew.drew.cell? ⟨eb, 1, none⟩ = some (.int .i64 (u : Int)) := h.box.c 1 rfl
  have e3 : w.drew.drew.cell? ⟨eb, 3, none⟩ = some (.int .i64 (d : Int)) := h.box.c 3 rfl
  have hmp := method_prime3
  have hmv : modV 3 = .iface 248 (.agg #[]) := rfl
  rw [hmv] at e0
  have hsub : (u : Int) - (d : Int) = ((u - d : Nat) : Int) := by omega
  have hwr : IntKind.i64.wrap (((u - d : Nat) : Int)) = ((u - d : Nat) : Int) := IntWalk.i64_in _ (by omega)
  clear h hb hmv
  go_enter Try.func80, Try.ntmps80
  go_wp2_with fail
  refine (hasAnswersC eb rb g n l u d s 3 F R b _ HE.out hul hd hn HB.out).mono ?_
  rintro e w2 ⟨rfl, rfl⟩
  cases b with
  | true =>
    go_wp2_with fail
    refine wp_region_noPanic ?_
    refine wp_region_late (S := (fun w' => w'.cell? ⟨eb, 0, none⟩ = some (.iface 248 (.agg #[])) ∧ w'.cell? ⟨eb, 1, none⟩ = some (.int .i64 (u : Int)) ∧ w'.cell? ⟨eb, 3, none⟩ = some (.int .i64 (d : Int)) ∧ Below w.heap.size w w')) [14] (by kernel_rfl) ?_ (fun hHeld => ?_)
    · exact ⟨e0, e1, e3, HD.out⟩
    refine wpAnyL_free (i := 0) (v := ?_) (some 6) rfl rfl (by kernel_rfl) (by kernel_rfl) (by kernel_rfl) (by decide) (fun _ _ _ h => h) (Or.inl ⟨by rfl, ?_⟩) (fun h0 => by assumption) ?_
    rotate_left
    · intro wS
      go_simp
      try with_reducible rfl
    try simp only [Act.put, List.setIfInBounds_toArray, List.set_cons_zero, List.set_cons_succ]
    refine wpAnyL_free (i := 1) (v := ?_) (some 7) rfl rfl (by kernel_rfl) (by kernel_rfl) (by kernel_rfl) (by decide) (fun _ _ _ h => h) (Or.inl ⟨by rfl, ?_⟩) (fun h0 => by assumption) ?_
    rotate_left
    · intro wS
      go_simp
      try with_reducible rfl
    try simp only [Act.put, List.setIfInBounds_toArray, List.set_cons_zero, List.set_cons_succ]
    refine wpAnyL_free (i := 2) (v := ?_) (some 8) rfl rfl (by kernel_rfl) (by kernel_rfl) (by kernel_rfl) (by decide) (fun _ _ _ h => h) (Or.inl ⟨by rfl, ?_⟩) (fun h0 => by assumption) ?_
    rotate_left
    · intro wS
      go_simp
      try with_reducible rfl
    try simp only [Act.put, List.setIfInBounds_toArray, List.set_cons_zero, List.set_cons_succ]
    refine wpAnyL_take (i := 3) (v := ?_) (some 9) rfl rfl (by kernel_rfl) (by kernel_rfl) (by kernel_rfl) (by kernel_rfl) (by kernel_rfl) (fun _ _ _ h => h) (Or.inl ⟨by rfl, ?_⟩) (by assumption) ?_
    rotate_left
    · intro wS hSw
      try dsimp only at hSw
      go_simp
      try with_reducible rfl
    try simp only [Act.put, List.setIfInBounds_toArray, List.set_cons_zero, List.set_cons_succ]
    refine wpAnyL_free (i := 5) (v := ?_) (some 11) rfl rfl (by kernel_rfl) (by kernel_rfl) (by kernel_rfl) (by decide) (fun _ _ _ h => h) (Or.inl ⟨by rfl, ?_⟩) (fun h0 => by assumption) ?_
    rotate_left
    · intro wS
      go_simp
      try with_reducible rfl
    try simp only [Act.put, List.setIfInBounds_toArray, List.set_cons_zero, List.set_cons_succ]
    refine wpAnyL_free (i := 6) (v := ?_) (some 12) rfl rfl (by kernel_rfl) (by kernel_rfl) (by kernel_rfl) (by decide) (fun _ _ _ h => h) (Or.inl ⟨by rfl, ?_⟩) (fun h0 => by assumption) ?_
    rotate_left
    · intro wS
      go_simp
      try with_reducible rfl
    try simp only [Act.put, List.setIfInBounds_toArray, List.set_cons_zero, List.set_cons_succ]
    refine wpAnyL_free (i := 7) (v := ?_) (some 13) rfl rfl (by kernel_rfl) (by kernel_rfl) (by kernel_rfl) (by decide) (fun _ _ _ h => h) (Or.inl ⟨by rfl, ?_⟩) (fun h0 => by assumption) ?_
    rotate_left
    · intro wS
      go_simp
      try with_reducible rfl
    try simp only [Act.put, List.setIfInBounds_toArray, List.set_cons_zero, List.set_cons_succ]
    refine wpAnyL_take (i := 8) (v := ?_) (some 14) rfl rfl (by kernel_rfl) (by kernel_rfl) (by kernel_rfl) (by kernel_rfl) (by kernel_rfl) (fun _ _ _ h => h) (Or.inl ⟨by rfl, ?_⟩) (by assumption) ?_
    rotate_left
    · intro wS hSw
      try dsimp only at hSw
      go_simp
      try with_reducible rfl
    try simp only [Act.put, List.setIfInBounds_toArray, List.set_cons_zero, List.set_cons_succ]
    refine wpAnyL_free (i := 9) (v := ?_) (some 15) rfl rfl (by kernel_rfl) (by kernel_rfl) (by kernel_rfl) (by decide) (fun _ _ _ h => h) (Or.inl ⟨by rfl, ?_⟩) (fun h0 => by assumption) ?_
    rotate_left
    · intro wS
      go_simp
      try with_reducible rfl
    try simp only [Act.put, List.setIfInBounds_toArray, List.set_cons_zero, List.set_cons_succ]
    refine wpAnyL_free (i := 10) (v := ?_) (some 16) rfl rfl (by kernel_rfl) (by kernel_rfl) (by kernel_rfl) (by decide) (fun _ _ _ h => h) (Or.inl ⟨by rfl, ?_⟩) (fun h0 => by assumption) ?_
    rotate_left
    · intro wS
      go_simp
      try with_reducible rfl
    try simp only [Act.put, List.setIfInBounds_toArray, List.set_cons_zero, List.set_cons_succ]
    refine wpAnyL_free (i := 11) (v := ?_) (some 17) rfl rfl (by kernel_rfl) (by kernel_rfl) (by kernel_rfl) (by decide) (fun _ _ _ h => h) (Or.inl ⟨by rfl, ?_⟩) (fun h0 => by assumption) ?_
    rotate_left
    · intro wS
      go_simp
      try with_reducible rfl
    try simp only [Act.put, List.setIfInBounds_toArray, List.set_cons_zero, List.set_cons_succ]
    refine wpAnyL_take (i := 12) (v := ?_) (some 18) rfl rfl (by kernel_rfl) (by kernel_rfl) (by kernel_rfl) (by kernel_rfl) (by kernel_rfl) (fun _ _ _ h => h) (Or.inl ⟨by rfl, ?_⟩) (by assumption) ?_
    rotate_left
    · intro wS hSw
      try dsimp only at hSw
      go_simp
      try with_reducible rfl
    try simp only [Act.put, List.setIfInBounds_toArray, List.set_cons_zero, List.set_cons_succ]
    refine wpAnyL_free (i := 13) (v := ?_) (some 19) rfl rfl (by kernel_rfl) (by kernel_rfl) (by kernel_rfl) (by decide) (fun _ _ _ h => h) (Or.inl ⟨by rfl, ?_⟩) (fun h0 => by assumption) ?_
    rotate_left
    · intro wS
      go_simp
      try with_reducible rfl
    try simp only [Act.put, List.setIfInBounds_toArray, List.set_cons_zero, List.set_cons_succ]
    refine wpAnyL_ready (rs := [4]) (by kernel_rfl) (by simp) ?_
    refine AllReadyL.cons rfl (fun K hK => ?_) AllReadyL.nil
    go_simp; go_at_call 254; refine (prime3 _).mono ?_; rintro e w5 ⟨rfl, hb5⟩; have HB0 := Lib.hid (hHeld.2.2.2.trans (hb5.mono hHeld.2.2.2.size))
    refine hK.out _ _ ?_ (fun hHeld => ?_)
    · exact ⟨below_cell hb5 hHeld.1, below_cell hb5 hHeld.2.1, below_cell hb5 hHeld.2.2.1, HB0.out⟩
    clear hK K
    try simp only [Act.put, List.setIfInBounds_toArray, List.set_cons_zero, List.set_cons_succ]
    refine wpAnyL_ready (rs := [14]) (by kernel_rfl) (by simp) ?_
    refine AllReadyL.last rfl (by kernel_rfl) (fun K hK => ?_) AllReadyL.nil
    go_simp; go_at_call 139; refine (tupleCountE 3 (u - d) (by decide) (by omega) _).mono ?_; rintro e w6 ⟨rfl, rfl⟩; have HB5 := Lib.hid hHeld.2.2.2
    refine hK.out _ _ ?_
    clear hK K
    try simp only [Act.put, List.setIfInBounds_toArray, List.set_cons_zero, List.set_cons_succ]
    refine wpAnyL_free (i := 15) (v := ?_) (some 2) rfl rfl (by kernel_rfl) (by kernel_rfl) (by kernel_rfl) (by decide) (fun _ _ _ h => h) (Or.inl ⟨by rfl, ?_⟩) (fun h0 => absurd h0 (by decide)) ?_
    rotate_left
    · intro wS
      go_simp
      try with_reducible rfl
    try simp only [Act.put, List.setIfInBounds_toArray, List.set_cons_zero, List.set_cons_succ]
    refine wpAnyL_done (by kernel_rfl) ?_ _
    refine NoPanic.normal ?_
    clear hHeld
    go_wp2
    go_ret
    exact ⟨by simp, HB5.out⟩
  | false =>
    go_wp2
    go_ret
    exact ⟨by simp, (Below.refl _ _).drew⟩

theorem countP (eb rb g n l u d : Nat) (s : Nat → Nat) (p : Nat) (F : Nat → Int) (R : Nat → List Int) (b : Bool) (w : World) (hp : p = 2 ∨ p = 3) (h : ElimAt w eb rb g n l u d s p F R) (hul : u < l) (hd : d ≤ n) (hn : n ≤ 1000) (hu : u ≤ 12) (hdu : d ≤ u) (hb : Tells b (¬ ∃ j, d ≤ j ∧ j < n ∧ intN (R j) u ≠ 0)) :
    Calls Try.prog 80 #[.pointer (some ⟨eb, 0, none⟩)] w fun e w' => e = .returned (.int .i64 (if b then ((p ^ (u - d) : Nat) : Int) else 0)) ∧ Below w.heap.size w w' := by
  rcases hp with rfl | rfl
  · exact count2 eb rb g n l u d s F R b w h hul hd hn hu hdu hb
  · exact count3 eb rb g n l u d s F R b w h hul hd hn hu hdu hb

set_option linter.unusedSimpArgs false in
set_option maxHeartbeats 4000000 in
set_option maxRecDepth 100000 in
theorem implCountAnswers (p u : Int) (a : Option Addr) (n c : Nat) (rs : List (Int × List Int)) (r cd : Int) (w : World) (h : EqsAt w (.slice a n c) rs) (hi : CountAnswersIs p u rs r cd) :
    Calls Try.prog 21 #[.agg #[.int .i64 p, .int .i64 u, .slice a n c]] w fun e w' => e = .returned (.tuple #[.int .i64 r, .int .i64 cd]) ∧ Below w.heap.size w w' := by
  have HBX := Lib.hid (Box.new 30 w #[.int .i64 p, .int .i64 u, .slice a n c])
  have HW : Hid (Below w.heap.size w (w.alloc (.cells #[.int .i64 p, .int .i64 u, .slice a n c] 30))) := Lib.hid ((Below.refl _ _).alloc (Nat.le_refl _) _)
  have HEQ := Lib.hid (h.below HW.out)
  have HI := Lib.hid hi
  have x0 := HBX.out.c 0 rfl
  have x1 := HBX.out.c 1 rfl
  have x2 := HBX.out.c 2 rfl
  clear h hi
  go_enter Try.func21, Try.ntmps21
  by_cases hok : SysOk p u rs
  · have HOK := Lib.hid hok
    obtain ⟨un, rfl⟩ : ∃ un : Nat, u = un := ⟨u.toNat, by have := hok.2.1; unfold InP at this; omega⟩
    obtain ⟨pn, rfl⟩ : ∃ pn : Nat, p = pn := ⟨p.toNat, by have := hok.1; unfold PrimeP at this; omega⟩
    have hpn : pn = 2 ∨ pn = 3 := by have := hok.1; unfold PrimeP at this; omega
    have hn24 := hok.2.2.1
    have hu12 : un ≤ 12 := by have := hok.2.1; unfold InP at this; omega
    have HDN := Lib.hid (elimE_good (l := un + 1 + rs.length) (by rcases hok.1 with h | h <;> omega) (row0_good hok) un).2
    clear hok
    go_wp2_with fail
    refine (implValidSystem _ _ _ _ _ rs true _ HEQ.out (Tells.yes HOK.out)).mono ?_
    rintro e w2 ⟨rfl, hb2⟩
    have y0 := below_cell hb2 x0
    have y1 := below_cell hb2 x1
    have y2 := below_cell hb2 x2
    have HEQ2 := Lib.hid (HEQ.out.below hb2)
    have HW2 := Lib.hid (HW.out.trans (hb2.mono HW.out.size))
    clear hb2 x0 x1 x2
    go_wp2_with fail
    refine (eliminationOfC pn un a n c rs _ HEQ2.out HOK.out).mono ?_
    rintro e w3 ⟨eb, rb, g, s, F, rfl, he, _, _, _, hb3⟩
    have HE := Lib.hid he
    have HW3 := Lib.hid (HW2.out.trans (hb3.mono HW2.out.size))
    obtain ⟨b, hb⟩ := Tells.exists (¬ NoAns pn un rs)
    have HB := Lib.hid hb
    clear he hb3 hb y0 y1 y2
    go_wp2_with fail
    refine (countP eb rb g rs.length (un + 1 + rs.length) un _ s pn F _ b _ hpn HE.out (by omega) HDN.out (by omega) hu12 (elimE_le _) HB.out).mono ?_
    rintro e w4 ⟨rfl, hb4⟩
    have HW4 := Lib.hid (HW3.out.trans (hb4.mono HW3.out.size))
    clear hb4
    obtain ⟨y, hy⟩ : ∃ y : Int, (if b = true then ((pn ^ (un - (elimE (pn : Int) rs.length (row0 rs) un).2) : Nat) : Int) else 0) = y := ⟨_, rfl⟩
    have HY := Lib.hid hy
    rw [hy]
    clear hy
    go_wp2
    go_ret2
    refine ⟨?_, HW4.out⟩
    rw [← HY.out]
    rcases HI.out with ⟨_, h2, rfl, rfl⟩ | ⟨_, h2, rfl, rfl⟩ | ⟨h1, _⟩
    · rw [HB.out.is_true h2]; simp [cntE]
    · rw [HB.out.is_false (fun k => k h2)]; simp
    · exact absurd HOK.out h1
  · have HOK := Lib.hid hok
    clear hok
    go_wp2_with fail
    refine (implValidSystem _ _ _ _ _ rs false _ HEQ.out (Tells.no HOK.out)).mono ?_
    rintro e w2 ⟨rfl, hb2⟩
    have HW2 := Lib.hid (HW.out.trans (hb2.mono HW.out.size))
    clear hb2
    go_wp2
    go_ret2
    rcases HI.out with ⟨h1, _⟩ | ⟨h1, _⟩ | ⟨_, rfl, rfl⟩
    · exact absurd h1 HOK.out
    · exact absurd h1 HOK.out
    · exact ⟨rfl, HW2.out⟩

end Go.Proofs.Ytnbgpeoceejolaa
