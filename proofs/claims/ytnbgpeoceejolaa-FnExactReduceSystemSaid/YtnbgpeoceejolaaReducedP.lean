/-
  (*elimination).system and ReduceSystem of the program.
-/
import Derived.Test.YtnbgpeoceejolaaReducedS
import Derived.Test.YtnbgpeoceejolaaGElimP
import Derived.Test.YtnbgpeoceejolaaClone
namespace Go.Proofs.Ytnbgpeoceejolaa
open Go.RowKit

/-- A row that is not done has a right side other than 0. -/
def BadR (R : Nat → List Int) (u d n : Nat) : Prop := ∃ j, d ≤ j ∧ j < n ∧ intN (R j) u ≠ 0

set_option linter.unusedSimpArgs false in
set_option maxHeartbeats 4000000 in
set_option maxRecDepth 100000 in
theorem systemC (eb rb g n l u d : Nat) (s : Nat → Nat) (p : Int) (F : Nat → Int) (R : Nat → List Int) (w : World) (hp : PrimeP p) (h : ElimAt w eb rb g n l u d s p F R) (hul : u < l) (hd : d ≤ n) (hn : n ≤ 24) (hu : 1 ≤ u ∧ u ≤ 12) (hgd : GoodR p n l R) :
    Calls Try.prog 89 #[.pointer (some ⟨eb, 0, none⟩)] w fun e w' => ∃ a nn c, e = .returned (.agg #[.int .i64 p, .int .i64 (u : Int), .slice a nn c]) ∧ (∃ rd, OwnEqs 46 w' w.heap.size w'.heap.size (.slice a nn c) rd ∧ ((BadR R u d n ∧ rd = [(1, List.replicate u 0)]) ∨ (¬ BadR R u d n ∧ rd = redK R u d))) ∧ Below w.heap.size w w' := by
  obtain ⟨i0, hi, hz0, hz1, hz2⟩ := info_parts info_Equation
  have HP := Lib.hid hp
  have HGD := Lib.hid hgd
  have hrb0 := Box.new 30 w #[.int .i64 0, .int .i64 0, .slice none 0 0]
  have hw1 := (Below.refl w.heap.size w).alloc (Nat.le_refl _) (.cells #[.int .i64 0, .int .i64 0, .slice none 0 0] 30)
  obtain ⟨ob, hob⟩ : ∃ ob, w.heap.size = ob := ⟨_, rfl⟩
  obtain ⟨w1, hw1e⟩ : ∃ w1, w.alloc (.cells #[.int .i64 0, .int .i64 0, .slice none 0 0] 30) = w1 := ⟨_, rfl⟩
  have hs1 : w1.heap.size = ob + 1 := by rw [← hw1e, ← hob]; simp
  rw [hw1e] at hrb0 hw1
  rw [hob] at hrb0
  have HE1 := Lib.hid (h.below hw1)
  have HOB1 := Lib.hid hrb0
  have HW1 := Lib.hid hw1
  have HOB0 := Lib.hid hob
  have HOL : Hid (ob < w1.heap.size) := Lib.hid (by omega)
  have HOE : Hid (w.heap.size ≤ ob) := Lib.hid (Nat.le_of_eq hob)
  obtain ⟨b, hb⟩ := Tells.exists (¬ BadR R u d n)
  have HB := Lib.hid hb
  clear h hgd hrb0 hw1 hs1 hb hp
  go_enter Try.func89, Try.ntmps89
  go_wp2_with fail
  try simp only [hob]
  try rw [hw1e]
  clear hw1e
  go_upto_region 1 with fail
  go_cut [3] from 6 to 15 (fun v3 wz => ∃ P, v3 = .pointer (some ⟨P, 0, none⟩) ∧ Box 30 wz P #[.int .i64 p, .int .i64 (u : Int), .slice none 0 0] ∧ w1.heap.size ≤ P ∧ Below w1.heap.size w1 wz)
  case first =>
    have HDD : Hid (Below w1.heap.size w1 w1.drew) := Lib.hid (Below.refl _ _).drew
    have e1 : w1.drew.cell? ⟨eb, 1, none⟩ = some (.int .i64 (u : Int)) := HE1.out.box.c 1 rfl
    rcases HP.out with rfl | rfl
    · have hmp := method_prime2
      have e0 : w1.drew.cell? ⟨eb, 0, none⟩ = some (.iface 247 (.agg #[])) := HE1.out.box.c 0 rfl
      refine wp_region_noPanic ?_
      refine wp_region_late (S := (fun w' => w'.cell? ⟨eb, 0, none⟩ = some (.iface 247 (.agg #[])) ∧ w'.cell? ⟨eb, 1, none⟩ = some (.int .i64 (u : Int)) ∧ Below w1.heap.size w1 w')) [11] (by kernel_rfl) ?_ (fun hHeld => ?_)
      · exact ⟨e0, e1, HDD.out⟩
      refine wpAnyL_free (i := 0) (v := ?_) (some 6) rfl rfl (by kernel_rfl) (by kernel_rfl) (by kernel_rfl) (by decide) (fun _ _ _ h => h) (Or.inl ⟨by rfl, ?_⟩) (fun h0 => by assumption) ?_
      rotate_left
      · intro wS
        go_simp
        try with_reducible rfl
      try simp only [Act.put, List.setIfInBounds_toArray, List.set_cons_zero, List.set_cons_succ]
      refine wpAnyL_free (i := 1) (v := ?_) (some 7) rfl rfl (by kernel_rfl) (by kernel_rfl) (by kernel_rfl) (by decide) (fun _ _ _ h => h) (Or.inl ⟨by rfl, ?_⟩) (fun h0 => by assumption) ?_
      rotate_left
      · intro wS
        go_simp
        try with_reducible rfl
      try simp only [Act.put, List.setIfInBounds_toArray, List.set_cons_zero, List.set_cons_succ]
      refine wpAnyL_free (i := 2) (v := ?_) (some 8) rfl rfl (by kernel_rfl) (by kernel_rfl) (by kernel_rfl) (by decide) (fun _ _ _ h => h) (Or.inl ⟨by rfl, ?_⟩) (fun h0 => by assumption) ?_
      rotate_left
      · intro wS
        go_simp
        try with_reducible rfl
      try simp only [Act.put, List.setIfInBounds_toArray, List.set_cons_zero, List.set_cons_succ]
      refine wpAnyL_take (i := 3) (v := ?_) (some 9) rfl rfl (by kernel_rfl) (by kernel_rfl) (by kernel_rfl) (by kernel_rfl) (by kernel_rfl) (fun _ _ _ h => h) (Or.inl ⟨by rfl, ?_⟩) (by assumption) ?_
      rotate_left
      · intro wS hSw
        try dsimp only at hSw
        go_simp
        try with_reducible rfl
      try simp only [Act.put, List.setIfInBounds_toArray, List.set_cons_zero, List.set_cons_succ]
      refine wpAnyL_free (i := 5) (v := ?_) (some 11) rfl rfl (by kernel_rfl) (by kernel_rfl) (by kernel_rfl) (by decide) (fun _ _ _ h => h) (Or.inl ⟨by rfl, ?_⟩) (fun h0 => by assumption) ?_
      rotate_left
      · intro wS
        go_simp
        try with_reducible rfl
      try simp only [Act.put, List.setIfInBounds_toArray, List.set_cons_zero, List.set_cons_succ]
      refine wpAnyL_free (i := 6) (v := ?_) (some 12) rfl rfl (by kernel_rfl) (by kernel_rfl) (by kernel_rfl) (by decide) (fun _ _ _ h => h) (Or.inl ⟨by rfl, ?_⟩) (fun h0 => by assumption) ?_
      rotate_left
      · intro wS
        go_simp
        try with_reducible rfl
      try simp only [Act.put, List.setIfInBounds_toArray, List.set_cons_zero, List.set_cons_succ]
      refine wpAnyL_free (i := 7) (v := ?_) (some 13) rfl rfl (by kernel_rfl) (by kernel_rfl) (by kernel_rfl) (by decide) (fun _ _ _ h => h) (Or.inl ⟨by rfl, ?_⟩) (fun h0 => by assumption) ?_
      rotate_left
      · intro wS
        go_simp
        try with_reducible rfl
      try simp only [Act.put, List.setIfInBounds_toArray, List.set_cons_zero, List.set_cons_succ]
      refine wpAnyL_take (i := 8) (v := ?_) (some 14) rfl rfl (by kernel_rfl) (by kernel_rfl) (by kernel_rfl) (by kernel_rfl) (by kernel_rfl) (fun _ _ _ h => h) (Or.inl ⟨by rfl, ?_⟩) (by assumption) ?_
      rotate_left
      · intro wS hSw
        try dsimp only at hSw
        go_simp
        try with_reducible rfl
      try simp only [Act.put, List.setIfInBounds_toArray, List.set_cons_zero, List.set_cons_succ]
      refine wpAnyL_ready (rs := [4, 10]) (by kernel_rfl) (by simp) ?_
      refine AllReadyL.cons rfl (fun K hK => ?_) ?_
      · skip
        go_simp; go_at_call 253; refine (prime2 _).mono ?_; rintro e wB ⟨rfl, hbB⟩
        refine hK.out _ _ ?_ (fun hHeld => ?_)
        · exact ⟨below_cell hbB hHeld.1, below_cell hbB hHeld.2.1, hHeld.2.2.trans (hbB.mono hHeld.2.2.size)⟩
        clear hK K
        try simp only [Act.put, List.setIfInBounds_toArray, List.set_cons_zero, List.set_cons_succ]
        refine wpAnyL_free (i := 9) (v := ?_) (some 15) rfl rfl (by kernel_rfl) (by kernel_rfl) (by kernel_rfl) (by decide) (fun _ _ _ h => h) (Or.inl ⟨by rfl, ?_⟩) (fun h0 => by assumption) ?_
        rotate_left
        · intro wS
          go_simp
          try with_reducible rfl
        try simp only [Act.put, List.setIfInBounds_toArray, List.set_cons_zero, List.set_cons_succ]
        refine wpAnyL_ready (rs := [10]) (by kernel_rfl) (by simp) ?_
        refine AllReadyL.cons rfl (fun K hK => ?_) AllReadyL.nil
        go_simp
        obtain ⟨wC, hwC⟩ : ∃ wC, wB.alloc (.cells #[.int .i64 0, .int .i64 0, .slice none 0 0] 30) = wC := ⟨_, rfl⟩
        obtain ⟨P, hP⟩ : ∃ P, wB.heap.size = P := ⟨_, rfl⟩
        have hbC : Below wB.heap.size wB wC := by rw [← hwC]; exact (Below.refl _ _).alloc (Nat.le_refl _) _
        have HC : Hid (Box 30 wC P #[.int .i64 0, .int .i64 0, .slice none 0 0]) := Lib.hid (by rw [← hwC, ← hP]; exact Box.new _ _ _)
        have HLC : Hid (w1.heap.size ≤ P) := Lib.hid (by rw [← hP]; exact hHeld.2.2.size)
        try rw [show w1.heap.size = P from hP]
        try rw [hP]
        rw [hwC]
        clear hwC
        refine hK.out _ _ ?_ (fun hHeld => ?_)
        · exact ⟨below_cell hbC hHeld.1, below_cell hbC hHeld.2.1, hHeld.2.2.trans (hbC.mono hHeld.2.2.size)⟩
        clear hK K
        try simp only [Act.put, List.setIfInBounds_toArray, List.set_cons_zero, List.set_cons_succ]
        refine wpAnyL_ready (rs := [11]) (by kernel_rfl) (by simp) ?_
        refine AllReadyL.last rfl (by kernel_rfl) (fun K hK => ?_) AllReadyL.nil
        have z0 : wC.cell? ⟨P, 0, none⟩ = some (.int .i64 0) := HC.out.c 0 rfl
        have y0 := HC.out.free 0
        have z1 : wC.cell? ⟨P, 1, none⟩ = some (.int .i64 0) := HC.out.c 1 rfl
        have y1 := HC.out.free 1
        have z2 : wC.cell? ⟨P, 2, none⟩ = some (.slice none 0 0) := HC.out.c 2 rfl
        have y2 := HC.out.free 2
        have HBW := Lib.hid hHeld.2.2
        go_simp
        refine hK.out _ _ ?_
        clear hK K
        try simp only [Act.put, List.setIfInBounds_toArray, List.set_cons_zero, List.set_cons_succ]
        refine wpAnyL_done (by kernel_rfl) ?_ _
        refine NoPanic.normal ?_
        have HF := Lib.hid (((HC.out.set 0 (.int .i64 2)).set 1 (.int .i64 (u : Int))).set 2 (.slice none 0 0))
        have hlo : w1.heap.size ≤ P := HLC.out
        have HBF := Lib.hid (((HBW.out.setCell (p := ⟨P, 0, none⟩) hlo (.int .i64 2)).setCell (p := ⟨P, 1, none⟩) hlo (.int .i64 (u : Int))).setCell (p := ⟨P, 2, none⟩) hlo (.slice none 0 0))
        have HF2 := Lib.hid ((HC.out.set 0 (.int .i64 2)).set 1 (.int .i64 (u : Int)))
        have HBF2 := Lib.hid ((HBW.out.setCell (p := ⟨P, 0, none⟩) hlo (.int .i64 2)).setCell (p := ⟨P, 1, none⟩) hlo (.int .i64 (u : Int)))
        clear z0 z1 z2 y0 y1 y2 hHeld hlo
        go_wp2_with fail
        go_meet
        refine ⟨P, rfl, ?_, HLC.out, ?_⟩
        · first
          | exact HF.out
          | exact HF2.out
          | (rw [Box.drew_iff]; exact HF.out)
        · first
          | exact HBF.out
          | exact HBF2.out
          | exact HBF.out.drew
      refine AllReadyL.cons rfl (fun K hK => ?_) AllReadyL.nil
      go_simp
      obtain ⟨wC, hwC⟩ : ∃ wC, (w1.alloc (.cells #[.int .i64 0, .int .i64 0, .slice none 0 0] 30)).drew = wC := ⟨_, rfl⟩
      obtain ⟨P, hP⟩ : ∃ P, w1.drew.heap.size = P := ⟨_, rfl⟩
      have hbC : Below w1.drew.heap.size w1.drew wC := by rw [← hwC]; exact (Below.refl _ _).alloc (Nat.le_refl _) _
      have HC : Hid (Box 30 wC P #[.int .i64 0, .int .i64 0, .slice none 0 0]) := Lib.hid (by rw [← hwC, ← hP]; exact Box.new _ _ _)
      have HLC : Hid (w1.heap.size ≤ P) := Lib.hid (by rw [← hP]; exact hHeld.2.2.size)
      try rw [show w1.heap.size = P from hP]
      try rw [hP]
      rw [hwC]
      clear hwC
      refine hK.out _ _ ?_ (fun hHeld => ?_)
      · exact ⟨below_cell hbC hHeld.1, below_cell hbC hHeld.2.1, hHeld.2.2.trans (hbC.mono hHeld.2.2.size)⟩
      clear hK K
      try simp only [Act.put, List.setIfInBounds_toArray, List.set_cons_zero, List.set_cons_succ]
      refine wpAnyL_ready (rs := [4]) (by kernel_rfl) (by simp) ?_
      refine AllReadyL.cons rfl (fun K hK => ?_) AllReadyL.nil
      go_simp; go_at_call 253; refine (prime2 _).mono ?_; rintro e wB ⟨rfl, hbB⟩
      have HC2 := Lib.hid (HC.out.below hbB)
      refine hK.out _ _ ?_ (fun hHeld => ?_)
      · exact ⟨below_cell hbB hHeld.1, below_cell hbB hHeld.2.1, hHeld.2.2.trans (hbB.mono hHeld.2.2.size)⟩
      clear hK K
      try simp only [Act.put, List.setIfInBounds_toArray, List.set_cons_zero, List.set_cons_succ]
      refine wpAnyL_free (i := 9) (v := ?_) (some 15) rfl rfl (by kernel_rfl) (by kernel_rfl) (by kernel_rfl) (by decide) (fun _ _ _ h => h) (Or.inl ⟨by rfl, ?_⟩) (fun h0 => by assumption) ?_
      rotate_left
      · intro wS
        go_simp
        try with_reducible rfl
      try simp only [Act.put, List.setIfInBounds_toArray, List.set_cons_zero, List.set_cons_succ]
      refine wpAnyL_ready (rs := [11]) (by kernel_rfl) (by simp) ?_
      refine AllReadyL.last rfl (by kernel_rfl) (fun K hK => ?_) AllReadyL.nil
      have z0 : wB.cell? ⟨P, 0, none⟩ = some (.int .i64 0) := HC2.out.c 0 rfl
      have y0 := HC2.out.free 0
      have z1 : wB.cell? ⟨P, 1, none⟩ = some (.int .i64 0) := HC2.out.c 1 rfl
      have y1 := HC2.out.free 1
      have z2 : wB.cell? ⟨P, 2, none⟩ = some (.slice none 0 0) := HC2.out.c 2 rfl
      have y2 := HC2.out.free 2
      have HBW := Lib.hid hHeld.2.2
      go_simp
      refine hK.out _ _ ?_
      clear hK K
      try simp only [Act.put, List.setIfInBounds_toArray, List.set_cons_zero, List.set_cons_succ]
      refine wpAnyL_done (by kernel_rfl) ?_ _
      refine NoPanic.normal ?_
      have HF := Lib.hid (((HC2.out.set 0 (.int .i64 2)).set 1 (.int .i64 (u : Int))).set 2 (.slice none 0 0))
      have hlo : w1.heap.size ≤ P := HLC.out
      have HBF := Lib.hid (((HBW.out.setCell (p := ⟨P, 0, none⟩) hlo (.int .i64 2)).setCell (p := ⟨P, 1, none⟩) hlo (.int .i64 (u : Int))).setCell (p := ⟨P, 2, none⟩) hlo (.slice none 0 0))
      have HF2 := Lib.hid ((HC2.out.set 0 (.int .i64 2)).set 1 (.int .i64 (u : Int)))
      have HBF2 := Lib.hid ((HBW.out.setCell (p := ⟨P, 0, none⟩) hlo (.int .i64 2)).setCell (p := ⟨P, 1, none⟩) hlo (.int .i64 (u : Int)))
      clear z0 z1 z2 y0 y1 y2 hHeld hlo
      go_wp2_with fail
      go_meet
      refine ⟨P, rfl, ?_, HLC.out, ?_⟩
      · first
        | exact HF.out
        | exact HF2.out
        | (rw [Box.drew_iff]; exact HF.out)
      · first
        | exact HBF.out
        | exact HBF2.out
        | exact HBF.out.drew
    · have hmp := method_prime3
      have e0 : w1.drew.cell? ⟨eb, 0, none⟩ = some (.iface 248 (.agg #[])) := HE1.out.box.c 0 rfl
      refine wp_region_noPanic ?_
      refine wp_region_late (S := (fun w' => w'.cell? ⟨eb, 0, none⟩ = some (.iface 248 (.agg #[])) ∧ w'.cell? ⟨eb, 1, none⟩ = some (.int .i64 (u : Int)) ∧ Below w1.heap.size w1 w')) [11] (by kernel_rfl) ?_ (fun hHeld => ?_)
      · exact ⟨e0, e1, HDD.out⟩
      refine wpAnyL_free (i := 0) (v := ?_) (some 6) rfl rfl (by kernel_rfl) (by kernel_rfl) (by kernel_rfl) (by decide) (fun _ _ _ h => h) (Or.inl ⟨by rfl, ?_⟩) (fun h0 => by assumption) ?_
      rotate_left
      · intro wS
        go_simp
        try with_reducible rfl
      try simp only [Act.put, List.setIfInBounds_toArray, List.set_cons_zero, List.set_cons_succ]
      refine wpAnyL_free (i := 1) (v := ?_) (some 7) rfl rfl (by kernel_rfl) (by kernel_rfl) (by kernel_rfl) (by decide) (fun _ _ _ h => h) (Or.inl ⟨by rfl, ?_⟩) (fun h0 => by assumption) ?_
      rotate_left
      · intro wS
        go_simp
        try with_reducible rfl
      try simp only [Act.put, List.setIfInBounds_toArray, List.set_cons_zero, List.set_cons_succ]
      refine wpAnyL_free (i := 2) (v := ?_) (some 8) rfl rfl (by kernel_rfl) (by kernel_rfl) (by kernel_rfl) (by decide) (fun _ _ _ h => h) (Or.inl ⟨by rfl, ?_⟩) (fun h0 => by assumption) ?_
      rotate_left
      · intro wS
        go_simp
        try with_reducible rfl
      try simp only [Act.put, List.setIfInBounds_toArray, List.set_cons_zero, List.set_cons_succ]
      refine wpAnyL_take (i := 3) (v := ?_) (some 9) rfl rfl (by kernel_rfl) (by kernel_rfl) (by kernel_rfl) (by kernel_rfl) (by kernel_rfl) (fun _ _ _ h => h) (Or.inl ⟨by rfl, ?_⟩) (by assumption) ?_
      rotate_left
      · intro wS hSw
        try dsimp only at hSw
        go_simp
        try with_reducible rfl
      try simp only [Act.put, List.setIfInBounds_toArray, List.set_cons_zero, List.set_cons_succ]
      refine wpAnyL_free (i := 5) (v := ?_) (some 11) rfl rfl (by kernel_rfl) (by kernel_rfl) (by kernel_rfl) (by decide) (fun _ _ _ h => h) (Or.inl ⟨by rfl, ?_⟩) (fun h0 => by assumption) ?_
      rotate_left
      · intro wS
        go_simp
        try with_reducible rfl
      try simp only [Act.put, List.setIfInBounds_toArray, List.set_cons_zero, List.set_cons_succ]
      refine wpAnyL_free (i := 6) (v := ?_) (some 12) rfl rfl (by kernel_rfl) (by kernel_rfl) (by kernel_rfl) (by decide) (fun _ _ _ h => h) (Or.inl ⟨by rfl, ?_⟩) (fun h0 => by assumption) ?_
      rotate_left
      · intro wS
        go_simp
        try with_reducible rfl
      try simp only [Act.put, List.setIfInBounds_toArray, List.set_cons_zero, List.set_cons_succ]
      refine wpAnyL_free (i := 7) (v := ?_) (some 13) rfl rfl (by kernel_rfl) (by kernel_rfl) (by kernel_rfl) (by decide) (fun _ _ _ h => h) (Or.inl ⟨by rfl, ?_⟩) (fun h0 => by assumption) ?_
      rotate_left
      · intro wS
        go_simp
        try with_reducible rfl
      try simp only [Act.put, List.setIfInBounds_toArray, List.set_cons_zero, List.set_cons_succ]
      refine wpAnyL_take (i := 8) (v := ?_) (some 14) rfl rfl (by kernel_rfl) (by kernel_rfl) (by kernel_rfl) (by kernel_rfl) (by kernel_rfl) (fun _ _ _ h => h) (Or.inl ⟨by rfl, ?_⟩) (by assumption) ?_
      rotate_left
      · intro wS hSw
        try dsimp only at hSw
        go_simp
        try with_reducible rfl
      try simp only [Act.put, List.setIfInBounds_toArray, List.set_cons_zero, List.set_cons_succ]
      refine wpAnyL_ready (rs := [4, 10]) (by kernel_rfl) (by simp) ?_
      refine AllReadyL.cons rfl (fun K hK => ?_) ?_
      · skip
        go_simp; go_at_call 254; refine (prime3 _).mono ?_; rintro e wB ⟨rfl, hbB⟩
        refine hK.out _ _ ?_ (fun hHeld => ?_)
        · exact ⟨below_cell hbB hHeld.1, below_cell hbB hHeld.2.1, hHeld.2.2.trans (hbB.mono hHeld.2.2.size)⟩
        clear hK K
        try simp only [Act.put, List.setIfInBounds_toArray, List.set_cons_zero, List.set_cons_succ]
        refine wpAnyL_free (i := 9) (v := ?_) (some 15) rfl rfl (by kernel_rfl) (by kernel_rfl) (by kernel_rfl) (by decide) (fun _ _ _ h => h) (Or.inl ⟨by rfl, ?_⟩) (fun h0 => by assumption) ?_
        rotate_left
        · intro wS
          go_simp
          try with_reducible rfl
        try simp only [Act.put, List.setIfInBounds_toArray, List.set_cons_zero, List.set_cons_succ]
        refine wpAnyL_ready (rs := [10]) (by kernel_rfl) (by simp) ?_
        refine AllReadyL.cons rfl (fun K hK => ?_) AllReadyL.nil
        go_simp
        obtain ⟨wC, hwC⟩ : ∃ wC, wB.alloc (.cells #[.int .i64 0, .int .i64 0, .slice none 0 0] 30) = wC := ⟨_, rfl⟩
        obtain ⟨P, hP⟩ : ∃ P, wB.heap.size = P := ⟨_, rfl⟩
        have hbC : Below wB.heap.size wB wC := by rw [← hwC]; exact (Below.refl _ _).alloc (Nat.le_refl _) _
        have HC : Hid (Box 30 wC P #[.int .i64 0, .int .i64 0, .slice none 0 0]) := Lib.hid (by rw [← hwC, ← hP]; exact Box.new _ _ _)
        have HLC : Hid (w1.heap.size ≤ P) := Lib.hid (by rw [← hP]; exact hHeld.2.2.size)
        try rw [show w1.heap.size = P from hP]
        try rw [hP]
        rw [hwC]
        clear hwC
        refine hK.out _ _ ?_ (fun hHeld => ?_)
        · exact ⟨below_cell hbC hHeld.1, below_cell hbC hHeld.2.1, hHeld.2.2.trans (hbC.mono hHeld.2.2.size)⟩
        clear hK K
        try simp only [Act.put, List.setIfInBounds_toArray, List.set_cons_zero, List.set_cons_succ]
        refine wpAnyL_ready (rs := [11]) (by kernel_rfl) (by simp) ?_
        refine AllReadyL.last rfl (by kernel_rfl) (fun K hK => ?_) AllReadyL.nil
        have z0 : wC.cell? ⟨P, 0, none⟩ = some (.int .i64 0) := HC.out.c 0 rfl
        have y0 := HC.out.free 0
        have z1 : wC.cell? ⟨P, 1, none⟩ = some (.int .i64 0) := HC.out.c 1 rfl
        have y1 := HC.out.free 1
        have z2 : wC.cell? ⟨P, 2, none⟩ = some (.slice none 0 0) := HC.out.c 2 rfl
        have y2 := HC.out.free 2
        have HBW := Lib.hid hHeld.2.2
        go_simp
        refine hK.out _ _ ?_
        clear hK K
        try simp only [Act.put, List.setIfInBounds_toArray, List.set_cons_zero, List.set_cons_succ]
        refine wpAnyL_done (by kernel_rfl) ?_ _
        refine NoPanic.normal ?_
        have HF := Lib.hid (((HC.out.set 0 (.int .i64 3)).set 1 (.int .i64 (u : Int))).set 2 (.slice none 0 0))
        have hlo : w1.heap.size ≤ P := HLC.out
        have HBF := Lib.hid (((HBW.out.setCell (p := ⟨P, 0, none⟩) hlo (.int .i64 3)).setCell (p := ⟨P, 1, none⟩) hlo (.int .i64 (u : Int))).setCell (p := ⟨P, 2, none⟩) hlo (.slice none 0 0))
        have HF2 := Lib.hid ((HC.out.set 0 (.int .i64 3)).set 1 (.int .i64 (u : Int)))
        have HBF2 := Lib.hid ((HBW.out.setCell (p := ⟨P, 0, none⟩) hlo (.int .i64 3)).setCell (p := ⟨P, 1, none⟩) hlo (.int .i64 (u : Int)))
        clear z0 z1 z2 y0 y1 y2 hHeld hlo
        go_wp2_with fail
        go_meet
        refine ⟨P, rfl, ?_, HLC.out, ?_⟩
        · first
          | exact HF.out
          | exact HF2.out
          | (rw [Box.drew_iff]; exact HF.out)
        · first
          | exact HBF.out
          | exact HBF2.out
          | exact HBF.out.drew
      refine AllReadyL.cons rfl (fun K hK => ?_) AllReadyL.nil
      go_simp
      obtain ⟨wC, hwC⟩ : ∃ wC, (w1.alloc (.cells #[.int .i64 0, .int .i64 0, .slice none 0 0] 30)).drew = wC := ⟨_, rfl⟩
      obtain ⟨P, hP⟩ : ∃ P, w1.drew.heap.size = P := ⟨_, rfl⟩
      have hbC : Below w1.drew.heap.size w1.drew wC := by rw [← hwC]; exact (Below.refl _ _).alloc (Nat.le_refl _) _
      have HC : Hid (Box 30 wC P #[.int .i64 0, .int .i64 0, .slice none 0 0]) := Lib.hid (by rw [← hwC, ← hP]; exact Box.new _ _ _)
      have HLC : Hid (w1.heap.size ≤ P) := Lib.hid (by rw [← hP]; exact hHeld.2.2.size)
      try rw [show w1.heap.size = P from hP]
      try rw [hP]
      rw [hwC]
      clear hwC
      refine hK.out _ _ ?_ (fun hHeld => ?_)
      · exact ⟨below_cell hbC hHeld.1, below_cell hbC hHeld.2.1, hHeld.2.2.trans (hbC.mono hHeld.2.2.size)⟩
      clear hK K
      try simp only [Act.put, List.setIfInBounds_toArray, List.set_cons_zero, List.set_cons_succ]
      refine wpAnyL_ready (rs := [4]) (by kernel_rfl) (by simp) ?_
      refine AllReadyL.cons rfl (fun K hK => ?_) AllReadyL.nil
      go_simp; go_at_call 254; refine (prime3 _).mono ?_; rintro e wB ⟨rfl, hbB⟩
      have HC2 := Lib.hid (HC.out.below hbB)
      refine hK.out _ _ ?_ (fun hHeld => ?_)
      · exact ⟨below_cell hbB hHeld.1, below_cell hbB hHeld.2.1, hHeld.2.2.trans (hbB.mono hHeld.2.2.size)⟩
      clear hK K
      try simp only [Act.put, List.setIfInBounds_toArray, List.set_cons_zero, List.set_cons_succ]
      refine wpAnyL_free (i := 9) (v := ?_) (some 15) rfl rfl (by kernel_rfl) (by kernel_rfl) (by kernel_rfl) (by decide) (fun _ _ _ h => h) (Or.inl ⟨by rfl, ?_⟩) (fun h0 => by assumption) ?_
      rotate_left
      · intro wS
        go_simp
        try with_reducible rfl
      try simp only [Act.put, List.setIfInBounds_toArray, List.set_cons_zero, List.set_cons_succ]
      refine wpAnyL_ready (rs := [11]) (by kernel_rfl) (by simp) ?_
      refine AllReadyL.last rfl (by kernel_rfl) (fun K hK => ?_) AllReadyL.nil
      have z0 : wB.cell? ⟨P, 0, none⟩ = some (.int .i64 0) := HC2.out.c 0 rfl
      have y0 := HC2.out.free 0
      have z1 : wB.cell? ⟨P, 1, none⟩ = some (.int .i64 0) := HC2.out.c 1 rfl
      have y1 := HC2.out.free 1
      have z2 : wB.cell? ⟨P, 2, none⟩ = some (.slice none 0 0) := HC2.out.c 2 rfl
      have y2 := HC2.out.free 2
      have HBW := Lib.hid hHeld.2.2
      go_simp
      refine hK.out _ _ ?_
      clear hK K
      try simp only [Act.put, List.setIfInBounds_toArray, List.set_cons_zero, List.set_cons_succ]
      refine wpAnyL_done (by kernel_rfl) ?_ _
      refine NoPanic.normal ?_
      have HF := Lib.hid (((HC2.out.set 0 (.int .i64 3)).set 1 (.int .i64 (u : Int))).set 2 (.slice none 0 0))
      have hlo : w1.heap.size ≤ P := HLC.out
      have HBF := Lib.hid (((HBW.out.setCell (p := ⟨P, 0, none⟩) hlo (.int .i64 3)).setCell (p := ⟨P, 1, none⟩) hlo (.int .i64 (u : Int))).setCell (p := ⟨P, 2, none⟩) hlo (.slice none 0 0))
      have HF2 := Lib.hid ((HC2.out.set 0 (.int .i64 3)).set 1 (.int .i64 (u : Int)))
      have HBF2 := Lib.hid ((HBW.out.setCell (p := ⟨P, 0, none⟩) hlo (.int .i64 3)).setCell (p := ⟨P, 1, none⟩) hlo (.int .i64 (u : Int)))
      clear z0 z1 z2 y0 y1 y2 hHeld hlo
      go_wp2_with fail
      go_meet
      refine ⟨P, rfl, ?_, HLC.out, ?_⟩
      · first
        | exact HF.out
        | exact HF2.out
        | (rw [Box.drew_iff]; exact HF.out)
      · first
        | exact HBF.out
        | exact HBF2.out
        | exact HBF.out.drew
  case rest =>
    obtain ⟨P, rfl, hbp, hpg, hbw⟩ := hcut
    have HPG : Hid (w1.heap.size ≤ P) := Lib.hid hpg
    have HEC := Lib.hid (HE1.out.below hbw)
    have HBPC := Lib.hid hbp
    have HBKC := Lib.hid hbw
    clear hbp hpg hbw
    go_wp2_with fail
    refine (hasAnswersC eb rb g n l u d s p F R b _ HEC.out hul hd (by omega) HB.out).mono ?_
    rintro e w4 ⟨rfl, rfl⟩
    obtain ⟨wz2, hwz2⟩ : ∃ wz2, wc.drew = wz2 := ⟨_, rfl⟩
    have HE2 := Lib.hid HEC.out.drew
    have HBP2 : Hid (Box 30 wz2 P #[.int .i64 p, .int .i64 (u : Int), .slice none 0 0]) := Lib.hid (by rw [← hwz2]; exact HBPC.out.below (Below.refl _ _).drew)
    have HBK2 : Hid (Below w1.heap.size w1 wz2) := Lib.hid (by rw [← hwz2]; exact HBKC.out.drew)
    rw [hwz2] at HE2
    rw [show wc.drew = wz2 from hwz2]
    clear hwz2
    cases b with
    | true =>
      have x2 : wz2.cell? ⟨eb, 2, none⟩ = some (.slice (some ⟨rb, 0, none⟩) n n) := HE2.out.box.c 2 rfl
      have x3 : wz2.cell? ⟨eb, 3, none⟩ = some (.int .i64 (d : Int)) := HE2.out.box.c 3 rfl
      have hdn : (d : Int) ≤ (n : Int) := by omega
      go_wp2_with fail
      refine wp_region_noPanic ?_
      refine wp_region_late (S := (fun w' => w'.cell? ⟨eb, 2, none⟩ = some (.slice (some ⟨rb, 0, none⟩) n n) ∧ w'.cell? ⟨eb, 3, none⟩ = some (.int .i64 (d : Int)))) [] (by kernel_rfl) ?_ (fun hHeld => ?_)
      · exact ⟨x2, x3⟩
      refine wpAnyL_free (i := 0) (v := ?_) (some 28) rfl rfl (by kernel_rfl) (by kernel_rfl) (by kernel_rfl) (by decide) (fun _ _ _ h => h) (Or.inl ⟨by rfl, ?_⟩) (fun h0 => by assumption) ?_
      rotate_left
      · intro wS
        go_simp
        try with_reducible rfl
      try simp only [Act.put, List.setIfInBounds_toArray, List.set_cons_zero, List.set_cons_succ]
      refine wpAnyL_free (i := 1) (v := ?_) (some 29) rfl rfl (by kernel_rfl) (by kernel_rfl) (by kernel_rfl) (by decide) (fun _ _ _ h => h) (Or.inl ⟨by rfl, ?_⟩) (fun h0 => by assumption) ?_
      rotate_left
      · intro wS
        go_simp
        try with_reducible rfl
      try simp only [Act.put, List.setIfInBounds_toArray, List.set_cons_zero, List.set_cons_succ]
      refine wpAnyL_free (i := 2) (v := ?_) (some 30) rfl rfl (by kernel_rfl) (by kernel_rfl) (by kernel_rfl) (by decide) (fun _ _ _ h => h) (Or.inl ⟨by rfl, ?_⟩) (fun h0 => by assumption) ?_
      rotate_left
      · intro wS
        go_simp
        try with_reducible rfl
      try simp only [Act.put, List.setIfInBounds_toArray, List.set_cons_zero, List.set_cons_succ]
      refine wpAnyL_take (i := 3) (v := ?_) (some 31) rfl rfl (by kernel_rfl) (by kernel_rfl) (by kernel_rfl) (by kernel_rfl) (by kernel_rfl) (fun _ _ _ h => h) (Or.inl ⟨by rfl, ?_⟩) (by assumption) ?_
      rotate_left
      · intro wS hSw
        try dsimp only at hSw
        go_simp
        try with_reducible rfl
      try simp only [Act.put, List.setIfInBounds_toArray, List.set_cons_zero, List.set_cons_succ]
      refine wpAnyL_free (i := 4) (v := ?_) (some 32) rfl rfl (by kernel_rfl) (by kernel_rfl) (by kernel_rfl) (by decide) (fun _ _ _ h => h) (Or.inl ⟨by rfl, ?_⟩) (fun h0 => by assumption) ?_
      rotate_left
      · intro wS
        go_simp
        try with_reducible rfl
      try simp only [Act.put, List.setIfInBounds_toArray, List.set_cons_zero, List.set_cons_succ]
      refine wpAnyL_free (i := 5) (v := ?_) (some 33) rfl rfl (by kernel_rfl) (by kernel_rfl) (by kernel_rfl) (by decide) (fun _ _ _ h => h) (Or.inl ⟨by rfl, ?_⟩) (fun h0 => by assumption) ?_
      rotate_left
      · intro wS
        go_simp
        try with_reducible rfl
      try simp only [Act.put, List.setIfInBounds_toArray, List.set_cons_zero, List.set_cons_succ]
      refine wpAnyL_free (i := 6) (v := ?_) (some 34) rfl rfl (by kernel_rfl) (by kernel_rfl) (by kernel_rfl) (by decide) (fun _ _ _ h => h) (Or.inl ⟨by rfl, ?_⟩) (fun h0 => by assumption) ?_
      rotate_left
      · intro wS
        go_simp
        try with_reducible rfl
      try simp only [Act.put, List.setIfInBounds_toArray, List.set_cons_zero, List.set_cons_succ]
      refine wpAnyL_take (i := 7) (v := ?_) (some 35) rfl rfl (by kernel_rfl) (by kernel_rfl) (by kernel_rfl) (by kernel_rfl) (by kernel_rfl) (fun _ _ _ h => h) (Or.inl ⟨by rfl, ?_⟩) (by assumption) ?_
      rotate_left
      · intro wS hSw
        try dsimp only at hSw
        go_simp
        try with_reducible rfl
      try simp only [Act.put, List.setIfInBounds_toArray, List.set_cons_zero, List.set_cons_succ]
      refine wpAnyL_free (i := 8) (v := ?_) (some 36) rfl rfl (by kernel_rfl) (by kernel_rfl) (by kernel_rfl) (by decide) (fun _ _ _ h => h) (Or.inl ⟨by rfl, ?_⟩) (fun h0 => by assumption) ?_
      rotate_left
      · intro wS
        go_simp
        try with_reducible rfl
      try simp only [Act.put, List.setIfInBounds_toArray, List.set_cons_zero, List.set_cons_succ]
      refine wpAnyL_free (i := 9) (v := ?_) (some 37) rfl rfl (by kernel_rfl) (by kernel_rfl) (by kernel_rfl) (by decide) (fun _ _ _ h => h) (Or.inl ⟨by rfl, ?_⟩) (fun h0 => by assumption) ?_
      rotate_left
      · intro wS
        go_simp
        try with_reducible rfl
      try simp only [Act.put, List.setIfInBounds_toArray, List.set_cons_zero, List.set_cons_succ]
      refine wpAnyL_free (i := 10) (v := ?_) (some 38) rfl rfl (by kernel_rfl) (by kernel_rfl) (by kernel_rfl) (by decide) (fun _ _ _ h => h) (Or.inl ⟨by rfl, ?_⟩) (fun h0 => by assumption) ?_
      rotate_left
      · intro wS
        go_simp
        try with_reducible rfl
      try simp only [Act.put, List.setIfInBounds_toArray, List.set_cons_zero, List.set_cons_succ]
      refine wpAnyL_done (by kernel_rfl) ?_ _
      refine NoPanic.normal ?_
      clear hHeld
      obtain ⟨wd, hwd⟩ : ∃ wd, wz2.drew = wd := ⟨_, rfl⟩
      have HEd := Lib.hid HE2.out.drew
      have HBPd : Hid (Box 30 wd P #[.int .i64 p, .int .i64 (u : Int), .slice none 0 0]) := Lib.hid (by rw [← hwd]; exact HBP2.out.below (Below.refl _ _).drew)
      have HBKd : Hid (Below w1.heap.size w1 wd) := Lib.hid (by rw [← hwd]; exact HBK2.out.drew)
      rw [hwd] at HEd
      rw [show wz2.drew = wd from hwd]
      clear hwd x2 x3
      try simp only [ite_self]
      go_wp2
      go_loopw [38] (fun v wr => ∃ (k : Nat) (a : Option Addr) (c : Nat) (V : Nat → Value), k ≤ d ∧ v = .int .i64 k ∧ Box 30 wr P #[.int .i64 p, .int .i64 (u : Int), .slice a k c] ∧ EqsK 46 wr w1.heap.size P (.slice a k c) k V (redK R u k) ∧ (∀ g, (Value.slice a k c).ownBlock = some g → w1.heap.size ≤ g) ∧ Below w1.heap.size w1 wr) (fun v _ => d - (intOf v).toNat)
      case atStart => exact ⟨0, none, 0, fun _ => .slice none 0 0, Nat.zero_le _, rfl, HBPd.out, EqsK.none _ _ _ _ _, fun g hg => by simp [Value.ownBlock] at hg, HBKd.out⟩
      case round =>
        obtain ⟨k, a, c, V, hk, rfl, hbp, hkk, hvg, hbk⟩ := hrel
        have HBP := Lib.hid hbp
        have HK := Lib.hid hkk
        have HVG := Lib.hid hvg
        have HBK := Lib.hid hbk
        have HEK := Lib.hid (HE1.out.below hbk)
        clear hbp hkk hvg hbk
        by_cases hlt : k < d
        · have hkd : (k : Int) < (d : Int) := by omega
          have hkn : k < n := by omega
          obtain ⟨hgl, hlow⟩ := HGD.out k hkn
          have hfit := HEK.out.rows.fits hkn
          have e0 := HEK.out.rows.at_ k hkn
          obtain ⟨so, hso⟩ : ∃ so, s k * l = so := ⟨_, rfl⟩
          obtain ⟨r, hr⟩ : ∃ r, intN (R k) u = r := ⟨_, rfl⟩
          rw [hso] at e0 hfit
          have HAT : Hid (∀ j, j < l → F (so + j) = intN (R k) j) := Lib.hid fun j hj => by
            rw [← HEK.out.eq k hkn, rowAtF_at hj, hso]
          have HFLAT := Lib.hid HEK.out.rows.flat
          have htl : ((R k).take u).length = u := by rw [List.length_take, hgl]; omega
          have HTL := Lib.hid htl
          have HTL0 : Hid (0 < ((R k).take u).length) := Lib.hid (by omega)
          have HTL1 : Hid (((R k).take u).length ≤ 1000) := Lib.hid (by omega)
          have HRU : Hid (RowAt wr (.slice (some ⟨g, so, none⟩) u l) ((R k).take u)) := Lib.hid (by
            unfold RowAt
            rw [htl]
            refine ⟨_, _, rfl, by omega, fun _ => ⟨g, so, rfl, fun j hj => ?_⟩⟩
            have e := HFLAT.out.1 (so + j) (by omega)
            rw [HAT.out j (by omega)] at e
            show wr.cell? ⟨g, so + j, none⟩ = some (.int .i64 (intN ((R k).take u) j))
            rw [intN_take hj]
            exact e)
          have q1 : wr.cell? ⟨P, 2, none⟩ = some (.slice a k c) := HBP.out.c 2 rfl
          have q2 : wr.cell? ⟨eb, 1, none⟩ = some (.int .i64 (u : Int)) := HEK.out.box.c 1 rfl
          have q3 : wr.cell? ⟨g, so + u, none⟩ = some (.int .i64 r) := by
            have e := HFLAT.out.1 (so + u) (by omega)
            rw [HAT.out u hul, hr] at e
            exact e
          have HLEN := Lib.hid (redK_len R u k)
          have HRE : Hid ((intN (R k) u, (R k).take u) = (r, (R k).take u)) := Lib.hid (by rw [hr])
          have hul2 : (u : Int) < (l : Int) := by omega
          have hul3 : (u : Int) ≤ (l : Int) := by omega
          clear hgl hlow hfit hso hr htl
          go_wp2_with fail
          refine wp_region_noPanic ?_
          refine wp_region_late (S := (fun w' => w'.cell? ⟨P, 2, none⟩ = some (.slice a k c) ∧ w'.cell? ⟨eb, 1, none⟩ = some (.int .i64 (u : Int)) ∧ w'.cell? ⟨g, so + u, none⟩ = some (.int .i64 r) ∧ Below wr.heap.size wr w')) [18, 20] (by kernel_rfl) ?_ (fun hHeld => ?_)
          · exact ⟨q1, q2, q3, (QW.refl _).drew.below _⟩
          refine wpAnyL_free (i := 0) (v := ?_) (some 42) rfl rfl (by kernel_rfl) (by kernel_rfl) (by kernel_rfl) (by decide) (fun _ _ _ h => h) (Or.inl ⟨by rfl, ?_⟩) (fun h0 => by assumption) ?_
          rotate_left
          · intro wS
            go_simp
            try with_reducible rfl
          try simp only [Act.put, List.setIfInBounds_toArray, List.set_cons_zero, List.set_cons_succ]
          refine wpAnyL_take (i := 1) (v := ?_) (some 43) rfl rfl (by kernel_rfl) (by kernel_rfl) (by kernel_rfl) (by kernel_rfl) (by kernel_rfl) (fun _ _ _ h => h) (Or.inl ⟨by rfl, ?_⟩) (by assumption) ?_
          rotate_left
          · intro wS hSw
            try dsimp only at hSw
            go_simp
            try with_reducible rfl
          try simp only [Act.put, List.setIfInBounds_toArray, List.set_cons_zero, List.set_cons_succ]
          refine wpAnyL_free (i := 2) (v := ?_) (some 44) rfl rfl (by kernel_rfl) (by kernel_rfl) (by kernel_rfl) (by decide) (fun _ _ _ h => h) (Or.inl ⟨by rfl, ?_⟩) (fun h0 => by assumption) ?_
          rotate_left
          · intro wS
            go_simp
            try with_reducible rfl
          try simp only [Act.put, List.setIfInBounds_toArray, List.set_cons_zero, List.set_cons_succ]
          refine wpAnyL_free (i := 3) (v := ?_) (some 45) rfl rfl (by kernel_rfl) (by kernel_rfl) (by kernel_rfl) (by decide) (fun _ _ _ h => h) (Or.inl ⟨by rfl, ?_⟩) (fun h0 => by assumption) ?_
          rotate_left
          · intro wS
            go_simp
            try with_reducible rfl
          try simp only [Act.put, List.setIfInBounds_toArray, List.set_cons_zero, List.set_cons_succ]
          refine wpAnyL_free (i := 4) (v := ?_) (some 46) rfl rfl (by kernel_rfl) (by kernel_rfl) (by kernel_rfl) (by decide) (fun _ _ _ h => h) (Or.inl ⟨by rfl, ?_⟩) (fun h0 => by assumption) ?_
          rotate_left
          · intro wS
            go_simp
            try with_reducible rfl
          try simp only [Act.put, List.setIfInBounds_toArray, List.set_cons_zero, List.set_cons_succ]
          refine wpAnyL_free (i := 5) (v := ?_) (some 47) rfl rfl (by kernel_rfl) (by kernel_rfl) (by kernel_rfl) (by decide) (fun _ _ _ h => h) (Or.inl ⟨by rfl, ?_⟩) (fun h0 => by assumption) ?_
          rotate_left
          · intro wS
            go_simp
            try with_reducible rfl
          try simp only [Act.put, List.setIfInBounds_toArray, List.set_cons_zero, List.set_cons_succ]
          refine wpAnyL_take (i := 6) (v := ?_) (some 48) rfl rfl (by kernel_rfl) (by kernel_rfl) (by kernel_rfl) (by kernel_rfl) (by kernel_rfl) (fun _ _ _ h => h) (Or.inl ⟨by rfl, ?_⟩) (by assumption) ?_
          rotate_left
          · intro wS hSw
            try dsimp only at hSw
            go_simp
            try with_reducible rfl
          try simp only [Act.put, List.setIfInBounds_toArray, List.set_cons_zero, List.set_cons_succ]
          refine wpAnyL_free (i := 7) (v := ?_) (some 49) rfl rfl (by kernel_rfl) (by kernel_rfl) (by kernel_rfl) (by decide) (fun _ _ _ h => h) (Or.inl ⟨by rfl, ?_⟩) (fun h0 => by assumption) ?_
          rotate_left
          · intro wS
            go_simp
            try with_reducible rfl
          try simp only [Act.put, List.setIfInBounds_toArray, List.set_cons_zero, List.set_cons_succ]
          refine wpAnyL_free (i := 9) (v := ?_) (some 51) rfl rfl (by kernel_rfl) (by kernel_rfl) (by kernel_rfl) (by decide) (fun _ _ _ h => h) (Or.inl ⟨by rfl, ?_⟩) (fun h0 => by assumption) ?_
          rotate_left
          · intro wS
            go_simp
            try with_reducible rfl
          try simp only [Act.put, List.setIfInBounds_toArray, List.set_cons_zero, List.set_cons_succ]
          refine wpAnyL_free (i := 10) (v := ?_) (some 52) rfl rfl (by kernel_rfl) (by kernel_rfl) (by kernel_rfl) (by decide) (fun _ _ _ h => h) (Or.inl ⟨by rfl, ?_⟩) (fun h0 => by assumption) ?_
          rotate_left
          · intro wS
            go_simp
            try with_reducible rfl
          try simp only [Act.put, List.setIfInBounds_toArray, List.set_cons_zero, List.set_cons_succ]
          refine wpAnyL_free (i := 11) (v := ?_) (some 53) rfl rfl (by kernel_rfl) (by kernel_rfl) (by kernel_rfl) (by decide) (fun _ _ _ h => h) (Or.inl ⟨by rfl, ?_⟩) (fun h0 => by assumption) ?_
          rotate_left
          · intro wS
            go_simp
            try with_reducible rfl
          try simp only [Act.put, List.setIfInBounds_toArray, List.set_cons_zero, List.set_cons_succ]
          refine wpAnyL_free (i := 12) (v := ?_) (some 54) rfl rfl (by kernel_rfl) (by kernel_rfl) (by kernel_rfl) (by decide) (fun _ _ _ h => h) (Or.inl ⟨by rfl, ?_⟩) (fun h0 => by assumption) ?_
          rotate_left
          · intro wS
            go_simp
            try with_reducible rfl
          try simp only [Act.put, List.setIfInBounds_toArray, List.set_cons_zero, List.set_cons_succ]
          refine wpAnyL_take (i := 13) (v := ?_) (some 55) rfl rfl (by kernel_rfl) (by kernel_rfl) (by kernel_rfl) (by kernel_rfl) (by kernel_rfl) (fun _ _ _ h => h) (Or.inl ⟨by rfl, ?_⟩) (by assumption) ?_
          rotate_left
          · intro wS hSw
            try dsimp only at hSw
            go_simp
            try with_reducible rfl
          try simp only [Act.put, List.setIfInBounds_toArray, List.set_cons_zero, List.set_cons_succ]
          refine wpAnyL_free (i := 14) (v := ?_) (some 56) rfl rfl (by kernel_rfl) (by kernel_rfl) (by kernel_rfl) (by decide) (fun _ _ _ h => h) (Or.inl ⟨by rfl, ?_⟩) (fun h0 => by assumption) ?_
          rotate_left
          · intro wS
            go_simp
            try with_reducible rfl
          try simp only [Act.put, List.setIfInBounds_toArray, List.set_cons_zero, List.set_cons_succ]
          refine wpAnyL_take (i := 15) (v := ?_) (some 57) rfl rfl (by kernel_rfl) (by kernel_rfl) (by kernel_rfl) (by kernel_rfl) (by kernel_rfl) (fun _ _ _ h => h) (Or.inl ⟨by rfl, ?_⟩) (by assumption) ?_
          rotate_left
          · intro wS hSw
            try dsimp only at hSw
            go_simp
            try with_reducible rfl
          try simp only [Act.put, List.setIfInBounds_toArray, List.set_cons_zero, List.set_cons_succ]
          refine wpAnyL_ready (rs := [8]) (by kernel_rfl) (by simp) ?_
          refine AllReadyL.cons rfl (fun K hK => ?_) AllReadyL.nil
          go_simp; go_at_call 85; refine (cloneInts _ ((R k).take u) _ (HRU.out.below hHeld.2.2.2) HTL0.out HTL1.out).mono ?_; rw [HTL.out]; rintro e wA ⟨g3, c3, rfl, ho3, hbA⟩
          have HGA := Lib.hid (ho3.lt g3 (by simp [Value.ownBlock])).1
          have HGB : Hid (wr.heap.size ≤ g3) := Lib.hid (Nat.le_trans hHeld.2.2.2.size HGA.out)
          have HO3 := Lib.hid ho3
          clear ho3
          refine hK.out _ _ ?_ (fun hHeld => ?_)
          · exact ⟨below_cell hbA hHeld.1, below_cell hbA hHeld.2.1, below_cell hbA hHeld.2.2.1, hHeld.2.2.2.trans (hbA.mono hHeld.2.2.2.size)⟩
          clear hK K
          try simp only [Act.put, List.setIfInBounds_toArray, List.set_cons_zero, List.set_cons_succ]
          refine wpAnyL_free (i := 16) (v := ?_) (some 58) rfl rfl (by kernel_rfl) (by kernel_rfl) (by kernel_rfl) (by decide) (fun _ _ _ h => h) (Or.inl ⟨by rfl, ?_⟩) (fun h0 => by assumption) ?_
          rotate_left
          · intro wS
            go_simp
            try with_reducible rfl
          try simp only [Act.put, List.setIfInBounds_toArray, List.set_cons_zero, List.set_cons_succ]
          refine wpAnyL_ready (rs := [17]) (by kernel_rfl) (by simp) ?_
          refine AllReadyL.cons rfl (fun K hK => ?_) AllReadyL.nil
          go_simp
          obtain ⟨wB, hwB⟩ : ∃ wB, wA.alloc (.cells #[.slice (some ⟨g3, 0, none⟩) u c3, .int .i64 r] 46) = wB := ⟨_, rfl⟩
          have hbB : Below wA.heap.size wA wB := by rw [← hwB]; exact ((Below.refl _ _).alloc (Nat.le_refl _) _)
          have HNEW : Hid (wB.heap[wA.heap.size]? = some (.cells #[.slice (some ⟨g3, 0, none⟩) u c3, .int .i64 r] 46 (0, 0))) := Lib.hid (by rw [← hwB]; exact heap_alloc_new wA _)
          have HOB := Lib.hid (HO3.out.below hbB)
          rw [hwB]
          clear hwB
          refine hK.out _ _ ?_ (fun hHeld => ?_)
          · exact ⟨below_cell hbB hHeld.1, below_cell hbB hHeld.2.1, below_cell hbB hHeld.2.2.1, hHeld.2.2.2.trans (hbB.mono hHeld.2.2.2.size)⟩
          clear hK K
          try simp only [Act.put, List.setIfInBounds_toArray, List.set_cons_zero, List.set_cons_succ]
          refine wpAnyL_ready (rs := [18]) (by kernel_rfl) (by simp) ?_
          refine AllReadyL.last rfl (by kernel_rfl) (fun K hK => ?_) AllReadyL.nil
          have HBX := Lib.hid hHeld.2.2.2
          have HWRA : Hid (wr.heap.size ≤ wr.drew.heap.size) := Lib.hid (Nat.le_refl _)
          have HBS : Hid (w1.heap.size ≤ wB.heap.size) := Lib.hid (by have := HBK.out.size; have := HBX.out.size; omega)
          have HPL : Hid (P < wB.heap.size) := Lib.hid (by have := HBP.out.lt; have := HBX.out.size; omega)
          have hzp : ∀ g, (Value.slice (some ⟨g3, 0, none⟩) u c3).ownBlock = some g → g = g3 := fun g hg => by simpa [Value.ownBlock, eq_comm] using hg
          have HRP : Hid ((Value.slice (some ⟨g3, 0, none⟩) u c3).ownBlock ≠ some P) := Lib.hid fun e => by have := hzp P e; have := HBP.out.lt; have := HGB.out; omega
          have HRV : Hid (∀ i, i < k → ∀ g, (V i).ownBlock = some g → (Value.slice (some ⟨g3, 0, none⟩) u c3).ownBlock ≠ some g) := Lib.hid fun i hi g hg e => by have := hzp g e; have := ((HK.out.rows i hi).lt g hg).2; have := HGB.out; omega
          have HRL : Hid (∀ g, (Value.slice a k c).ownBlock = some g → (Value.slice (some ⟨g3, 0, none⟩) u c3).ownBlock ≠ some g) := Lib.hid fun g hg e => by
            have h1 := hzp g e
            obtain ⟨xs', ho', _⟩ := HK.out.outer
            have := (ho'.lt g hg).2
            have := HGB.out
            omega
          clear hzp
          obtain ⟨xs, hxo, hxx⟩ := HK.out.outer
          have hxl := ownsRow_len hxo
          have HXX := Lib.hid hxx
          have HXL := Lib.hid hxl
          clear hxx hxl
          refine step_append_lies _ (by rfl) _ _ 28 (by rfl) w1.heap.size 46 i0 (.agg #[.slice none 0 0, .int .i64 0]) 2 32 Try.underlying28 hi hz0 hz1 hz2 (by rfl) (by decide) (.slice a k c) k _ (by rfl) (ownsRow_below hxo HBX.out) _ 1 1 [.slice (some ⟨g3, 0, none⟩) u c3, .int .i64 (r)] (by rfl) (by rfl) (fun j u hu => World.news_of_block HNEW.out j u (by simpa using hu)) (by simp [Value.oneCell']) (by omega) (by unfold maxLen; omega) (by omega) HBS.out _ rfl ?_; intro g5 cap5 w5 hown5 hgrow5 hat5 hlt5
          have HKG := Lib.hid (EqsK.grow (V := V) HK.out HLEN.out HXL.out HXX.out HBX.out (HOB.out.mono (Nat.le_trans HBK.out.size HWRA.out)) HRP.out HRV.out HRL.out hown5 hgrow5 (fun g hg => by
            obtain rfl : g5 = g := by simpa [Value.ownBlock] using hg
            rcases hat5 with e | e
            · exact .inl e
            · exact .inr (by omega)) HPL.out)
          have HB5 := Lib.hid ((HBK.out.trans (HBX.out.mono HBK.out.size)).grown hgrow5 (Nat.le_trans HBK.out.size HBX.out.size) (fun q hq => HVG.out q hq))
          have HG5 : Hid (∀ g, (Value.slice (some ⟨g5, 0, none⟩) (k + 1) cap5).ownBlock = some g → w1.heap.size ≤ g) := Lib.hid fun g hg => (by
            obtain rfl : g5 = g := by simpa [Value.ownBlock] using hg
            rcases hat5 with e | e
            · exact HVG.out _ e
            · have := HBK.out.size; have := HBX.out.size; omega)
          have hb5 := (HBP.out.below HBX.out).same (hgrow5.block P HPL.out (fun e => HK.out.vp e.symm))
          have k2 : w5.cell? ⟨P, 2, none⟩ = some (.slice a k c) := hb5.c 2 rfl
          have z2 := hb5.free 2
          have HB6 := Lib.hid (hb5.set 2 (.slice (some ⟨g5, 0, none⟩) (k + 1) cap5))
          have HK6 := Lib.hid (HKG.out.storeP 2 (.slice (some ⟨g5, 0, none⟩) (k + 1) cap5))
          have HBE := Lib.hid (HB5.out.setCell (p := ⟨P, 2, none⟩) HPG.out (.slice (some ⟨g5, 0, none⟩) (k + 1) cap5))
          clear hown5 hgrow5 hat5 hlt5 hxo hb5
          refine hK.out _ _ ?_
          clear hK K
          try simp only [Act.put, List.setIfInBounds_toArray, List.set_cons_zero, List.set_cons_succ]
          refine wpAnyL_free (i := 19) (v := ?_) (some 61) rfl rfl (by kernel_rfl) (by kernel_rfl) (by kernel_rfl) (by decide) (fun _ _ _ h => h) (Or.inl ⟨by rfl, ?_⟩) (fun h0 => absurd h0 (by decide)) ?_
          rotate_left
          · intro wS
            go_simp
            try with_reducible rfl
          try simp only [Act.put, List.setIfInBounds_toArray, List.set_cons_zero, List.set_cons_succ]
          refine wpAnyL_ready (rs := [20]) (by kernel_rfl) (by simp) ?_
          refine AllReadyL.last rfl (by kernel_rfl) (fun K hK => ?_) AllReadyL.nil
          go_simp
          refine hK.out _ _ ?_
          clear hK K
          try simp only [Act.put, List.setIfInBounds_toArray, List.set_cons_zero, List.set_cons_succ]
          refine wpAnyL_done (by kernel_rfl) ?_ _
          refine NoPanic.normal ?_
          have HK7 : Hid (EqsK 46 (w5.setCell ⟨P, 2, none⟩ (.slice (some ⟨g5, 0, none⟩) (k + 1) cap5)) w1.heap.size P (.slice (some ⟨g5, 0, none⟩) (k + 1) cap5) (k + 1) (fun i => if i = k then .slice (some ⟨g3, 0, none⟩) u c3 else V i) (redK R u (k + 1))) := Lib.hid (by
            rw [redK_succ, HRE.out]
            exact HK6.out)
          clear hHeld k2 z2 q1 q2 q3
          go_wp2
          go_roundw
          case rel => exact ⟨k + 1, _, _, _, by omega, by go_num, HB6.out, HK7.out, HG5.out, HBE.out⟩
          case measure => simp [intOf]; omega
        · obtain rfl : k = d := by omega
          have HOBX := Lib.hid (HOB1.out.below HBK.out)
          have HPBX := Lib.hid HBP.out
          have HKF : Hid (EqsK 46 wr w1.heap.size P (.slice a k c) (redK R u k).length V (redK R u k)) := Lib.hid (by rw [redK_len]; exact HK.out)
          have HWF := Lib.hid (HW1.out.trans (HBK.out.mono HW1.out.size))
          have o0 := HOBX.out.c 0 rfl
          have o1 := HOBX.out.c 1 rfl
          have o2 := HOBX.out.c 2 rfl
          have f0 := HOBX.out.free 0
          have f1 := HOBX.out.free 1
          have f2 := HOBX.out.free 2
          have p0 := HPBX.out.c 0 rfl
          have p1 := HPBX.out.c 1 rfl
          have p2 := HPBX.out.c 2 rfl
          go_wp2
          refine bodyPost_ret (v := .agg #[.int .i64 p, .int .i64 (u : Int), (.slice a k c)]) (by simp [results, Try.results89, go_sem, o0, o1, o2]) rfl ⟨_, _, _, rfl, ⟨_, ((HKF.out.stored (p := ⟨ob, 0, none⟩) HOL.out (.int .i64 p)).stored (p := ⟨ob, 1, none⟩) HOL.out (.int .i64 (u : Int)) |>.stored (p := ⟨ob, 2, none⟩) HOL.out (.slice a k c)).own.mono (by first | exact HW1.out.size | exact Nat.le_of_lt HOL.out), .inr ⟨HB.out.1 rfl, rfl⟩⟩, ?_⟩
          have e := ((HWF.out.setCell (p := ⟨ob, 0, none⟩) HOE.out (.int .i64 p)).setCell (p := ⟨ob, 1, none⟩) HOE.out (.int .i64 (u : Int))).setCell (p := ⟨ob, 2, none⟩) HOE.out (.slice a k c)
          first
          | exact e
          | (rw [HOB0.out] at e; exact e)
    | false =>
      have HBAD : Hid (BadR R u d n) := Lib.hid (Classical.not_not.1 fun h => absurd (HB.out.2 h) (by simp))
      have x1 : wz2.cell? ⟨eb, 1, none⟩ = some (.int .i64 (u : Int)) := HE2.out.box.c 1 rfl
      have hPl := HBP2.out.lt
      have hbs := HBK2.out.size
      have hmk := make_row u (by omega) wz2
      have hz5 := own_zeros wz2 wz2.heap.size u (Nat.le_refl _) (by omega)
      have hb5 := (Below.refl wz2.heap.size wz2).alloc (Nat.le_refl _) (.cells (Array.replicate u (Value.int .i64 0)) 2)
      obtain ⟨w5, hw5⟩ : ∃ w5, wz2.alloc (.cells (Array.replicate u (Value.int .i64 0)) 2) = w5 := ⟨_, rfl⟩
      have hs5 : w5.heap.size = wz2.heap.size + 1 := by rw [← hw5]; simp
      have hb6 := (Below.refl w5.heap.size w5).alloc (Nat.le_refl _) (.cells #[.slice (some ⟨wz2.heap.size, 0, none⟩) u u, .int .i64 1] 46)
      have hx6 := Box.new 46 w5 #[.slice (some ⟨wz2.heap.size, 0, none⟩) u u, .int .i64 1]
      obtain ⟨w6, hw6⟩ : ∃ w6, w5.alloc (.cells #[.slice (some ⟨wz2.heap.size, 0, none⟩) u u, .int .i64 1] 46) = w6 := ⟨_, rfl⟩
      rw [hw5] at hz5 hb5
      rw [hw6] at hb6 hx6
      have hz6 := hz5.below hb6
      have hb56 := hb5.trans (hb6.mono hb5.size)
      rw [hs5] at hx6
      have HK5 : Hid (EqsK 46 w6 w1.heap.size P (.slice (some ⟨wz2.heap.size + 1, 0, none⟩) 1 1) 1 (fun _ => .slice (some ⟨wz2.heap.size, 0, none⟩) u u) [(1, List.replicate u 0)]) := Lib.hid (by
        refine ⟨⟨[.slice (some ⟨wz2.heap.size, 0, none⟩) u u, .int .i64 1], ⟨rfl, .inr ⟨wz2.heap.size + 1, 1, _, rfl, by omega, hx6, Nat.le_refl _, by unfold maxLen; omega, rfl, rfl⟩⟩, fun i hi => ?_⟩, fun e => ?_, fun i hi => ?_, fun i hi e => ?_, fun i j hij hj => by omega, fun i hi g hg e => ?_⟩
        · obtain rfl : i = 0 := by omega
          exact ⟨rfl, rfl⟩
        · have : wz2.heap.size + 1 = P := by simpa [Value.ownBlock] using e
          omega
        · obtain rfl : i = 0 := by omega
          exact hz6.mono hbs
        · have : wz2.heap.size = P := by simpa [Value.ownBlock] using e
          omega
        · have h1 : wz2.heap.size + 1 = g := by simpa [Value.ownBlock] using hg
          have h2 : wz2.heap.size = g := by simpa [Value.ownBlock] using e
          omega)
      have HBP6 := Lib.hid (HBP2.out.below hb56)
      have HBK6 := Lib.hid (HBK2.out.trans (hb56.mono hbs))
      have k2 : w6.cell? ⟨P, 2, none⟩ = some (.slice none 0 0) := HBP6.out.c 2 rfl
      have z2 := HBP6.out.free 2
      clear hz5 hb5 hb6 hx6 hz6 hb56 hPl
      go_upto_region 4 with fail
      try rw [hw5]
      try rw [hw6]
      obtain ⟨w7, hw7⟩ : ∃ w7, w6.setCell ⟨P, 2, none⟩ (.slice (some ⟨wz2.heap.size + 1, 0, none⟩) 1 1) = w7 := ⟨_, rfl⟩
      have HPBX : Hid (Box 30 w7 P #[.int .i64 p, .int .i64 (u : Int), .slice (some ⟨wz2.heap.size + 1, 0, none⟩) 1 1]) := Lib.hid (by rw [← hw7]; exact HBP6.out.set 2 _)
      have HKF : Hid (EqsK 46 w7 w1.heap.size P (.slice (some ⟨wz2.heap.size + 1, 0, none⟩) 1 1) 1 (fun _ => .slice (some ⟨wz2.heap.size, 0, none⟩) u u) [(1, List.replicate u 0)]) := Lib.hid (by rw [← hw7]; exact HK5.out.storeP 2 _)
      have HBE : Hid (Below w1.heap.size w1 w7) := Lib.hid (by rw [← hw7]; exact HBK6.out.setCell (p := ⟨P, 2, none⟩) HPG.out _)
      rw [hw7]
      clear hw5 hw6 hw7 k2 z2 x1 hmk hs5
      have HOBX := Lib.hid (HOB1.out.below HBE.out)
      have HWF := Lib.hid (HW1.out.trans (HBE.out.mono HW1.out.size))
      have o0 := HOBX.out.c 0 rfl
      have o1 := HOBX.out.c 1 rfl
      have o2 := HOBX.out.c 2 rfl
      have f0 := HOBX.out.free 0
      have f1 := HOBX.out.free 1
      have f2 := HOBX.out.free 2
      have p0 := HPBX.out.c 0 rfl
      have p1 := HPBX.out.c 1 rfl
      have p2 := HPBX.out.c 2 rfl
      go_wp2
      refine bodyPost_ret (v := .agg #[.int .i64 p, .int .i64 (u : Int), (.slice (some ⟨wz2.heap.size + 1, 0, none⟩) 1 1)]) (by simp [results, Try.results89, go_sem, o0, o1, o2]) rfl ⟨_, _, _, rfl, ⟨_, ((HKF.out.stored (p := ⟨ob, 0, none⟩) HOL.out (.int .i64 p)).stored (p := ⟨ob, 1, none⟩) HOL.out (.int .i64 (u : Int)) |>.stored (p := ⟨ob, 2, none⟩) HOL.out (.slice (some ⟨wz2.heap.size + 1, 0, none⟩) 1 1)).own.mono (by first | exact HW1.out.size | exact Nat.le_of_lt HOL.out), .inl ⟨HBAD.out, rfl⟩⟩, ?_⟩
      have e := ((HWF.out.setCell (p := ⟨ob, 0, none⟩) HOE.out (.int .i64 p)).setCell (p := ⟨ob, 1, none⟩) HOE.out (.int .i64 (u : Int))).setCell (p := ⟨ob, 2, none⟩) HOE.out (.slice (some ⟨wz2.heap.size + 1, 0, none⟩) 1 1)
      first
      | exact e
      | (rw [HOB0.out] at e; exact e)

theorem ReduceSystemIs.small {p u x y : Int} {rs rd : List (Int × List Int)} {cd : Int} (h : ReduceSystemIs p u rs x y rd cd) : opsSize rd ≤ 1048576 := by
  have hb : ∀ (k : Nat) (zs : List (Int × List Int)), zs.length = k → k ≤ 24 → (∀ i, i < k → (rowO zs i).length ≤ 12) → opsSize zs ≤ 1048576 := fun k zs hk h24 h => by
    have hp : ∀ i, i ≤ k → partO zs i ≤ 12 * i := by
      intro i
      induction i with
      | zero => intro _; rw [partO_zero]; omega
      | succ i ih =>
        intro hi
        have := ih (by omega)
        have := h i (by omega)
        rw [partO_succ]
        omega
    have := hp k (Nat.le_refl _)
    unfold opsSize
    rw [hk]
    omega
  rcases h with ⟨h1, _, _, h, _⟩ | ⟨_, _, _, rfl, _⟩
  · obtain ⟨un, rfl⟩ := h1.unat
    simp only [Int.toNat_natCast] at h
    have hu : un ≤ 12 := by have := h1.2.1; unfold InP at this; omega
    rcases h with ⟨_, rfl⟩ | ⟨_, rfl⟩
    · refine hb 1 _ rfl (by omega) fun i hi => ?_
      obtain rfl : i = 0 := by omega
      simp [rowO]
      omega
    · refine hb _ _ (redK_len _ _ _) (by have := h1.dn; have := h1.2.2.1; omega) fun i hi => ?_
      simp [rowO, redK, List.getD, hi]
      omega
  · simp [opsSize, partO]

set_option linter.unusedSimpArgs false in
set_option maxHeartbeats 4000000 in
set_option maxRecDepth 100000 in
theorem implReduceSystem (p u : Int) (a : Option Addr) (n c : Nat) (rs : List (Int × List Int)) (x y : Int) (rd : List (Int × List Int)) (cd : Int) (w : World) (h : EqsAt w (.slice a n c) rs) (hi : ReduceSystemIs p u rs x y rd cd) :
    Calls Try.prog 29 #[.agg #[.int .i64 p, .int .i64 u, .slice a n c]] w (MadeSys2 w x y rd cd) := by
  have hbx := Box.new 30 w #[.int .i64 p, .int .i64 u, .slice a n c]
  have HW1 : Hid (Below w.heap.size w (w.alloc (.cells #[.int .i64 p, .int .i64 u, .slice a n c] 30))) := Lib.hid ((Below.refl _ _).alloc (Nat.le_refl _) _)
  obtain ⟨sb, hsb⟩ : ∃ sb, w.heap.size = sb := ⟨_, rfl⟩
  obtain ⟨w1, hw1⟩ : ∃ w1, w.alloc (.cells #[.int .i64 p, .int .i64 u, .slice a n c] 30) = w1 := ⟨_, rfl⟩
  rw [hw1] at HW1 hbx
  have hs1 : w1.heap.size = w.heap.size + 1 := by rw [← hw1]; simp
  have HOB := Lib.hid (Box.new 30 w1 #[.int .i64 0, .int .i64 0, .slice none 0 0])
  have HW2 := Lib.hid ((Below.refl w1.heap.size w1).alloc (Nat.le_refl _) (.cells #[.int .i64 0, .int .i64 0, .slice none 0 0] 30))
  obtain ⟨ob, hob⟩ : ∃ ob, w1.heap.size = ob := ⟨_, rfl⟩
  obtain ⟨w2, hw2⟩ : ∃ w2, w1.alloc (.cells #[.int .i64 0, .int .i64 0, .slice none 0 0] 30) = w2 := ⟨_, rfl⟩
  have hs2 : w2.heap.size = ob + 1 := by rw [← hw2, ← hob]; simp
  rw [hw2] at HOB HW2
  rw [hob] at HOB
  have HBS := Lib.hid (hbx.below HW2.out)
  have HEQ := Lib.hid ((h.below HW1.out).below HW2.out)
  have HW3 := Lib.hid (HW1.out.trans (HW2.out.mono HW1.out.size))
  have HI := Lib.hid hi
  have HOL : Hid (w.heap.size ≤ ob) := Lib.hid (by omega)
  have HSZ2 := Lib.hid hs2
  rw [hsb] at HBS
  have HSB := Lib.hid hsb
  have x0 := HBS.out.c 0 rfl
  have x1 := HBS.out.c 1 rfl
  have x2 := HBS.out.c 2 rfl
  clear h hi hs2 hs1 hbx
  go_enter Try.func29, Try.ntmps29
  go_wp2_with fail
  try simp only [hsb]
  try rw [hw1]
  try simp only [hob]
  try rw [hw2]
  clear hw1 hw2 hob
  by_cases hok : SysOk p u rs
  · have HOK := Lib.hid hok
    obtain ⟨un, rfl⟩ := hok.unat
    have hn24 := hok.2.2.1
    have hu12 : 1 ≤ un ∧ un ≤ 12 := by have := hok.2.1; unfold InP at this; omega
    clear hok
    refine (implValidSystem _ _ _ _ _ rs true _ HEQ.out (Tells.yes HOK.out)).mono ?_
    rintro e w3 ⟨rfl, hb3⟩
    have HEQ3 := Lib.hid (HEQ.out.below hb3)
    have HOB3 := Lib.hid (HOB.out.below hb3)
    have HW4 := Lib.hid (HW3.out.trans (hb3.mono HW3.out.size))
    have HSZ3 : Hid (ob < w3.heap.size) := Lib.hid (by have := HSZ2.out; have := hb3.size; omega)
    have y0 := below_cell hb3 x0
    have y1 := below_cell hb3 x1
    have y2 := below_cell hb3 x2
    clear hb3 x0 x1 x2
    go_wp2_with fail
    refine (eliminationOfC p un a n c rs _ HEQ3.out HOK.out).mono ?_
    rintro e w4 ⟨eb, rb, g, s, F, rfl, he, _, _, _, hb4⟩
    have HE := Lib.hid he
    have HOB4 := Lib.hid (HOB3.out.below hb4)
    have HW5 := Lib.hid (HW4.out.trans (hb4.mono HW4.out.size))
    have HSZ4 : Hid (ob < w4.heap.size) := Lib.hid (Nat.lt_of_lt_of_le HSZ3.out hb4.size)
    clear he hb4 y0 y1 y2
    go_wp2_with fail
    refine (systemC eb rb g rs.length (un + 1 + rs.length) un _ s p F _ _ HOK.out.1 HE.out (by omega) HOK.out.dn hn24 hu12 HOK.out.good).mono ?_
    rintro e w5 ⟨a4, n4, c4, rfl, ⟨rd', ho4, hr4⟩, hb5⟩
    obtain ⟨rfl, rfl, hrd, rfl⟩ := HI.out.good HOK.out hr4
    have HO4 := Lib.hid (ho4.stored (p := ⟨ob, 0, none⟩) HSZ4.out (.int .i64 x) |>.stored (p := ⟨ob, 1, none⟩) HSZ4.out (.int .i64 (un : Int)) |>.stored (p := ⟨ob, 2, none⟩) HSZ4.out (.slice a4 n4 c4))
    have HOB5 := Lib.hid (HOB4.out.below hb5)
    have HW6 := Lib.hid (((HW5.out.trans (hb5.mono HW5.out.size)).setCell (p := ⟨ob, 0, none⟩) HOL.out (.int .i64 x)).setCell (p := ⟨ob, 1, none⟩) HOL.out (.int .i64 (un : Int)) |>.setCell (p := ⟨ob, 2, none⟩) HOL.out (.slice a4 n4 c4))
    have HRD := Lib.hid hrd
    have HBB : Hid (w.heap.size ≤ w4.heap.size) := Lib.hid HW5.out.size
    have o0 := HOB5.out.c 0 rfl
    have o1 := HOB5.out.c 1 rfl
    have o2 := HOB5.out.c 2 rfl
    have f0 := HOB5.out.free 0
    have f1 := HOB5.out.free 1
    have f2 := HOB5.out.free 2
    clear ho4 hr4 hb5 hrd
    go_wp2
    refine bodyPost_ret (v := .tuple #[.agg #[.int .i64 x, .int .i64 (un : Int), .slice a4 n4 c4], .int .i64 0]) (by simp [results, Try.results29, go_sem, o0, o1, o2]) rfl ⟨_, _, _, rfl, ?_, HW6.out⟩
    rw [HRD.out]
    exact (HO4.out.mono HBB.out).full
  · have HOK := Lib.hid hok
    obtain ⟨rfl, rfl, rfl, rfl⟩ := HI.out.bad hok
    clear hok
    refine (implValidSystem _ _ _ _ _ rs false _ HEQ.out (Tells.no HOK.out)).mono ?_
    rintro e w3 ⟨rfl, hb3⟩
    have HOB3 := Lib.hid (HOB.out.below hb3)
    have HW4 := Lib.hid (HW3.out.trans (hb3.mono HW3.out.size))
    have HW5 := Lib.hid ((HW4.out.setCell (p := ⟨ob, 0, none⟩) HOL.out (.int .i64 0)).setCell (p := ⟨ob, 1, none⟩) HOL.out (.int .i64 0) |>.setCell (p := ⟨ob, 2, none⟩) HOL.out (.slice none 0 0))
    have o0 := HOB3.out.c 0 rfl
    have o1 := HOB3.out.c 1 rfl
    have o2 := HOB3.out.c 2 rfl
    have f0 := HOB3.out.free 0
    have f1 := HOB3.out.free 1
    have f2 := HOB3.out.free 2
    clear hb3 x0 x1 x2
    go_wp2
    refine bodyPost_ret (v := .tuple #[.agg #[.int .i64 0, .int .i64 0, .slice none 0 0], .int .i64 1]) (by simp [results, Try.results29, go_sem, o0, o1, o2]) rfl ⟨_, _, _, rfl, OwnEqs.nil _ _ _ _ (Nat.le_refl _), ?_⟩
    first
    | exact HW5.out
    | exact HW4.out

end Go.Proofs.Ytnbgpeoceejolaa
