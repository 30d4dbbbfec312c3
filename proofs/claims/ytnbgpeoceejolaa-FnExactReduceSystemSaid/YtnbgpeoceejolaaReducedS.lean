/-
  l07Reduced and ReduceSystem of the model.
-/
import Derived.Test.YtnbgpeoceejolaaEqsK
import Derived.Test.YtnbgpeoceejolaaGDer
import Derived.Test.YtnbgpeoceejolaaSys
import Derived.Deep.CutRange
import Derived.Deep.AppendLies
namespace Go.Proofs.Ytnbgpeoceejolaa
open Go.RowKit

/-- The first k equations of the reduced form. -/
def redK (R : Nat → List Int) (u k : Nat) : List (Int × List Int) := (List.range k).map fun i => (intN (R i) u, (R i).take u)
theorem redK_len (R : Nat → List Int) (u k : Nat) : (redK R u k).length = k := by simp [redK]
theorem redK_succ (R : Nat → List Int) (u k : Nat) : redK R u (k + 1) = redK R u k ++ [(intN (R k) u, (R k).take u)] := by simp [redK, List.range_succ]

set_option linter.unusedSimpArgs false in
set_option maxHeartbeats 4000000 in
set_option maxRecDepth 100000 in
theorem l07ReducedC (sb so : Nat) (p : Int) (u : Nat) (rs : List (Int × List Int)) (w : World) (hs : SysAt w sb so p u rs) (hok : SysOk p u rs) :
    Calls Try.prog 88 #[.pointer (some ⟨sb, so, none⟩)] w fun e w' => ∃ a n c, e = .returned (.agg #[.int .i64 p, .int .i64 (u : Int), .slice a n c]) ∧ (∃ rd, OwnEqs 46 w' w.heap.size w'.heap.size (.slice a n c) rd ∧ ((NoAns p u rs ∧ rd = [(1, List.replicate u 0)]) ∨ (¬ NoAns p u rs ∧ rd = redK (elimE p rs.length (row0 rs) u).1 u (elimE p rs.length (row0 rs) u).2))) ∧ Below w.heap.size w w' := by
  obtain ⟨i0, hi, hz0, hz1, hz2⟩ := info_parts info_Equation
  have HOK := Lib.hid hok
  have hn24 := hok.2.2.1
  have hu12 : 1 ≤ u ∧ u ≤ 12 := by have := hok.2.1; unfold InP at this; omega
  have hrb0 := Box.new 30 w #[.int .i64 0, .int .i64 0, .slice none 0 0]
  have hw1 := (Below.refl w.heap.size w).alloc (Nat.le_refl _) (.cells #[.int .i64 0, .int .i64 0, .slice none 0 0] 30)
  obtain ⟨ob, hob⟩ : ∃ ob, w.heap.size = ob := ⟨_, rfl⟩
  obtain ⟨w1, hw1e⟩ : ∃ w1, w.alloc (.cells #[.int .i64 0, .int .i64 0, .slice none 0 0] 30) = w1 := ⟨_, rfl⟩
  have hs1 : w1.heap.size = ob + 1 := by rw [← hw1e, ← hob]; simp
  rw [hw1e] at hrb0 hw1
  rw [hob] at hrb0
  have HS1 := Lib.hid (hs.below hw1)
  have HRB := Lib.hid hrb0
  have HW1 := Lib.hid hw1
  have HOB := Lib.hid hob
  have HSZ1 := Lib.hid hs1
  clear hs hok hrb0 hw1 hs1
  go_enter Try.func88, Try.ntmps88
  go_wp2_with fail
  try simp only [hob]
  try rw [hw1e]
  clear hw1e
  refine (l07ReduceC sb so p u rs _ HS1.out HOK.out).mono ?_
  rintro e w3 ⟨a3, c3, rfl, hmr, hb3⟩
  have HW3 := Lib.hid (HW1.out.trans (hb3.mono HW1.out.size))
  have HRB3 := Lib.hid (HRB.out.below hb3)
  have d0 := (HS1.out.below hb3).prime
  have d1 := (HS1.out.below hb3).unknowns
  obtain ⟨m, hm⟩ := FalseAt.exists (elimE p rs.length (row0 rs) u).1 u (elimE p rs.length (row0 rs) u).2 rs.length HOK.out.dn
  have HM := Lib.hid hm
  have HNG : Hid (m < 0 ↔ ¬ NoAns p u rs) := Lib.hid hm.neg
  have HMR : Hid (∃ rb VL VB, 0 < rs.length → a3 = some ⟨rb, 0, none⟩ ∧ MRows w3 rb w1.heap.size rs.length u VL VB (elimE p rs.length (row0 rs) u).1 ∧ rb < w3.heap.size) := Lib.hid (by
    by_cases h0 : 0 < rs.length
    · obtain ⟨rb, VL, VB, h1, _, h3, h2⟩ := hmr h0
      exact ⟨rb, VL, VB, fun _ => ⟨h1, h2, h3⟩⟩
    · exact ⟨0, fun _ => .slice none 0 0, fun _ => .slice none 0 0, fun h => absurd h h0⟩)
  have HGD := Lib.hid HOK.out.good
  have hdn := HOK.out.dn
  have HB13 : Hid (w1.heap.size ≤ w3.heap.size) := Lib.hid hb3.size
  clear hmr hb3 hm
  obtain ⟨S, hS⟩ : ∃ S, elimE p rs.length (row0 rs) u = S := ⟨_, rfl⟩
  obtain ⟨R, d⟩ := S
  rw [hS] at HMR HM hdn HGD
  have HSE := Lib.hid hS
  rw [hS]
  clear hS
  obtain ⟨rb, VL, VB, hmm⟩ := HMR.out
  have HMM := Lib.hid hmm
  clear hmm
  go_wp2_with fail
  go_upto_region 2 with fail
  go_cut [5] from 12 to 21 (fun v5 wz => ∃ P lb, v5 = .pointer (some ⟨P, 0, none⟩) ∧ Box 30 wz P #[.int .i64 p, .int .i64 (u : Int), .slice (some ⟨lb, 0, none⟩) 0 0] ∧ Box 46 wz lb #[] ∧ lb ≠ P ∧ w3.heap.size ≤ P ∧ w3.heap.size ≤ lb ∧ Below w3.heap.size w3 wz)
  case first =>
    refine wp_region_noPanic ?_
    refine wp_region_late (S := (fun w' => w'.cell? ⟨sb, so, none⟩ = some (.int .i64 p) ∧ w'.cell? ⟨sb, so + 1, none⟩ = some (.int .i64 (u : Int)) ∧ Below w3.heap.size w3 w')) [11] (by kernel_rfl) ?_ (fun hHeld => ?_)
    · exact ⟨d0, d1, (QW.refl _).drew.below _⟩
    refine wpAnyL_free (i := 0) (v := ?_) (some 12) rfl rfl (by kernel_rfl) (by kernel_rfl) (by kernel_rfl) (by decide) (fun _ _ _ h => h) (Or.inl ⟨by rfl, ?_⟩) (fun h0 => by assumption) ?_
    rotate_left
    · intro wS
      go_simp
      try with_reducible rfl
    try simp only [Act.put, List.setIfInBounds_toArray, List.set_cons_zero, List.set_cons_succ]
    refine wpAnyL_free (i := 1) (v := ?_) (some 13) rfl rfl (by kernel_rfl) (by kernel_rfl) (by kernel_rfl) (by decide) (fun _ _ _ h => h) (Or.inl ⟨by rfl, ?_⟩) (fun h0 => by assumption) ?_
    rotate_left
    · intro wS
      go_simp
      try with_reducible rfl
    try simp only [Act.put, List.setIfInBounds_toArray, List.set_cons_zero, List.set_cons_succ]
    refine wpAnyL_free (i := 2) (v := ?_) (some 14) rfl rfl (by kernel_rfl) (by kernel_rfl) (by kernel_rfl) (by decide) (fun _ _ _ h => h) (Or.inl ⟨by rfl, ?_⟩) (fun h0 => by assumption) ?_
    rotate_left
    · intro wS
      go_simp
      try with_reducible rfl
    try simp only [Act.put, List.setIfInBounds_toArray, List.set_cons_zero, List.set_cons_succ]
    refine wpAnyL_take (i := 3) (v := ?_) (some 15) rfl rfl (by kernel_rfl) (by kernel_rfl) (by kernel_rfl) (by kernel_rfl) (by kernel_rfl) (fun _ _ _ h => h) (Or.inl ⟨by rfl, ?_⟩) (by assumption) ?_
    rotate_left
    · intro wS hSw
      try dsimp only at hSw
      go_simp
      try with_reducible rfl
    try simp only [Act.put, List.setIfInBounds_toArray, List.set_cons_zero, List.set_cons_succ]
    refine wpAnyL_free (i := 4) (v := ?_) (some 16) rfl rfl (by kernel_rfl) (by kernel_rfl) (by kernel_rfl) (by decide) (fun _ _ _ h => h) (Or.inl ⟨by rfl, ?_⟩) (fun h0 => by assumption) ?_
    rotate_left
    · intro wS
      go_simp
      try with_reducible rfl
    try simp only [Act.put, List.setIfInBounds_toArray, List.set_cons_zero, List.set_cons_succ]
    refine wpAnyL_free (i := 5) (v := ?_) (some 17) rfl rfl (by kernel_rfl) (by kernel_rfl) (by kernel_rfl) (by decide) (fun _ _ _ h => h) (Or.inl ⟨by rfl, ?_⟩) (fun h0 => by assumption) ?_
    rotate_left
    · intro wS
      go_simp
      try with_reducible rfl
    try simp only [Act.put, List.setIfInBounds_toArray, List.set_cons_zero, List.set_cons_succ]
    refine wpAnyL_free (i := 6) (v := ?_) (some 18) rfl rfl (by kernel_rfl) (by kernel_rfl) (by kernel_rfl) (by decide) (fun _ _ _ h => h) (Or.inl ⟨by rfl, ?_⟩) (fun h0 => by assumption) ?_
    rotate_left
    · intro wS
      go_simp
      try with_reducible rfl
    try simp only [Act.put, List.setIfInBounds_toArray, List.set_cons_zero, List.set_cons_succ]
    refine wpAnyL_take (i := 7) (v := ?_) (some 19) rfl rfl (by kernel_rfl) (by kernel_rfl) (by kernel_rfl) (by kernel_rfl) (by kernel_rfl) (fun _ _ _ h => h) (Or.inl ⟨by rfl, ?_⟩) (by assumption) ?_
    rotate_left
    · intro wS hSw
      try dsimp only at hSw
      go_simp
      try with_reducible rfl
    try simp only [Act.put, List.setIfInBounds_toArray, List.set_cons_zero, List.set_cons_succ]
    refine wpAnyL_ready (rs := [8, 10]) (by kernel_rfl) (by simp) ?_
    refine AllReadyL.cons rfl (fun K hK => ?_) ?_
    · skip
      go_simp
      obtain ⟨wB, hwB⟩ : ∃ wB, (w3.alloc (.cells #[] 46)).drew = wB := ⟨_, rfl⟩
      obtain ⟨lb, hlb⟩ : ∃ lb, w3.drew.heap.size = lb := ⟨_, rfl⟩
      have hbB : Below w3.drew.heap.size w3.drew wB := by rw [← hwB]; exact (Below.refl _ _).alloc (Nat.le_refl _) _
      have HB : Hid (Box 46 wB lb #[]) := Lib.hid (by rw [← hwB, ← hlb]; exact Box.new _ _ _)
      have HNB := Lib.hid hlb
      have HLB : Hid (w3.heap.size ≤ lb) := Lib.hid (by rw [← hlb]; exact hHeld.2.2.size)
      try rw [show w3.heap.size = lb from hlb]
      try rw [hlb]
      rw [hwB]
      clear hwB
      refine hK.out _ _ ?_ (fun hHeld => ?_)
      · exact ⟨below_cell hbB hHeld.1, below_cell hbB hHeld.2.1, hHeld.2.2.trans (hbB.mono hHeld.2.2.size)⟩
      clear hK K
      try simp only [Act.put, List.setIfInBounds_toArray, List.set_cons_zero, List.set_cons_succ]
      refine wpAnyL_free (i := 9) (v := ?_) (some 21) rfl rfl (by kernel_rfl) (by kernel_rfl) (by kernel_rfl) (by decide) (fun _ _ _ h => h) (Or.inl ⟨by rfl, ?_⟩) (fun h0 => by assumption) ?_
      rotate_left
      · intro wS
        go_simp
        try with_reducible rfl
      try simp only [Act.put, List.setIfInBounds_toArray, List.set_cons_zero, List.set_cons_succ]
      refine wpAnyL_ready (rs := [10]) (by kernel_rfl) (by simp) ?_
      refine AllReadyL.cons rfl (fun K hK => ?_) AllReadyL.nil
      go_simp
      obtain ⟨wC, hwC⟩ : ∃ wC, wB.alloc (.cells #[.int .i64 0, .int .i64 0, .slice none 0 0] 30) = wC := ⟨_, rfl⟩
      obtain ⟨P, hP⟩ : ∃ P, wB.heap.size = P := ⟨_, rfl⟩
      have hbC : Below wB.heap.size wB wC := by rw [← hwC]; exact (Below.refl _ _).alloc (Nat.le_refl _) _
      have HC : Hid (Box 30 wC P #[.int .i64 0, .int .i64 0, .slice none 0 0]) := Lib.hid (by rw [← hwC, ← hP]; exact Box.new _ _ _)
      have HNC := Lib.hid hP
      have HLC : Hid (w3.heap.size ≤ P) := Lib.hid (by rw [← hP]; exact hHeld.2.2.size)
      try rw [show w3.heap.size = P from hP]
      try rw [hP]
      rw [hwC]
      clear hwC
      have HB2 := Lib.hid (HB.out.below hbC)
      have HNE : Hid (lb ≠ P) := Lib.hid (by have h1 := HB.out.lt; have h2 := HNC.out; omega)
      refine hK.out _ _ ?_ (fun hHeld => ?_)
      · exact ⟨below_cell hbC hHeld.1, below_cell hbC hHeld.2.1, hHeld.2.2.trans (hbC.mono hHeld.2.2.size)⟩
      clear hK K
      try simp only [Act.put, List.setIfInBounds_toArray, List.set_cons_zero, List.set_cons_succ]
      refine wpAnyL_ready (rs := [11]) (by kernel_rfl) (by simp) ?_
      refine AllReadyL.last rfl (by kernel_rfl) (fun K hK => ?_) AllReadyL.nil
      have z0 : wC.cell? ⟨P, 0, none⟩ = some (.int .i64 0) := HC.out.c 0 rfl
      have y0 := HC.out.free 0
      have z1 : wC.cell? ⟨P, 1, none⟩ = some (.int .i64 0) := HC.out.c 1 rfl
      have y1 := HC.out.free 1
      have z2 : wC.cell? ⟨P, 2, none⟩ = some (.slice none 0 0) := HC.out.c 2 rfl
      have y2 := HC.out.free 2
      have HBW := Lib.hid hHeld.2.2
      go_simp
      refine hK.out _ _ ?_
      clear hK K
      try simp only [Act.put, List.setIfInBounds_toArray, List.set_cons_zero, List.set_cons_succ]
      refine wpAnyL_done (by kernel_rfl) ?_ _
      refine NoPanic.normal ?_
      have HF := Lib.hid (((HC.out.set 0 (.int .i64 p)).set 1 (.int .i64 (u : Int))).set 2 (.slice (some ⟨lb, 0, none⟩) 0 0))
      have hlo : w3.heap.size ≤ P := HLC.out
      have HBF := Lib.hid (((HBW.out.setCell (p := ⟨P, 0, none⟩) hlo (.int .i64 p)).setCell (p := ⟨P, 1, none⟩) hlo (.int .i64 (u : Int))).setCell (p := ⟨P, 2, none⟩) hlo (.slice (some ⟨lb, 0, none⟩) 0 0))
      have HLF := Lib.hid (((HB2.out.other (a := ⟨P, 0, none⟩) HNE.out (.int .i64 p)).other (a := ⟨P, 1, none⟩) HNE.out (.int .i64 (u : Int))).other (a := ⟨P, 2, none⟩) HNE.out (.slice (some ⟨lb, 0, none⟩) 0 0))
      clear z0 z1 z2 y0 y1 y2 hHeld hlo
      go_wp2_with fail
      go_meet
      exact ⟨P, lb, rfl, HF.out, HLF.out, HNE.out, HLC.out, HLB.out, HBF.out⟩
    refine AllReadyL.cons rfl (fun K hK => ?_) AllReadyL.nil
    go_simp
    obtain ⟨wC, hwC⟩ : ∃ wC, (w3.alloc (.cells #[.int .i64 0, .int .i64 0, .slice none 0 0] 30)).drew = wC := ⟨_, rfl⟩
    obtain ⟨P, hP⟩ : ∃ P, w3.drew.heap.size = P := ⟨_, rfl⟩
    have hbC : Below w3.drew.heap.size w3.drew wC := by rw [← hwC]; exact (Below.refl _ _).alloc (Nat.le_refl _) _
    have HC : Hid (Box 30 wC P #[.int .i64 0, .int .i64 0, .slice none 0 0]) := Lib.hid (by rw [← hwC, ← hP]; exact Box.new _ _ _)
    have HNC := Lib.hid hP
    have HLC : Hid (w3.heap.size ≤ P) := Lib.hid (by rw [← hP]; exact hHeld.2.2.size)
    try rw [show w3.heap.size = P from hP]
    try rw [hP]
    rw [hwC]
    clear hwC
    refine hK.out _ _ ?_ (fun hHeld => ?_)
    · exact ⟨below_cell hbC hHeld.1, below_cell hbC hHeld.2.1, hHeld.2.2.trans (hbC.mono hHeld.2.2.size)⟩
    clear hK K
    try simp only [Act.put, List.setIfInBounds_toArray, List.set_cons_zero, List.set_cons_succ]
    refine wpAnyL_ready (rs := [8]) (by kernel_rfl) (by simp) ?_
    refine AllReadyL.cons rfl (fun K hK => ?_) AllReadyL.nil
    go_simp
    obtain ⟨wB, hwB⟩ : ∃ wB, wC.alloc (.cells #[] 46) = wB := ⟨_, rfl⟩
    obtain ⟨lb, hlb⟩ : ∃ lb, wC.heap.size = lb := ⟨_, rfl⟩
    have hbB : Below wC.heap.size wC wB := by rw [← hwB]; exact (Below.refl _ _).alloc (Nat.le_refl _) _
    have HB : Hid (Box 46 wB lb #[]) := Lib.hid (by rw [← hwB, ← hlb]; exact Box.new _ _ _)
    have HNB := Lib.hid hlb
    have HLB : Hid (w3.heap.size ≤ lb) := Lib.hid (by rw [← hlb]; exact hHeld.2.2.size)
    try rw [show w3.heap.size = lb from hlb]
    try rw [hlb]
    rw [hwB]
    clear hwB
    have HC2 := Lib.hid (HC.out.below hbB)
    have HNE : Hid (lb ≠ P) := Lib.hid (by have h1 := HC.out.lt; have h2 := HNB.out; omega)
    refine hK.out _ _ ?_ (fun hHeld => ?_)
    · exact ⟨below_cell hbB hHeld.1, below_cell hbB hHeld.2.1, hHeld.2.2.trans (hbB.mono hHeld.2.2.size)⟩
    clear hK K
    try simp only [Act.put, List.setIfInBounds_toArray, List.set_cons_zero, List.set_cons_succ]
    refine wpAnyL_free (i := 9) (v := ?_) (some 21) rfl rfl (by kernel_rfl) (by kernel_rfl) (by kernel_rfl) (by decide) (fun _ _ _ h => h) (Or.inl ⟨by rfl, ?_⟩) (fun h0 => by assumption) ?_
    rotate_left
    · intro wS
      go_simp
      try with_reducible rfl
    try simp only [Act.put, List.setIfInBounds_toArray, List.set_cons_zero, List.set_cons_succ]
    refine wpAnyL_ready (rs := [11]) (by kernel_rfl) (by simp) ?_
    refine AllReadyL.last rfl (by kernel_rfl) (fun K hK => ?_) AllReadyL.nil
    have z0 : wB.cell? ⟨P, 0, none⟩ = some (.int .i64 0) := HC2.out.c 0 rfl
    have y0 := HC2.out.free 0
    have z1 : wB.cell? ⟨P, 1, none⟩ = some (.int .i64 0) := HC2.out.c 1 rfl
    have y1 := HC2.out.free 1
    have z2 : wB.cell? ⟨P, 2, none⟩ = some (.slice none 0 0) := HC2.out.c 2 rfl
    have y2 := HC2.out.free 2
    have HBW := Lib.hid hHeld.2.2
    go_simp
    refine hK.out _ _ ?_
    clear hK K
    try simp only [Act.put, List.setIfInBounds_toArray, List.set_cons_zero, List.set_cons_succ]
    refine wpAnyL_done (by kernel_rfl) ?_ _
    refine NoPanic.normal ?_
    have HF := Lib.hid (((HC2.out.set 0 (.int .i64 p)).set 1 (.int .i64 (u : Int))).set 2 (.slice (some ⟨lb, 0, none⟩) 0 0))
    have hlo : w3.heap.size ≤ P := HLC.out
    have HBF := Lib.hid (((HBW.out.setCell (p := ⟨P, 0, none⟩) hlo (.int .i64 p)).setCell (p := ⟨P, 1, none⟩) hlo (.int .i64 (u : Int))).setCell (p := ⟨P, 2, none⟩) hlo (.slice (some ⟨lb, 0, none⟩) 0 0))
    have HLF := Lib.hid (((HB.out.other (a := ⟨P, 0, none⟩) HNE.out (.int .i64 p)).other (a := ⟨P, 1, none⟩) HNE.out (.int .i64 (u : Int))).other (a := ⟨P, 2, none⟩) HNE.out (.slice (some ⟨lb, 0, none⟩) 0 0))
    clear z0 z1 z2 y0 y1 y2 hHeld hlo
    go_wp2_with fail
    go_meet
    exact ⟨P, lb, rfl, HF.out, HLF.out, HNE.out, HLC.out, HLB.out, HBF.out⟩
  case rest =>
    obtain ⟨P, lb, rfl, hbp, hbl, hlp, hpg, hlg, hbw⟩ := hcut
    have HBP0 := Lib.hid hbp
    have HK0 : Hid (EqsK 46 wc w1.heap.size P (.slice (some ⟨lb, 0, none⟩) 0 0) 0 VL []) := Lib.hid (EqsK.nil _ hbl (Nat.le_trans HB13.out hlg) hlp VL)
    have HPG : Hid (w3.heap.size ≤ P) := Lib.hid hpg
    have HLG : Hid (w3.heap.size ≤ lb) := Lib.hid hlg
    have HLBL : Hid (lb < wc.heap.size) := Lib.hid hbl.lt
    have HBK0 := Lib.hid hbw
    have HOL : Hid (ob < w1.heap.size) := Lib.hid (by have := HSZ1.out; omega)
    have HOE : Hid (w.heap.size ≤ ob) := Lib.hid (Nat.le_of_eq HOB.out)
    have HVG0 : Hid (∀ g, (Value.slice (some ⟨lb, 0, none⟩) 0 0).ownBlock = some g → w3.heap.size ≤ g) := Lib.hid fun g hg => by
      obtain rfl : lb = g := by simpa [Value.ownBlock] using hg
      exact hlg
    have e1 := below_cell hbw d1
    clear hbp hbl hlp hpg hlg hbw d0 d1
    go_wp2_with fail
    refine (l07FalseC a3 c3 rs.length d rb w1.heap.size u VL VB R m _ (fun h => ⟨(HMM.out h).1, (HMM.out h).2.1.below HBK0.out (HMM.out h).2.2⟩) (by omega) hdn HM.out).mono ?_
    rintro e wc' ⟨rfl, rfl⟩
    by_cases hmz : m < 0
    · have HNN := Lib.hid (HNG.out.1 hmz)
      have hge : ¬ (m ≥ 0) := by omega
      go_wp2
      go_loopw [6] (fun v wr => ∃ (k : Nat) (a : Option Addr) (c : Nat), k ≤ d ∧ v = .int .i64 k ∧ Box 30 wr P #[.int .i64 p, .int .i64 (u : Int), .slice a k c] ∧ EqsK 46 wr w1.heap.size P (.slice a k c) k VL (redK R u k) ∧ (∀ g, (Value.slice a k c).ownBlock = some g → w3.heap.size ≤ g) ∧ Below w3.heap.size w3 wr) (fun v _ => d - (intOf v).toNat)
      case atStart => exact ⟨0, _, _, Nat.zero_le _, rfl, HBP0.out, HK0.out, HVG0.out, HBK0.out⟩
      case round =>
        obtain ⟨k, a, c, hk, rfl, hbp, hkk, hvg, hbk⟩ := hrel
        have HBP := Lib.hid hbp
        have HK := Lib.hid hkk
        have HVG := Lib.hid hvg
        have HBK := Lib.hid hbk
        clear hbp hkk hvg hbk
        by_cases hlt : k < d
        · have hkd : (k : Int) < (d : Int) := by omega
          have hkn : (k : Int) < (rs.length : Int) := by omega
          obtain ⟨rfl, hM, hrb⟩ := HMM.out (by omega)
          have hM2 := hM.below HBK.out hrb
          have hrow := hM2.row k (by omega)
          have hrow0 := hM.row k (by omega)
          obtain ⟨la, lc, hvl⟩ : ∃ la lc, VL k = .slice la ((R k).take u).length lc := by obtain ⟨a, c, he, _⟩ := hrow.ownL.rowAt; exact ⟨a, c, he⟩
          obtain ⟨lnn, hlnn⟩ : ∃ lnn, ((R k).take u).length = lnn := ⟨_, rfl⟩
          rw [hlnn] at hvl
          obtain ⟨r, hr⟩ : ∃ r, intN (R k) u = r := ⟨_, rfl⟩
          have g1 : wr.cell? ⟨P, 2, none⟩ = some (.slice a k c) := HBP.out.c 2 rfl
          have y0 := hrow.left
          rw [hvl] at y0
          have y1 := hrow.right
          rw [hr] at y1
          have hvlt : ∀ g, (VL k).ownBlock = some g → g < w3.heap.size := fun g hg => (hrow0.ownL.lt g hg).2
          rw [hvl] at hvlt
          have HRP : Hid ((Value.slice la lnn lc).ownBlock ≠ some P) := Lib.hid fun e => by have := hvlt P e; have := HPG.out; omega
          have HRV : Hid (∀ i, i < k → ∀ g, (VL i).ownBlock = some g → (Value.slice la lnn lc).ownBlock ≠ some g) := Lib.hid fun i hi g hg => by
            have := (hM.ap i k (by omega) (by omega) (by omega) g (.inl hg)).1
            rwa [hvl] at this
          have HRL : Hid (∀ g, (Value.slice a k c).ownBlock = some g → (Value.slice la lnn lc).ownBlock ≠ some g) := Lib.hid fun g hg e => by have := HVG.out g hg; have := hvlt g e; omega
          have hro := hrow.ownL
          rw [hvl] at hro
          have HROW := Lib.hid hro
          have HLEN := Lib.hid (redK_len R u k)
          have HRE : Hid ((intN (R k) u, (R k).take u) = (r, (R k).take u)) := Lib.hid (by rw [hr])
          have HVL := Lib.hid hvl
          clear hM hM2 hrow hrow0 hvl hlnn hr hvlt hro
          go_wp2
          refine wp_region_noPanic ?_
          refine wp_region_late (S := (fun w' => w'.cell? ⟨P, 2, none⟩ = some (.slice a k c) ∧ w'.cell? ⟨rb, k * 3, none⟩ = some (.slice la lnn lc) ∧ w'.cell? ⟨rb, k * 3 + 1, none⟩ = some (.int .i64 r) ∧ Below wr.heap.size wr w')) [14, 16] (by kernel_rfl) ?_ (fun hHeld => ?_)
          · exact ⟨g1, y0, y1, (QW.refl _).drew.below _⟩
          refine wpAnyL_free (i := 0) (v := ?_) (some 43) rfl rfl (by kernel_rfl) (by kernel_rfl) (by kernel_rfl) (by decide) (fun _ _ _ h => h) (Or.inl ⟨by rfl, ?_⟩) (fun h0 => by assumption) ?_
          rotate_left
          · intro wS
            go_simp
            try with_reducible rfl
          try simp only [Act.put, List.setIfInBounds_toArray, List.set_cons_zero, List.set_cons_succ]
          refine wpAnyL_take (i := 1) (v := ?_) (some 44) rfl rfl (by kernel_rfl) (by kernel_rfl) (by kernel_rfl) (by kernel_rfl) (by kernel_rfl) (fun _ _ _ h => h) (Or.inl ⟨by rfl, ?_⟩) (by assumption) ?_
          rotate_left
          · intro wS hSw
            try dsimp only at hSw
            go_simp
            try with_reducible rfl
          try simp only [Act.put, List.setIfInBounds_toArray, List.set_cons_zero, List.set_cons_succ]
          refine wpAnyL_free (i := 2) (v := ?_) (some 45) rfl rfl (by kernel_rfl) (by kernel_rfl) (by kernel_rfl) (by decide) (fun _ _ _ h => h) (Or.inl ⟨by rfl, ?_⟩) (fun h0 => by assumption) ?_
          rotate_left
          · intro wS
            go_simp
            try with_reducible rfl
          try simp only [Act.put, List.setIfInBounds_toArray, List.set_cons_zero, List.set_cons_succ]
          refine wpAnyL_free (i := 3) (v := ?_) (some 46) rfl rfl (by kernel_rfl) (by kernel_rfl) (by kernel_rfl) (by decide) (fun _ _ _ h => h) (Or.inl ⟨by rfl, ?_⟩) (fun h0 => by assumption) ?_
          rotate_left
          · intro wS
            go_simp
            try with_reducible rfl
          try simp only [Act.put, List.setIfInBounds_toArray, List.set_cons_zero, List.set_cons_succ]
          refine wpAnyL_free (i := 4) (v := ?_) (some 47) rfl rfl (by kernel_rfl) (by kernel_rfl) (by kernel_rfl) (by decide) (fun _ _ _ h => h) (Or.inl ⟨by rfl, ?_⟩) (fun h0 => by assumption) ?_
          rotate_left
          · intro wS
            go_simp
            try with_reducible rfl
          try simp only [Act.put, List.setIfInBounds_toArray, List.set_cons_zero, List.set_cons_succ]
          refine wpAnyL_free (i := 5) (v := ?_) (some 48) rfl rfl (by kernel_rfl) (by kernel_rfl) (by kernel_rfl) (by decide) (fun _ _ _ h => h) (Or.inl ⟨by rfl, ?_⟩) (fun h0 => by assumption) ?_
          rotate_left
          · intro wS
            go_simp
            try with_reducible rfl
          try simp only [Act.put, List.setIfInBounds_toArray, List.set_cons_zero, List.set_cons_succ]
          refine wpAnyL_take (i := 6) (v := ?_) (some 49) rfl rfl (by kernel_rfl) (by kernel_rfl) (by kernel_rfl) (by kernel_rfl) (by kernel_rfl) (fun _ _ _ h => h) (Or.inl ⟨by rfl, ?_⟩) (by assumption) ?_
          rotate_left
          · intro wS hSw
            try dsimp only at hSw
            go_simp
            try with_reducible rfl
          try simp only [Act.put, List.setIfInBounds_toArray, List.set_cons_zero, List.set_cons_succ]
          refine wpAnyL_free (i := 7) (v := ?_) (some 50) rfl rfl (by kernel_rfl) (by kernel_rfl) (by kernel_rfl) (by decide) (fun _ _ _ h => h) (Or.inl ⟨by rfl, ?_⟩) (fun h0 => by assumption) ?_
          rotate_left
          · intro wS
            go_simp
            try with_reducible rfl
          try simp only [Act.put, List.setIfInBounds_toArray, List.set_cons_zero, List.set_cons_succ]
          refine wpAnyL_free (i := 8) (v := ?_) (some 51) rfl rfl (by kernel_rfl) (by kernel_rfl) (by kernel_rfl) (by decide) (fun _ _ _ h => h) (Or.inl ⟨by rfl, ?_⟩) (fun h0 => by assumption) ?_
          rotate_left
          · intro wS
            go_simp
            try with_reducible rfl
          try simp only [Act.put, List.setIfInBounds_toArray, List.set_cons_zero, List.set_cons_succ]
          refine wpAnyL_free (i := 9) (v := ?_) (some 52) rfl rfl (by kernel_rfl) (by kernel_rfl) (by kernel_rfl) (by decide) (fun _ _ _ h => h) (Or.inl ⟨by rfl, ?_⟩) (fun h0 => by assumption) ?_
          rotate_left
          · intro wS
            go_simp
            try with_reducible rfl
          try simp only [Act.put, List.setIfInBounds_toArray, List.set_cons_zero, List.set_cons_succ]
          refine wpAnyL_free (i := 10) (v := ?_) (some 53) rfl rfl (by kernel_rfl) (by kernel_rfl) (by kernel_rfl) (by decide) (fun _ _ _ h => h) (Or.inl ⟨by rfl, ?_⟩) (fun h0 => by assumption) ?_
          rotate_left
          · intro wS
            go_simp
            try with_reducible rfl
          try simp only [Act.put, List.setIfInBounds_toArray, List.set_cons_zero, List.set_cons_succ]
          refine wpAnyL_take (i := 11) (v := ?_) (some 54) rfl rfl (by kernel_rfl) (by kernel_rfl) (by kernel_rfl) (by kernel_rfl) (by kernel_rfl) (fun _ _ _ h => h) (Or.inl ⟨by rfl, ?_⟩) (by assumption) ?_
          rotate_left
          · intro wS hSw
            try dsimp only at hSw
            go_simp
            try with_reducible rfl
          try simp only [Act.put, List.setIfInBounds_toArray, List.set_cons_zero, List.set_cons_succ]
          refine wpAnyL_free (i := 12) (v := ?_) (some 55) rfl rfl (by kernel_rfl) (by kernel_rfl) (by kernel_rfl) (by decide) (fun _ _ _ h => h) (Or.inl ⟨by rfl, ?_⟩) (fun h0 => by assumption) ?_
          rotate_left
          · intro wS
            go_simp
            try with_reducible rfl
          try simp only [Act.put, List.setIfInBounds_toArray, List.set_cons_zero, List.set_cons_succ]
          refine wpAnyL_ready (rs := [13]) (by kernel_rfl) (by simp) ?_
          refine AllReadyL.cons rfl (fun K hK => ?_) AllReadyL.nil
          go_simp
          obtain ⟨wB, hwB⟩ : ∃ wB, (wr.alloc (.cells #[.slice la lnn lc, .int .i64 r] 46)).drew = wB := ⟨_, rfl⟩
          have hbB : Below wr.drew.heap.size wr.drew wB := by rw [← hwB]; exact ((Below.refl _ _).alloc (Nat.le_refl _) _)
          have HNEW : Hid (wB.heap[wr.heap.size]? = some (.cells #[.slice la lnn lc, .int .i64 r] 46 (0, 0))) := Lib.hid (by rw [← hwB]; exact heap_alloc_new wr _)
          rw [hwB]
          clear hwB
          refine hK.out _ _ ?_ (fun hHeld => ?_)
          · exact ⟨below_cell hbB hHeld.1, below_cell hbB hHeld.2.1, below_cell hbB hHeld.2.2.1, hHeld.2.2.2.trans (hbB.mono hHeld.2.2.2.size)⟩
          clear hK K
          try simp only [Act.put, List.setIfInBounds_toArray, List.set_cons_zero, List.set_cons_succ]
          refine wpAnyL_ready (rs := [14]) (by kernel_rfl) (by simp) ?_
          refine AllReadyL.last rfl (by kernel_rfl) (fun K hK => ?_) AllReadyL.nil
          have HBX := Lib.hid hHeld.2.2.2
          have HBS : Hid (w1.heap.size ≤ wB.heap.size) := Lib.hid (by have := HB13.out; have := HBK.out.size; have := HBX.out.size; omega)
          have HPL : Hid (P < wB.heap.size) := Lib.hid (by have := HBP.out.lt; have := HBX.out.size; omega)
          obtain ⟨xs, hxo, hxx⟩ := HK.out.outer
          have hxl := ownsRow_len hxo
          have HXX := Lib.hid hxx
          have HXL := Lib.hid hxl
          clear hxx hxl
          refine step_append_lies _ (by rfl) _ _ 28 (by rfl) w1.heap.size 46 i0 (.agg #[.slice none 0 0, .int .i64 0]) 2 32 Try.underlying28 hi hz0 hz1 hz2 (by rfl) (by decide) (.slice a k c) k _ (by rfl) (ownsRow_below hxo HBX.out) _ 1 1 [.slice la lnn lc, .int .i64 (r)] (by rfl) (by rfl) (fun j u hu => World.news_of_block HNEW.out j u (by simpa using hu)) (by simp [Value.oneCell']) (by omega) (by unfold maxLen; omega) (by omega) HBS.out _ rfl ?_; intro g5 cap5 w5 hown5 hgrow5 hat5 hlt5
          have HKG := Lib.hid (EqsK.grow (V := VL) HK.out HLEN.out HXL.out HXX.out HBX.out (HROW.out.below HBX.out) HRP.out HRV.out HRL.out hown5 hgrow5 (fun g hg => by
            obtain rfl : g5 = g := by simpa [Value.ownBlock] using hg
            rcases hat5 with e | e
            · exact .inl e
            · exact .inr (by omega)) HPL.out)
          have HB5 := Lib.hid ((HBK.out.trans (HBX.out.mono HBK.out.size)).grown hgrow5 (Nat.le_trans HBK.out.size HBX.out.size) (fun q hq => HVG.out q hq))
          have HG5 : Hid (∀ g, (Value.slice (some ⟨g5, 0, none⟩) (k + 1) cap5).ownBlock = some g → w3.heap.size ≤ g) := Lib.hid fun g hg => (by
            obtain rfl : g5 = g := by simpa [Value.ownBlock] using hg
            rcases hat5 with e | e
            · exact HVG.out _ e
            · have := HBK.out.size; have := HBX.out.size; omega)
          have hb5 := (HBP.out.below HBX.out).same (hgrow5.block P HPL.out (fun e => HK.out.vp e.symm))
          have k2 : w5.cell? ⟨P, 2, none⟩ = some (.slice a k c) := hb5.c 2 rfl
          have z2 := hb5.free 2
          have HB6 := Lib.hid (hb5.set 2 (.slice (some ⟨g5, 0, none⟩) (k + 1) cap5))
          have HK6 := Lib.hid (HKG.out.storeP 2 (.slice (some ⟨g5, 0, none⟩) (k + 1) cap5))
          have HBE := Lib.hid (HB5.out.setCell (p := ⟨P, 2, none⟩) HPG.out (.slice (some ⟨g5, 0, none⟩) (k + 1) cap5))
          clear hown5 hgrow5 hat5 hlt5 hxo hb5
          refine hK.out _ _ ?_
          clear hK K
          try simp only [Act.put, List.setIfInBounds_toArray, List.set_cons_zero, List.set_cons_succ]
          refine wpAnyL_free (i := 15) (v := ?_) (some 58) rfl rfl (by kernel_rfl) (by kernel_rfl) (by kernel_rfl) (by decide) (fun _ _ _ h => h) (Or.inl ⟨by rfl, ?_⟩) (fun h0 => absurd h0 (by decide)) ?_
          rotate_left
          · intro wS
            go_simp
            try with_reducible rfl
          try simp only [Act.put, List.setIfInBounds_toArray, List.set_cons_zero, List.set_cons_succ]
          refine wpAnyL_ready (rs := [16]) (by kernel_rfl) (by simp) ?_
          refine AllReadyL.last rfl (by kernel_rfl) (fun K hK => ?_) AllReadyL.nil
          go_simp
          refine hK.out _ _ ?_
          clear hK K
          try simp only [Act.put, List.setIfInBounds_toArray, List.set_cons_zero, List.set_cons_succ]
          refine wpAnyL_done (by kernel_rfl) ?_ _
          refine NoPanic.normal ?_
          have HK7 : Hid (EqsK 46 (w5.setCell ⟨P, 2, none⟩ (.slice (some ⟨g5, 0, none⟩) (k + 1) cap5)) w1.heap.size P (.slice (some ⟨g5, 0, none⟩) (k + 1) cap5) (k + 1) VL (redK R u (k + 1))) := Lib.hid (by
            rw [redK_succ, HRE.out]
            exact HK6.out.congrV (fun i hi => by
              by_cases h : i = k
              · rw [if_pos h, h, HVL.out]
              · rw [if_neg h]))
          clear hHeld k2 z2 g1 y0 y1
          go_wp2
          go_roundw
          case rel => exact ⟨k + 1, _, _, by omega, by go_num, HB6.out, HK7.out, HG5.out, HBE.out⟩
          case measure => simp [intOf]; omega
        · obtain rfl : k = d := by omega
          have HOBX := Lib.hid (HRB3.out.below HBK.out)
          have HPBX := Lib.hid HBP.out
          have hkf := HK.out
          rw [← redK_len R u k] at hkf
          have HKF : Hid (EqsK 46 wr w1.heap.size P (.slice a k c) (redK R u k).length VL (redK R u k)) := Lib.hid (by rw [redK_len]; exact HK.out)
          have HFIN : Hid ((NoAns p u rs ∧ redK R u k = [(1, List.replicate u 0)]) ∨ (¬ NoAns p u rs ∧ redK R u k = redK (elimE p rs.length (row0 rs) u).1 u (elimE p rs.length (row0 rs) u).2)) := Lib.hid (.inr ⟨HNN.out, by rw [HSE.out]⟩)
          have HWF := Lib.hid (HW3.out.trans (HBK.out.mono HW3.out.size))
          clear hkf
          have o0 := HOBX.out.c 0 rfl
          have o1 := HOBX.out.c 1 rfl
          have o2 := HOBX.out.c 2 rfl
          have f0 := HOBX.out.free 0
          have f1 := HOBX.out.free 1
          have f2 := HOBX.out.free 2
          have p0 := HPBX.out.c 0 rfl
          have p1 := HPBX.out.c 1 rfl
          have p2 := HPBX.out.c 2 rfl
          go_wp2
          refine bodyPost_ret (v := .agg #[.int .i64 p, .int .i64 (u : Int), (.slice a k c)]) (by simp [results, Try.results88, go_sem, o0, o1, o2]) rfl ⟨_, _, _, rfl, ⟨_, ((HKF.out.stored (p := ⟨ob, 0, none⟩) HOL.out (.int .i64 p)).stored (p := ⟨ob, 1, none⟩) HOL.out (.int .i64 (u : Int)) |>.stored (p := ⟨ob, 2, none⟩) HOL.out (.slice a k c)).own.mono (by first | exact HW1.out.size | exact Nat.le_of_lt HOL.out), HFIN.out⟩, ?_⟩
          have e := ((HWF.out.setCell (p := ⟨ob, 0, none⟩) HOE.out (.int .i64 p)).setCell (p := ⟨ob, 1, none⟩) HOE.out (.int .i64 (u : Int))).setCell (p := ⟨ob, 2, none⟩) HOE.out (.slice a k c)
          first
          | exact e
          | (rw [HOB.out] at e; exact e)
    · have hnn : NoAns p u rs := Classical.not_not.1 fun h => hmz (HNG.out.2 h)
      have hge : m ≥ 0 := by omega
      have HNN := Lib.hid hnn
      have HBP := HBP0
      have HK := HK0
      have HVG := HVG0
      have HBK := HBK0
      have g1 : wc.cell? ⟨P, 2, none⟩ = some (.slice (some ⟨lb, 0, none⟩) 0 0) := HBP.out.c 2 rfl
      clear hnn
      go_wp2
      refine wp_region_noPanic ?_
      refine wp_region_late (S := (fun w' => w'.cell? ⟨P, 2, none⟩ = some (.slice (some ⟨lb, 0, none⟩) 0 0) ∧ w'.cell? ⟨sb, so + 1, none⟩ = some (.int .i64 (u : Int)) ∧ Below wc.heap.size wc w')) [9, 11] (by kernel_rfl) ?_ (fun hHeld => ?_)
      · exact ⟨g1, e1, (QW.refl _).drew.below _⟩
      refine wpAnyL_free (i := 0) (v := ?_) (some 26) rfl rfl (by kernel_rfl) (by kernel_rfl) (by kernel_rfl) (by decide) (fun _ _ _ h => h) (Or.inl ⟨by rfl, ?_⟩) (fun h0 => by assumption) ?_
      rotate_left
      · intro wS
        go_simp
        try with_reducible rfl
      try simp only [Act.put, List.setIfInBounds_toArray, List.set_cons_zero, List.set_cons_succ]
      refine wpAnyL_take (i := 1) (v := ?_) (some 27) rfl rfl (by kernel_rfl) (by kernel_rfl) (by kernel_rfl) (by kernel_rfl) (by kernel_rfl) (fun _ _ _ h => h) (Or.inl ⟨by rfl, ?_⟩) (by assumption) ?_
      rotate_left
      · intro wS hSw
        try dsimp only at hSw
        go_simp
        try with_reducible rfl
      try simp only [Act.put, List.setIfInBounds_toArray, List.set_cons_zero, List.set_cons_succ]
      refine wpAnyL_free (i := 2) (v := ?_) (some 28) rfl rfl (by kernel_rfl) (by kernel_rfl) (by kernel_rfl) (by decide) (fun _ _ _ h => h) (Or.inl ⟨by rfl, ?_⟩) (fun h0 => by assumption) ?_
      rotate_left
      · intro wS
        go_simp
        try with_reducible rfl
      try simp only [Act.put, List.setIfInBounds_toArray, List.set_cons_zero, List.set_cons_succ]
      refine wpAnyL_free (i := 3) (v := ?_) (some 29) rfl rfl (by kernel_rfl) (by kernel_rfl) (by kernel_rfl) (by decide) (fun _ _ _ h => h) (Or.inl ⟨by rfl, ?_⟩) (fun h0 => by assumption) ?_
      rotate_left
      · intro wS
        go_simp
        try with_reducible rfl
      try simp only [Act.put, List.setIfInBounds_toArray, List.set_cons_zero, List.set_cons_succ]
      refine wpAnyL_free (i := 4) (v := ?_) (some 30) rfl rfl (by kernel_rfl) (by kernel_rfl) (by kernel_rfl) (by decide) (fun _ _ _ h => h) (Or.inl ⟨by rfl, ?_⟩) (fun h0 => by assumption) ?_
      rotate_left
      · intro wS
        go_simp
        try with_reducible rfl
      try simp only [Act.put, List.setIfInBounds_toArray, List.set_cons_zero, List.set_cons_succ]
      refine wpAnyL_take (i := 5) (v := ?_) (some 31) rfl rfl (by kernel_rfl) (by kernel_rfl) (by kernel_rfl) (by kernel_rfl) (by kernel_rfl) (fun _ _ _ h => h) (Or.inl ⟨by rfl, ?_⟩) (by assumption) ?_
      rotate_left
      · intro wS hSw
        try dsimp only at hSw
        go_simp
        try with_reducible rfl
      try simp only [Act.put, List.setIfInBounds_toArray, List.set_cons_zero, List.set_cons_succ]
      refine wpAnyL_ready (rs := [6]) (by kernel_rfl) (by simp) ?_
      refine AllReadyL.cons rfl (fun K hK => ?_) AllReadyL.nil
      have hmk := make_row u (by omega) wc.drew
      go_simp
      obtain ⟨wA, hwA⟩ : ∃ wA, (wc.alloc (.cells (Array.replicate u (Value.int .i64 0)) 2)).drew = wA := ⟨_, rfl⟩
      have hbA : Below wc.drew.heap.size wc.drew wA := by rw [← hwA]; exact ((Below.refl _ _).alloc (Nat.le_refl _) _)
      have HZR : Hid (OwnRow wA wc.heap.size (.slice (some ⟨wc.heap.size, 0, none⟩) u u) (List.replicate u 0)) := Lib.hid (by rw [← hwA]; exact (own_zeros wc _ u (Nat.le_refl _) (by omega)).below (Below.refl _ _).drew)
      rw [hwA]
      clear hwA hmk
      refine hK.out _ _ ?_ (fun hHeld => ?_)
      · exact ⟨below_cell hbA hHeld.1, below_cell hbA hHeld.2.1, hHeld.2.2.trans (hbA.mono hHeld.2.2.size)⟩
      clear hK K
      try simp only [Act.put, List.setIfInBounds_toArray, List.set_cons_zero, List.set_cons_succ]
      refine wpAnyL_free (i := 7) (v := ?_) (some 33) rfl rfl (by kernel_rfl) (by kernel_rfl) (by kernel_rfl) (by decide) (fun _ _ _ h => h) (Or.inl ⟨by rfl, ?_⟩) (fun h0 => by assumption) ?_
      rotate_left
      · intro wS
        go_simp
        try with_reducible rfl
      try simp only [Act.put, List.setIfInBounds_toArray, List.set_cons_zero, List.set_cons_succ]
      refine wpAnyL_ready (rs := [8]) (by kernel_rfl) (by simp) ?_
      refine AllReadyL.cons rfl (fun K hK => ?_) AllReadyL.nil
      go_simp
      obtain ⟨wB, hwB⟩ : ∃ wB, wA.alloc (.cells #[.slice (some ⟨wc.heap.size, 0, none⟩) u u, .int .i64 1] 46) = wB := ⟨_, rfl⟩
      have hbB : Below wA.heap.size wA wB := by rw [← hwB]; exact ((Below.refl _ _).alloc (Nat.le_refl _) _)
      have HNEW : Hid (wB.heap[wA.heap.size]? = some (.cells #[.slice (some ⟨wc.heap.size, 0, none⟩) u u, .int .i64 1] 46 (0, 0))) := Lib.hid (by rw [← hwB]; exact heap_alloc_new wA _)
      have HZB := Lib.hid (HZR.out.below hbB)
      rw [hwB]
      clear hwB
      refine hK.out _ _ ?_ (fun hHeld => ?_)
      · exact ⟨below_cell hbB hHeld.1, below_cell hbB hHeld.2.1, hHeld.2.2.trans (hbB.mono hHeld.2.2.size)⟩
      clear hK K
      try simp only [Act.put, List.setIfInBounds_toArray, List.set_cons_zero, List.set_cons_succ]
      refine wpAnyL_ready (rs := [9]) (by kernel_rfl) (by simp) ?_
      refine AllReadyL.last rfl (by kernel_rfl) (fun K hK => ?_) AllReadyL.nil
      have HBX := Lib.hid hHeld.2.2
      have HBS : Hid (w1.heap.size ≤ wB.heap.size) := Lib.hid (by have := HB13.out; have := HBK.out.size; have := HBX.out.size; omega)
      have HPL : Hid (P < wB.heap.size) := Lib.hid (by have := HBP.out.lt; have := HBX.out.size; omega)
      have HLEN : Hid (([] : List (Int × List Int)).length = 0) := Lib.hid rfl
      have hzp : ∀ g, (Value.slice (some ⟨wc.heap.size, 0, none⟩) u u).ownBlock = some g → g = wc.heap.size := fun g hg => by simpa [Value.ownBlock, eq_comm] using hg
      have HRP : Hid ((Value.slice (some ⟨wc.heap.size, 0, none⟩) u u).ownBlock ≠ some P) := Lib.hid fun e => by have := hzp P e; have := HBP.out.lt; omega
      have HRL : Hid (∀ g, (Value.slice (some ⟨lb, 0, none⟩) 0 0).ownBlock = some g → (Value.slice (some ⟨wc.heap.size, 0, none⟩) u u).ownBlock ≠ some g) := Lib.hid fun g hg e => by
        have h1 := hzp g e
        have h2 : lb = g := by simpa [Value.ownBlock] using hg
        have := HLBL.out
        omega
      clear hzp
      obtain ⟨xs, hxo, hxx⟩ := HK.out.outer
      have hxl := ownsRow_len hxo
      have HXX := Lib.hid hxx
      have HXL := Lib.hid hxl
      clear hxx hxl
      refine step_append_lies _ (by rfl) _ _ 28 (by rfl) w1.heap.size 46 i0 (.agg #[.slice none 0 0, .int .i64 0]) 2 32 Try.underlying28 hi hz0 hz1 hz2 (by rfl) (by decide) (.slice (some ⟨lb, 0, none⟩) 0 0) 0 _ (by rfl) (ownsRow_below hxo HBX.out) _ 1 1 [.slice (some ⟨wc.heap.size, 0, none⟩) u u, .int .i64 (1)] (by rfl) (by rfl) (fun j u hu => World.news_of_block HNEW.out j u (by simpa using hu)) (by simp [Value.oneCell']) (by omega) (by unfold maxLen; omega) (by omega) HBS.out _ rfl ?_; intro g5 cap5 w5 hown5 hgrow5 hat5 hlt5
      have HKG := Lib.hid (EqsK.grow (V := VL) HK.out HLEN.out HXL.out HXX.out HBX.out (HZB.out.mono (Nat.le_trans HB13.out HBK.out.size)) HRP.out (fun i hi => absurd hi (Nat.not_lt_zero i)) HRL.out hown5 hgrow5 (fun g hg => by
        obtain rfl : g5 = g := by simpa [Value.ownBlock] using hg
        rcases hat5 with e | e
        · exact .inl e
        · exact .inr (by omega)) HPL.out)
      have HB5 := Lib.hid ((HBK.out.trans (HBX.out.mono HBK.out.size)).grown hgrow5 (Nat.le_trans HBK.out.size HBX.out.size) (fun q hq => HVG.out q hq))
      have HG5 : Hid (∀ g, (Value.slice (some ⟨g5, 0, none⟩) (0 + 1) cap5).ownBlock = some g → w3.heap.size ≤ g) := Lib.hid fun g hg => (by
        obtain rfl : g5 = g := by simpa [Value.ownBlock] using hg
        rcases hat5 with e | e
        · exact HVG.out _ e
        · have := HBK.out.size; have := HBX.out.size; omega)
      have hb5 := (HBP.out.below HBX.out).same (hgrow5.block P HPL.out (fun e => HK.out.vp e.symm))
      have k2 : w5.cell? ⟨P, 2, none⟩ = some (.slice (some ⟨lb, 0, none⟩) 0 0) := hb5.c 2 rfl
      have z2 := hb5.free 2
      have HB6 := Lib.hid (hb5.set 2 (.slice (some ⟨g5, 0, none⟩) (0 + 1) cap5))
      have HK6 := Lib.hid (HKG.out.storeP 2 (.slice (some ⟨g5, 0, none⟩) (0 + 1) cap5))
      have HBE := Lib.hid (HB5.out.setCell (p := ⟨P, 2, none⟩) HPG.out (.slice (some ⟨g5, 0, none⟩) (0 + 1) cap5))
      clear hown5 hgrow5 hat5 hlt5 hxo hb5
      refine hK.out _ _ ?_
      clear hK K
      try simp only [Act.put, List.setIfInBounds_toArray, List.set_cons_zero, List.set_cons_succ]
      refine wpAnyL_free (i := 10) (v := ?_) (some 36) rfl rfl (by kernel_rfl) (by kernel_rfl) (by kernel_rfl) (by decide) (fun _ _ _ h => h) (Or.inl ⟨by rfl, ?_⟩) (fun h0 => absurd h0 (by decide)) ?_
      rotate_left
      · intro wS
        go_simp
        try with_reducible rfl
      try simp only [Act.put, List.setIfInBounds_toArray, List.set_cons_zero, List.set_cons_succ]
      refine wpAnyL_ready (rs := [11]) (by kernel_rfl) (by simp) ?_
      refine AllReadyL.last rfl (by kernel_rfl) (fun K hK => ?_) AllReadyL.nil
      go_simp
      refine hK.out _ _ ?_
      clear hK K
      try simp only [Act.put, List.setIfInBounds_toArray, List.set_cons_zero, List.set_cons_succ]
      refine wpAnyL_done (by kernel_rfl) ?_ _
      refine NoPanic.normal ?_
      have HOBX := Lib.hid (HRB3.out.below HBE.out)
      have HPBX := Lib.hid HB6.out
      have HKF := Lib.hid HK6.out
      have HFIN : Hid ((NoAns p u rs ∧ ([] ++ [((1 : Int), List.replicate u (0 : Int))]) = [(1, List.replicate u 0)]) ∨ (¬ NoAns p u rs ∧ ([] ++ [((1 : Int), List.replicate u (0 : Int))]) = redK (elimE p rs.length (row0 rs) u).1 u (elimE p rs.length (row0 rs) u).2)) := Lib.hid (.inl ⟨HNN.out, rfl⟩)
      have HWF := Lib.hid (HW3.out.trans (HBE.out.mono HW3.out.size))
      clear hHeld k2 z2 g1 e1
      have o0 := HOBX.out.c 0 rfl
      have o1 := HOBX.out.c 1 rfl
      have o2 := HOBX.out.c 2 rfl
      have f0 := HOBX.out.free 0
      have f1 := HOBX.out.free 1
      have f2 := HOBX.out.free 2
      have p0 := HPBX.out.c 0 rfl
      have p1 := HPBX.out.c 1 rfl
      have p2 := HPBX.out.c 2 rfl
      go_wp2
      refine bodyPost_ret (v := .agg #[.int .i64 p, .int .i64 (u : Int), (.slice (some ⟨g5, 0, none⟩) (0 + 1) cap5)]) (by simp [results, Try.results88, go_sem, o0, o1, o2]) rfl ⟨_, _, _, rfl, ⟨_, ((HKF.out.stored (p := ⟨ob, 0, none⟩) HOL.out (.int .i64 p)).stored (p := ⟨ob, 1, none⟩) HOL.out (.int .i64 (u : Int)) |>.stored (p := ⟨ob, 2, none⟩) HOL.out (.slice (some ⟨g5, 0, none⟩) (0 + 1) cap5)).own.mono (by first | exact HW1.out.size | exact Nat.le_of_lt HOL.out), HFIN.out⟩, ?_⟩
      have e := ((HWF.out.setCell (p := ⟨ob, 0, none⟩) HOE.out (.int .i64 p)).setCell (p := ⟨ob, 1, none⟩) HOE.out (.int .i64 (u : Int))).setCell (p := ⟨ob, 2, none⟩) HOE.out (.slice (some ⟨g5, 0, none⟩) (0 + 1) cap5)
      first
      | exact e
      | (rw [HOB.out] at e; exact e)

/-- What ReduceSystem answers. -/
def ReduceSystemIs (p u : Int) (rs : List (Int × List Int)) (x y : Int) (rd : List (Int × List Int)) (cd : Int) : Prop :=
  (SysOk p u rs ∧ x = p ∧ y = u ∧ ((NoAns p u.toNat rs ∧ rd = [(1, List.replicate u.toNat 0)]) ∨ (¬ NoAns p u.toNat rs ∧ rd = redK (elimE p rs.length (row0 rs) u.toNat).1 u.toNat (elimE p rs.length (row0 rs) u.toNat).2)) ∧ cd = 0) ∨ (¬ SysOk p u rs ∧ x = 0 ∧ y = 0 ∧ rd = [] ∧ cd = 1)
theorem ReduceSystemIs.exists (p u : Int) (rs : List (Int × List Int)) : ∃ x y rd cd, ReduceSystemIs p u rs x y rd cd := by
  by_cases h1 : SysOk p u rs
  · by_cases h2 : NoAns p u.toNat rs
    · exact ⟨p, u, _, 0, .inl ⟨h1, rfl, rfl, .inl ⟨h2, rfl⟩, rfl⟩⟩
    · exact ⟨p, u, _, 0, .inl ⟨h1, rfl, rfl, .inr ⟨h2, rfl⟩, rfl⟩⟩
  · exact ⟨0, 0, [], 1, .inr ⟨h1, rfl, rfl, rfl, rfl⟩⟩
theorem ReduceSystemIs.bad {p u x y : Int} {rs rd : List (Int × List Int)} {cd : Int} (h : ReduceSystemIs p u rs x y rd cd) (h1 : ¬ SysOk p u rs) : x = 0 ∧ y = 0 ∧ rd = [] ∧ cd = 1 := by
  rcases h with ⟨h2, _⟩ | ⟨_, h⟩
  · exact absurd h2 h1
  · exact h
theorem ReduceSystemIs.good {p x y : Int} {un : Nat} {rs rd rd' : List (Int × List Int)} {cd : Int} (h : ReduceSystemIs p un rs x y rd cd) (h1 : SysOk p un rs) (h2 : (NoAns p un rs ∧ rd' = [(1, List.replicate un 0)]) ∨ (¬ NoAns p un rs ∧ rd' = redK (elimE p rs.length (row0 rs) un).1 un (elimE p rs.length (row0 rs) un).2)) : x = p ∧ y = un ∧ rd = rd' ∧ cd = 0 := by
  rcases h with ⟨_, hx, hy, h, hc⟩ | ⟨h3, _⟩
  · refine ⟨hx, hy, ?_, hc⟩
    rcases h with ⟨k1, k2⟩ | ⟨k1, k2⟩ <;> rcases h2 with ⟨g1, g2⟩ | ⟨g1, g2⟩
    · exact k2.trans g2.symm
    · exact absurd k1 g1
    · exact absurd g1 k1
    · exact k2.trans g2.symm
  · exact absurd h1 h3
/-- A system of its own, and a code. -/
def MadeSys2 (w : World) (x y : Int) (rd : List (Int × List Int)) (cd : Int) (e : Ending) (w' : World) : Prop :=
  ∃ a n c, e = .returned (.tuple #[.agg #[.int .i64 x, .int .i64 y, .slice a n c], .int .i64 cd]) ∧ OwnEqs 46 w' w.heap.size w'.heap.size (.slice a n c) rd ∧ Below w.heap.size w w'

set_option linter.unusedSimpArgs false in
set_option maxHeartbeats 4000000 in
set_option maxRecDepth 100000 in
theorem specReduceSystem (p u : Int) (a : Option Addr) (n c : Nat) (rs : List (Int × List Int)) (x y : Int) (rd : List (Int × List Int)) (cd : Int) (w : World) (h : EqsAt w (.slice a n c) rs) (hi : ReduceSystemIs p u rs x y rd cd) :
    Calls Try.prog 28 #[.agg #[.int .i64 p, .int .i64 u, .slice a n c]] w (MadeSys2 w x y rd cd) := by
  have HS := Lib.hid (SysAt.new w p u a n c rs 30 h)
  have HW1 : Hid (Below w.heap.size w (w.alloc (.cells #[.int .i64 p, .int .i64 u, .slice a n c] 30))) := Lib.hid ((Below.refl _ _).alloc (Nat.le_refl _) _)
  obtain ⟨w1, hw1⟩ : ∃ w1, w.alloc (.cells #[.int .i64 p, .int .i64 u, .slice a n c] 30) = w1 := ⟨_, rfl⟩
  rw [hw1] at HS HW1
  have hs1 : w1.heap.size = w.heap.size + 1 := by rw [← hw1]; simp
  have HOB := Lib.hid (Box.new 30 w1 #[.int .i64 0, .int .i64 0, .slice none 0 0])
  have HW2 := Lib.hid ((Below.refl w1.heap.size w1).alloc (Nat.le_refl _) (.cells #[.int .i64 0, .int .i64 0, .slice none 0 0] 30))
  obtain ⟨ob, hob⟩ : ∃ ob, w1.heap.size = ob := ⟨_, rfl⟩
  obtain ⟨w2, hw2⟩ : ∃ w2, w1.alloc (.cells #[.int .i64 0, .int .i64 0, .slice none 0 0] 30) = w2 := ⟨_, rfl⟩
  have hs2 : w2.heap.size = ob + 1 := by rw [← hw2, ← hob]; simp
  rw [hw2] at HOB HW2
  rw [hob] at HOB
  have HS2 := Lib.hid (HS.out.below HW2.out)
  have HW3 := Lib.hid (HW1.out.trans (HW2.out.mono HW1.out.size))
  have HI := Lib.hid hi
  have HOL : Hid (w.heap.size ≤ ob) := Lib.hid (by omega)
  have HSZ2 := Lib.hid hs2
  clear h hi hs2 hs1
  go_enter Try.func28, Try.ntmps28
  go_wp2_with fail
  try rw [hw1]
  try simp only [hob]
  try rw [hw2]
  clear hw1 hw2 hob
  by_cases hok : SysOk p u rs
  · have HOK := Lib.hid hok
    obtain ⟨un, rfl⟩ := hok.unat
    clear hok
    refine (l07Ok _ _ _ _ rs true _ HS2.out (Tells.yes HOK.out)).mono ?_
    rintro e w3 ⟨rfl, hq⟩
    have HS3 := Lib.hid (HS2.out.below hq.bel)
    have HOB3 := Lib.hid (HOB.out.below hq.bel)
    have HW4 := Lib.hid (HW3.out.trans (hq.bel.mono HW3.out.size))
    have HSZ3 : Hid (ob < w3.heap.size) := Lib.hid (by have := HSZ2.out; have := hq.bel.size; omega)
    clear hq
    go_wp2_with fail
    refine (l07ReducedC _ _ p un rs _ HS3.out HOK.out).mono ?_
    rintro e w4 ⟨a4, n4, c4, rfl, ⟨rd', ho4, hr4⟩, hb4⟩
    obtain ⟨rfl, rfl, hrd, rfl⟩ := HI.out.good HOK.out hr4
    have HO4 := Lib.hid (ho4.stored (p := ⟨ob, 0, none⟩) HSZ3.out (.int .i64 x) |>.stored (p := ⟨ob, 1, none⟩) HSZ3.out (.int .i64 (un : Int)) |>.stored (p := ⟨ob, 2, none⟩) HSZ3.out (.slice a4 n4 c4))
    have HOB4 := Lib.hid (HOB3.out.below hb4)
    have HW5 := Lib.hid (((HW4.out.trans (hb4.mono HW4.out.size)).setCell (p := ⟨ob, 0, none⟩) HOL.out (.int .i64 x)).setCell (p := ⟨ob, 1, none⟩) HOL.out (.int .i64 (un : Int)) |>.setCell (p := ⟨ob, 2, none⟩) HOL.out (.slice a4 n4 c4))
    have HRD := Lib.hid hrd
    have HBB : Hid (w.heap.size ≤ w3.heap.size) := Lib.hid HW4.out.size
    have o0 := HOB4.out.c 0 rfl
    have o1 := HOB4.out.c 1 rfl
    have o2 := HOB4.out.c 2 rfl
    have f0 := HOB4.out.free 0
    have f1 := HOB4.out.free 1
    have f2 := HOB4.out.free 2
    clear ho4 hr4 hb4 hrd
    go_wp2
    refine bodyPost_ret (v := .tuple #[.agg #[.int .i64 x, .int .i64 (un : Int), .slice a4 n4 c4], .int .i64 0]) (by simp [results, Try.results28, go_sem, o0, o1, o2]) rfl ⟨_, _, _, rfl, ?_, HW5.out⟩
    rw [HRD.out]
    exact (HO4.out.mono HBB.out).full
  · have HOK := Lib.hid hok
    obtain ⟨rfl, rfl, rfl, rfl⟩ := HI.out.bad hok
    clear hok
    refine (l07Ok _ _ _ _ rs false _ HS2.out (Tells.no HOK.out)).mono ?_
    rintro e w3 ⟨rfl, hq⟩
    have HOB3 := Lib.hid (HOB.out.below hq.bel)
    have HW4 := Lib.hid (HW3.out.trans (hq.bel.mono HW3.out.size))
    have HW5 := Lib.hid ((HW4.out.setCell (p := ⟨ob, 0, none⟩) HOL.out (.int .i64 0)).setCell (p := ⟨ob, 1, none⟩) HOL.out (.int .i64 0) |>.setCell (p := ⟨ob, 2, none⟩) HOL.out (.slice none 0 0))
    have o0 := HOB3.out.c 0 rfl
    have o1 := HOB3.out.c 1 rfl
    have o2 := HOB3.out.c 2 rfl
    have f0 := HOB3.out.free 0
    have f1 := HOB3.out.free 1
    have f2 := HOB3.out.free 2
    clear hq
    go_wp2
    refine bodyPost_ret (v := .tuple #[.agg #[.int .i64 0, .int .i64 0, .slice none 0 0], .int .i64 1]) (by simp [results, Try.results28, go_sem, o0, o1, o2]) rfl ⟨_, _, _, rfl, OwnEqs.nil _ _ _ _ (Nat.le_refl _), ?_⟩
    first
    | exact HW5.out
    | exact HW4.out

end Go.Proofs.Ytnbgpeoceejolaa
