/-
  RankOfSystem and CountAnswers of the model.
-/
import Derived.Test.YtnbgpeoceejolaaReduce
namespace Go.Proofs.Ytnbgpeoceejolaa
open Go.RowKit

/-- The rows that are not done have a right side other than 0. -/
def NoAns (p : Int) (u : Nat) (rs : List (Int × List Int)) : Prop := ∃ j, (elimE p rs.length (row0 rs) u).2 ≤ j ∧ j < rs.length ∧ intN ((elimE p rs.length (row0 rs) u).1 j) u ≠ 0
/-- The first row from d on whose right side is not 0, or -1. -/
def FalseAt (R : Nat → List Int) (u d n : Nat) (m : Int) : Prop :=
  (∃ i : Nat, d ≤ i ∧ i < n ∧ m = i ∧ intN (R i) u ≠ 0 ∧ ∀ j, d ≤ j → j < i → intN (R j) u = 0) ∨ (m = -1 ∧ ∀ j, d ≤ j → j < n → intN (R j) u = 0)
theorem FalseAt.exists (R : Nat → List Int) (u d n : Nat) (hd : d ≤ n) : ∃ m, FalseAt R u d n m := by
  obtain ⟨h1, h2, h3, h4⟩ := findE_spec (R := R) (c := u) (n := n) n d hd (by omega)
  by_cases h : findE R u n n d < n
  · exact ⟨findE R u n n d, .inl ⟨_, h1, h, rfl, h4 h, h3⟩⟩
  · exact ⟨-1, .inr ⟨rfl, fun j hj hn => h3 j hj (by omega)⟩⟩
theorem FalseAt.neg {R : Nat → List Int} {u d n : Nat} {m : Int} (h : FalseAt R u d n m) : m < 0 ↔ ¬ ∃ j, d ≤ j ∧ j < n ∧ intN (R j) u ≠ 0 := by
  rcases h with ⟨i, h1, h2, rfl, h4, _⟩ | ⟨rfl, h⟩
  · exact ⟨fun h => by omega, fun h => absurd ⟨i, h1, h2, h4⟩ h⟩
  · exact ⟨fun _ => fun ⟨j, h1, h2, h3⟩ => h3 (h j h1 h2), fun _ => by decide⟩

set_option linter.unusedSimpArgs false in
set_option maxHeartbeats 4000000 in
set_option maxRecDepth 100000 in
theorem l07FalseC (a : Option Addr) (c n d rb B u : Nat) (VL VB : Nat → Value) (R : Nat → List Int) (m : Int) (w : World) (h : 0 < n → a = some ⟨rb, 0, none⟩ ∧ MRows w rb B n u VL VB R) (hn : n ≤ 1000) (hd : d ≤ n) (hm : FalseAt R u d n m) :
    Calls Try.prog 82 #[.slice a n c, .int .i64 (d : Int)] w fun e w' => e = .returned (.int .i64 m) ∧ w = w' := by
  have H := Lib.hid h
  have HM := Lib.hid hm
  clear h hm
  go_enter Try.func82, Try.ntmps82
  go_wp2
  go_loop [5] (fun v => ∃ k : Nat, d ≤ k ∧ k ≤ n ∧ v = .int .i64 k ∧ ∀ j, d ≤ j → j < k → intN (R j) u = 0) (fun v => n - (intOf v).toNat)
  case atStart => exact ⟨d, Nat.le_refl _, hd, rfl, fun j h1 h2 => by omega⟩
  case round =>
    obtain ⟨k, hdk, hkn, rfl, hz⟩ := hrel
    have HZ := Lib.hid hz
    clear hz
    by_cases hlt : k < n
    · have hk : (k : Int) < (n : Int) := by omega
      obtain ⟨rfl, hM⟩ := H.out (by omega)
      have x0 := (hM.row k hlt).right
      obtain ⟨x, hx⟩ : ∃ x, intN (R k) u = x := ⟨_, rfl⟩
      rw [hx] at x0
      have HX := Lib.hid hx
      clear hM hx
      by_cases h0 : x = 0
      · have hb : (x != 0) = false := by rw [h0]; rfl
        have HX0 := Lib.hid h0
        clear h0
        go_wp2
        go_round
        case rel =>
          refine ⟨k + 1, by omega, by omega, by go_num, fun j h1 h2 => ?_⟩
          by_cases hjk : j = k
          · subst hjk; rw [HX.out]; exact HX0.out
          · exact HZ.out j h1 (by omega)
        case measure => simp [intOf]; omega
      · have hb : (x != 0) = true := bne_iff_ne.2 h0
        have HX0 := Lib.hid h0
        clear h0
        have HE : Hid (m = (k : Int)) := Lib.hid (by
          rcases HM.out with ⟨i, h1, h2, rfl, h4, h5⟩ | ⟨rfl, h5⟩
          · rcases Nat.lt_trichotomy i k with hl | rfl | hl
            · exact absurd (HZ.out i h1 hl) h4
            · rfl
            · exact absurd (h5 k hdk hl) (by rw [HX.out]; exact HX0.out)
          · exact absurd (h5 k hdk hlt) (by rw [HX.out]; exact HX0.out))
        go_wp2
        go_ret
        exact ⟨by rw [HE.out]; rfl, rfl⟩
    · obtain rfl : k = n := by omega
      have HE : Hid (m = -1) := Lib.hid (by
        rcases HM.out with ⟨i, h1, h2, rfl, h4, _⟩ | ⟨h5, _⟩
        · exact absurd (HZ.out i h1 h2) h4
        · exact h5)
      go_wp2
      go_ret
      exact ⟨by rw [HE.out]; rfl, rfl⟩

set_option linter.unusedSimpArgs false in
set_option maxHeartbeats 4000000 in
set_option maxRecDepth 100000 in
theorem l07RankC (sb so : Nat) (p : Int) (u : Nat) (rs : List (Int × List Int)) (b : Bool) (w : World) (hs : SysAt w sb so p u rs) (hok : SysOk p u rs) (hb : Tells b (¬ NoAns p u rs)) :
    Calls Try.prog 73 #[.pointer (some ⟨sb, so, none⟩)] w fun e w' => e = .returned (.tuple #[.int .i64 ((elimE p rs.length (row0 rs) u).2 : Int), .bool b]) ∧ Below w.heap.size w w' := by
  have HS := Lib.hid hs
  have HOK := Lib.hid hok
  have HB := Lib.hid hb
  have hn24 := hok.2.2.1
  have hgd := elimE_good (l := u + 1 + rs.length) (by rcases hok.1 with rfl | rfl <;> omega) (row0_good hok) u
  clear hs hok hb
  go_enter Try.func73, Try.ntmps73
  go_wp2_with fail
  refine (l07ReduceC sb so p u rs _ HS.out HOK.out).mono ?_
  rintro e w2 ⟨a, c, rfl, hmr, hb2⟩
  have HB2 := Lib.hid hb2
  obtain ⟨m, hm⟩ := FalseAt.exists (elimE p rs.length (row0 rs) u).1 u (elimE p rs.length (row0 rs) u).2 rs.length hgd.2
  have HBM : Hid (decide (m < 0) = b) := Lib.hid (by
    have h1 := hm.neg
    have h2 := HB.out
    unfold NoAns at h2
    by_cases h : m < 0
    · rw [decide_eq_true h]; exact (h2.is_true (h1.1 h)).symm
    · rw [decide_eq_false h]; exact (h2.is_false fun k => h (h1.2 k)).symm)
  have HMR : Hid (∃ rb B VL VB, 0 < rs.length → a = some ⟨rb, 0, none⟩ ∧ MRows w2 rb B rs.length u VL VB (elimE p rs.length (row0 rs) u).1) := Lib.hid (by
    by_cases h0 : 0 < rs.length
    · obtain ⟨rb, VL, VB, h1, _, _, h2⟩ := hmr h0
      exact ⟨rb, _, VL, VB, fun _ => ⟨h1, h2⟩⟩
    · exact ⟨0, 0, fun _ => .slice none 0 0, fun _ => .slice none 0 0, fun h => absurd h h0⟩)
  have HM := Lib.hid hm
  have hdn := hgd.2
  obtain ⟨S, hS⟩ : ∃ S, elimE p rs.length (row0 rs) u = S := ⟨_, rfl⟩
  obtain ⟨R, d⟩ := S
  rw [hS] at HMR HM hdn ⊢
  have HSE := Lib.hid hS
  clear hmr hb2 hm hgd hS
  obtain ⟨rb, B, VL, VB, hmm⟩ := HMR.out
  have HMM := Lib.hid hmm
  clear hmm
  go_wp2_with fail
  refine (l07FalseC a c rs.length d rb B u VL VB R m _ HMM.out (by omega) hdn HM.out).mono ?_
  rintro e w3 ⟨rfl, rfl⟩
  have hbm := HBM.out
  go_wp2
  go_ret2
  exact ⟨by rw [HSE.out]; first | rfl | simp, HB2.out⟩

/-- What RankOfSystem answers. -/
def RankOfSystemIs (p u : Int) (rs : List (Int × List Int)) (r cd : Int) : Prop :=
  (SysOk p u rs ∧ ¬ NoAns p u.toNat rs ∧ r = ((elimE p rs.length (row0 rs) u.toNat).2 : Nat) ∧ cd = 0) ∨ (SysOk p u rs ∧ NoAns p u.toNat rs ∧ r = 0 ∧ cd = 4) ∨ (¬ SysOk p u rs ∧ r = 0 ∧ cd = 1)
theorem RankOfSystemIs.exists (p u : Int) (rs : List (Int × List Int)) : ∃ r cd, RankOfSystemIs p u rs r cd := by
  by_cases h1 : SysOk p u rs
  · by_cases h2 : NoAns p u.toNat rs
    · exact ⟨0, 4, .inr (.inl ⟨h1, h2, rfl, rfl⟩)⟩
    · exact ⟨_, 0, .inl ⟨h1, h2, rfl, rfl⟩⟩
  · exact ⟨0, 1, .inr (.inr ⟨h1, rfl, rfl⟩)⟩

set_option linter.unusedSimpArgs false in
set_option maxHeartbeats 4000000 in
set_option maxRecDepth 100000 in
theorem specRankOfSystem (p u : Int) (a : Option Addr) (n c : Nat) (rs : List (Int × List Int)) (r cd : Int) (w : World) (h : EqsAt w (.slice a n c) rs) (hi : RankOfSystemIs p u rs r cd) :
    Calls Try.prog 16 #[.agg #[.int .i64 p, .int .i64 u, .slice a n c]] w fun e w' => e = .returned (.tuple #[.int .i64 r, .int .i64 cd]) ∧ Below w.heap.size w w' := by
  have HS := Lib.hid (SysAt.new w p u a n c rs 30 h)
  have HW : Hid (Below w.heap.size w (w.alloc (.cells #[.int .i64 p, .int .i64 u, .slice a n c] 30))) := Lib.hid ((Below.refl _ _).alloc (Nat.le_refl _) _)
  have HI := Lib.hid hi
  clear h hi
  go_enter Try.func16, Try.ntmps16
  by_cases hok : SysOk p u rs
  · have HOK := Lib.hid hok
    obtain ⟨un, rfl⟩ : ∃ un : Nat, u = un := ⟨u.toNat, by have := hok.2.1; unfold InP at this; omega⟩
    clear hok
    go_wp2_with fail
    refine (l07Ok _ _ _ _ rs true _ HS.out (Tells.yes HOK.out)).mono ?_
    rintro e w2 ⟨rfl, hq⟩
    have HQ := Lib.hid hq.bel
    have HW2 := Lib.hid (HW.out.trans (hq.bel.mono HW.out.size))
    clear hq
    obtain ⟨b, hb⟩ := Tells.exists (¬ NoAns p un rs)
    have HB := Lib.hid hb
    clear hb
    go_wp2_with fail
    refine (l07RankC _ _ p un rs b _ (HS.out.below HQ.out) HOK.out HB.out).mono ?_
    rintro e w3 ⟨rfl, hb3⟩
    have HW3 := Lib.hid (HW2.out.trans (hb3.mono HW2.out.size))
    clear hb3
    cases b with
    | true =>
      go_wp2
      go_ret2
      rcases HI.out with ⟨_, _, rfl, rfl⟩ | ⟨_, h2, _⟩ | ⟨h1, _⟩
      · exact ⟨rfl, HW3.out⟩
      · exact absurd h2 (HB.out.1 rfl)
      · exact absurd HOK.out h1
    | false =>
      go_wp2
      go_ret2
      rcases HI.out with ⟨_, h2, _⟩ | ⟨_, _, rfl, rfl⟩ | ⟨h1, _⟩
      · exact absurd (HB.out.2 h2) (by simp)
      · exact ⟨rfl, HW3.out⟩
      · exact absurd HOK.out h1
  · have HOK := Lib.hid hok
    clear hok
    go_wp2_with fail
    refine (l07Ok _ _ _ _ rs false _ HS.out (Tells.no HOK.out)).mono ?_
    rintro e w2 ⟨rfl, hq⟩
    have HW2 := Lib.hid (HW.out.trans (hq.bel.mono HW.out.size))
    clear hq
    go_wp2
    go_ret2
    rcases HI.out with ⟨h1, _⟩ | ⟨h1, _⟩ | ⟨_, rfl, rfl⟩
    · exact absurd h1 HOK.out
    · exact absurd h1 HOK.out
    · exact ⟨rfl, HW2.out⟩

theorem pow_le3E {p k : Nat} (h : p ≤ 3) (hk : k ≤ 12) : p ^ k ≤ 531441 := by
  have h1 := Nat.pow_le_pow_left h k
  have h2 := Nat.pow_le_pow_right (show 0 < 3 by decide) hk
  exact Nat.le_trans h1 (Nat.le_trans h2 (by decide))

set_option maxHeartbeats 1000000 in
theorem powerE (size ar : Nat) (h2 : size ≤ 3) (h4 : ar ≤ 12) (w : World) :
    Calls Try.prog 138 #[.int .i64 size, .int .i64 ar] w fun e w' => e = .returned (.int .i64 ((size ^ ar : Nat) : Int)) ∧ w = w' := by
  go_enter Try.func138, Try.ntmps138
  go_wp2
  go_loop [1, 5] (fun i p => ∃ k : Nat, k ≤ ar ∧ i = .int .i64 ((ar - k : Nat) : Int) ∧ p = .int .i64 ((size ^ k : Nat) : Int)) (fun i _ => (intOf i).toNat)
  case atStart => exact ⟨0, Nat.zero_le _, rfl, rfl⟩
  case round =>
    obtain ⟨k, hk, rfl, rfl⟩ := hrel
    by_cases hlt : k < ar
    · have hlt' : (0 : Int) < ((ar - k : Nat) : Int) := by omega
      have hp := pow_le3E h2 (show k ≤ 12 by omega)
      have hs := Nat.pow_succ (n := size) (m := k)
      have hs2 := pow_le3E h2 (show k + 1 ≤ 12 by omega)
      generalize size ^ k = p at *
      generalize hqq : size ^ (k + 1) = q at *
      have hm : (p : Int) * (size : Int) = (q : Int) := by rw [hs, Int.natCast_mul]
      have HQ := Lib.hid hqq
      have HD : Hid (((ar - k : Nat) : Int) - 1 = ((ar - (k + 1) : Nat) : Int)) := by show _ = _; omega
      clear hs hqq
      go_wp2
      go_round
      case rel => exact ⟨k + 1, by omega, by rw [HD.out], by rw [HQ.out]⟩
      case measure => simp [intOf]; omega
    · obtain rfl : k = ar := by omega
      have hz : k - k = 0 := Nat.sub_self k
      go_wp2
      go_ret
      exact ⟨rfl, rfl⟩

/-- How many answers there are. -/
def cntE (p u : Nat) (rs : List (Int × List Int)) : Nat := p ^ (u - (elimE p rs.length (row0 rs) u).2)
set_option linter.unusedSimpArgs false in
set_option maxHeartbeats 4000000 in
set_option maxRecDepth 100000 in
theorem l07CountC (sb so : Nat) (p u : Nat) (rs : List (Int × List Int)) (b : Bool) (w : World) (hs : SysAt w sb so p u rs) (hok : SysOk p u rs) (hb : Tells b (¬ NoAns p u rs)) :
    Calls Try.prog 79 #[.pointer (some ⟨sb, so, none⟩)] w fun e w' => e = .returned (.int .i64 (if b then (cntE p u rs : Int) else 0)) ∧ Below w.heap.size w w' := by
  have HS := Lib.hid hs
  have HOK := Lib.hid hok
  have HB := Lib.hid hb
  have hp3 : p ≤ 3 := by have := hok.1; unfold PrimeP at this; omega
  have hu12 : u ≤ 12 := by have := hok.2.1; unfold InP at this; omega
  have hdu := elimE_le (p := p) (n := rs.length) (R := row0 rs) u
  clear hs hok hb
  go_enter Try.func79, Try.ntmps79
  go_wp2_with fail
  refine (l07RankC sb so p u rs b _ HS.out HOK.out HB.out).mono ?_
  rintro e w2 ⟨rfl, hb2⟩
  have HB2 := Lib.hid hb2
  have x0 := (HS.out.below hb2).prime
  have x1 := (HS.out.below hb2).unknowns
  obtain ⟨d, hd⟩ : ∃ d, (elimE p rs.length (row0 rs) u).2 = d := ⟨_, rfl⟩
  have HC : Hid (cntE p u rs = p ^ (u - d)) := Lib.hid (by unfold cntE; rw [hd])
  rw [hd] at hdu ⊢
  have hsub : (u : Int) - (d : Int) = ((u - d : Nat) : Int) := by omega
  have hwr : IntKind.i64.wrap (((u - d : Nat) : Int)) = ((u - d : Nat) : Int) := IntWalk.i64_in _ (by omega)
  clear hb2 hd
  cases b with
  | true =>
    go_wp2
    refine wp_region_noPanic ?_
    refine wp_region_late (S := (fun w' => w'.cell? ⟨sb, so, none⟩ = some (.int .i64 (p : Int)) ∧ w'.cell? ⟨sb, so + 1, none⟩ = some (.int .i64 (u : Int)))) [10] (by kernel_rfl) ?_ (fun hHeld => ?_)
    · exact ⟨x0, x1⟩
    refine wpAnyL_free (i := 0) (v := ?_) (some 12) rfl rfl (by kernel_rfl) (by kernel_rfl) (by kernel_rfl) (by decide) (fun _ _ _ h => h) (Or.inl ⟨by rfl, ?_⟩) (fun h0 => by assumption) ?_
    rotate_left
    · intro wS
      go_simp
      try with_reducible rfl
    try simp only [Act.put, List.setIfInBounds_toArray, List.set_cons_zero, List.set_cons_succ]
    refine wpAnyL_free (i := 1) (v := ?_) (some 13) rfl rfl (by kernel_rfl) (by kernel_rfl) (by kernel_rfl) (by decide) (fun _ _ _ h => h) (Or.inl ⟨by rfl, ?_⟩) (fun h0 => by assumption) ?_
    rotate_left
    · intro wS
      go_simp
      try with_reducible rfl
    try simp only [Act.put, List.setIfInBounds_toArray, List.set_cons_zero, List.set_cons_succ]
    refine wpAnyL_free (i := 2) (v := ?_) (some 14) rfl rfl (by kernel_rfl) (by kernel_rfl) (by kernel_rfl) (by decide) (fun _ _ _ h => h) (Or.inl ⟨by rfl, ?_⟩) (fun h0 => by assumption) ?_
    rotate_left
    · intro wS
      go_simp
      try with_reducible rfl
    try simp only [Act.put, List.setIfInBounds_toArray, List.set_cons_zero, List.set_cons_succ]
    refine wpAnyL_take (i := 3) (v := ?_) (some 15) rfl rfl (by kernel_rfl) (by kernel_rfl) (by kernel_rfl) (by kernel_rfl) (by kernel_rfl) (fun _ _ _ h => h) (Or.inl ⟨by rfl, ?_⟩) (by assumption) ?_
    rotate_left
    · intro wS hSw
      try dsimp only at hSw
      go_simp
      try with_reducible rfl
    try simp only [Act.put, List.setIfInBounds_toArray, List.set_cons_zero, List.set_cons_succ]
    refine wpAnyL_free (i := 4) (v := ?_) (some 16) rfl rfl (by kernel_rfl) (by kernel_rfl) (by kernel_rfl) (by decide) (fun _ _ _ h => h) (Or.inl ⟨by rfl, ?_⟩) (fun h0 => by assumption) ?_
    rotate_left
    · intro wS
      go_simp
      try with_reducible rfl
    try simp only [Act.put, List.setIfInBounds_toArray, List.set_cons_zero, List.set_cons_succ]
    refine wpAnyL_free (i := 5) (v := ?_) (some 17) rfl rfl (by kernel_rfl) (by kernel_rfl) (by kernel_rfl) (by decide) (fun _ _ _ h => h) (Or.inl ⟨by rfl, ?_⟩) (fun h0 => by assumption) ?_
    rotate_left
    · intro wS
      go_simp
      try with_reducible rfl
    try simp only [Act.put, List.setIfInBounds_toArray, List.set_cons_zero, List.set_cons_succ]
    refine wpAnyL_free (i := 6) (v := ?_) (some 18) rfl rfl (by kernel_rfl) (by kernel_rfl) (by kernel_rfl) (by decide) (fun _ _ _ h => h) (Or.inl ⟨by rfl, ?_⟩) (fun h0 => by assumption) ?_
    rotate_left
    · intro wS
      go_simp
      try with_reducible rfl
    try simp only [Act.put, List.setIfInBounds_toArray, List.set_cons_zero, List.set_cons_succ]
    refine wpAnyL_take (i := 7) (v := ?_) (some 19) rfl rfl (by kernel_rfl) (by kernel_rfl) (by kernel_rfl) (by kernel_rfl) (by kernel_rfl) (fun _ _ _ h => h) (Or.inl ⟨by rfl, ?_⟩) (by assumption) ?_
    rotate_left
    · intro wS hSw
      try dsimp only at hSw
      go_simp
      try with_reducible rfl
    try simp only [Act.put, List.setIfInBounds_toArray, List.set_cons_zero, List.set_cons_succ]
    refine wpAnyL_free (i := 8) (v := ?_) (some 20) rfl rfl (by kernel_rfl) (by kernel_rfl) (by kernel_rfl) (by decide) (fun _ _ _ h => h) (Or.inl ⟨by rfl, ?_⟩) (fun h0 => by assumption) ?_
    rotate_left
    · intro wS
      go_simp
      try with_reducible rfl
    try simp only [Act.put, List.setIfInBounds_toArray, List.set_cons_zero, List.set_cons_succ]
    refine wpAnyL_free (i := 9) (v := ?_) (some 21) rfl rfl (by kernel_rfl) (by kernel_rfl) (by kernel_rfl) (by decide) (fun _ _ _ h => h) (Or.inl ⟨by rfl, ?_⟩) (fun h0 => by assumption) ?_
    rotate_left
    · intro wS
      go_simp
      try with_reducible rfl
    try simp only [Act.put, List.setIfInBounds_toArray, List.set_cons_zero, List.set_cons_succ]
    refine wpAnyL_ready (rs := [10]) (by kernel_rfl) (by simp) ?_
    refine AllReadyL.last rfl (by kernel_rfl) (fun K hK => ?_) AllReadyL.nil
    go_simp; go_at_call 138; refine (powerE p (u - d) (by omega) (by omega) _).mono ?_; rintro e w5 ⟨rfl, rfl⟩
    refine hK.out _ _ ?_
    clear hK K
    try simp only [Act.put, List.setIfInBounds_toArray, List.set_cons_zero, List.set_cons_succ]
    refine wpAnyL_free (i := 11) (v := ?_) (some 2) rfl rfl (by kernel_rfl) (by kernel_rfl) (by kernel_rfl) (by decide) (fun _ _ _ h => h) (Or.inl ⟨by rfl, ?_⟩) (fun h0 => absurd h0 (by decide)) ?_
    rotate_left
    · intro wS
      go_simp
      try with_reducible rfl
    try simp only [Act.put, List.setIfInBounds_toArray, List.set_cons_zero, List.set_cons_succ]
    refine wpAnyL_done (by kernel_rfl) ?_ _
    refine NoPanic.normal ?_
    clear hHeld
    go_wp2
    go_ret
    exact ⟨by rw [HC.out]; simp, HB2.out.drew⟩
  | false =>
    clear x0 x1
    go_wp2
    go_ret
    exact ⟨by simp, HB2.out⟩

/-- What CountAnswers answers. -/
def CountAnswersIs (p u : Int) (rs : List (Int × List Int)) (r cd : Int) : Prop :=
  (SysOk p u rs ∧ ¬ NoAns p u.toNat rs ∧ r = (cntE p.toNat u.toNat rs : Nat) ∧ cd = 0) ∨ (SysOk p u rs ∧ NoAns p u.toNat rs ∧ r = 0 ∧ cd = 0) ∨ (¬ SysOk p u rs ∧ r = 0 ∧ cd = 1)
theorem CountAnswersIs.exists (p u : Int) (rs : List (Int × List Int)) : ∃ r cd, CountAnswersIs p u rs r cd := by
  by_cases h1 : SysOk p u rs
  · by_cases h2 : NoAns p u.toNat rs
    · exact ⟨0, 0, .inr (.inl ⟨h1, h2, rfl, rfl⟩)⟩
    · exact ⟨_, 0, .inl ⟨h1, h2, rfl, rfl⟩⟩
  · exact ⟨0, 1, .inr (.inr ⟨h1, rfl, rfl⟩)⟩

set_option linter.unusedSimpArgs false in
set_option maxHeartbeats 4000000 in
set_option maxRecDepth 100000 in
theorem specCountAnswers (p u : Int) (a : Option Addr) (n c : Nat) (rs : List (Int × List Int)) (r cd : Int) (w : World) (h : EqsAt w (.slice a n c) rs) (hi : CountAnswersIs p u rs r cd) :
    Calls Try.prog 20 #[.agg #[.int .i64 p, .int .i64 u, .slice a n c]] w fun e w' => e = .returned (.tuple #[.int .i64 r, .int .i64 cd]) ∧ Below w.heap.size w w' := by
  have HS := Lib.hid (SysAt.new w p u a n c rs 30 h)
  have HW : Hid (Below w.heap.size w (w.alloc (.cells #[.int .i64 p, .int .i64 u, .slice a n c] 30))) := Lib.hid ((Below.refl _ _).alloc (Nat.le_refl _) _)
  have HI := Lib.hid hi
  clear h hi
  go_enter Try.func20, Try.ntmps20
  by_cases hok : SysOk p u rs
  · have HOK := Lib.hid hok
    obtain ⟨un, rfl⟩ : ∃ un : Nat, u = un := ⟨u.toNat, by have := hok.2.1; unfold InP at this; omega⟩
    obtain ⟨pn, rfl⟩ : ∃ pn : Nat, p = pn := ⟨p.toNat, by have := hok.1; unfold PrimeP at this; omega⟩
    clear hok
    go_wp2_with fail
    refine (l07Ok _ _ _ _ rs true _ HS.out (Tells.yes HOK.out)).mono ?_
    rintro e w2 ⟨rfl, hq⟩
    have HQ := Lib.hid hq.bel
    have HW2 := Lib.hid (HW.out.trans (hq.bel.mono HW.out.size))
    clear hq
    obtain ⟨b, hb⟩ := Tells.exists (¬ NoAns pn un rs)
    have HB := Lib.hid hb
    clear hb
    go_wp2_with fail
    refine (l07CountC _ _ pn un rs b _ (HS.out.below HQ.out) HOK.out HB.out).mono ?_
    rintro e w3 ⟨rfl, hb3⟩
    have HW3 := Lib.hid (HW2.out.trans (hb3.mono HW2.out.size))
    clear hb3
    obtain ⟨y, hy⟩ : ∃ y : Int, (if b = true then (cntE pn un rs : Int) else 0) = y := ⟨_, rfl⟩
    have HY := Lib.hid hy
    rw [hy]
    clear hy
    go_wp2
    go_ret2
    refine ⟨?_, HW3.out⟩
    rw [← HY.out]
    rcases HI.out with ⟨_, h2, rfl, rfl⟩ | ⟨_, h2, rfl, rfl⟩ | ⟨h1, _⟩
    · rw [HB.out.is_true h2]; simp
    · rw [HB.out.is_false (fun k => k h2)]; simp
    · exact absurd HOK.out h1
  · have HOK := Lib.hid hok
    clear hok
    go_wp2_with fail
    refine (l07Ok _ _ _ _ rs false _ HS.out (Tells.no HOK.out)).mono ?_
    rintro e w2 ⟨rfl, hq⟩
    have HW2 := Lib.hid (HW.out.trans (hq.bel.mono HW.out.size))
    clear hq
    go_wp2
    go_ret2
    rcases HI.out with ⟨h1, _⟩ | ⟨h1, _⟩ | ⟨_, rfl, rfl⟩
    · exact absurd h1 HOK.out
    · exact absurd h1 HOK.out
    · exact ⟨rfl, HW2.out⟩

end Go.Proofs.Ytnbgpeoceejolaa
