/-
  IsAffine of the model and of the program.
-/
import Derived.Test.YtoojgaaggdnpiaaKeepsP
import Derived.Test.YtoojgaaggdnpiaaAffine
namespace Go.Proofs.Ytoojgaaggdnpiaa
open Go.RowKit

theorem affL2 : affL 2 = [0, 1, 1, 0, 1, 0, 0, 1] := by kernel_rfl
theorem affL3 : affL 3 = [0, 1, 2, 2, 0, 1, 1, 2, 0, 1, 2, 0, 0, 1, 2, 2, 0, 1, 2, 0, 1, 1, 2, 0, 0, 1, 2] := by kernel_rfl
theorem aff_ok2 : OpOk ((2 : Nat) : Int) ((3 : Nat) : Int) (affL 2) := by
  refine ⟨⟨by decide, by decide⟩, ⟨by decide, by decide⟩, ?_⟩
  rw [affL2]
  refine ⟨by decide, fun k hk => ?_⟩
  have : ∀ k, k < 8 → 0 ≤ intN [0, 1, 1, 0, 1, 0, 0, 1] k ∧ intN [0, 1, 1, 0, 1, 0, 0, 1] k < ((2 : Nat) : Int) := by decide
  exact this k hk
theorem aff_ok3 : OpOk ((3 : Nat) : Int) ((3 : Nat) : Int) (affL 3) := by
  refine ⟨⟨by decide, by decide⟩, ⟨by decide, by decide⟩, ?_⟩
  rw [affL3]
  refine ⟨by decide, fun k hk => ?_⟩
  have : ∀ k, k < 27 → 0 ≤ intN [0, 1, 2, 2, 0, 1, 1, 2, 0, 1, 2, 0, 0, 1, 2, 2, 0, 1, 2, 0, 1, 1, 2, 0, 0, 1, 2] k ∧ intN [0, 1, 2, 2, 0, 1, 1, 2, 0, 1, 2, 0, 0, 1, 2, 2, 0, 1, 2, 0, 1, 1, 2, 0, 0, 1, 2] k < ((3 : Nat) : Int) := by decide
  exact this k hk
theorem aff_ok {p : Nat} (h : p = 2 ∨ p = 3) : OpOk (p : Int) ((3 : Nat) : Int) (affL p) := by
  rcases h with rfl | rfl
  · exact aff_ok2
  · exact aff_ok3

/-- A relation with tuples that the operation x - y + z does not break. -/
def AffP (p q : Nat) (rs : List (List Int)) : Prop := 0 < rs.length ∧ ¬ Brk p 3 q (affL p) rs
/-- What IsAffine answers. -/
def IsAffineIs (p q : Int) (rs : List (List Int)) (b : Bool) (cd : Int) : Prop :=
  ((p = 2 ∨ p = 3) ∧ RelOk p q rs ∧ cd = 0 ∧ Tells b (AffP p.toNat q.toNat rs)) ∨ ((p = 2 ∨ p = 3) ∧ ¬ RelOk p q rs ∧ cd = 1 ∧ b = false) ∨ (¬ (p = 2 ∨ p = 3) ∧ cd = 2 ∧ b = false)
theorem IsAffineIs.exists (p q : Int) (rs : List (List Int)) : ∃ b cd, IsAffineIs p q rs b cd := by
  by_cases h1 : p = 2 ∨ p = 3
  · by_cases h2 : RelOk p q rs
    · obtain ⟨b, hb⟩ := Tells.exists (AffP p.toNat q.toNat rs)
      exact ⟨b, 0, .inl ⟨h1, h2, rfl, hb⟩⟩
    · exact ⟨false, 1, .inr (.inl ⟨h1, h2, rfl, rfl⟩)⟩
  · exact ⟨false, 2, .inr (.inr ⟨h1, rfl, rfl⟩)⟩

set_option linter.unusedSimpArgs false in
set_option maxHeartbeats 4000000 in
set_option maxRecDepth 100000 in
theorem isEmptyRelC (q : Int) (a : Option Addr) (n c : Nat) (w : World) : Calls Try.prog 84 #[.agg #[.int .i64 q, .slice a n c]] w fun e w' => e = .returned (.bool (decide ((n : Int) = 0))) ∧ Below w.heap.size w w' := by
  have HW1 : Hid (Below w.heap.size w (w.alloc (.cells #[.int .i64 q, .slice a n c] 34))) := Lib.hid ((Below.refl _ _).alloc (Nat.le_refl _) _)
  have b1 : Box 34 (w.alloc (.cells #[.int .i64 q, .slice a n c] 34)) w.heap.size #[.int .i64 q, .slice a n c] := Box.new _ _ _
  have d1 : (w.alloc (.cells #[.int .i64 q, .slice a n c] 34)).cell? ⟨w.heap.size, 1, none⟩ = some (.slice a n c) := b1.c 1 rfl
  clear b1
  go_enter Try.func84, Try.ntmps84
  go_wp2
  go_ret
  refine ⟨?_, HW1.out⟩
  first | rfl | (by_cases h : (n : Int) = 0 <;> simp [h])

set_option linter.unusedSimpArgs false in
set_option maxHeartbeats 4000000 in
set_option maxRecDepth 100000 in
theorem implIsAffine (p : Int) (q : Int) (a : Option Addr) (n c : Nat) (rs : List (List Int)) (b : Bool) (cd : Int) (w : World) (hr : GridAt w (.slice a n c) rs) (hi : IsAffineIs p q rs b cd) :
    Calls Try.prog 31 #[.int .i64 p, .agg #[.int .i64 q, .slice a n c]] w fun e w' => e = .returned (.tuple #[.bool b, .int .i64 cd]) ∧ Below w.heap.size w w' := by
  have HW1 : Hid (Below w.heap.size w (w.alloc (.cells #[.int .i64 q, .slice a n c] 34))) := Lib.hid ((Below.refl _ _).alloc (Nat.le_refl _) _)
  have b1 : Box 34 (w.alloc (.cells #[.int .i64 q, .slice a n c] 34)) w.heap.size #[.int .i64 q, .slice a n c] := Box.new _ _ _
  have HB1 := Lib.hid b1
  have HG := Lib.hid (hr.below HW1.out)
  have HRA := Lib.hid (RelAt.newK w q a n c rs 34 (hr.below ((Below.refl _ _))))
  have HI := Lib.hid hi
  clear hr hi
  go_enter Try.func31, Try.ntmps31
  by_cases hp : p = 2 ∨ p = 3
  · obtain ⟨s, rfl⟩ : ∃ s : Nat, p = s := ⟨p.toNat, by omega⟩
    have hs : s = 2 ∨ s = 3 := by omega
    have HS := Lib.hid hs
    have HP := Lib.hid hp
    clear hs hp b1
    go_wp2_with fail
    refine (implAffineOp s 3 (affL s) 0 _ (.inl ⟨trivial, HP.out, rfl, by rw [Int.toNat_natCast], rfl⟩)).mono ?_
    rintro e w2 ⟨fa, fn, fc, rfl, hown, hb2⟩
    have HW2 := Lib.hid (HW1.out.trans (hb2.mono HW1.out.size))
    have HF2 := Lib.hid hown.at
    have HG2 := Lib.hid (HG.out.below hb2)
    have HBX2 := Lib.hid (HB1.out.below hb2)
    clear hb2 hown
    have hal := (Below.refl w2.heap.size w2).alloc (Nat.le_refl _) (.cells #[.int .i64 3, .slice fa fn fc] 32)
    have HAL := Lib.hid hal
    have HF3 := Lib.hid (HF2.out.below hal)
    have HG3 := Lib.hid (HG2.out.below hal)
    have HBX3 := Lib.hid (HBX2.out.below hal)
    have d0 : (w2.alloc (.cells #[.int .i64 3, .slice fa fn fc] 32)).cell? ⟨w.heap.size, 0, none⟩ = some (.int .i64 q) := HBX3.out.c 0 rfl
    have d1 : (w2.alloc (.cells #[.int .i64 3, .slice fa fn fc] 32)).cell? ⟨w.heap.size, 1, none⟩ = some (.slice a n c) := HBX3.out.c 1 rfl
    clear hal
    obtain ⟨kb, kc, hk⟩ : ∃ kb kc, KeepsIs s 3 (affL s) q rs kb kc := KeepsIs.exists _ _ _ _ _
    have HK := Lib.hid hk
    clear hk
    go_wp2_with fail
    refine (implKeeps s 3 fa fn fc (affL s) q a n c rs kb kc _ HF3.out HG3.out HK.out).mono ?_
    rintro e w4 ⟨rfl, hb4⟩
    have HW4 := Lib.hid (HW2.out.trans ((HAL.out.trans (hb4.mono HAL.out.size)).mono HW2.out.size))
    have HBX4 := Lib.hid (HBX3.out.below hb4)
    have e0 : w4.cell? ⟨w.heap.size, 0, none⟩ = some (.int .i64 q) := HBX4.out.c 0 rfl
    have e1 : w4.cell? ⟨w.heap.size, 1, none⟩ = some (.slice a n c) := HBX4.out.c 1 rfl
    have hn : n = rs.length := by
      obtain ⟨V, ⟨a', c', hv, _, _⟩, _⟩ := HG.out
      simp only [Value.slice.injEq] at hv
      exact hv.2.1
    have HN := Lib.hid hn
    clear hb4 d0 d1 hn
    have HANS : Hid (kc = cd ∧ b = (kb && !decide ((n : Int) = 0))) := Lib.hid (by
      rcases HI.out with ⟨_, h2, rfl, hb⟩ | ⟨_, h2, rfl, rfl⟩ | ⟨h, _⟩
      · simp only [Int.toNat_natCast] at hb
        rcases HK.out with ⟨_, _, rfl, hkb⟩ | ⟨hn, _⟩
        · refine ⟨rfl, ?_⟩
          simp only [Int.toNat_natCast] at hkb
          rw [HN.out]
          have e3 : Int.toNat 3 = 3 := rfl
          rw [e3] at hkb
          unfold AffP at hb
          by_cases h0 : rs.length = 0
          · rw [hb.is_false (fun k => by omega)]; simp [h0]
          · have h0' : ¬ ((rs.length : Int) = 0) := by omega
            simp only [h0', decide_false, Bool.not_false, Bool.and_true]
            cases kb with
            | true => exact hb.is_true ⟨by omega, hkb.1 rfl⟩
            | false => exact hb.is_false fun k => absurd (hkb.2 k.2) (by simp)
        · exact absurd ⟨aff_ok HS.out, h2⟩ hn
      · rcases HK.out with ⟨_, h3, _⟩ | ⟨_, rfl, rfl⟩
        · exact absurd h3 h2
        · exact ⟨rfl, by simp⟩
      · exact absurd HP.out h)
    cases kb with
    | true =>
      go_wp2_with fail
      refine (isEmptyRelC q a n c _).mono ?_
      rintro e w5 ⟨rfl, hb5⟩
      have HW5 := Lib.hid (HW4.out.trans (hb5.mono HW4.out.size))
      clear hb5
      go_wp2
      go_ret2
      rw [HANS.out.1, HANS.out.2]
      exact ⟨by simp, HW5.out⟩
    | false =>
      go_wp2
      go_ret2
      rw [HANS.out.1, HANS.out.2]
      exact ⟨by simp, HW4.out⟩
  · have HP := Lib.hid hp
    clear hp b1
    go_wp2_with fail
    refine (implAffineOp p 0 [] 2 _ (.inr (.inl ⟨trivial, HP.out, rfl, rfl, rfl⟩))).mono ?_
    rintro e w2 ⟨fa, fn, fc, rfl, hown, hb2⟩
    have HW2 := Lib.hid (HW1.out.trans (hb2.mono HW1.out.size))
    clear hb2 hown
    go_wp2
    go_ret2
    rcases HI.out with ⟨h, _⟩ | ⟨h, _⟩ | ⟨_, rfl, rfl⟩
    · exact absurd h HP.out
    · exact absurd h HP.out
    · exact ⟨rfl, HW2.out.alloc HW2.out.size _⟩

set_option linter.unusedSimpArgs false in
set_option maxHeartbeats 4000000 in
set_option maxRecDepth 100000 in
theorem l07IsC (s q : Nat) (rb ro : Nat) (rs : List (List Int)) (b : Bool) (w : World) (hs : s = 2 ∨ s = 3) (hr : RelAt w rb ro q rs) (hk : RelOk s q rs) (hb : Tells b (AffP s q rs)) :
    Calls Try.prog 82 #[.int .i64 (s : Int), .pointer (some ⟨rb, ro, none⟩)] w fun e w' => e = .returned (.bool b) ∧ Below w.heap.size w w' := by
  have HR := Lib.hid hr
  have HK := Lib.hid hk
  have HB := Lib.hid hb
  have HS := Lib.hid hs
  have HAF : Hid (Calls Try.prog 133 #[.int .i64 (s : Int)] w (MadeOp w 3 (affL s))) := Lib.hid (by
    rcases hs with rfl | rfl
    · exact l07Affine2 w
    · exact l07Affine3 w)
  clear hr hk hb hs
  go_enter Try.func82, Try.ntmps82
  go_wp2_with fail
  refine HAF.out.mono ?_
  rintro e w2 ⟨fa, fn, fc, rfl, hown, hb2⟩
  have hf2 := hown.at
  have hal := (Below.refl w2.heap.size w2).alloc (Nat.le_refl _) (.cells #[.int .i64 3, .slice fa fn fc] 32)
  have HW3 := Lib.hid (hb2.trans (hal.mono hb2.size))
  have HF3 := Lib.hid (OpAt.new w2 3 fa fn fc (affL s) 32 hf2)
  have HR3 := Lib.hid (HR.out.below HW3.out)
  obtain ⟨k0, ga, gn, gc, k1, hg⟩ := HR3.out
  have hgn : gn = rs.length := by
    obtain ⟨V, ⟨a', c', hv, _, _⟩, _⟩ := hg
    simp only [Value.slice.injEq] at hv
    exact hv.2.1
  subst hgn
  clear hown hb2 hf2 hal hg
  by_cases h0 : 0 < rs.length
  · have h0' : (0 : Int) < (rs.length : Int) := by omega
    obtain ⟨kb, hkb⟩ := Tells.exists (¬ Brk s 3 q (affL s) rs)
    have HKB := Lib.hid hkb
    have H0 := Lib.hid h0
    clear hkb h0
    go_wp2_with fail
    refine (l02KeepsC s 3 q _ _ _ _ (affL s) rs kb _ HF3.out (aff_ok HS.out) HR3.out HK.out HKB.out).mono ?_
    rintro e w4 ⟨rfl, hb4⟩
    have HW4 := Lib.hid (HW3.out.trans (hb4.mono HW3.out.size))
    clear hb4 k0 k1
    go_wp2
    go_ret
    refine ⟨?_, HW4.out⟩
    have : kb = b := by
      cases kb with
      | true => exact (HB.out.is_true ⟨H0.out, HKB.out.1 rfl⟩).symm
      | false => exact (HB.out.is_false fun k => absurd (HKB.out.2 k.2) (by simp)).symm
    rw [this]
    rfl
  · have h0' : ¬ (0 : Int) < (rs.length : Int) := by omega
    have H0 := Lib.hid h0
    clear h0
    go_wp2
    go_ret
    refine ⟨?_, HW3.out⟩
    rw [HB.out.is_false (fun k => H0.out k.1)]
    rfl

set_option linter.unusedSimpArgs false in
set_option maxHeartbeats 4000000 in
set_option maxRecDepth 100000 in
theorem l07RelC (p : Int) (q : Int) (rb ro : Nat) (rs : List (List Int)) (cd : Int) (w : World) (hr : RelAt w rb ro q rs) (hi : ((p = 2 ∨ p = 3) ∧ RelOk p q rs ∧ cd = 0) ∨ ((p = 2 ∨ p = 3) ∧ ¬ RelOk p q rs ∧ cd = 1) ∨ (¬ (p = 2 ∨ p = 3) ∧ cd = 2)) :
    Calls Try.prog 81 #[.int .i64 p, .pointer (some ⟨rb, ro, none⟩)] w fun e w' => e = .returned (.int .i64 cd) ∧ QW w w' := by
  have HR := Lib.hid hr
  rcases hi with ⟨h1, h2, rfl⟩ | ⟨h1, h2, rfl⟩ | ⟨h1, rfl⟩
  · have H1 := Lib.hid h1
    have H2 := Lib.hid h2
    clear h1 h2 hr
    go_enter Try.func81, Try.ntmps81
    go_wp2_with fail
    refine (l07PrimeC p true _ (Tells.yes H1.out)).mono ?_
    rintro e w2 ⟨rfl, rfl⟩
    go_wp2_with fail
    refine (l01Ok p rb ro q rs true _ HR.out (Tells.yes H2.out)).mono ?_
    rintro e w3 ⟨rfl, hq⟩
    have HQ := Lib.hid hq
    clear hq
    go_wp2
    go_ret
    exact ⟨rfl, HQ.out⟩
  · have H1 := Lib.hid h1
    have H2 := Lib.hid h2
    clear h1 h2 hr
    go_enter Try.func81, Try.ntmps81
    go_wp2_with fail
    refine (l07PrimeC p true _ (Tells.yes H1.out)).mono ?_
    rintro e w2 ⟨rfl, rfl⟩
    go_wp2_with fail
    refine (l01Ok p rb ro q rs false _ HR.out (Tells.no H2.out)).mono ?_
    rintro e w3 ⟨rfl, hq⟩
    have HQ := Lib.hid hq
    clear hq
    go_wp2
    go_ret
    exact ⟨rfl, HQ.out⟩
  · have H1 := Lib.hid h1
    clear h1 hr
    go_enter Try.func81, Try.ntmps81
    go_wp2_with fail
    refine (l07PrimeC p false _ (Tells.no H1.out)).mono ?_
    rintro e w2 ⟨rfl, rfl⟩
    go_wp2
    go_ret
    exact ⟨rfl, QW.refl _⟩

set_option linter.unusedSimpArgs false in
set_option maxHeartbeats 4000000 in
set_option maxRecDepth 100000 in
theorem specIsAffine (p : Int) (q : Int) (a : Option Addr) (n c : Nat) (rs : List (List Int)) (b : Bool) (cd : Int) (w : World) (hr : GridAt w (.slice a n c) rs) (hi : IsAffineIs p q rs b cd) :
    Calls Try.prog 30 #[.int .i64 p, .agg #[.int .i64 q, .slice a n c]] w fun e w' => e = .returned (.tuple #[.bool b, .int .i64 cd]) ∧ Below w.heap.size w w' := by
  have HW1 : Hid (Below w.heap.size w (w.alloc (.cells #[.int .i64 q, .slice a n c] 34))) := Lib.hid ((Below.refl _ _).alloc (Nat.le_refl _) _)
  have b1 : Box 34 (w.alloc (.cells #[.int .i64 q, .slice a n c] 34)) w.heap.size #[.int .i64 q, .slice a n c] := Box.new _ _ _
  have HB1 := Lib.hid b1
  have HG := Lib.hid (hr.below HW1.out)
  have HRA := Lib.hid (RelAt.newK w q a n c rs 34 (hr.below ((Below.refl _ _))))
  have HI := Lib.hid hi
  clear hr hi
  go_enter Try.func30, Try.ntmps30
  clear b1
  rcases HI.out with ⟨h1, h2, rfl, h3⟩ | ⟨h1, h2, rfl, rfl⟩ | ⟨h1, rfl, rfl⟩
  · have H1 := Lib.hid h1
    have H2 := Lib.hid h2
    have H3 := Lib.hid h3
    obtain ⟨s, rfl⟩ : ∃ s : Nat, p = s := ⟨p.toNat, by omega⟩
    obtain ⟨r, rfl⟩ : ∃ r : Nat, q = r := ⟨q.toNat, by have := h2.2.1.1; omega⟩
    clear h1 h2 h3
    go_wp2_with fail
    refine (l07RelC _ _ _ _ rs 0 _ HRA.out (.inl ⟨H1.out, H2.out, rfl⟩)).mono ?_
    rintro e w2 ⟨rfl, hq⟩
    have HQ := Lib.hid hq
    clear hq
    go_wp2_with fail
    refine (l07IsC s r _ _ rs b _ (by have := H1.out; omega) (HRA.out.below HQ.out.bel) H2.out (by have h := H3.out; simpa only [Int.toNat_natCast] using h)).mono ?_
    rintro e w3 ⟨rfl, hb3⟩
    have HW3 := Lib.hid (HW1.out.trans ((HQ.out.bel.trans (hb3.mono HQ.out.bel.size)).mono HW1.out.size))
    clear hb3
    go_wp2
    go_ret2
    exact ⟨rfl, HW3.out⟩
  · have H1 := Lib.hid h1
    have H2 := Lib.hid h2
    clear h1 h2
    go_wp2_with fail
    refine (l07RelC _ _ _ _ rs 1 _ HRA.out (.inr (.inl ⟨H1.out, H2.out, rfl⟩))).mono ?_
    rintro e w2 ⟨rfl, hq⟩
    have HQ := Lib.hid (HW1.out.trans (hq.bel.mono HW1.out.size))
    clear hq
    go_wp2
    go_ret2
    exact ⟨rfl, HQ.out⟩
  · have H1 := Lib.hid h1
    clear h1
    go_wp2_with fail
    refine (l07RelC _ _ _ _ rs 2 _ HRA.out (.inr (.inr ⟨H1.out, rfl⟩))).mono ?_
    rintro e w2 ⟨rfl, hq⟩
    have HQ := Lib.hid (HW1.out.trans (hq.bel.mono HW1.out.size))
    clear hq
    go_wp2
    go_ret2
    exact ⟨rfl, HQ.out⟩

end Go.Proofs.Ytoojgaaggdnpiaa
