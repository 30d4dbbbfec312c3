/-
  PairIndex of the model and of the program.
-/
import Derived.Test.YtiinohkkfjbfhaaInstOk2
namespace Go.Proofs.Ytiinohkkfjbfhaa
open Go.RowKit

def pairIx (a b : Int) : Int := b * (b - 1) / 2 + a
def TwoOf (vars i j : Int) : Prop := i ≠ j ∧ InP i 0 (vars - 1) ∧ InP j 0 (vars - 1)
def PairIndexIs (vars i j v cd : Int) : Prop :=
  (InP vars 1 10 ∧ TwoOf vars i j ∧ i < j ∧ v = pairIx i j ∧ cd = 0) ∨ (InP vars 1 10 ∧ TwoOf vars i j ∧ j < i ∧ v = pairIx j i ∧ cd = 0) ∨ (¬ (InP vars 1 10 ∧ TwoOf vars i j) ∧ v = 0 ∧ cd = 2)
theorem PairIndexIs.exists (vars i j : Int) : ∃ v cd, PairIndexIs vars i j v cd := by
  by_cases h : InP vars 1 10 ∧ TwoOf vars i j
  · by_cases h2 : i < j
    · exact ⟨_, _, .inl ⟨h.1, h.2, h2, rfl, rfl⟩⟩
    · exact ⟨_, _, .inr (.inl ⟨h.1, h.2, by have := h.2.1; omega, rfl, rfl⟩)⟩
  · exact ⟨_, _, .inr (.inr ⟨h, rfl, rfl⟩)⟩

set_option maxHeartbeats 800000 in
theorem l05Index (a b : Int) (ha : 0 ≤ a ∧ a ≤ 9) (hb : 0 ≤ b ∧ b ≤ 9) (w : World) :
    Calls Try.prog 76 #[.int .i64 a, .int .i64 b] w fun e w' => e = .returned (.int .i64 (pairIx a b)) ∧ w = w' := by
  have hc : b = 0 ∨ b = 1 ∨ b = 2 ∨ b = 3 ∨ b = 4 ∨ b = 5 ∨ b = 6 ∨ b = 7 ∨ b = 8 ∨ b = 9 := by omega
  obtain ⟨h0, h1⟩ := ha
  rcases hc with rfl | rfl | rfl | rfl | rfl | rfl | rfl | rfl | rfl | rfl
  all_goals
    go_enter Try.func76, Try.ntmps76
    go_wp2
    go_ret
    exact ⟨ret_int (by unfold pairIx; first | rfl | omega), rfl⟩

set_option maxHeartbeats 800000 in
theorem indexOfPair (a b : Int) (ha : 0 ≤ a ∧ a ≤ 9) (hb : 0 ≤ b ∧ b ≤ 9) (w : World) :
    Calls Try.prog 81 #[.int .i64 a, .int .i64 b] w fun e w' => e = .returned (.int .i64 (pairIx a b)) ∧ w = w' := by
  have hc : b = 0 ∨ b = 1 ∨ b = 2 ∨ b = 3 ∨ b = 4 ∨ b = 5 ∨ b = 6 ∨ b = 7 ∨ b = 8 ∨ b = 9 := by omega
  obtain ⟨h0, h1⟩ := ha
  rcases hc with rfl | rfl | rfl | rfl | rfl | rfl | rfl | rfl | rfl | rfl
  all_goals
    go_enter Try.func81, Try.ntmps81
    go_wp2
    go_ret
    exact ⟨ret_int (by unfold pairIx; first | rfl | omega), rfl⟩

theorem l00Min_lt (a b : Int) (h : a < b) (w : World) : Calls Try.prog 77 #[.int .i64 a, .int .i64 b] w fun e w' => e = .returned (.int .i64 a) ∧ w = w' := by
  have h2 : ¬ b < a := by omega
  go_enter Try.func77, Try.ntmps77
  go_wp2
  go_ret
  exact ⟨rfl, rfl⟩

theorem l00Min_gt (a b : Int) (h : b < a) (w : World) : Calls Try.prog 77 #[.int .i64 a, .int .i64 b] w fun e w' => e = .returned (.int .i64 b) ∧ w = w' := by
  have h2 : ¬ a < b := by omega
  go_enter Try.func77, Try.ntmps77
  go_wp2
  go_ret
  exact ⟨rfl, rfl⟩

theorem l00Max_lt (a b : Int) (h : a < b) (w : World) : Calls Try.prog 78 #[.int .i64 a, .int .i64 b] w fun e w' => e = .returned (.int .i64 b) ∧ w = w' := by
  have h2 : ¬ b < a := by omega
  go_enter Try.func78, Try.ntmps78
  go_wp2
  go_ret
  exact ⟨rfl, rfl⟩

theorem l00Max_gt (a b : Int) (h : b < a) (w : World) : Calls Try.prog 78 #[.int .i64 a, .int .i64 b] w fun e w' => e = .returned (.int .i64 a) ∧ w = w' := by
  have h2 : ¬ a < b := by omega
  go_enter Try.func78, Try.ntmps78
  go_wp2
  go_ret
  exact ⟨rfl, rfl⟩

set_option maxRecDepth 100000 in
set_option maxHeartbeats 1000000 in
theorem specPairIndex (vars i j v cd : Int) (w : World) (hi : PairIndexIs vars i j v cd) :
    Calls Try.prog 25 #[.int .i64 vars, .int .i64 i, .int .i64 j] w fun e w' => e = .returned (.tuple #[.int .i64 v, .int .i64 cd]) ∧ Below w.heap.size w w' := by
  rcases hi with ⟨h1, h2, h3, rfl, rfl⟩ | ⟨h1, h2, h3, rfl, rfl⟩ | ⟨hno, rfl, rfl⟩
  · have H1 := Lib.hid (Tells.yes h1)
    have H2 := Lib.hid (Tells.yes h2.2.1)
    have H3 := Lib.hid (Tells.yes h2.2.2)
    have hne : (i == j) = false := beq_eq_false_iff_ne.2 h2.1
    have hv1 : 1 ≤ vars := h1.1
    have hv2 : vars ≤ 10 := h1.2
    have HX : Hid (pairIx i j = pairIx i j) := Lib.hid rfl
    have HI : Hid ((0 ≤ i ∧ i ≤ 9) ∧ (0 ≤ j ∧ j ≤ 9)) := Lib.hid (by have := h2.2; unfold InP at this; omega)
    clear h1 h2
    go_enter Try.func25, Try.ntmps25
    go_wp2_with fail
    refine (l00In _ _ _ true _ H1.out).mono ?_
    rintro e w9 ⟨rfl, rfl⟩
    go_wp2_with fail
    refine (l00In _ _ _ true _ H2.out).mono ?_
    rintro e w9 ⟨rfl, rfl⟩
    go_wp2_with fail
    refine (l00In _ _ _ true _ H3.out).mono ?_
    rintro e w9 ⟨rfl, rfl⟩
    go_wp2_with (first | (go_at_call 77; refine (l00Min_lt _ _ h3 _).mono ?_; rintro e w9 ⟨rfl, rfl⟩) | (go_at_call 78; refine (l00Max_lt _ _ h3 _).mono ?_; rintro e w9 ⟨rfl, rfl⟩) | (go_at_call 76; refine (l05Index _ _ HI.out.1 HI.out.2 _).mono ?_; rintro e w9 ⟨rfl, rfl⟩))
    go_ret2
    exact ⟨rfl, Below.refl _ _⟩
  · have H1 := Lib.hid (Tells.yes h1)
    have H2 := Lib.hid (Tells.yes h2.2.1)
    have H3 := Lib.hid (Tells.yes h2.2.2)
    have hne : (i == j) = false := beq_eq_false_iff_ne.2 h2.1
    have hv1 : 1 ≤ vars := h1.1
    have hv2 : vars ≤ 10 := h1.2
    have HX : Hid (pairIx j i = pairIx j i) := Lib.hid rfl
    have HI : Hid ((0 ≤ j ∧ j ≤ 9) ∧ (0 ≤ i ∧ i ≤ 9)) := Lib.hid (by have := h2.2; unfold InP at this; omega)
    clear h1 h2
    go_enter Try.func25, Try.ntmps25
    go_wp2_with fail
    refine (l00In _ _ _ true _ H1.out).mono ?_
    rintro e w9 ⟨rfl, rfl⟩
    go_wp2_with fail
    refine (l00In _ _ _ true _ H2.out).mono ?_
    rintro e w9 ⟨rfl, rfl⟩
    go_wp2_with fail
    refine (l00In _ _ _ true _ H3.out).mono ?_
    rintro e w9 ⟨rfl, rfl⟩
    go_wp2_with (first | (go_at_call 77; refine (l00Min_gt _ _ h3 _).mono ?_; rintro e w9 ⟨rfl, rfl⟩) | (go_at_call 78; refine (l00Max_gt _ _ h3 _).mono ?_; rintro e w9 ⟨rfl, rfl⟩) | (go_at_call 76; refine (l05Index _ _ HI.out.1 HI.out.2 _).mono ?_; rintro e w9 ⟨rfl, rfl⟩))
    go_ret2
    exact ⟨rfl, Below.refl _ _⟩
  · by_cases h1 : InP vars 1 10
    · have hv1 : 1 ≤ vars := h1.1
      have hv2 : vars ≤ 10 := h1.2
      have H1 := Lib.hid (Tells.yes h1)
      by_cases h2 : InP i 0 (vars - 1)
      · have H2 := Lib.hid (Tells.yes h2)
        by_cases h3 : InP j 0 (vars - 1)
        · have H3 := Lib.hid (Tells.yes h3)
          have he : i = j := Classical.byContradiction fun hn => hno ⟨h1, hn, h2, h3⟩
          clear h1 h2 h3 hno
          subst he
          have heb : (i == i) = true := beq_iff_eq.2 rfl
          go_enter Try.func25, Try.ntmps25
          go_wp2_with fail
          refine (l00In _ _ _ true _ H1.out).mono ?_
          rintro e w9 ⟨rfl, rfl⟩
          go_wp2_with fail
          refine (l00In _ _ _ true _ H2.out).mono ?_
          rintro e w9 ⟨rfl, rfl⟩
          go_wp2_with fail
          refine (l00In _ _ _ true _ H3.out).mono ?_
          rintro e w9 ⟨rfl, rfl⟩
          go_wp2
          go_ret2
          exact ⟨rfl, Below.refl _ _⟩
        · have H3 := Lib.hid (Tells.no h3)
          clear h1 h2 h3 hno
          go_enter Try.func25, Try.ntmps25
          go_wp2_with fail
          refine (l00In _ _ _ true _ H1.out).mono ?_
          rintro e w9 ⟨rfl, rfl⟩
          go_wp2_with fail
          refine (l00In _ _ _ true _ H2.out).mono ?_
          rintro e w9 ⟨rfl, rfl⟩
          go_wp2_with fail
          refine (l00In _ _ _ false _ H3.out).mono ?_
          rintro e w9 ⟨rfl, rfl⟩
          go_wp2
          go_ret2
          exact ⟨rfl, Below.refl _ _⟩
      · have H2 := Lib.hid (Tells.no h2)
        clear h1 h2 hno
        go_enter Try.func25, Try.ntmps25
        go_wp2_with fail
        refine (l00In _ _ _ true _ H1.out).mono ?_
        rintro e w9 ⟨rfl, rfl⟩
        go_wp2_with fail
        refine (l00In _ _ _ false _ H2.out).mono ?_
        rintro e w9 ⟨rfl, rfl⟩
        go_wp2
        go_ret2
        exact ⟨rfl, Below.refl _ _⟩
    · have H1 := Lib.hid (Tells.no h1)
      clear h1 hno
      go_enter Try.func25, Try.ntmps25
      go_wp2_with fail
      refine (l00In _ _ _ false _ H1.out).mono ?_
      rintro e w9 ⟨rfl, rfl⟩
      go_wp2
      go_ret2
      exact ⟨rfl, Below.refl _ _⟩

theorem pair_tup (vars i j : Int) : TupP vars 2 [i, j] ↔ InP i 0 (vars - 1) ∧ InP j 0 (vars - 1) := by
  unfold TupP InP
  constructor
  · rintro ⟨-, h⟩
    have h0 := h 0 (by simp)
    have h1 := h 1 (by simp)
    simp [intN] at h0 h1
    omega
  · rintro ⟨h0, h1⟩
    refine ⟨rfl, fun k hk => ?_⟩
    obtain rfl | rfl : k = 0 ∨ k = 1 := by simp at hk; omega
    · simp [intN]; omega
    · simp [intN]; omega

set_option maxRecDepth 100000 in
set_option maxHeartbeats 1000000 in
theorem areTwoOf (vars i j : Int) (b : Bool) (w : World) (hb : Tells b (TwoOf vars i j)) :
    Calls Try.prog 80 #[.int .i64 vars, .int .i64 i, .int .i64 j] w fun e w' => e = .returned (.bool b) ∧ Below w.heap.size w w' := by
  have HB := Lib.hid hb
  clear hb
  by_cases hne : i = j
  · have HF := Lib.hid (HB.out.is_false fun h => h.1 hne)
    have hne1 : (i == j) = true := beq_iff_eq.2 hne
    have hne2 : (i != j) = false := by simp [hne]
    clear hne
    go_enter Try.func80, Try.ntmps80
    go_wp2
    go_ret
    exact ⟨ret_bool HF.out.symm, Below.refl _ _⟩
  · have HT : Hid (Tells b (TupP vars 2 [i, j])) := Lib.hid (HB.out.congr ⟨fun h => (pair_tup _ _ _).2 h.2, fun h => ⟨hne, (pair_tup _ _ _).1 h⟩⟩)
    have hne1 : (i == j) = false := beq_eq_false_iff_ne.2 hne
    have hne2 : (i != j) = true := bne_iff_ne.2 hne
    have HR := Lib.hid (ownRow_lit w w.heap.size [i, j] (Nat.le_refl _) (by simp))
    clear hne
    go_enter Try.func80, Try.ntmps80
    go_wp2_with (go_at_call 92; refine (isListBelow _ [i, j] 2 _ b _ HR.out.rowAt HT.out).mono ?_; rintro e w9 ⟨rfl, rfl⟩)
    go_ret
    exact ⟨rfl, (Below.refl _ _).alloc (Nat.le_refl _) _⟩

set_option maxRecDepth 100000 in
set_option maxHeartbeats 1000000 in
theorem implPairIndex (vars i j v cd : Int) (w : World) (hi : PairIndexIs vars i j v cd) :
    Calls Try.prog 26 #[.int .i64 vars, .int .i64 i, .int .i64 j] w fun e w' => e = .returned (.tuple #[.int .i64 v, .int .i64 cd]) ∧ Below w.heap.size w w' := by
  rcases hi with ⟨h1, h2, h3, rfl, rfl⟩ | ⟨h1, h2, h3, rfl, rfl⟩ | ⟨hno, rfl, rfl⟩
  · have H1 := Lib.hid (Tells.yes h1)
    have H2 := Lib.hid (Tells.yes h2)
    have HI : Hid ((0 ≤ i ∧ i ≤ 9) ∧ (0 ≤ j ∧ j ≤ 9)) := Lib.hid (by have := h2.2; unfold InP at h1 this; omega)
    have hmn : min i j = i := by omega
    have hmx : max i j = j := by omega
    clear h1 h2
    go_enter Try.func26, Try.ntmps26
    go_wp2_with (first | (go_at_call 79; refine (isVarCount _ true _ H1.out).mono ?_; rintro e w9 ⟨rfl, rfl⟩) | (go_at_call 80; refine (areTwoOf _ _ _ true _ H2.out).mono ?_; rintro e w9 ⟨rfl, hb9⟩) | (go_at_call 81; refine (indexOfPair i j HI.out.1 HI.out.2 _).mono ?_; rintro e w8 ⟨rfl, rfl⟩))
    go_ret2
    exact ⟨rfl, hb9⟩
  · have H1 := Lib.hid (Tells.yes h1)
    have H2 := Lib.hid (Tells.yes h2)
    have HI : Hid ((0 ≤ j ∧ j ≤ 9) ∧ (0 ≤ i ∧ i ≤ 9)) := Lib.hid (by have := h2.2; unfold InP at h1 this; omega)
    have hmn : min i j = j := by omega
    have hmx : max i j = i := by omega
    clear h1 h2
    go_enter Try.func26, Try.ntmps26
    go_wp2_with (first | (go_at_call 79; refine (isVarCount _ true _ H1.out).mono ?_; rintro e w9 ⟨rfl, rfl⟩) | (go_at_call 80; refine (areTwoOf _ _ _ true _ H2.out).mono ?_; rintro e w9 ⟨rfl, hb9⟩) | (go_at_call 81; refine (indexOfPair j i HI.out.1 HI.out.2 _).mono ?_; rintro e w8 ⟨rfl, rfl⟩))
    go_ret2
    exact ⟨rfl, hb9⟩
  · by_cases h1 : InP vars 1 10
    · have H1 := Lib.hid (Tells.yes h1)
      have H2 := Lib.hid (Tells.no fun h => hno ⟨h1, h⟩)
      clear h1 hno
      go_enter Try.func26, Try.ntmps26
      go_wp2_with (first | (go_at_call 79; refine (isVarCount _ true _ H1.out).mono ?_; rintro e w9 ⟨rfl, rfl⟩) | (go_at_call 80; refine (areTwoOf _ _ _ false _ H2.out).mono ?_; rintro e w9 ⟨rfl, hb9⟩))
      go_ret2
      exact ⟨rfl, hb9⟩
    · have H1 := Lib.hid (Tells.no h1)
      clear h1 hno
      go_enter Try.func26, Try.ntmps26
      go_wp2_with (go_at_call 79; refine (isVarCount _ false _ H1.out).mono ?_; rintro e w9 ⟨rfl, rfl⟩)
      go_ret2
      exact ⟨rfl, Below.refl _ _⟩

end Go.Proofs.Ytiinohkkfjbfhaa
