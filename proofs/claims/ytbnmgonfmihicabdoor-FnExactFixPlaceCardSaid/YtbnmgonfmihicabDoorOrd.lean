/-
  The order of tuples: l01Before of the model, slices.Compare of the library at []int64.
-/
import Derived.Test.YtbnmgonfmihicabDoorValid
namespace Go.Proofs.YtbnmgonfmihicabDoor
open Go.RowKit

/-- xs comes before ys, a list of its length. -/
def LtP (xs ys : List Int) : Prop := ∃ k, k < xs.length ∧ (∀ j, j < k → intN xs j = intN ys j) ∧ intN xs k < intN ys k

theorem LtP.not_of_eq {xs ys : List Int} (h : ∀ j, j < xs.length → intN xs j = intN ys j) : ¬ LtP xs ys := by
  rintro ⟨k, hk, _, hlt⟩
  have := h k hk
  omega

theorem LtP.decided {xs ys : List Int} {k : Nat} (hk : k < xs.length) (h : ∀ j, j < k → intN xs j = intN ys j) (hne : intN xs k ≠ intN ys k) : LtP xs ys ↔ intN xs k < intN ys k := by
  refine ⟨?_, fun hlt => ⟨k, hk, h, hlt⟩⟩
  rintro ⟨m, hm, hall, hlt⟩
  rcases Nat.lt_trichotomy m k with h1 | h1 | h1
  · have := h m h1
    omega
  · subst h1; exact hlt
  · exact absurd (hall k h1) hne

set_option maxHeartbeats 400000 in
theorem l01Before (v1 v2 : Value) (xs ys : List Int) (b : Bool) (w : World) (h1 : RowAt w v1 xs) (h2 : RowAt w v2 ys) (hl : xs.length = ys.length) (hb : Tells b (LtP xs ys)) :
    Calls Tryd.prog 58 #[v1, v2] w fun e w' => e = .returned (.bool b) ∧ QW w w' := by
  obtain ⟨a1, c1, rfl, hn1, hc1⟩ := h1
  obtain ⟨a2, c2, rfl, hn2, hc2⟩ := h2
  rw [← hl] at hn2 hc2 ⊢
  have HC1 := Lib.hid hc1
  have HC2 := Lib.hid hc2
  have HB := Lib.hid hb
  clear hc1 hc2 hb hl
  go_enter Tryd.func58, Tryd.ntmps58
  go_wp2
  go_loopw [5] (fun i wr => ∃ k : Nat, k ≤ xs.length ∧ i = .int .i64 k ∧ (∀ j, j < k → intN xs j = intN ys j) ∧ QW w wr) (fun i _ => xs.length - (intOf i).toNat)
  case atStart => exact ⟨0, Nat.zero_le _, rfl, fun j hj => absurd hj (Nat.not_lt_zero _), QW.refl _⟩
  case round =>
    obtain ⟨k, hk, rfl, hall, hq⟩ := hrel
    have HA := Lib.hid hall
    have HQ := Lib.hid hq
    clear hall hq
    by_cases hlt : k < xs.length
    · obtain ⟨b1, off1, ha1, hcell1⟩ := HC1.out (by omega)
      subst ha1
      obtain ⟨b2, off2, ha2, hcell2⟩ := HC2.out (by omega)
      subst ha2
      have hx1 := HQ.out.cell (hcell1 k hlt)
      have hx2 := HQ.out.cell (hcell2 k hlt)
      have hlt' : (k : Int) < (xs.length : Int) := by omega
      clear hcell1 hcell2
      by_cases he : intN xs k = intN ys k
      · have HE := Lib.hid he
        rw [← he] at hx2
        clear he
        go_wp2
        go_quiet (fail)
        go_wp2
        go_roundw
        case rel =>
          refine ⟨k + 1, by omega, by go_num, fun j hj => ?_, HQ.out.drewN _⟩
          by_cases hjk : j = k
          · subst hjk; exact HE.out
          · exact HA.out j (by omega)
        case measure => simp [intOf]; omega
      · have hne : (intN xs k == intN ys k) = false := by simpa using he
        have HD := Lib.hid (LtP.decided hlt HA.out he)
        by_cases hx : intN xs k < intN ys k
        · have HF := Lib.hid (HB.out.is_true (HD.out.2 hx))
          go_wp2
          go_quiet (fail)
          go_wp2
          go_quiet (fail)
          go_wp2
          go_ret
          exact ⟨ret_bool HF.out.symm, (HQ.out.drewN _).drewN _⟩
        · have HF := Lib.hid (HB.out.is_false fun h => hx (HD.out.1 h))
          have hd : decide (intN xs k < intN ys k) = false := by simpa using hx
          go_wp2
          go_quiet (fail)
          go_wp2
          go_quiet (fail)
          go_wp2
          go_ret
          exact ⟨ret_bool HF.out.symm, (HQ.out.drewN _).drewN _⟩
    · obtain rfl : k = xs.length := by omega
      have HF := Lib.hid (HB.out.is_false (LtP.not_of_eq HA.out))
      go_wp2
      go_ret
      exact ⟨ret_bool HF.out.symm, HQ.out⟩

/-- what a comparison tells -/
def cmpI (x y : Int) : Int := if x < y then -1 else if y < x then 1 else 0

set_option maxHeartbeats 400000 in
theorem isNaN (x : Int) (w : World) : Calls Tryd.prog 73 #[.int .i64 x] w fun e w' => e = .returned (.bool false) ∧ w = w' := by
  go_enter Tryd.func73, Tryd.ntmps73
  go_wp2
  go_ret
  exact ⟨rfl, rfl⟩

set_option maxHeartbeats 400000 in
theorem cmpInt (x y : Int) (w : World) : Calls Tryd.prog 69 #[.int .i64 x, .int .i64 y] w fun e w' => e = .returned (.int .i64 (cmpI x y)) ∧ w = w' := by
  by_cases h1 : x < y
  · have HF : Hid (cmpI x y = -1) := by simp [Hid, cmpI, h1]
    go_enter Tryd.func69, Tryd.ntmps69
    go_wp2_with (go_at_call 73; refine (isNaN _ _).mono ?_; rintro e w' ⟨rfl, rfl⟩)
    go_ret
    exact ⟨ret_int HF.out.symm, rfl⟩
  · by_cases h2 : y < x
    · have HF : Hid (cmpI x y = 1) := by simp [Hid, cmpI, h1, h2]
      go_enter Tryd.func69, Tryd.ntmps69
      go_wp2_with (go_at_call 73; refine (isNaN _ _).mono ?_; rintro e w' ⟨rfl, rfl⟩)
      go_ret
      exact ⟨ret_int HF.out.symm, rfl⟩
    · have HF : Hid (cmpI x y = 0) := by simp [Hid, cmpI, h1, h2]
      go_enter Tryd.func69, Tryd.ntmps69
      go_wp2_with (go_at_call 73; refine (isNaN _ _).mono ?_; rintro e w' ⟨rfl, rfl⟩)
      go_ret
      exact ⟨ret_int HF.out.symm, rfl⟩

/-- c is what the comparison of two lists of one length tells: whether the first one comes before. -/
def CmpIs (c : Int) (xs ys : List Int) : Prop := (xs = ys → c = 0) ∧ ∀ k, k < xs.length → (∀ j, j < k → intN xs j = intN ys j) → intN xs k ≠ intN ys k → c = cmpI (intN xs k) (intN ys k)

theorem CmpIs.lt {c : Int} {xs ys : List Int} (h : CmpIs c xs ys) (k : LtP xs ys) : c = -1 := by
  obtain ⟨m, hm, hall, hlt⟩ := k
  rw [h.2 m hm hall (by omega)]
  unfold cmpI
  rw [if_pos hlt]

theorem first_apart {xs ys : List Int} (hl : xs.length = ys.length) (hne : xs ≠ ys) : ∃ k, k < xs.length ∧ (∀ j, j < k → intN xs j = intN ys j) ∧ intN xs k ≠ intN ys k := by
  have h : ∀ n, n ≤ xs.length → (∀ j, j < n → intN xs j = intN ys j) ∨ ∃ k, k < xs.length ∧ (∀ j, j < k → intN xs j = intN ys j) ∧ intN xs k ≠ intN ys k := by
    intro n
    induction n with
    | zero => intro _; exact .inl fun j hj => absurd hj (Nat.not_lt_zero _)
    | succ n ih =>
      intro hn
      rcases ih (by omega) with h1 | h1
      · by_cases he : intN xs n = intN ys n
        · refine .inl fun j hj => ?_
          by_cases hjn : j = n
          · subst hjn; exact he
          · exact h1 j (by omega)
        · exact .inr ⟨n, by omega, h1, he⟩
      · exact .inr h1
  rcases h xs.length (Nat.le_refl _) with h1 | h1
  · exact absurd (row_ext hl h1) hne
  · exact h1

theorem CmpIs.exists (xs ys : List Int) (hl : xs.length = ys.length) : ∃ c, CmpIs c xs ys ∧ (0 ≤ c ↔ ¬ LtP xs ys) ∧ -1 ≤ c ∧ c ≤ 1 := by
  by_cases he : xs = ys
  · subst he
    exact ⟨0, ⟨fun _ => rfl, fun k _ _ hne => absurd rfl hne⟩, ⟨fun _ => LtP.not_of_eq fun _ _ => rfl, fun _ => Int.le_refl _⟩, by omega, by omega⟩
  · obtain ⟨k, hk, hall, hne⟩ := first_apart hl he
    refine ⟨cmpI (intN xs k) (intN ys k), ⟨fun e => absurd e he, fun m hm hallm hnem => ?_⟩, ?_, ?_, ?_⟩
    · rcases Nat.lt_trichotomy m k with h1 | h1 | h1
      · exact absurd (hall m h1) hnem
      · subst h1; rfl
      · exact absurd (hallm k h1) hne
    · rw [LtP.decided hk hall hne]
      unfold cmpI
      by_cases h1 : intN xs k < intN ys k
      · simp [h1]
      · by_cases h2 : intN ys k < intN xs k
        · simp [h1, h2]
        · simp [h1, h2]
    · unfold cmpI; split <;> (try split) <;> omega
    · unfold cmpI; split <;> (try split) <;> omega

set_option maxHeartbeats 400000 in
theorem compare (v1 v2 : Value) (xs ys : List Int) (c : Int) (w : World) (h1 : RowAt w v1 xs) (h2 : RowAt w v2 ys) (hl : xs.length = ys.length) (hcm : CmpIs c xs ys) :
    Calls Tryd.prog 63 #[v1, v2] w fun e w' => e = .returned (.int .i64 c) ∧ w = w' := by
  obtain ⟨a1, c1, rfl, hn1, hc1⟩ := h1
  obtain ⟨a2, c2, rfl, hn2, hc2⟩ := h2
  rw [← hl] at hn2 hc2 ⊢
  have HC1 := Lib.hid hc1
  have HC2 := Lib.hid hc2
  have HB := Lib.hid hcm
  have HL := Lib.hid hl
  clear hc1 hc2 hcm hl
  go_enter Tryd.func63, Tryd.ntmps63
  go_wp2
  go_loop [11] (fun i => ∃ k : Nat, k ≤ xs.length ∧ i = .int .i64 k ∧ (∀ j, j < k → intN xs j = intN ys j)) (fun i => xs.length - (intOf i).toNat)
  case atStart => exact ⟨0, Nat.zero_le _, rfl, fun j hj => absurd hj (Nat.not_lt_zero _)⟩
  case round =>
    obtain ⟨k, hk, rfl, hall⟩ := hrel
    have HA := Lib.hid hall
    clear hall
    by_cases hlt : k < xs.length
    · obtain ⟨b1, off1, ha1, hcell1⟩ := HC1.out (by omega)
      subst ha1
      obtain ⟨b2, off2, ha2, hcell2⟩ := HC2.out (by omega)
      subst ha2
      have hx1 := hcell1 k hlt
      have hx2 := hcell2 k hlt
      have hlt' : (k : Int) < (xs.length : Int) := by omega
      clear hcell1 hcell2
      by_cases he : intN xs k = intN ys k
      · have HE := Lib.hid he
        have HZ : Hid (cmpI (intN xs k) (intN ys k) = 0) := by simp [Hid, cmpI, he]
        clear he
        go_wp2_with (go_at_call 69; refine (cmpInt _ _ _).mono ?_; rw [HZ.out]; rintro e w' ⟨rfl, rfl⟩)
        go_round
        case rel =>
          refine ⟨k + 1, by omega, by go_num, fun j hj => ?_⟩
          by_cases hjk : j = k
          · subst hjk; exact HE.out
          · exact HA.out j (by omega)
        case measure => simp [intOf]; omega
      · have HF := Lib.hid (HB.out.2 k hlt HA.out he)
        have hz : (cmpI (intN xs k) (intN ys k) == 0) = false := by
          rw [beq_eq_false_iff_ne]
          unfold cmpI
          split
          · omega
          · split <;> omega
        clear he
        go_wp2_with (go_at_call 69; refine (cmpInt _ _ _).mono ?_; rintro e w' ⟨rfl, rfl⟩)
        go_ret
        exact ⟨ret_int HF.out.symm, rfl⟩
    · obtain rfl : k = xs.length := by omega
      have HF := Lib.hid (HB.out.1 (row_ext HL.out HA.out))
      go_wp2
      go_ret
      exact ⟨ret_int HF.out.symm, rfl⟩

end Go.Proofs.YtbnmgonfmihicabDoor
