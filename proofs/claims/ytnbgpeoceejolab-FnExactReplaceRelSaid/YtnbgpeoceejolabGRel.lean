/-  When a relation is valid: ValidRel of the program and of its model, with what they call. The order of tuples: l01Before of the model, slices.Compare of the library at []int64. Valid relations: l01Ok and ValidRel of the model, ValidRel of the program. ValidRel of the model and of the program. Equal relations: SameRel of the model and of the program, with what they call. Sets of numbers below 256 as four words: tupleBits of the program: put, has, meet, isPartOf. Numbers of tuples, and the set of the numbers of a relation's tuples: numberOf and bitsOf of the program. Whether a relation has a tuple: l01Has and HasTuple of the model, HasTuple of the program. Whether a relation is a part of another one: IsPartOf of the model and of the program, with what they call. Whether a relation is a part of another one: IsPartOf of the program. -/
import Derived.Test.YtnbgpeoceejolabGBase
import Derived.RegionTactic
import Derived.ChangeAlike
import Derived.Laws.Bits64
import Derived.Laws.Bits64b
import Derived.Laws.BitsAllLaws
import Derived.BigRegion
import Derived.Deep.RegionHeld3
namespace Go.Proofs.Ytnbgpeoceejolab
open Go.RowKit

/-- b tells whether p. -/
def Tells (b : Bool) (p : Prop) : Prop := b = true ↔ p
theorem Tells.yes {p : Prop} (h : p) : Tells true p := ⟨fun _ => h, fun _ => rfl⟩
theorem Tells.no {p : Prop} (h : ¬ p) : Tells false p := ⟨fun e => (Bool.noConfusion e), fun k => absurd k h⟩
theorem Tells.is_true {b : Bool} {p : Prop} (h : Tells b p) (k : p) : b = true := h.2 k
theorem Tells.is_false {b : Bool} {p : Prop} (h : Tells b p) (k : ¬ p) : b = false := by
  cases b with
  | false => rfl
  | true => exact absurd (h.1 rfl) k
theorem Tells.ret_true {b : Bool} {p : Prop} (h : Tells b p) (k : p) : Ending.returned (.bool true) = .returned (.bool b) := by rw [h.is_true k]
theorem Tells.ret_false {b : Bool} {p : Prop} (h : Tells b p) (k : ¬ p) : Ending.returned (.bool false) = .returned (.bool b) := by rw [h.is_false k]
theorem Tells.congr {b : Bool} {p q : Prop} (h : Tells b p) (k : p ↔ q) : Tells b q := h.trans k

def InP (n lo hi : Int) : Prop := lo ≤ n ∧ n ≤ hi

set_option maxHeartbeats 400000 in
theorem l00In (n lo hi : Int) (b : Bool) (w : World) (hb : Tells b (InP n lo hi)) :
    Calls Try.prog 51 #[.int .i64 n, .int .i64 lo, .int .i64 hi] w fun e w' => e = .returned (.bool b) ∧ w = w' := by
  by_cases h1 : lo ≤ n
  · by_cases h2 : n ≤ hi
    · have HB := Lib.hid (hb.is_true ⟨h1, h2⟩)
      clear hb
      go_enter Try.func51, Try.ntmps51
      go_wp2
      go_ret
      exact ⟨ret_bool HB.out.symm, rfl⟩
    · have HB := Lib.hid (hb.is_false fun h => h2 h.2)
      clear hb
      go_enter Try.func51, Try.ntmps51
      go_wp2
      go_ret
      exact ⟨ret_bool HB.out.symm, rfl⟩
  · have HB := Lib.hid (hb.is_false fun h => h1 h.1)
    clear hb
    go_enter Try.func51, Try.ntmps51
    go_wp2
    go_ret
    exact ⟨ret_bool HB.out.symm, rfl⟩

def In14 (n : Int) : Prop := 1 ≤ n ∧ n ≤ 4

set_option maxHeartbeats 400000 in
theorem isSize (n : Int) (b : Bool) (w : World) (hb : Tells b (In14 n)) :
    Calls Try.prog 85 #[.int .i64 n] w fun e w' => e = .returned (.bool b) ∧ w = w' := by
  by_cases h1 : 1 ≤ n
  · by_cases h2 : n ≤ 4
    · have HB := Lib.hid (hb.is_true ⟨h1, h2⟩)
      clear hb
      go_enter Try.func85, Try.ntmps85
      go_wp2
      go_ret
      exact ⟨ret_bool HB.out.symm, rfl⟩
    · have HB := Lib.hid (hb.is_false fun h => h2 h.2)
      clear hb
      go_enter Try.func85, Try.ntmps85
      go_wp2
      go_ret
      exact ⟨ret_bool HB.out.symm, rfl⟩
  · have HB := Lib.hid (hb.is_false fun h => h1 h.1)
    clear hb
    go_enter Try.func85, Try.ntmps85
    go_wp2
    go_ret
    exact ⟨ret_bool HB.out.symm, rfl⟩

set_option maxHeartbeats 400000 in
theorem isArity (n : Int) (b : Bool) (w : World) (hb : Tells b (In14 n)) :
    Calls Try.prog 48 #[.int .i64 n] w fun e w' => e = .returned (.bool b) ∧ w = w' := by
  by_cases h1 : 1 ≤ n
  · by_cases h2 : n ≤ 4
    · have HB := Lib.hid (hb.is_true ⟨h1, h2⟩)
      clear hb
      go_enter Try.func48, Try.ntmps48
      go_wp2
      go_ret
      exact ⟨ret_bool HB.out.symm, rfl⟩
    · have HB := Lib.hid (hb.is_false fun h => h2 h.2)
      clear hb
      go_enter Try.func48, Try.ntmps48
      go_wp2
      go_ret
      exact ⟨ret_bool HB.out.symm, rfl⟩
  · have HB := Lib.hid (hb.is_false fun h => h1 h.1)
    clear hb
    go_enter Try.func48, Try.ntmps48
    go_wp2
    go_ret
    exact ⟨ret_bool HB.out.symm, rfl⟩

set_option maxHeartbeats 400000 in
theorem l01Size (n : Int) (b : Bool) (w : World) (hb : Tells b (In14 n)) :
    Calls Try.prog 84 #[.int .i64 n] w fun e w' => e = .returned (.bool b) ∧ w = w' := by
  have HB := Lib.hid hb
  clear hb
  go_enter Try.func84, Try.ntmps84
  go_wp2_with fail
  refine (l00In _ _ _ b _ HB.out).mono ?_
  rintro e w' ⟨rfl, rfl⟩
  go_wp2
  go_ret
  exact ⟨rfl, rfl⟩

set_option maxHeartbeats 400000 in
theorem l01Arity (n : Int) (b : Bool) (w : World) (hb : Tells b (In14 n)) :
    Calls Try.prog 44 #[.int .i64 n] w fun e w' => e = .returned (.bool b) ∧ w = w' := by
  have HB := Lib.hid hb
  clear hb
  go_enter Try.func44, Try.ntmps44
  go_wp2_with fail
  refine (l00In _ _ _ b _ HB.out).mono ?_
  rintro e w' ⟨rfl, rfl⟩
  go_wp2
  go_ret
  exact ⟨rfl, rfl⟩

/-- A list is a tuple of some values. -/
def TupP (size ar : Int) (xs : List Int) : Prop := (xs.length : Int) = ar ∧ ∀ k, k < xs.length → 0 ≤ intN xs k ∧ intN xs k < size

set_option maxHeartbeats 400000 in
theorem isListBelow (v : Value) (xs : List Int) (ar size : Int) (b : Bool) (w : World) (h : RowAt w v xs) (hb : Tells b (TupP size ar xs)) :
    Calls Try.prog 49 #[v, .int .i64 ar, .int .i64 size] w fun e w' => e = .returned (.bool b) ∧ w = w' := by
  obtain ⟨a, c, rfl, hn, hc⟩ := h
  have HC := Lib.hid hc
  have HB := Lib.hid hb
  clear hc hb
  by_cases hl : (xs.length : Int) = ar
  · have HL := Lib.hid hl
    have hlb : ((xs.length : Int) == ar) = true := beq_iff_eq.2 hl
    clear hl
    go_enter Try.func49, Try.ntmps49
    go_wp2
    go_loop [15] (fun i => ∃ k : Nat, k ≤ xs.length ∧ i = .int .i64 k ∧ ∀ j, j < k → 0 ≤ intN xs j ∧ intN xs j < size) (fun i => xs.length - (intOf i).toNat)
    case atStart => exact ⟨0, Nat.zero_le _, rfl, fun j hj => absurd hj (Nat.not_lt_zero _)⟩
    case round =>
      obtain ⟨k, hk, rfl, hall⟩ := hrel
      have HA := Lib.hid hall
      clear hall
      by_cases hlt : k < xs.length
      · obtain ⟨b1, off1, ha1, hcell1⟩ := HC.out (by omega)
        subst ha1
        have hx1 := hcell1 k hlt
        have hlt' : (k : Int) < (xs.length : Int) := by omega
        clear hcell1
        by_cases h0 : 0 ≤ intN xs k
        · by_cases h1 : intN xs k < size
          · go_wp2
            go_round
            case rel =>
              refine ⟨k + 1, by omega, by go_num, fun j hj => ?_⟩
              by_cases hjk : j = k
              · subst hjk; exact ⟨h0, h1⟩
              · exact HA.out j (by omega)
            case measure => simp [intOf]; omega
          · have HF := Lib.hid (HB.out.is_false fun h => h1 (h.2 k hlt).2)
            go_wp2
            go_ret
            exact ⟨ret_bool HF.out.symm, rfl⟩
        · have HF := Lib.hid (HB.out.is_false fun h => h0 (h.2 k hlt).1)
          go_wp2
          go_ret
          exact ⟨ret_bool HF.out.symm, rfl⟩
      · obtain rfl : k = xs.length := by omega
        have HF := Lib.hid (HB.out.is_true ⟨HL.out, HA.out⟩)
        go_wp2
        go_ret
        exact ⟨ret_bool HF.out.symm, rfl⟩
  · have HF := Lib.hid (HB.out.is_false fun h => hl h.1)
    have hlb : ((xs.length : Int) == ar) = false := beq_eq_false_iff_ne.2 hl
    go_enter Try.func49, Try.ntmps49
    go_wp2
    go_ret
    exact ⟨ret_bool HF.out.symm, rfl⟩

set_option maxHeartbeats 400000 in
theorem l01Tuple (v : Value) (xs : List Int) (ar size : Int) (b : Bool) (w : World) (h : RowAt w v xs) (hs1 : 1 ≤ size) (hs2 : size ≤ 4) (hb : Tells b (TupP size ar xs)) :
    Calls Try.prog 87 #[.int .i64 size, .int .i64 ar, v] w fun e w' => e = .returned (.bool b) ∧ w = w' := by
  obtain ⟨a, c, rfl, hn, hc⟩ := h
  have HC := Lib.hid hc
  have HB := Lib.hid hb
  clear hc hb
  go_enter Try.func87, Try.ntmps87
  go_wp2
  go_loop [7] (fun i => ∃ k : Nat, k ≤ xs.length ∧ i = .int .i64 k ∧ ∀ j, j < k → 0 ≤ intN xs j ∧ intN xs j < size) (fun i => xs.length - (intOf i).toNat)
  case atStart => exact ⟨0, Nat.zero_le _, rfl, fun j hj => absurd hj (Nat.not_lt_zero _)⟩
  case round =>
    obtain ⟨k, hk, rfl, hall⟩ := hrel
    have HA := Lib.hid hall
    clear hall
    by_cases hlt : k < xs.length
    · obtain ⟨b1, off1, ha1, hcell1⟩ := HC.out (by omega)
      subst ha1
      have hx1 := hcell1 k hlt
      have hlt' : (k : Int) < (xs.length : Int) := by omega
      clear hcell1
      by_cases hin : InP (intN xs k) 0 (size - 1)
      · have HI := Lib.hid hin
        have HT := Lib.hid (Tells.yes hin)
        clear hin
        go_wp2_with (go_at_call 51; refine (l00In _ _ _ true _ HT.out).mono ?_; rintro e w' ⟨rfl, rfl⟩)
        go_round
        case rel =>
          refine ⟨k + 1, by omega, by go_num, fun j hj => ?_⟩
          by_cases hjk : j = k
          · subst hjk
            have := HI.out
            unfold InP at this
            omega
          · exact HA.out j (by omega)
        case measure => simp [intOf]; omega
      · have HF := Lib.hid (HB.out.is_false fun h => hin (by have := h.2 k hlt; unfold InP; omega))
        have HT := Lib.hid (Tells.no hin)
        clear hin
        go_wp2_with (go_at_call 51; refine (l00In _ _ _ false _ HT.out).mono ?_; rintro e w' ⟨rfl, rfl⟩)
        go_ret
        exact ⟨ret_bool HF.out.symm, rfl⟩
    · obtain rfl : k = xs.length := by omega
      by_cases hl : (xs.length : Int) = ar
      · have hlb : ((xs.length : Int) == ar) = true := beq_iff_eq.2 hl
        have HF := Lib.hid (HB.out.is_true ⟨hl, HA.out⟩)
        clear hl
        go_wp2
        go_ret
        exact ⟨ret_bool HF.out.symm, rfl⟩
      · have hlb : ((xs.length : Int) == ar) = false := beq_eq_false_iff_ne.2 hl
        have HF := Lib.hid (HB.out.is_false fun h => hl h.1)
        clear hl
        go_wp2
        go_ret
        exact ⟨ret_bool HF.out.symm, rfl⟩

end Go.Proofs.Ytnbgpeoceejolab

namespace Go.Proofs.Ytnbgpeoceejolab
open Go.RowKit

/-- xs comes before ys, a list of its length. -/
def LtP (xs ys : List Int) : Prop := ∃ k, k < xs.length ∧ (∀ j, j < k → intN xs j = intN ys j) ∧ intN xs k < intN ys k

theorem LtP.not_of_eq {xs ys : List Int} (h : ∀ j, j < xs.length → intN xs j = intN ys j) : ¬ LtP xs ys := by
  rintro ⟨k, hk, _, hlt⟩
  have := h k hk
  omega

theorem LtP.decided {xs ys : List Int} {k : Nat} (hk : k < xs.length) (h : ∀ j, j < k → intN xs j = intN ys j) (hne : intN xs k ≠ intN ys k) : LtP xs ys ↔ intN xs k < intN ys k := by
  refine ⟨?_, fun hlt => ⟨k, hk, h, hlt⟩⟩
  rintro ⟨m, hm, hall, hlt⟩
  rcases Nat.lt_trichotomy m k with h1 | h1 | h1
  · have := h m h1
    omega
  · subst h1; exact hlt
  · exact absurd (hall k h1) hne

set_option maxHeartbeats 400000 in
theorem l01Before (v1 v2 : Value) (xs ys : List Int) (b : Bool) (w : World) (h1 : RowAt w v1 xs) (h2 : RowAt w v2 ys) (hl : xs.length = ys.length) (hb : Tells b (LtP xs ys)) :
    Calls Try.prog 88 #[v1, v2] w fun e w' => e = .returned (.bool b) ∧ QW w w' := by
  obtain ⟨a1, c1, rfl, hn1, hc1⟩ := h1
  obtain ⟨a2, c2, rfl, hn2, hc2⟩ := h2
  rw [← hl] at hn2 hc2 ⊢
  have HC1 := Lib.hid hc1
  have HC2 := Lib.hid hc2
  have HB := Lib.hid hb
  clear hc1 hc2 hb hl
  go_enter Try.func88, Try.ntmps88
  go_wp2
  go_loopw [5] (fun i wr => ∃ k : Nat, k ≤ xs.length ∧ i = .int .i64 k ∧ (∀ j, j < k → intN xs j = intN ys j) ∧ QW w wr) (fun i _ => xs.length - (intOf i).toNat)
  case atStart => exact ⟨0, Nat.zero_le _, rfl, fun j hj => absurd hj (Nat.not_lt_zero _), QW.refl _⟩
  case round =>
    obtain ⟨k, hk, rfl, hall, hq⟩ := hrel
    have HA := Lib.hid hall
    have HQ := Lib.hid hq
    clear hall hq
    by_cases hlt : k < xs.length
    · obtain ⟨b1, off1, ha1, hcell1⟩ := HC1.out (by omega)
      subst ha1
      obtain ⟨b2, off2, ha2, hcell2⟩ := HC2.out (by omega)
      subst ha2
      have hx1 := HQ.out.cell (hcell1 k hlt)
      have hx2 := HQ.out.cell (hcell2 k hlt)
      have hlt' : (k : Int) < (xs.length : Int) := by omega
      clear hcell1 hcell2
      by_cases he : intN xs k = intN ys k
      · have HE := Lib.hid he
        rw [← he] at hx2
        clear he
        go_wp2
        go_quiet (fail)
        go_wp2
        go_roundw
        case rel =>
          refine ⟨k + 1, by omega, by go_num, fun j hj => ?_, HQ.out.drewN _⟩
          by_cases hjk : j = k
          · subst hjk; exact HE.out
          · exact HA.out j (by omega)
        case measure => simp [intOf]; omega
      · have hne : (intN xs k == intN ys k) = false := by simpa using he
        have HD := Lib.hid (LtP.decided hlt HA.out he)
        by_cases hx : intN xs k < intN ys k
        · have HF := Lib.hid (HB.out.is_true (HD.out.2 hx))
          go_wp2
          go_quiet (fail)
          go_wp2
          go_quiet (fail)
          go_wp2
          go_ret
          exact ⟨ret_bool HF.out.symm, (HQ.out.drewN _).drewN _⟩
        · have HF := Lib.hid (HB.out.is_false fun h => hx (HD.out.1 h))
          have hd : decide (intN xs k < intN ys k) = false := by simpa using hx
          go_wp2
          go_quiet (fail)
          go_wp2
          go_quiet (fail)
          go_wp2
          go_ret
          exact ⟨ret_bool HF.out.symm, (HQ.out.drewN _).drewN _⟩
    · obtain rfl : k = xs.length := by omega
      have HF := Lib.hid (HB.out.is_false (LtP.not_of_eq HA.out))
      go_wp2
      go_ret
      exact ⟨ret_bool HF.out.symm, HQ.out⟩

/-- what a comparison tells -/
def cmpI (x y : Int) : Int := if x < y then -1 else if y < x then 1 else 0

set_option maxHeartbeats 400000 in
theorem isNaN (x : Int) (w : World) : Calls Try.prog 91 #[.int .i64 x] w fun e w' => e = .returned (.bool false) ∧ w = w' := by
  go_enter Try.func91, Try.ntmps91
  go_wp2
  go_ret
  exact ⟨rfl, rfl⟩

set_option maxHeartbeats 400000 in
theorem cmpInt (x y : Int) (w : World) : Calls Try.prog 90 #[.int .i64 x, .int .i64 y] w fun e w' => e = .returned (.int .i64 (cmpI x y)) ∧ w = w' := by
  by_cases h1 : x < y
  · have HF : Hid (cmpI x y = -1) := by simp [Hid, cmpI, h1]
    go_enter Try.func90, Try.ntmps90
    go_wp2_with (go_at_call 91; refine (isNaN _ _).mono ?_; rintro e w' ⟨rfl, rfl⟩)
    go_ret
    exact ⟨ret_int HF.out.symm, rfl⟩
  · by_cases h2 : y < x
    · have HF : Hid (cmpI x y = 1) := by simp [Hid, cmpI, h1, h2]
      go_enter Try.func90, Try.ntmps90
      go_wp2_with (go_at_call 91; refine (isNaN _ _).mono ?_; rintro e w' ⟨rfl, rfl⟩)
      go_ret
      exact ⟨ret_int HF.out.symm, rfl⟩
    · have HF : Hid (cmpI x y = 0) := by simp [Hid, cmpI, h1, h2]
      go_enter Try.func90, Try.ntmps90
      go_wp2_with (go_at_call 91; refine (isNaN _ _).mono ?_; rintro e w' ⟨rfl, rfl⟩)
      go_ret
      exact ⟨ret_int HF.out.symm, rfl⟩

/-- c is what the comparison of two lists of one length tells: whether the first one comes before. -/
def CmpIs (c : Int) (xs ys : List Int) : Prop := (xs = ys → c = 0) ∧ ∀ k, k < xs.length → (∀ j, j < k → intN xs j = intN ys j) → intN xs k ≠ intN ys k → c = cmpI (intN xs k) (intN ys k)

theorem CmpIs.lt {c : Int} {xs ys : List Int} (h : CmpIs c xs ys) (k : LtP xs ys) : c = -1 := by
  obtain ⟨m, hm, hall, hlt⟩ := k
  rw [h.2 m hm hall (by omega)]
  unfold cmpI
  rw [if_pos hlt]

theorem first_apart {xs ys : List Int} (hl : xs.length = ys.length) (hne : xs ≠ ys) : ∃ k, k < xs.length ∧ (∀ j, j < k → intN xs j = intN ys j) ∧ intN xs k ≠ intN ys k := by
  have h : ∀ n, n ≤ xs.length → (∀ j, j < n → intN xs j = intN ys j) ∨ ∃ k, k < xs.length ∧ (∀ j, j < k → intN xs j = intN ys j) ∧ intN xs k ≠ intN ys k := by
    intro n
    induction n with
    | zero => intro _; exact .inl fun j hj => absurd hj (Nat.not_lt_zero _)
    | succ n ih =>
      intro hn
      rcases ih (by omega) with h1 | h1
      · by_cases he : intN xs n = intN ys n
        · refine .inl fun j hj => ?_
          by_cases hjn : j = n
          · subst hjn; exact he
          · exact h1 j (by omega)
        · exact .inr ⟨n, by omega, h1, he⟩
      · exact .inr h1
  rcases h xs.length (Nat.le_refl _) with h1 | h1
  · exact absurd (row_ext hl h1) hne
  · exact h1

theorem CmpIs.exists (xs ys : List Int) (hl : xs.length = ys.length) : ∃ c, CmpIs c xs ys ∧ (0 ≤ c ↔ ¬ LtP xs ys) ∧ -1 ≤ c ∧ c ≤ 1 := by
  by_cases he : xs = ys
  · subst he
    exact ⟨0, ⟨fun _ => rfl, fun k _ _ hne => absurd rfl hne⟩, ⟨fun _ => LtP.not_of_eq fun _ _ => rfl, fun _ => Int.le_refl _⟩, by omega, by omega⟩
  · obtain ⟨k, hk, hall, hne⟩ := first_apart hl he
    refine ⟨cmpI (intN xs k) (intN ys k), ⟨fun e => absurd e he, fun m hm hallm hnem => ?_⟩, ?_, ?_, ?_⟩
    · rcases Nat.lt_trichotomy m k with h1 | h1 | h1
      · exact absurd (hall m h1) hnem
      · subst h1; rfl
      · exact absurd (hallm k h1) hne
    · rw [LtP.decided hk hall hne]
      unfold cmpI
      by_cases h1 : intN xs k < intN ys k
      · simp [h1]
      · by_cases h2 : intN ys k < intN xs k
        · simp [h1, h2]
        · simp [h1, h2]
    · unfold cmpI; split <;> (try split) <;> omega
    · unfold cmpI; split <;> (try split) <;> omega

set_option maxHeartbeats 400000 in
theorem compare (v1 v2 : Value) (xs ys : List Int) (c : Int) (w : World) (h1 : RowAt w v1 xs) (h2 : RowAt w v2 ys) (hl : xs.length = ys.length) (hcm : CmpIs c xs ys) :
    Calls Try.prog 89 #[v1, v2] w fun e w' => e = .returned (.int .i64 c) ∧ w = w' := by
  obtain ⟨a1, c1, rfl, hn1, hc1⟩ := h1
  obtain ⟨a2, c2, rfl, hn2, hc2⟩ := h2
  rw [← hl] at hn2 hc2 ⊢
  have HC1 := Lib.hid hc1
  have HC2 := Lib.hid hc2
  have HB := Lib.hid hcm
  have HL := Lib.hid hl
  clear hc1 hc2 hcm hl
  go_enter Try.func89, Try.ntmps89
  go_wp2
  go_loop [11] (fun i => ∃ k : Nat, k ≤ xs.length ∧ i = .int .i64 k ∧ (∀ j, j < k → intN xs j = intN ys j)) (fun i => xs.length - (intOf i).toNat)
  case atStart => exact ⟨0, Nat.zero_le _, rfl, fun j hj => absurd hj (Nat.not_lt_zero _)⟩
  case round =>
    obtain ⟨k, hk, rfl, hall⟩ := hrel
    have HA := Lib.hid hall
    clear hall
    by_cases hlt : k < xs.length
    · obtain ⟨b1, off1, ha1, hcell1⟩ := HC1.out (by omega)
      subst ha1
      obtain ⟨b2, off2, ha2, hcell2⟩ := HC2.out (by omega)
      subst ha2
      have hx1 := hcell1 k hlt
      have hx2 := hcell2 k hlt
      have hlt' : (k : Int) < (xs.length : Int) := by omega
      clear hcell1 hcell2
      by_cases he : intN xs k = intN ys k
      · have HE := Lib.hid he
        have HZ : Hid (cmpI (intN xs k) (intN ys k) = 0) := by simp [Hid, cmpI, he]
        clear he
        go_wp2_with (go_at_call 90; refine (cmpInt _ _ _).mono ?_; rw [HZ.out]; rintro e w' ⟨rfl, rfl⟩)
        go_round
        case rel =>
          refine ⟨k + 1, by omega, by go_num, fun j hj => ?_⟩
          by_cases hjk : j = k
          · subst hjk; exact HE.out
          · exact HA.out j (by omega)
        case measure => simp [intOf]; omega
      · have HF := Lib.hid (HB.out.2 k hlt HA.out he)
        have hz : (cmpI (intN xs k) (intN ys k) == 0) = false := by
          rw [beq_eq_false_iff_ne]
          unfold cmpI
          split
          · omega
          · split <;> omega
        clear he
        go_wp2_with (go_at_call 90; refine (cmpInt _ _ _).mono ?_; rintro e w' ⟨rfl, rfl⟩)
        go_ret
        exact ⟨ret_int HF.out.symm, rfl⟩
    · obtain rfl : k = xs.length := by omega
      have HF := Lib.hid (HB.out.1 (row_ext HL.out HA.out))
      go_wp2
      go_ret
      exact ⟨ret_int HF.out.symm, rfl⟩

end Go.Proofs.Ytnbgpeoceejolab

namespace Go.Proofs.Ytnbgpeoceejolab
open Go.RowKit

def RowOk (size ar : Int) (xss : List (List Int)) (k : Nat) : Prop := TupP size ar (rowN xss k) ∧ (0 < k → LtP (rowN xss (k - 1)) (rowN xss k))
def RelOk (size ar : Int) (xss : List (List Int)) : Prop := In14 size ∧ In14 ar ∧ ∀ k, k < xss.length → RowOk size ar xss k

theorem nat_pos_int {k : Nat} (h : 0 < k) : (0 : Int) < (k : Int) := by omega
theorem nat_pred_int {k : Nat} (h : 0 < k) : (k : Int) - 1 = ((k - 1 : Nat) : Int) := by omega

/-- A relation lies behind a pointer. -/
structure RelAt (w : World) (b o : Nat) (ar : Int) (xss : List (List Int)) : Prop where
  arity : w.cell? ⟨b, o, none⟩ = some (.int .i64 ar)
  rows : ∃ a n c, w.cell? ⟨b, o + 1, none⟩ = some (.slice a n c) ∧ GridAt w (.slice a n c) xss

theorem RelAt.below {w w' : World} {b o : Nat} {ar : Int} {xss : List (List Int)} (h : RelAt w b o ar xss) (hb : Below w.heap.size w w') : RelAt w' b o ar xss := by
  obtain ⟨h1, a, n, c, h2, h3⟩ := h
  exact ⟨below_cell hb h1, a, n, c, below_cell hb h2, h3.below hb⟩

set_option maxHeartbeats 1000000 in
set_option maxRecDepth 100000 in
theorem l01Ok (size : Int) (pb po : Nat) (ar : Int) (xss : List (List Int)) (b : Bool) (w : World) (h : RelAt w pb po ar xss) (hb : Tells b (RelOk size ar xss)) :
    Calls Try.prog 83 #[.int .i64 size, .pointer (some ⟨pb, po, none⟩)] w fun e w' => e = .returned (.bool b) ∧ QW w w' := by
  obtain ⟨hp0, a, n, c, hp1, V, ⟨a', c', hv, hn, hc⟩, hV⟩ := h
  simp only [Value.slice.injEq] at hv
  obtain ⟨rfl, rfl, rfl⟩ := hv
  have HC := Lib.hid hc
  have HV := Lib.hid hV
  have HB := Lib.hid hb
  clear hc hV hb
  by_cases hs : In14 size
  · by_cases har : In14 ar
    · have hs1 : 1 ≤ size := hs.1
      have hs2 : size ≤ 4 := hs.2
      have HS := Lib.hid (Tells.yes hs)
      have HR := Lib.hid (Tells.yes har)
      have HSP := Lib.hid hs
      have HRP := Lib.hid har
      clear hs har
      go_enter Try.func83, Try.ntmps83
      go_wp2_with (first | (go_at_call 84; refine (l01Size _ true _ HS.out).mono ?_; rintro e w' ⟨rfl, rfl⟩) | (go_at_call 44; refine (l01Arity _ true _ HR.out).mono ?_; rintro e w' ⟨rfl, rfl⟩))
      go_loopw [5] (fun i wr => ∃ k : Nat, k ≤ xss.length ∧ i = .int .i64 k ∧ (∀ j, j < k → RowOk size ar xss j) ∧ QW w wr) (fun i _ => xss.length - (intOf i).toNat)
      case atStart => exact ⟨0, Nat.zero_le _, rfl, fun j hj => absurd hj (Nat.not_lt_zero _), QW.refl _⟩
      case round =>
        obtain ⟨k, hk, rfl, hall, hq⟩ := hrel
        have HA := Lib.hid hall
        have HQ := Lib.hid hq
        have hq0 := HQ.out.cell hp0
        have hq1 := HQ.out.cell hp1
        clear hall hq
        by_cases hlt : k < xss.length
        · obtain ⟨b1, off1, ha1, hcell1⟩ := HC.out (by omega)
          subst ha1
          have hx1 := HQ.out.cell (hcell1 k hlt)
          have hlt' : (k : Int) < (xss.length : Int) := by omega
          have HROW := Lib.hid (HV.out k hlt)
          by_cases ht : TupP size ar (rowN xss k)
          · have HT := Lib.hid (Tells.yes ht)
            have HTP := Lib.hid ht
            clear ht
            by_cases h0 : 0 < k
            · have hx2 := HQ.out.cell (hcell1 (k - 1) (by omega))
              have HROW2 := Lib.hid (HV.out (k - 1) (by omega))
              have h0' : (0 : Int) < (k : Int) := nat_pos_int h0
              have HPR := Lib.hid (HA.out (k - 1) (by omega))
              have HLN : Hid ((rowN xss (k - 1)).length = (rowN xss k).length) := by
                have e1 := HPR.out.1.1
                have e2 := HTP.out.1
                show _ = _
                omega
              have hbnd : (k : Int) - 1 < (xss.length : Int) := by omega
              have hbnd0 : 0 ≤ (k : Int) - 1 := by omega
              have htn : ((k : Int) - 1).toNat = k - 1 := by omega
              have hd : decide ((0 : Int) < (k : Int)) = true := by simpa using h0
              clear hcell1
              by_cases hlp : LtP (rowN xss (k - 1)) (rowN xss k)
              · have HL := Lib.hid (Tells.yes hlp)
                have HLP := Lib.hid hlp
                clear hlp
                go_wp2
                go_quiet ((first | (go_at_call 87; exact QW.calls_same (l01Tuple _ _ _ _ true _ ((HQ.out.drewN _).row HROW.out) hs1 hs2 HT.out)) | (go_at_call 88; exact QW.calls (l01Before _ _ _ _ true _ ((HQ.out.drewN _).row HROW2.out) ((HQ.out.drewN _).row HROW.out) HLN.out HL.out))))
                go_wp2
                go_roundw
                case rel =>
                  refine ⟨k + 1, by omega, by go_num, fun j hj => ?_, HQ.out.drewN _⟩
                  by_cases hjk : j = k
                  · subst hjk; exact ⟨HTP.out, fun _ => HLP.out⟩
                  · exact HA.out j (by omega)
                case measure => simp [intOf]; omega
              · have HL := Lib.hid (Tells.no hlp)
                have HF := Lib.hid (HB.out.is_false fun h => hlp ((h.2.2 k hlt).2 h0))
                clear hlp
                go_wp2
                go_quiet ((first | (go_at_call 87; exact QW.calls_same (l01Tuple _ _ _ _ true _ ((HQ.out.drewN _).row HROW.out) hs1 hs2 HT.out)) | (go_at_call 88; exact QW.calls (l01Before _ _ _ _ false _ ((HQ.out.drewN _).row HROW2.out) ((HQ.out.drewN _).row HROW.out) HLN.out HL.out))))
                go_wp2
                go_ret
                exact ⟨ret_bool HF.out.symm, HQ.out.drewN _⟩
            · have hd : decide ((0 : Int) < (k : Int)) = false := by simpa using h0
              go_wp2
              go_quiet (((go_at_call 87; exact QW.calls_same (l01Tuple _ _ _ _ true _ ((HQ.out.drewN _).row HROW.out) hs1 hs2 HT.out))))
              go_wp2
              go_roundw
              case rel =>
                refine ⟨k + 1, by omega, by go_num, fun j hj => ?_, HQ.out.drewN _⟩
                by_cases hjk : j = k
                · subst hjk; exact ⟨HTP.out, fun h => absurd h h0⟩
                · exact HA.out j (by omega)
              case measure => simp [intOf]; omega
          · have HT := Lib.hid (Tells.no ht)
            have HF := Lib.hid (HB.out.is_false fun h => ht (h.2.2 k hlt).1)
            clear ht
            go_wp2
            go_quiet (((go_at_call 87; exact QW.calls_same (l01Tuple _ _ _ _ false _ ((HQ.out.drewN _).row HROW.out) hs1 hs2 HT.out))))
            go_wp2
            go_ret
            exact ⟨ret_bool HF.out.symm, HQ.out.drewN _⟩
        · obtain rfl : k = xss.length := by omega
          have HF := Lib.hid (HB.out.is_true ⟨HSP.out, HRP.out, HA.out⟩)
          go_wp2
          go_ret
          exact ⟨ret_bool HF.out.symm, HQ.out⟩
    · have HF := Lib.hid (HB.out.is_false fun h => har h.2.1)
      have HS := Lib.hid (Tells.yes hs)
      have HR := Lib.hid (Tells.no har)
      clear hs har
      go_enter Try.func83, Try.ntmps83
      go_wp2_with (first | (go_at_call 84; refine (l01Size _ true _ HS.out).mono ?_; rintro e w' ⟨rfl, rfl⟩) | (go_at_call 44; refine (l01Arity _ false _ HR.out).mono ?_; rintro e w' ⟨rfl, rfl⟩))
      go_ret
      exact ⟨ret_bool HF.out.symm, QW.refl _⟩
  · have HF := Lib.hid (HB.out.is_false fun h => hs h.1)
    have HS := Lib.hid (Tells.no hs)
    clear hs
    go_enter Try.func83, Try.ntmps83
    go_wp2_with (go_at_call 84; refine (l01Size _ false _ HS.out).mono ?_; rintro e w' ⟨rfl, rfl⟩)
    go_ret
    exact ⟨ret_bool HF.out.symm, QW.refl _⟩

end Go.Proofs.Ytnbgpeoceejolab

namespace Go.Proofs.Ytnbgpeoceejolab
open Go.RowKit

set_option maxHeartbeats 1000000 in
set_option maxRecDepth 100000 in
theorem implValidRel (size : Int) (ar : Int) (a : Option Addr) (n c : Nat) (xss : List (List Int)) (b : Bool) (w : World) (h : GridAt w (.slice a n c) xss) (hb : Tells b (RelOk size ar xss)) :
    Calls Try.prog 86 #[.int .i64 size, .agg #[.int .i64 ar, .slice a n c]] w fun e w' => e = .returned (.bool b) ∧ Below w.heap.size w w' := by
  have HBW := Lib.hid ((Below.refl w.heap.size w).alloc (Nat.le_refl _) (.cells #[.int .i64 ar, .slice a n c] 81))
  have H := Lib.hid (h.below HBW.out)
  have HB := Lib.hid hb
  clear h hb
  obtain ⟨V, ⟨a', c', hv, hn, hc⟩, hV⟩ := H.out
  clear H
  simp only [Value.slice.injEq] at hv
  obtain ⟨rfl, rfl, rfl⟩ := hv
  have HC := Lib.hid hc
  have HV := Lib.hid hV
  clear hc hV
  by_cases hs : In14 size
  · by_cases har : In14 ar
    · have HS := Lib.hid (Tells.yes hs)
      have HR := Lib.hid (Tells.yes har)
      have HSP := Lib.hid hs
      have HRP := Lib.hid har
      clear hs har
      go_enter Try.func86, Try.ntmps86
      go_wp2_with (first | (go_at_call 85; refine (isSize _ true _ HS.out).mono ?_; rintro e w' ⟨rfl, rfl⟩) | (go_at_call 48; refine (isArity _ true _ HR.out).mono ?_; rintro e w' ⟨rfl, rfl⟩))
      go_loop [19] (fun i => ∃ k : Nat, k ≤ xss.length ∧ i = .int .i64 k ∧ (∀ j, j < k → RowOk size ar xss j)) (fun i => xss.length - (intOf i).toNat)
      case atStart => exact ⟨0, Nat.zero_le _, rfl, fun j hj => absurd hj (Nat.not_lt_zero _)⟩
      case round =>
        obtain ⟨k, hk, rfl, hall⟩ := hrel
        have HA := Lib.hid hall
        clear hall
        by_cases hlt : k < xss.length
        · obtain ⟨b1, off1, ha1, hcell1⟩ := HC.out (by omega)
          subst ha1
          have hx1 := hcell1 k hlt
          have hlt' : (k : Int) < (xss.length : Int) := by omega
          have HROW := Lib.hid (HV.out k hlt)
          by_cases ht : TupP size ar (rowN xss k)
          · have HT := Lib.hid (Tells.yes ht)
            have HTP := Lib.hid ht
            clear ht
            by_cases h0 : 0 < k
            · have hx2 := hcell1 (k - 1) (by omega)
              have HROW2 := Lib.hid (HV.out (k - 1) (by omega))
              have h0' : (0 : Int) < (k : Int) := nat_pos_int h0
              have HPR := Lib.hid (HA.out (k - 1) (by omega))
              have HLN : Hid ((rowN xss (k - 1)).length = (rowN xss k).length) := by
                have e1 := HPR.out.1.1
                have e2 := HTP.out.1
                show _ = _
                omega
              have hbnd : (k : Int) - 1 < (xss.length : Int) := by omega
              have hbnd0 : 0 ≤ (k : Int) - 1 := by omega
              have htn : ((k : Int) - 1).toNat = k - 1 := by omega
              have hd : decide ((0 : Int) < (k : Int)) = true := by simpa using h0
              obtain ⟨cc, hcm, hcs, hc1, hc2⟩ := CmpIs.exists (rowN xss (k - 1)) (rowN xss k) HLN.out
              have HCM := Lib.hid hcm
              have HCS := Lib.hid hcs
              clear hcell1 hcm hcs
              by_cases hlp : LtP (rowN xss (k - 1)) (rowN xss k)
              · have hcc : cc < 0 := Int.not_le.1 fun h => HCS.out.1 h hlp
                have HLP := Lib.hid hlp
                clear hlp
                go_wp2_with (first | (go_at_call 49; refine (isListBelow _ _ _ _ true _ HROW.out HT.out).mono ?_; rintro e w' ⟨rfl, rfl⟩) | (go_at_call 89; refine (compare _ _ _ _ cc _ HROW2.out HROW.out HLN.out HCM.out).mono ?_; rintro e w' ⟨rfl, rfl⟩))
                go_round
                case rel =>
                  refine ⟨k + 1, by omega, by go_num, fun j hj => ?_⟩
                  by_cases hjk : j = k
                  · subst hjk; exact ⟨HTP.out, fun _ => HLP.out⟩
                  · exact HA.out j (by omega)
                case measure => simp [intOf]; omega
              · have hcc : 0 ≤ cc := HCS.out.2 hlp
                have HF := Lib.hid (HB.out.is_false fun h => hlp ((h.2.2 k hlt).2 h0))
                clear hlp
                go_wp2_with (first | (go_at_call 49; refine (isListBelow _ _ _ _ true _ HROW.out HT.out).mono ?_; rintro e w' ⟨rfl, rfl⟩) | (go_at_call 89; refine (compare _ _ _ _ cc _ HROW2.out HROW.out HLN.out HCM.out).mono ?_; rintro e w' ⟨rfl, rfl⟩))
                go_ret
                exact ⟨ret_bool HF.out.symm, HBW.out⟩
            · have hd : decide ((0 : Int) < (k : Int)) = false := by simpa using h0
              go_wp2_with (go_at_call 49; refine (isListBelow _ _ _ _ true _ HROW.out HT.out).mono ?_; rintro e w' ⟨rfl, rfl⟩)
              go_round
              case rel =>
                refine ⟨k + 1, by omega, by go_num, fun j hj => ?_⟩
                by_cases hjk : j = k
                · subst hjk; exact ⟨HTP.out, fun h => absurd h h0⟩
                · exact HA.out j (by omega)
              case measure => simp [intOf]; omega
          · have HT := Lib.hid (Tells.no ht)
            have HF := Lib.hid (HB.out.is_false fun h => ht (h.2.2 k hlt).1)
            clear ht
            go_wp2_with (go_at_call 49; refine (isListBelow _ _ _ _ false _ HROW.out HT.out).mono ?_; rintro e w' ⟨rfl, rfl⟩)
            go_ret
            exact ⟨ret_bool HF.out.symm, HBW.out⟩
        · obtain rfl : k = xss.length := by omega
          have HF := Lib.hid (HB.out.is_true ⟨HSP.out, HRP.out, HA.out⟩)
          go_wp2
          go_ret
          exact ⟨ret_bool HF.out.symm, HBW.out⟩
    · have HF := Lib.hid (HB.out.is_false fun h => har h.2.1)
      have HS := Lib.hid (Tells.yes hs)
      have HR := Lib.hid (Tells.no har)
      clear hs har
      go_enter Try.func86, Try.ntmps86
      go_wp2_with (first | (go_at_call 85; refine (isSize _ true _ HS.out).mono ?_; rintro e w' ⟨rfl, rfl⟩) | (go_at_call 48; refine (isArity _ false _ HR.out).mono ?_; rintro e w' ⟨rfl, rfl⟩))
      go_ret
      exact ⟨ret_bool HF.out.symm, HBW.out⟩
  · have HF := Lib.hid (HB.out.is_false fun h => hs h.1)
    have HS := Lib.hid (Tells.no hs)
    clear hs
    go_enter Try.func86, Try.ntmps86
    go_wp2_with (go_at_call 85; refine (isSize _ false _ HS.out).mono ?_; rintro e w' ⟨rfl, rfl⟩)
    go_ret
    exact ⟨ret_bool HF.out.symm, HBW.out⟩

end Go.Proofs.Ytnbgpeoceejolab

namespace Go.Proofs.Ytnbgpeoceejolab
open Go.RowKit

end Go.Proofs.Ytnbgpeoceejolab

namespace Go.Proofs.Ytnbgpeoceejolab
open Go.RowKit

/-- The number with the bits T below n. -/
def wordN : Nat → (Nat → Bool) → Nat
  | 0, _ => 0
  | n + 1, T => wordN n T + if T n then 2 ^ n else 0

theorem wordN_lt (n : Nat) (T : Nat → Bool) : wordN n T < 2 ^ n := by
  induction n with
  | zero => simp [wordN]
  | succ n ih =>
    unfold wordN
    rw [Nat.pow_succ]
    split <;> omega

theorem wordN_bit (n : Nat) (T : Nat → Bool) (j : Nat) : (wordN n T).testBit j = (decide (j < n) && T j) := by
  induction n with
  | zero => simp [wordN]
  | succ n ih =>
    unfold wordN
    have hlt := wordN_lt n T
    by_cases ht : T n
    · rw [if_pos ht, Nat.add_comm]
      by_cases hj : j < n
      · rw [Nat.testBit_two_pow_add_gt hj, ih]
        simp [hj, show j < n + 1 by omega]
      · by_cases hjn : j = n
        · subst hjn
          rw [Nat.testBit_two_pow_add_eq, ih]
          simp [ht]
        · have : (2 ^ n + wordN n T) < 2 ^ j := by
            have : 2 ^ (n + 1) ≤ 2 ^ j := Nat.pow_le_pow_right (by omega) (by omega)
            rw [Nat.pow_succ] at this
            omega
          rw [Nat.testBit_lt_two_pow this]
          simp [show ¬ j < n + 1 by omega]
    · rw [if_neg ht, Nat.add_zero, ih]
      by_cases hjn : j = n
      · subst hjn; simp [ht]
      · by_cases hj : j < n
        · simp [hj, show j < n + 1 by omega]
        · simp [hj, show ¬ j < n + 1 by omega]

theorem wordN_congr {n : Nat} {T U : Nat → Bool} (h : ∀ j, j < n → T j = U j) : wordN n T = wordN n U := by
  apply Nat.eq_of_testBit_eq
  intro j
  rw [wordN_bit, wordN_bit]
  by_cases hj : j < n
  · rw [h j hj]
  · simp [hj]

theorem wordN_inj {n : Nat} {T U : Nat → Bool} (h : wordN n T = wordN n U) : ∀ j, j < n → T j = U j := by
  intro j hj
  have := congrArg (fun x => x.testBit j) h
  simpa [wordN_bit, hj] using this

theorem wordN_or (n : Nat) (T U : Nat → Bool) : wordN n T ||| wordN n U = wordN n (fun j => T j || U j) := by
  apply Nat.eq_of_testBit_eq
  intro j
  rw [Nat.testBit_or, wordN_bit, wordN_bit, wordN_bit]
  by_cases hj : j < n <;> simp [hj]

theorem wordN_and (n : Nat) (T U : Nat → Bool) : wordN n T &&& wordN n U = wordN n (fun j => T j && U j) := by
  apply Nat.eq_of_testBit_eq
  intro j
  rw [Nat.testBit_and, wordN_bit, wordN_bit, wordN_bit]
  by_cases hj : j < n <;> simp [hj]

theorem wordN_put (n : Nat) (T : Nat → Bool) (k : Nat) (hk : k < n) : wordN n T ||| 2 ^ k = wordN n (fun j => T j || j == k) := by
  apply Nat.eq_of_testBit_eq
  intro j
  rw [Nat.testBit_or, wordN_bit, wordN_bit, Nat.testBit_two_pow]
  by_cases hjk : j = k
  · subst hjk; simp [hk]
  · have h1 : (j == k) = false := beq_eq_false_iff_ne.2 hjk
    simp [h1, show ¬ k = j from fun e => hjk e.symm]

theorem wordN_shr (n : Nat) (T : Nat → Bool) (k : Nat) (hk : k < n) : wordN n T / 2 ^ k % 2 = if T k then 1 else 0 := by
  have h := wordN_bit n T k
  rw [Nat.testBit_eq_decide_div_mod_eq] at h
  by_cases ht : T k
  · simp [hk, ht] at h
    rw [if_pos ht]; exact h
  · simp [hk, ht] at h
    rw [if_neg ht]; exact h

/-- The i-th word of a set. -/
def word (S : Nat → Bool) (i : Nat) : Nat := wordN 64 (fun j => S (64 * i + j))
theorem word_lt (S : Nat → Bool) (i : Nat) : word S i < 18446744073709551616 := wordN_lt 64 _
theorem word_congr {S T : Nat → Bool} (h : ∀ n, n < 256 → S n = T n) (i : Nat) (hi : i < 4) : word S i = word T i := wordN_congr fun j hj => h _ (by omega)

/-- The cells of a set. -/
def bitsC (S : Nat → Bool) : List Value := [.int .u64 (word S 0), .int .u64 (word S 1), .int .u64 (word S 2), .int .u64 (word S 3)]
def bitsV (S : Nat → Bool) : Value := .agg (bitsC S).toArray
theorem bitsC_congr {S T : Nat → Bool} (h : ∀ n, n < 256 → S n = T n) : bitsC S = bitsC T := by
  unfold bitsC
  rw [word_congr h 0 (by omega), word_congr h 1 (by omega), word_congr h 2 (by omega), word_congr h 3 (by omega)]
theorem bitsC_inj {S T : Nat → Bool} (h0 : word S 0 = word T 0) (h1 : word S 1 = word T 1) (h2 : word S 2 = word T 2) (h3 : word S 3 = word T 3) : ∀ n, n < 256 → S n = T n := by
  intro n hn
  have e : n = 64 * (n / 64) + n % 64 := by omega
  rw [e]
  have hc : n / 64 = 0 ∨ n / 64 = 1 ∨ n / 64 = 2 ∨ n / 64 = 3 := by omega
  rcases hc with h | h | h | h <;> rw [h]
  · exact wordN_inj h0 _ (by omega)
  · exact wordN_inj h1 _ (by omega)
  · exact wordN_inj h2 _ (by omega)
  · exact wordN_inj h3 _ (by omega)
theorem bitsC_at (S : Nat → Bool) (q : Nat) (hq : q < 4) : (bitsC S)[q]? = some (.int .u64 (word S q)) := by
  have hc : q = 0 ∨ q = 1 ∨ q = 2 ∨ q = 3 := by omega
  rcases hc with rfl | rfl | rfl | rfl <;> rfl

def putS (S : Nat → Bool) (n : Nat) : Nat → Bool := fun k => S k || k == n

theorem word_put (S : Nat → Bool) (n : Nat) : word S (n / 64) ||| 2 ^ (n % 64) = word (putS S n) (n / 64) := by
  unfold word
  rw [wordN_put 64 _ _ (Nat.mod_lt _ (by omega))]
  refine wordN_congr fun j hj => ?_
  unfold putS
  have : (j == n % 64) = (64 * (n / 64) + j == n) := by
    rw [Bool.eq_iff_iff, beq_iff_eq, beq_iff_eq]; omega
  rw [this]
theorem word_put_other (S : Nat → Bool) (n i : Nat) (h : i ≠ n / 64) : word (putS S n) i = word S i := by
  refine wordN_congr fun j hj => ?_
  unfold putS
  have : (64 * i + j == n) = false := by rw [beq_eq_false_iff_ne]; omega
  rw [this, Bool.or_false]
theorem bitsC_put (S : Nat → Bool) (n : Nat) (hn : n < 256) : (bitsC S).set (n / 64) (.int .u64 (word (putS S n) (n / 64))) = bitsC (putS S n) := by
  apply List.ext_getElem?
  intro j
  rw [List.getElem?_set]
  by_cases hj : j < 4
  · rw [bitsC_at _ j hj, bitsC_at _ j hj]
    by_cases he : n / 64 = j
    · subst he; simp [bitsC, show n / 64 < 4 by omega]
    · rw [if_neg he, word_put_other S n j (fun e => he e.symm)]
  · rw [if_neg (by omega)]
    simp [bitsC, show ¬ j < 4 by omega]

theorem two_pow_u64 (k : Nat) (hk : k < 64) : (2 : Int) ^ k % 18446744073709551616 = ((2 ^ k : Nat) : Int) := by
  have h : (2 : Nat) ^ k < 18446744073709551616 := Nat.pow_lt_pow_right (a := 2) (m := k) (n := 64) (by decide) hk
  have e : ((2 : Int) ^ k) = ((2 ^ k : Nat) : Int) := by simp
  rw [e]
  generalize (2 : Nat) ^ k = x at h
  omega

theorem or_two_pow (x r : Nat) (hx : x < 18446744073709551616) (hr : r < 64) : bits BinOp.or IntKind.u64 (x : Int) (IntKind.u64.wrap (2 ^ r)) = ((x ||| 2 ^ r : Nat) : Int) := by
  have h : (2 : Nat) ^ r < 18446744073709551616 := Nat.pow_lt_pow_right (a := 2) (m := r) (n := 64) (by decide) hr
  rw [IntKind.wrap_u64, two_pow_u64 r hr, bits_or_u64_nat x _ hx h]

theorem bit_at (x r : Nat) (hx : x < 18446744073709551616) : (bits BinOp.and IntKind.u64 ((x : Int) / 2 ^ r) 1 == 1) = decide (x / 2 ^ r % 2 = 1) := by
  have e : ((x : Int) / 2 ^ r) = ((x / 2 ^ r : Nat) : Int) := by simp
  have hl : x / 2 ^ r < 18446744073709551616 := Nat.lt_of_le_of_lt (Nat.div_le_self _ _) hx
  have h1 := bits_and_u64_nat (x / 2 ^ r) 1 hl (by decide)
  rw [e, show (1 : Int) = ((1 : Nat) : Int) from rfl, h1, Nat.and_one_is_mod, Bool.eq_iff_iff, beq_iff_eq, decide_eq_true_iff]
  omega

theorem bit_word (S : Nat → Bool) (n : Nat) : (bits BinOp.and IntKind.u64 ((word S (n / 64) : Int) / 2 ^ (n % 64)) 1 == 1) = S n := by
  rw [bit_at _ _ (word_lt _ _), word, wordN_shr 64 _ _ (Nat.mod_lt _ (by omega)), show 64 * (n / 64) + n % 64 = n by omega]
  cases S n <;> simp

theorem and_words (S T : Nat → Bool) (k : Nat) : bits BinOp.and IntKind.u64 (word S k) (word T k) = ((wordN 64 fun j => S (64 * k + j) && T (64 * k + j) : Nat) : Int) := by
  rw [bits_and_u64_nat _ _ (word_lt _ _) (word_lt _ _)]
  unfold word
  rw [wordN_and]

theorem word_none (i : Nat) : word (fun _ => false) i = 0 := by
  apply Nat.eq_of_testBit_eq
  intro j
  rw [word, wordN_bit]
  simp

end Go.Proofs.Ytnbgpeoceejolab

namespace Go.Proofs.Ytnbgpeoceejolab
open Go.RowKit

/-- The number of a tuple's first k values, read as digits. -/
def codeK (size : Int) (xs : List Int) : Nat → Int
  | 0 => 0
  | k + 1 => codeK size xs k * size + intN xs k
def code (size : Int) (xs : List Int) : Int := codeK size xs xs.length

theorem codeK_range {size : Int} {xs : List Int} (hs : 1 ≤ size) : ∀ k, (∀ j, j < k → 0 ≤ intN xs j ∧ intN xs j < size) → 0 ≤ codeK size xs k ∧ codeK size xs k < size ^ k := by
  intro k
  induction k with
  | zero => intro _; simp [codeK]
  | succ k ih =>
    intro h
    obtain ⟨h0, h1⟩ := ih fun j hj => h j (by omega)
    obtain ⟨g0, g1⟩ := h k (by omega)
    have hm : (codeK size xs k + 1) * size ≤ size ^ k * size := Int.mul_le_mul_of_nonneg_right (by omega) (by omega)
    have hp : 0 ≤ codeK size xs k * size := Int.mul_nonneg h0 (by omega)
    rw [Int.add_mul, Int.one_mul] at hm
    rw [Int.pow_succ]
    show 0 ≤ codeK size xs k * size + intN xs k ∧ codeK size xs k * size + intN xs k < size ^ k * size
    omega

theorem pow_le_256 {size : Int} (h1 : 1 ≤ size) (h2 : size ≤ 4) (k : Nat) (hk : k ≤ 4) : size ^ k ≤ 256 := by
  have hc : size = 1 ∨ size = 2 ∨ size = 3 ∨ size = 4 := by omega
  have hd : k = 0 ∨ k = 1 ∨ k = 2 ∨ k = 3 ∨ k = 4 := by omega
  rcases hc with rfl | rfl | rfl | rfl <;> rcases hd with rfl | rfl | rfl | rfl | rfl <;> decide

theorem codeK_lt {size : Int} {xs : List Int} (h1 : 1 ≤ size) (h2 : size ≤ 4) (k : Nat) (hk : k ≤ 4) (h : ∀ j, j < k → 0 ≤ intN xs j ∧ intN xs j < size) : 0 ≤ codeK size xs k ∧ codeK size xs k < 256 := by
  have := codeK_range h1 k h
  have := pow_le_256 h1 h2 k hk
  omega

theorem codeK_inj {size : Int} {xs ys : List Int} (hs : 1 ≤ size) : ∀ k, (∀ j, j < k → 0 ≤ intN xs j ∧ intN xs j < size) → (∀ j, j < k → 0 ≤ intN ys j ∧ intN ys j < size) → codeK size xs k = codeK size ys k → ∀ j, j < k → intN xs j = intN ys j := by
  intro k
  induction k with
  | zero => intro _ _ _ j hj; omega
  | succ k ih =>
    intro h1 h2 he
    obtain ⟨a0, a1⟩ := h1 k (by omega)
    obtain ⟨b0, b1⟩ := h2 k (by omega)
    have he' : codeK size xs k * size + intN xs k = codeK size ys k * size + intN ys k := he
    have hd : codeK size xs k = codeK size ys k := by
      have e1 : (codeK size xs k * size + intN xs k) / size = codeK size xs k := by
        rw [Int.add_comm, Int.add_mul_ediv_right _ _ (by omega), Int.ediv_eq_zero_of_lt a0 a1, Int.zero_add]
      have e2 : (codeK size ys k * size + intN ys k) / size = codeK size ys k := by
        rw [Int.add_comm, Int.add_mul_ediv_right _ _ (by omega), Int.ediv_eq_zero_of_lt b0 b1, Int.zero_add]
      rw [← e1, he', e2]
    intro j hj
    by_cases hjk : j = k
    · subst hjk
      rw [hd] at he'
      omega
    · exact ih (fun j hj => h1 j (by omega)) (fun j hj => h2 j (by omega)) hd j (by omega)

theorem TupP.len {size ar : Int} {xs : List Int} (h : TupP size ar xs) (har : In14 ar) : xs.length ≤ 4 := by
  have := h.1
  have := har.2
  omega
theorem TupP.code {size ar : Int} {xs : List Int} (h : TupP size ar xs) (hs : In14 size) (har : In14 ar) : 0 ≤ code size xs ∧ Go.Proofs.Ytnbgpeoceejolab.code size xs < 256 := codeK_lt hs.1 hs.2 _ (h.len har) h.2
theorem code_inj {size ar : Int} {xs ys : List Int} (h : TupP size ar xs) (k : TupP size ar ys) (hs : In14 size) (he : code size xs = code size ys) : xs = ys := by
  have hl : xs.length = ys.length := by have := h.1; have := k.1; omega
  refine row_ext hl (codeK_inj hs.1 _ h.2 (by rw [hl]; exact k.2) ?_)
  unfold code at he
  rw [he, hl]

/-- The number of a tuple, as a number that is not negative. -/
def codeN (size : Int) (xs : List Int) : Nat := (code size xs).toNat
theorem codeN_lt {size ar : Int} {xs : List Int} (h : TupP size ar xs) (hs : In14 size) (har : In14 ar) : codeN size xs < 256 := by
  have := h.code hs har
  unfold codeN; omega
theorem codeN_cast {size ar : Int} {xs : List Int} (h : TupP size ar xs) (hs : In14 size) (har : In14 ar) : code size xs = (codeN size xs : Int) := by
  have := h.code hs har
  unfold codeN; omega
theorem codeN_inj {size ar : Int} {xs ys : List Int} (h : TupP size ar xs) (k : TupP size ar ys) (hs : In14 size) (har : In14 ar) (he : codeN size xs = codeN size ys) : xs = ys :=
  code_inj h k hs (by rw [codeN_cast h hs har, codeN_cast k hs har, he])

/-- The numbers of the first k tuples. -/
def setK (size : Int) (xss : List (List Int)) : Nat → Nat → Bool
  | 0 => fun _ => false
  | k + 1 => putS (setK size xss k) (codeN size (rowN xss k))
def setOf (size : Int) (xss : List (List Int)) : Nat → Bool := setK size xss xss.length

theorem setK_iff {size : Int} {xss : List (List Int)} (k n : Nat) : setK size xss k n = true ↔ ∃ j, j < k ∧ codeN size (rowN xss j) = n := by
  induction k with
  | zero => simp [setK]
  | succ k ih =>
    unfold setK putS
    rw [Bool.or_eq_true, ih, beq_iff_eq]
    constructor
    · rintro (⟨j, hj, he⟩ | he)
      · exact ⟨j, by omega, he⟩
      · exact ⟨k, by omega, he.symm⟩
    · rintro ⟨j, hj, he⟩
      by_cases hjk : j = k
      · subst hjk; exact .inr he.symm
      · exact .inl ⟨j, by omega, he⟩

end Go.Proofs.Ytnbgpeoceejolab

namespace Go.Proofs.Ytnbgpeoceejolab
open Go.RowKit

def HasP (xss : List (List Int)) (t : List Int) : Prop := ∃ j, j < xss.length ∧ rowN xss j = t

/-- What HasTuple answers: whether, and the code. -/
def HasIs (size ar : Int) (xss : List (List Int)) (t : List Int) (b : Bool) (c : Int) : Prop :=
  (RelOk size ar xss ∧ Tells b (HasP xss t) ∧ c = 0) ∨ (¬ RelOk size ar xss ∧ b = false ∧ c = 1)
theorem HasIs.exists (size ar : Int) (xss : List (List Int)) (t : List Int) : ∃ b c, HasIs size ar xss t b c := by
  by_cases h : RelOk size ar xss
  · by_cases k : HasP xss t
    · exact ⟨true, 0, .inl ⟨h, Tells.yes k, rfl⟩⟩
    · exact ⟨false, 0, .inl ⟨h, Tells.no k, rfl⟩⟩
  · exact ⟨false, 1, .inr ⟨h, rfl, rfl⟩⟩

theorem has_code {size ar : Int} {xss : List (List Int)} {t : List Int} (hr : RelOk size ar xss) (ht : TupP size ar t) {b : Bool} (hb : Tells b (HasP xss t)) : setOf size xss (codeN size t) = b := by
  cases b with
  | true =>
    obtain ⟨j, hj, he⟩ := hb.1 rfl
    exact (setK_iff _ _).2 ⟨j, hj, by rw [he]⟩
  | false =>
    cases hs : setOf size xss (codeN size t) with
    | false => rfl
    | true =>
      obtain ⟨j, hj, he⟩ := (setK_iff _ _).1 hs
      exact absurd (hb.2 ⟨j, hj, codeN_inj (hr.2.2 j hj).1 ht hr.1 hr.2.1 he⟩) (by simp)

end Go.Proofs.Ytnbgpeoceejolab

namespace Go.Proofs.Ytnbgpeoceejolab
open Go.RowKit

/-- The code of two relations that should be of one arity. -/
def TwoCode (size x : Int) (xs : List (List Int)) (y : Int) (ys : List (List Int)) (c : Int) : Prop :=
  (RelOk size x xs ∧ RelOk size y ys ∧ x = y ∧ c = 0) ∨ (RelOk size x xs ∧ RelOk size y ys ∧ x ≠ y ∧ c = 2) ∨ (RelOk size x xs ∧ ¬ RelOk size y ys ∧ c = 1) ∨ (¬ RelOk size x xs ∧ c = 1)
theorem TwoCode.exists (size x : Int) (xs : List (List Int)) (y : Int) (ys : List (List Int)) : ∃ c, TwoCode size x xs y ys c := by
  by_cases h1 : RelOk size x xs
  · by_cases h2 : RelOk size y ys
    · by_cases h3 : x = y
      · exact ⟨0, .inl ⟨h1, h2, h3, rfl⟩⟩
      · exact ⟨2, .inr (.inl ⟨h1, h2, h3, rfl⟩)⟩
    · exact ⟨1, .inr (.inr (.inl ⟨h1, h2, rfl⟩))⟩
  · exact ⟨1, .inr (.inr (.inr ⟨h1, rfl⟩))⟩

def PartP (xs ys : List (List Int)) : Prop := ∀ j, j < xs.length → HasP ys (rowN xs j)

/-- What IsPartOf answers. -/
def PartIs (size x : Int) (xs : List (List Int)) (y : Int) (ys : List (List Int)) (b : Bool) (c : Int) : Prop :=
  TwoCode size x xs y ys c ∧ ((c = 0 ∧ Tells b (PartP xs ys)) ∨ (c ≠ 0 ∧ b = false))
theorem PartIs.exists (size x : Int) (xs : List (List Int)) (y : Int) (ys : List (List Int)) : ∃ b c, PartIs size x xs y ys b c := by
  obtain ⟨c, hc⟩ := TwoCode.exists size x xs y ys
  by_cases h0 : c = 0
  · by_cases k : PartP xs ys
    · exact ⟨true, c, hc, .inl ⟨h0, Tells.yes k⟩⟩
    · exact ⟨false, c, hc, .inl ⟨h0, Tells.no k⟩⟩
  · exact ⟨false, c, hc, .inr ⟨h0, rfl⟩⟩
theorem TwoCode.ok {size x : Int} {xs : List (List Int)} {y : Int} {ys : List (List Int)} (h : TwoCode size x xs y ys 0) : RelOk size x xs ∧ RelOk size y ys ∧ x = y := by
  rcases h with ⟨r1, r2, hxy, _⟩ | ⟨_, _, _, h⟩ | ⟨_, _, h⟩ | ⟨_, h⟩
  · exact ⟨r1, r2, hxy⟩
  · exact absurd h (by decide)
  · exact absurd h (by decide)
  · exact absurd h (by decide)

end Go.Proofs.Ytnbgpeoceejolab

namespace Go.Proofs.Ytnbgpeoceejolab
open Go.RowKit

def SubP (S T : Nat → Bool) : Prop := ∀ n, n < 256 → S n = true → T n = true

theorem held8 {w w' w0 : World} {a0 a1 a2 a3 b0 b1 b2 b3 : Addr} {x0 x1 x2 x3 y0 y1 y2 y3 : Value}
    (h : w.cell? a0 = some x0 ∧ w.cell? a1 = some x1 ∧ w.cell? a2 = some x2 ∧ w.cell? a3 = some x3 ∧ w.cell? b0 = some y0 ∧ w.cell? b1 = some y1 ∧ w.cell? b2 = some y2 ∧ w.cell? b3 = some y3 ∧ Below w0.heap.size w0 w) (hb : Below w.heap.size w w') :
    w'.cell? a0 = some x0 ∧ w'.cell? a1 = some x1 ∧ w'.cell? a2 = some x2 ∧ w'.cell? a3 = some x3 ∧ w'.cell? b0 = some y0 ∧ w'.cell? b1 = some y1 ∧ w'.cell? b2 = some y2 ∧ w'.cell? b3 = some y3 ∧ Below w0.heap.size w0 w' :=
  ⟨below_cell hb h.1, below_cell hb h.2.1, below_cell hb h.2.2.1, below_cell hb h.2.2.2.1, below_cell hb h.2.2.2.2.1, below_cell hb h.2.2.2.2.2.1, below_cell hb h.2.2.2.2.2.2.1, below_cell hb h.2.2.2.2.2.2.2.1, h.2.2.2.2.2.2.2.2.trans (hb.mono h.2.2.2.2.2.2.2.2.size)⟩

theorem part_sets {size x : Int} {xs ys : List (List Int)} (h1 : RelOk size x xs) (h2 : RelOk size x ys) : SubP (setOf size xs) (setOf size ys) ↔ PartP xs ys := by
  constructor
  · intro h j hj
    obtain ⟨i, hi, he⟩ := (setK_iff _ _).1 (h (codeN size (rowN xs j)) (codeN_lt (h1.2.2 j hj).1 h1.1 h1.2.1) ((setK_iff _ _).2 ⟨j, hj, rfl⟩))
    exact ⟨i, hi, codeN_inj (h2.2.2 i hi).1 (h1.2.2 j hj).1 h1.1 h1.2.1 he⟩
  · intro h n _ hs
    obtain ⟨j, hj, rfl⟩ := (setK_iff _ _).1 hs
    obtain ⟨i, hi, he⟩ := h j hj
    exact (setK_iff _ _).2 ⟨i, hi, by rw [he]⟩

end Go.Proofs.Ytnbgpeoceejolab
