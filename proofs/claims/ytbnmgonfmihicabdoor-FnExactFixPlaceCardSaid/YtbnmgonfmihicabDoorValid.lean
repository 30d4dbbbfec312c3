/-
  When a relation is valid: ValidRel of the program and of its model, with what they call.
-/
import Derived.Test.YtbnmgonfmihicabDoorEq
namespace Go.Proofs.YtbnmgonfmihicabDoor
open Go.RowKit

/-- b tells whether p. -/
def Tells (b : Bool) (p : Prop) : Prop := b = true ↔ p
theorem Tells.yes {p : Prop} (h : p) : Tells true p := ⟨fun _ => h, fun _ => rfl⟩
theorem Tells.no {p : Prop} (h : ¬ p) : Tells false p := ⟨fun e => (Bool.noConfusion e), fun k => absurd k h⟩
theorem Tells.is_true {b : Bool} {p : Prop} (h : Tells b p) (k : p) : b = true := h.2 k
theorem Tells.is_false {b : Bool} {p : Prop} (h : Tells b p) (k : ¬ p) : b = false := by
  cases b with
  | false => rfl
  | true => exact absurd (h.1 rfl) k
theorem Tells.ret_true {b : Bool} {p : Prop} (h : Tells b p) (k : p) : Ending.returned (.bool true) = .returned (.bool b) := by rw [h.is_true k]
theorem Tells.ret_false {b : Bool} {p : Prop} (h : Tells b p) (k : ¬ p) : Ending.returned (.bool false) = .returned (.bool b) := by rw [h.is_false k]
theorem Tells.congr {b : Bool} {p q : Prop} (h : Tells b p) (k : p ↔ q) : Tells b q := h.trans k

def InP (n lo hi : Int) : Prop := lo ≤ n ∧ n ≤ hi

set_option maxHeartbeats 400000 in
theorem l00In (n lo hi : Int) (b : Bool) (w : World) (hb : Tells b (InP n lo hi)) :
    Calls Tryd.prog 46 #[.int .i64 n, .int .i64 lo, .int .i64 hi] w fun e w' => e = .returned (.bool b) ∧ w = w' := by
  by_cases h1 : lo ≤ n
  · by_cases h2 : n ≤ hi
    · have HB := Lib.hid (hb.is_true ⟨h1, h2⟩)
      clear hb
      go_enter Tryd.func46, Tryd.ntmps46
      go_wp2
      go_ret
      exact ⟨ret_bool HB.out.symm, rfl⟩
    · have HB := Lib.hid (hb.is_false fun h => h2 h.2)
      clear hb
      go_enter Tryd.func46, Tryd.ntmps46
      go_wp2
      go_ret
      exact ⟨ret_bool HB.out.symm, rfl⟩
  · have HB := Lib.hid (hb.is_false fun h => h1 h.1)
    clear hb
    go_enter Tryd.func46, Tryd.ntmps46
    go_wp2
    go_ret
    exact ⟨ret_bool HB.out.symm, rfl⟩

def In14 (n : Int) : Prop := 1 ≤ n ∧ n ≤ 4

set_option maxHeartbeats 400000 in
theorem isSize (n : Int) (b : Bool) (w : World) (hb : Tells b (In14 n)) :
    Calls Tryd.prog 55 #[.int .i64 n] w fun e w' => e = .returned (.bool b) ∧ w = w' := by
  by_cases h1 : 1 ≤ n
  · by_cases h2 : n ≤ 4
    · have HB := Lib.hid (hb.is_true ⟨h1, h2⟩)
      clear hb
      go_enter Tryd.func55, Tryd.ntmps55
      go_wp2
      go_ret
      exact ⟨ret_bool HB.out.symm, rfl⟩
    · have HB := Lib.hid (hb.is_false fun h => h2 h.2)
      clear hb
      go_enter Tryd.func55, Tryd.ntmps55
      go_wp2
      go_ret
      exact ⟨ret_bool HB.out.symm, rfl⟩
  · have HB := Lib.hid (hb.is_false fun h => h1 h.1)
    clear hb
    go_enter Tryd.func55, Tryd.ntmps55
    go_wp2
    go_ret
    exact ⟨ret_bool HB.out.symm, rfl⟩

set_option maxHeartbeats 400000 in
theorem isArity (n : Int) (b : Bool) (w : World) (hb : Tells b (In14 n)) :
    Calls Tryd.prog 33 #[.int .i64 n] w fun e w' => e = .returned (.bool b) ∧ w = w' := by
  by_cases h1 : 1 ≤ n
  · by_cases h2 : n ≤ 4
    · have HB := Lib.hid (hb.is_true ⟨h1, h2⟩)
      clear hb
      go_enter Tryd.func33, Tryd.ntmps33
      go_wp2
      go_ret
      exact ⟨ret_bool HB.out.symm, rfl⟩
    · have HB := Lib.hid (hb.is_false fun h => h2 h.2)
      clear hb
      go_enter Tryd.func33, Tryd.ntmps33
      go_wp2
      go_ret
      exact ⟨ret_bool HB.out.symm, rfl⟩
  · have HB := Lib.hid (hb.is_false fun h => h1 h.1)
    clear hb
    go_enter Tryd.func33, Tryd.ntmps33
    go_wp2
    go_ret
    exact ⟨ret_bool HB.out.symm, rfl⟩

set_option maxHeartbeats 400000 in
theorem l01Size (n : Int) (b : Bool) (w : World) (hb : Tells b (In14 n)) :
    Calls Tryd.prog 52 #[.int .i64 n] w fun e w' => e = .returned (.bool b) ∧ w = w' := by
  have HB := Lib.hid hb
  clear hb
  go_enter Tryd.func52, Tryd.ntmps52
  go_wp2_with fail
  refine (l00In _ _ _ b _ HB.out).mono ?_
  rintro e w' ⟨rfl, rfl⟩
  go_wp2
  go_ret
  exact ⟨rfl, rfl⟩

set_option maxHeartbeats 400000 in
theorem l01Arity (n : Int) (b : Bool) (w : World) (hb : Tells b (In14 n)) :
    Calls Tryd.prog 28 #[.int .i64 n] w fun e w' => e = .returned (.bool b) ∧ w = w' := by
  have HB := Lib.hid hb
  clear hb
  go_enter Tryd.func28, Tryd.ntmps28
  go_wp2_with fail
  refine (l00In _ _ _ b _ HB.out).mono ?_
  rintro e w' ⟨rfl, rfl⟩
  go_wp2
  go_ret
  exact ⟨rfl, rfl⟩

/-- A list is a tuple of some values. -/
def TupP (size ar : Int) (xs : List Int) : Prop := (xs.length : Int) = ar ∧ ∀ k, k < xs.length → 0 ≤ intN xs k ∧ intN xs k < size

set_option maxHeartbeats 400000 in
theorem isListBelow (v : Value) (xs : List Int) (ar size : Int) (b : Bool) (w : World) (h : RowAt w v xs) (hb : Tells b (TupP size ar xs)) :
    Calls Tryd.prog 34 #[v, .int .i64 ar, .int .i64 size] w fun e w' => e = .returned (.bool b) ∧ w = w' := by
  obtain ⟨a, c, rfl, hn, hc⟩ := h
  have HC := Lib.hid hc
  have HB := Lib.hid hb
  clear hc hb
  by_cases hl : (xs.length : Int) = ar
  · have HL := Lib.hid hl
    have hlb : ((xs.length : Int) == ar) = true := beq_iff_eq.2 hl
    clear hl
    go_enter Tryd.func34, Tryd.ntmps34
    go_wp2
    go_loop [15] (fun i => ∃ k : Nat, k ≤ xs.length ∧ i = .int .i64 k ∧ ∀ j, j < k → 0 ≤ intN xs j ∧ intN xs j < size) (fun i => xs.length - (intOf i).toNat)
    case atStart => exact ⟨0, Nat.zero_le _, rfl, fun j hj => absurd hj (Nat.not_lt_zero _)⟩
    case round =>
      obtain ⟨k, hk, rfl, hall⟩ := hrel
      have HA := Lib.hid hall
      clear hall
      by_cases hlt : k < xs.length
      · obtain ⟨b1, off1, ha1, hcell1⟩ := HC.out (by omega)
        subst ha1
        have hx1 := hcell1 k hlt
        have hlt' : (k : Int) < (xs.length : Int) := by omega
        clear hcell1
        by_cases h0 : 0 ≤ intN xs k
        · by_cases h1 : intN xs k < size
          · go_wp2
            go_round
            case rel =>
              refine ⟨k + 1, by omega, by go_num, fun j hj => ?_⟩
              by_cases hjk : j = k
              · subst hjk; exact ⟨h0, h1⟩
              · exact HA.out j (by omega)
            case measure => simp [intOf]; omega
          · have HF := Lib.hid (HB.out.is_false fun h => h1 (h.2 k hlt).2)
            go_wp2
            go_ret
            exact ⟨ret_bool HF.out.symm, rfl⟩
        · have HF := Lib.hid (HB.out.is_false fun h => h0 (h.2 k hlt).1)
          go_wp2
          go_ret
          exact ⟨ret_bool HF.out.symm, rfl⟩
      · obtain rfl : k = xs.length := by omega
        have HF := Lib.hid (HB.out.is_true ⟨HL.out, HA.out⟩)
        go_wp2
        go_ret
        exact ⟨ret_bool HF.out.symm, rfl⟩
  · have HF := Lib.hid (HB.out.is_false fun h => hl h.1)
    have hlb : ((xs.length : Int) == ar) = false := beq_eq_false_iff_ne.2 hl
    go_enter Tryd.func34, Tryd.ntmps34
    go_wp2
    go_ret
    exact ⟨ret_bool HF.out.symm, rfl⟩

set_option maxHeartbeats 400000 in
theorem l01Tuple (v : Value) (xs : List Int) (ar size : Int) (b : Bool) (w : World) (h : RowAt w v xs) (hs1 : 1 ≤ size) (hs2 : size ≤ 4) (hb : Tells b (TupP size ar xs)) :
    Calls Tryd.prog 53 #[.int .i64 size, .int .i64 ar, v] w fun e w' => e = .returned (.bool b) ∧ w = w' := by
  obtain ⟨a, c, rfl, hn, hc⟩ := h
  have HC := Lib.hid hc
  have HB := Lib.hid hb
  clear hc hb
  go_enter Tryd.func53, Tryd.ntmps53
  go_wp2
  go_loop [7] (fun i => ∃ k : Nat, k ≤ xs.length ∧ i = .int .i64 k ∧ ∀ j, j < k → 0 ≤ intN xs j ∧ intN xs j < size) (fun i => xs.length - (intOf i).toNat)
  case atStart => exact ⟨0, Nat.zero_le _, rfl, fun j hj => absurd hj (Nat.not_lt_zero _)⟩
  case round =>
    obtain ⟨k, hk, rfl, hall⟩ := hrel
    have HA := Lib.hid hall
    clear hall
    by_cases hlt : k < xs.length
    · obtain ⟨b1, off1, ha1, hcell1⟩ := HC.out (by omega)
      subst ha1
      have hx1 := hcell1 k hlt
      have hlt' : (k : Int) < (xs.length : Int) := by omega
      clear hcell1
      by_cases hin : InP (intN xs k) 0 (size - 1)
      · have HI := Lib.hid hin
        have HT := Lib.hid (Tells.yes hin)
        clear hin
        go_wp2_with (go_at_call 46; refine (l00In _ _ _ true _ HT.out).mono ?_; rintro e w' ⟨rfl, rfl⟩)
        go_round
        case rel =>
          refine ⟨k + 1, by omega, by go_num, fun j hj => ?_⟩
          by_cases hjk : j = k
          · subst hjk
            have := HI.out
            unfold InP at this
            omega
          · exact HA.out j (by omega)
        case measure => simp [intOf]; omega
      · have HF := Lib.hid (HB.out.is_false fun h => hin (by have := h.2 k hlt; unfold InP; omega))
        have HT := Lib.hid (Tells.no hin)
        clear hin
        go_wp2_with (go_at_call 46; refine (l00In _ _ _ false _ HT.out).mono ?_; rintro e w' ⟨rfl, rfl⟩)
        go_ret
        exact ⟨ret_bool HF.out.symm, rfl⟩
    · obtain rfl : k = xs.length := by omega
      by_cases hl : (xs.length : Int) = ar
      · have hlb : ((xs.length : Int) == ar) = true := beq_iff_eq.2 hl
        have HF := Lib.hid (HB.out.is_true ⟨hl, HA.out⟩)
        clear hl
        go_wp2
        go_ret
        exact ⟨ret_bool HF.out.symm, rfl⟩
      · have hlb : ((xs.length : Int) == ar) = false := beq_eq_false_iff_ne.2 hl
        have HF := Lib.hid (HB.out.is_false fun h => hl h.1)
        clear hl
        go_wp2
        go_ret
        exact ⟨ret_bool HF.out.symm, rfl⟩

end Go.Proofs.YtbnmgonfmihicabDoor
