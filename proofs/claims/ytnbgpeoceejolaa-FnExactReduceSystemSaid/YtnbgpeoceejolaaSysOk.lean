/-
  ValidSystem of the model and of the program.
-/
import Derived.Test.YtnbgpeoceejolaaSys
import Derived.Test.YtnbgpeoceejolaaAffine
namespace Go.Proofs.Ytnbgpeoceejolaa
open Go.RowKit

def PrimeP (p : Int) : Prop := p = 2 ∨ p = 3
def EqnOk (p u r : Int) (row : List Int) : Prop := (row.length : Int) = u ∧ InP r 0 (p - 1) ∧ ∀ k, k < row.length → InP (intN row k) 0 (p - 1)
def SysOk (p u : Int) (rs : List (Int × List Int)) : Prop := PrimeP p ∧ InP u 1 12 ∧ rs.length ≤ 24 ∧ ∀ k, k < rs.length → EqnOk p u (arO rs k) (rowO rs k)

set_option linter.unusedSimpArgs false in
set_option maxHeartbeats 1000000 in
set_option maxRecDepth 100000 in
theorem l07Equation (p u r : Int) (pb po : Nat) (row : List Int) (bb : Bool) (w : World) (h : EqnAt w pb po r row) (hp : PrimeP p) (hb : Tells bb (EqnOk p u r row)) :
    Calls Try.prog 132 #[.int .i64 p, .int .i64 u, .pointer (some ⟨pb, po, none⟩)] w fun e w' => e = .returned (.bool bb) ∧ w = w' := by
  obtain ⟨c1, a, n, c, c0, hr⟩ := h
  obtain rfl : n = row.length := by obtain ⟨_, _, he, _⟩ := hr; simp only [Value.slice.injEq] at he; exact he.2.1
  have HBG : Hid (row.length ≤ 9223372036854775807) := Lib.hid (by obtain ⟨_, _, _, hn, _⟩ := hr; exact hn)
  have hp2 : 2 ≤ p := by rcases hp with rfl | rfl <;> decide
  have hp3 : p ≤ 3 := by rcases hp with rfl | rfl <;> decide
  have HR := Lib.hid hr
  have HB := Lib.hid hb
  clear hr hb hp
  by_cases hl : (row.length : Int) = u
  case neg =>
    have hle : ((row.length : Int) != u) = true := bne_iff_ne.2 hl
    have HF := Lib.hid (HB.out.is_false fun h => hl h.1)
    clear hl
    go_enter Try.func132, Try.ntmps132
    go_wp2
    go_ret
    exact ⟨ret_bool HF.out.symm, rfl⟩
  subst hl
  have hle : ((row.length : Int) != (row.length : Int)) = false := by simp
  by_cases hi : InP r 0 (p - 1)
  case neg =>
    have HI := Lib.hid (Tells.no hi)
    have HF := Lib.hid (HB.out.is_false fun h => hi h.2.1)
    clear hi
    go_enter Try.func132, Try.ntmps132
    go_wp2_with fail
    refine (l00In _ _ _ false _ HI.out).mono ?_
    rintro e w2 ⟨rfl, rfl⟩
    go_wp2
    go_ret
    exact ⟨ret_bool HF.out.symm, rfl⟩
  have HI := Lib.hid (Tells.yes hi)
  have HII := Lib.hid hi
  clear hi
  go_enter Try.func132, Try.ntmps132
  go_wp2_with fail
  refine (l00In _ _ _ true _ HI.out).mono ?_
  rintro e w2 ⟨rfl, rfl⟩
  go_wp2
  go_loop [7] (fun i => ∃ k : Nat, k ≤ row.length ∧ i = .int .i64 (k : Int) ∧ ∀ j, j < k → InP (intN row j) 0 (p - 1)) (fun i => row.length - (intOf i).toNat)
  case atStart => exact ⟨0, Nat.zero_le _, rfl, fun j hj => absurd hj (Nat.not_lt_zero _)⟩
  case round =>
    obtain ⟨k, hk, rfl, hall⟩ := hrel
    have HL := Lib.hid hall
    clear hall
    by_cases hlt : k < row.length
    case neg =>
      obtain rfl : k = row.length := by omega
      have HF := Lib.hid (HB.out.is_true ⟨rfl, HII.out, HL.out⟩)
      go_wp2
      go_ret
      exact ⟨ret_bool HF.out.symm, rfl⟩
    have hlt' : (k : Int) < (row.length : Int) := by omega
    have hbk : (k : Int) + 1 ≤ 9223372036854775807 := by have := HBG.out; omega
    obtain ⟨b3, off, rfl, _, hc3⟩ := SlAt.some_of HR.out k hlt
    obtain ⟨x, hx⟩ : ∃ x, intN row k = x := ⟨_, rfl⟩
    have HX := Lib.hid hx
    rw [hx] at hc3
    clear hx
    by_cases hin : InP x 0 (p - 1)
    · have HTH : Hid (InP (intN row k) 0 (p - 1)) := Lib.hid (by rw [HX.out]; exact hin)
      have HJ := Lib.hid (Tells.yes hin)
      clear hin
      go_wp2_with fail
      refine (l00In _ _ _ true _ HJ.out).mono ?_
      rintro e w3 ⟨rfl, rfl⟩
      go_wp2
      go_round
      case rel =>
        refine ⟨k + 1, by omega, by go_num, fun j hj => ?_⟩
        by_cases hjk : j = k
        · subst hjk; exact HTH.out
        · exact HL.out j (by omega)
      case measure => simp [intOf]; omega
    · have HJ := Lib.hid (Tells.no hin)
      have HF := Lib.hid (HB.out.is_false fun h => hin (by have := h.2.2 k hlt; rwa [HX.out] at this))
      clear hin
      go_wp2_with fail
      refine (l00In _ _ _ false _ HJ.out).mono ?_
      rintro e w3 ⟨rfl, rfl⟩
      go_wp2
      go_ret
      exact ⟨ret_bool HF.out.symm, rfl⟩

set_option linter.unusedSimpArgs false in
set_option maxHeartbeats 1000000 in
set_option maxRecDepth 100000 in
theorem l07Ok (p u : Int) (pb po : Nat) (rs : List (Int × List Int)) (bb : Bool) (w : World) (h : SysAt w pb po p u rs) (hb : Tells bb (SysOk p u rs)) :
    Calls Try.prog 72 #[.pointer (some ⟨pb, po, none⟩)] w fun e w' => e = .returned (.bool bb) ∧ QW w w' := by
  have HS := Lib.hid h
  obtain ⟨c0, c1, a, n, c, c2, a', c', hv, hn, hc⟩ := h
  simp only [Value.slice.injEq] at hv
  obtain ⟨rfl, rfl, rfl⟩ := hv
  have HC := Lib.hid hc
  have HB := Lib.hid hb
  clear hc hb
  by_cases hp : PrimeP p
  case neg =>
    have HP := Lib.hid (Tells.no hp : Tells false (p = 2 ∨ p = 3))
    have HF := Lib.hid (HB.out.is_false fun h => hp h.1)
    clear hp
    go_enter Try.func72, Try.ntmps72
    go_wp2_with fail
    refine (l07PrimeC _ false _ HP.out).mono ?_
    rintro e w2 ⟨rfl, rfl⟩
    go_wp2
    go_ret
    exact ⟨ret_bool HF.out.symm, QW.refl _⟩
  have HP := Lib.hid (Tells.yes hp : Tells true (p = 2 ∨ p = 3))
  have HPP := Lib.hid hp
  clear hp
  by_cases hu : InP u 1 12
  case neg =>
    have HU := Lib.hid (Tells.no hu)
    have HF := Lib.hid (HB.out.is_false fun h => hu h.2.1)
    clear hu
    go_enter Try.func72, Try.ntmps72
    go_wp2_with fail
    refine (l07PrimeC _ true _ HP.out).mono ?_
    rintro e w2 ⟨rfl, rfl⟩
    go_wp2_with fail
    refine (l00In _ _ _ false _ HU.out).mono ?_
    rintro e w3 ⟨rfl, rfl⟩
    go_wp2
    go_ret
    exact ⟨ret_bool HF.out.symm, QW.refl _⟩
  have HU := Lib.hid (Tells.yes hu)
  have HUU := Lib.hid hu
  clear hu
  by_cases hl : rs.length ≤ 24
  case neg =>
    have hl' : ¬ (rs.length : Int) ≤ 24 := by omega
    have hl2 : (rs.length : Int) > 24 := by omega
    have HF := Lib.hid (HB.out.is_false fun h => hl h.2.2.1)
    clear hl hl'
    go_enter Try.func72, Try.ntmps72
    go_wp2_with fail
    refine (l07PrimeC _ true _ HP.out).mono ?_
    rintro e w2 ⟨rfl, rfl⟩
    go_wp2_with fail
    refine (l00In _ _ _ true _ HU.out).mono ?_
    rintro e w3 ⟨rfl, rfl⟩
    go_wp2
    go_ret
    exact ⟨ret_bool HF.out.symm, QW.refl _⟩
  have hl2 : ¬ (rs.length : Int) > 24 := by omega
  have HL24 := Lib.hid hl
  clear hl
  go_enter Try.func72, Try.ntmps72
  go_wp2_with fail
  refine (l07PrimeC _ true _ HP.out).mono ?_
  rintro e w2 ⟨rfl, rfl⟩
  go_wp2_with fail
  refine (l00In _ _ _ true _ HU.out).mono ?_
  rintro e w3 ⟨rfl, rfl⟩
  go_wp2
  clear hl2
  go_loopw [3] (fun i wr => ∃ k : Nat, k ≤ rs.length ∧ i = .int .i64 (k : Int) ∧ (∀ j, j < k → EqnOk p u (arO rs j) (rowO rs j)) ∧ QW w wr) (fun i _ => rs.length - (intOf i).toNat)
  case atStart => exact ⟨0, Nat.zero_le _, rfl, fun j hj => absurd hj (Nat.not_lt_zero _), QW.refl _⟩
  case round =>
    obtain ⟨k, hk, rfl, hall, hq⟩ := hrel
    have HL := Lib.hid hall
    have HQ := Lib.hid hq
    have e0 := HQ.out.cell c0
    have e1 := HQ.out.cell c1
    have e2 := HQ.out.cell c2
    have hlen := HL24.out
    clear hall hq
    by_cases hlt : k < rs.length
    case neg =>
      obtain rfl : k = rs.length := by omega
      have HF := Lib.hid (HB.out.is_true ⟨HPP.out, HUU.out, HL24.out, HL.out⟩)
      go_wp2
      go_ret
      exact ⟨ret_bool HF.out.symm, HQ.out⟩
    have hlt' : (k : Int) < (rs.length : Int) := by omega
    obtain ⟨b1, off1, ha1, hcell⟩ := HC.out (by omega)
    subst ha1
    have HE := Lib.hid ((hcell k hlt).below HQ.out.bel)
    clear hcell
    by_cases hok : EqnOk p u (arO rs k) (rowO rs k)
    · have HT := Lib.hid (Tells.yes hok)
      have HTH := Lib.hid hok
      clear hok
      go_wp2
      go_quiet ((go_at_call 132; exact QW.calls_same (l07Equation _ _ _ _ _ _ true _ (HE.out.below (((QW.refl _).drewN _).bel)) HPP.out HT.out)))
      go_wp2
      go_roundw
      case rel =>
        refine ⟨k + 1, by omega, by go_num, fun j hj => ?_, HQ.out.drewN _⟩
        by_cases hjk : j = k
        · subst hjk; exact HTH.out
        · exact HL.out j (by omega)
      case measure => simp [intOf]; omega
    · have HT := Lib.hid (Tells.no hok)
      have HF := Lib.hid (HB.out.is_false fun h => hok (h.2.2.2 k hlt))
      clear hok
      go_wp2
      go_quiet ((go_at_call 132; exact QW.calls_same (l07Equation _ _ _ _ _ _ false _ (HE.out.below (((QW.refl _).drewN _).bel)) HPP.out HT.out)))
      go_wp2
      go_ret
      exact ⟨ret_bool HF.out.symm, HQ.out.drewN _⟩

/-- What ValidSystem answers. -/
def ValidSystemIs (p u : Int) (rs : List (Int × List Int)) (b : Bool) : Prop := Tells b (SysOk p u rs)
theorem ValidSystemIs.exists (p u : Int) (rs : List (Int × List Int)) : ∃ b, ValidSystemIs p u rs b := by
  by_cases h : SysOk p u rs
  · exact ⟨true, Tells.yes h⟩
  · exact ⟨false, Tells.no h⟩

set_option linter.unusedSimpArgs false in
set_option maxHeartbeats 1000000 in
set_option maxRecDepth 100000 in
theorem isEquationC (p u r : Int) (a : Option Addr) (n c : Nat) (row : List Int) (b : Bool) (w : World) (h : RowAt w (.slice a n c) row) (hb : Tells b (EqnOk p u r row)) :
    Calls Try.prog 97 #[.int .i64 p, .int .i64 u, .agg #[.slice a n c, .int .i64 r]] w fun e w' => e = .returned (.bool b) ∧ Below w.heap.size w w' := by
  have HW : Hid (Below w.heap.size w (w.alloc (.cells #[.slice a n c, .int .i64 r] 46))) := Lib.hid ((Below.refl _ _).alloc (Nat.le_refl _) _)
  have HBX := Lib.hid (Box.new 46 w #[.slice a n c, .int .i64 r])
  have HR := Lib.hid (h.below HW.out)
  have c0 := HBX.out.c 0 rfl
  have c1 := HBX.out.c 1 rfl
  have HB := Lib.hid hb
  clear h hb
  by_cases ht : TupP p u row
  case neg =>
    have HT := Lib.hid (Tells.no ht)
    have HF := Lib.hid (HB.out.is_false fun h => ht ⟨h.1, fun j hj => ⟨(h.2.2 j hj).1, by have := (h.2.2 j hj).2; omega⟩⟩)
    clear ht
    go_enter Try.func97, Try.ntmps97
    go_wp2_with fail
    refine (isListBelow _ row _ _ false _ HR.out HT.out).mono ?_
    rintro e w4 ⟨rfl, rfl⟩
    go_wp2
    go_ret
    exact ⟨ret_bool HF.out.symm, HW.out⟩
  have HT := Lib.hid (Tells.yes ht)
  have HTT := Lib.hid ht
  clear ht
  by_cases hr0 : 0 ≤ r
  case neg =>
    have hr1 : decide (0 ≤ r) = false := by simpa using hr0
    have HF := Lib.hid (HB.out.is_false fun h => hr0 h.2.1.1)
    clear hr0
    go_enter Try.func97, Try.ntmps97
    go_wp2_with fail
    refine (isListBelow _ row _ _ true _ HR.out HT.out).mono ?_
    rintro e w4 ⟨rfl, rfl⟩
    go_wp2
    go_ret
    exact ⟨ret_bool HF.out.symm, HW.out⟩
  by_cases hr2 : r < p
  case neg =>
    have hr1 : decide (r < p) = false := by simpa using hr2
    have HF := Lib.hid (HB.out.is_false fun h => by have := h.2.1.2; omega)
    clear hr2
    go_enter Try.func97, Try.ntmps97
    go_wp2_with fail
    refine (isListBelow _ row _ _ true _ HR.out HT.out).mono ?_
    rintro e w4 ⟨rfl, rfl⟩
    go_wp2
    go_ret
    exact ⟨ret_bool HF.out.symm, HW.out⟩
  have HF := Lib.hid (HB.out.is_true ⟨HTT.out.1, ⟨hr0, by omega⟩, fun j hj => ⟨(HTT.out.2 j hj).1, by have := (HTT.out.2 j hj).2; omega⟩⟩)
  go_enter Try.func97, Try.ntmps97
  go_wp2_with fail
  refine (isListBelow _ row _ _ true _ HR.out HT.out).mono ?_
  rintro e w4 ⟨rfl, rfl⟩
  go_wp2
  go_ret
  exact ⟨ret_bool HF.out.symm, HW.out⟩

set_option linter.unusedSimpArgs false in
set_option maxHeartbeats 1000000 in
set_option maxRecDepth 100000 in
theorem implValidSystem (p u : Int) (a : Option Addr) (n c : Nat) (rs : List (Int × List Int)) (b : Bool) (w : World) (h : EqsAt w (.slice a n c) rs) (hi : ValidSystemIs p u rs b) :
    Calls Try.prog 75 #[.agg #[.int .i64 p, .int .i64 u, .slice a n c]] w fun e w' => e = .returned (.bool b) ∧ Below w.heap.size w w' := by
  have HW : Hid (Below w.heap.size w (w.alloc (.cells #[.int .i64 p, .int .i64 u, .slice a n c] 30))) := Lib.hid ((Below.refl _ _).alloc (Nat.le_refl _) _)
  have HBX := Lib.hid (Box.new 30 w #[.int .i64 p, .int .i64 u, .slice a n c])
  have HE0 := Lib.hid (h.below HW.out)
  obtain ⟨a', c', hv, hn, hc⟩ := h
  simp only [Value.slice.injEq] at hv
  obtain ⟨rfl, rfl, rfl⟩ := hv
  have HC := Lib.hid hc
  have HB := Lib.hid (hi : Tells b (SysOk p u rs))
  have c0 := HBX.out.c 0 rfl
  have c1 := HBX.out.c 1 rfl
  have c2 := HBX.out.c 2 rfl
  clear hc hi
  by_cases hp : PrimeP p
  case neg =>
    have HP := Lib.hid (Tells.no hp : Tells false (p = 2 ∨ p = 3))
    have HF := Lib.hid (HB.out.is_false fun h => hp h.1)
    clear hp
    go_enter Try.func75, Try.ntmps75
    go_wp2_with fail
    refine (isPrimeC _ false _ HP.out).mono ?_
    rintro e w2 ⟨rfl, rfl⟩
    go_wp2
    go_ret
    exact ⟨ret_bool HF.out.symm, HW.out⟩
  have HP := Lib.hid (Tells.yes hp : Tells true (p = 2 ∨ p = 3))
  have HPP := Lib.hid hp
  have hp2 : 2 ≤ p := by rcases hp with rfl | rfl <;> decide
  have hp3 : p ≤ 3 := by rcases hp with rfl | rfl <;> decide
  clear hp
  by_cases hu1 : u < 1
  · have HF := Lib.hid (HB.out.is_false fun h => by have := h.2.1.1; omega)
    go_enter Try.func75, Try.ntmps75
    go_wp2_with fail
    refine (isPrimeC _ true _ HP.out).mono ?_
    rintro e w2 ⟨rfl, rfl⟩
    go_wp2
    go_ret
    exact ⟨ret_bool HF.out.symm, HW.out⟩
  by_cases hu2 : u > 12
  · have HF := Lib.hid (HB.out.is_false fun h => by have := h.2.1.2; omega)
    go_enter Try.func75, Try.ntmps75
    go_wp2_with fail
    refine (isPrimeC _ true _ HP.out).mono ?_
    rintro e w2 ⟨rfl, rfl⟩
    go_wp2
    go_ret
    exact ⟨ret_bool HF.out.symm, HW.out⟩
  by_cases hl : (rs.length : Int) > 24
  · have HF := Lib.hid (HB.out.is_false fun h => by have := h.2.2.1; omega)
    go_enter Try.func75, Try.ntmps75
    go_wp2_with fail
    refine (isPrimeC _ true _ HP.out).mono ?_
    rintro e w2 ⟨rfl, rfl⟩
    go_wp2
    go_ret
    exact ⟨ret_bool HF.out.symm, HW.out⟩
  have HL24 : Hid (rs.length ≤ 24) := Lib.hid (by omega)
  have HUU : Hid (InP u 1 12) := Lib.hid ⟨by omega, by omega⟩
  go_enter Try.func75, Try.ntmps75
  go_wp2_with fail
  refine (isPrimeC _ true _ HP.out).mono ?_
  rintro e w2 ⟨rfl, rfl⟩
  go_wp2
  clear hu1 hu2 hl c0 c1 c2
  go_loopw [28] (fun i wr => ∃ k : Nat, k ≤ rs.length ∧ i = .int .i64 (k : Int) ∧ (∀ j, j < k → EqnOk p u (arO rs j) (rowO rs j)) ∧ Below (w.alloc (.cells #[.int .i64 p, .int .i64 u, .slice a rs.length c] 30)).heap.size (w.alloc (.cells #[.int .i64 p, .int .i64 u, .slice a rs.length c] 30)) wr) (fun i _ => rs.length - (intOf i).toNat)
  case atStart => exact ⟨0, Nat.zero_le _, rfl, fun j hj => absurd hj (Nat.not_lt_zero _), Below.refl _ _⟩
  case round =>
    obtain ⟨k, hk, rfl, hall, hbel⟩ := hrel
    have HL := Lib.hid hall
    have HQ := Lib.hid hbel
    have HBr := Lib.hid (HBX.out.below HQ.out)
    have hlen := HL24.out
    clear hall hbel
    by_cases hlt : k < rs.length
    case neg =>
      obtain rfl : k = rs.length := by omega
      have HF := Lib.hid (HB.out.is_true ⟨HPP.out, HUU.out, HL24.out, HL.out⟩)
      go_wp2
      go_ret
      exact ⟨ret_bool HF.out.symm, HW.out.trans (HQ.out.mono HW.out.size)⟩
    have hlt' : (k : Int) < (rs.length : Int) := by omega
    obtain ⟨a5, c5, hv5, -, hc5⟩ := HE0.out.below HQ.out
    simp only [Value.slice.injEq] at hv5
    obtain ⟨rfl, -, rfl⟩ := hv5
    obtain ⟨b1, off1, rfl, hcell⟩ := hc5 (by omega)
    obtain ⟨g1, A1, N1, C1, g0, hr1⟩ := hcell k hlt
    obtain ⟨r, hr⟩ : ∃ r, arO rs k = r := ⟨_, rfl⟩
    obtain ⟨row, hrow⟩ : ∃ row, rowO rs k = row := ⟨_, rfl⟩
    rw [hr] at g1
    rw [hrow] at hr1
    have HR1 := Lib.hid hr1
    have HRE := Lib.hid hr
    have HRW := Lib.hid hrow
    have c0 := HBr.out.c 0 rfl
    have c1 := HBr.out.c 1 rfl
    have HAL := Lib.hid ((Below.refl wr.heap.size wr).alloc (Nat.le_refl _) (.cells #[.slice A1 N1 C1, .int .i64 r] 46))
    have c0a := below_cell HAL.out c0
    have c1a := below_cell HAL.out c1
    clear hcell hc5 hr1 hr hrow
    have HQA := Lib.hid (HQ.out.trans (HAL.out.mono HQ.out.size))
    by_cases hok : EqnOk p u r row
    case neg =>
      have HT := Lib.hid (Tells.no hok)
      have HF := Lib.hid (HB.out.is_false fun h => hok (by
        have := h.2.2.2 k hlt
        rwa [HRE.out, HRW.out] at this))
      clear hok
      go_wp2_with fail
      refine (isEquationC _ _ _ _ _ _ row false _ (HR1.out.below HAL.out) HT.out).mono ?_
      rintro e w4 ⟨rfl, hb4⟩
      have HQ4 := Lib.hid (HQA.out.trans (hb4.mono HQA.out.size))
      clear hb4
      go_wp2
      go_ret
      exact ⟨ret_bool HF.out.symm, HW.out.trans (HQ4.out.mono HW.out.size)⟩
    have HT := Lib.hid (Tells.yes hok)
    have HTH : Hid (EqnOk p u (arO rs k) (rowO rs k)) := Lib.hid (by rw [HRE.out, HRW.out]; exact hok)
    clear hok
    go_wp2_with fail
    refine (isEquationC _ _ _ _ _ _ row true _ (HR1.out.below HAL.out) HT.out).mono ?_
    rintro e w4 ⟨rfl, hb4⟩
    have HQ4 := Lib.hid (HQA.out.trans (hb4.mono HQA.out.size))
    clear hb4
    go_wp2
    go_roundw
    case rel =>
      refine ⟨k + 1, by omega, by go_num, fun j hj => ?_, HQ4.out⟩
      by_cases hjk : j = k
      · subst hjk; exact HTH.out
      · exact HL.out j (by omega)
    case measure => simp [intOf]; omega

end Go.Proofs.Ytnbgpeoceejolaa
