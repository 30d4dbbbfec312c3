/-
  Valid operations: ValidOp and SameOp of the model and of the program.
-/
import Derived.Test.YtnbgpeoceejolaaOp
namespace Go.Proofs.Ytnbgpeoceejolaa
open Go.RowKit

def In13 (n : Int) : Prop := 1 ≤ n ∧ n ≤ 3
/-- An operation of a size. -/
def OpOk (size ar : Int) (xs : List Int) : Prop := In14 size ∧ In13 ar ∧ TupP size ((size.toNat ^ ar.toNat : Nat) : Int) xs

/-- An operation lies behind a pointer. -/
structure OpAt (w : World) (b o : Nat) (ar : Int) (xs : List Int) : Prop where
  arity : w.cell? ⟨b, o, none⟩ = some (.int .i64 ar)
  row : ∃ a n c, w.cell? ⟨b, o + 1, none⟩ = some (.slice a n c) ∧ RowAt w (.slice a n c) xs

theorem OpAt.below {w w' : World} {b o : Nat} {ar : Int} {xs : List Int} (h : OpAt w b o ar xs) (hb : Below w.heap.size w w') : OpAt w' b o ar xs := by
  obtain ⟨h1, a, n, c, h2, h3⟩ := h
  exact ⟨below_cell hb h1, a, n, c, below_cell hb h2, h3.below hb⟩

theorem OpAt.new (w : World) (ar : Int) (a : Option Addr) (n c : Nat) (xs : List Int) (t : TypeId) (h : RowAt w (.slice a n c) xs) : OpAt (w.alloc (.cells #[.int .i64 ar, .slice a n c] t)) w.heap.size 0 ar xs :=
  ⟨by simp [World.cell?_alloc_new], a, n, c, by simp [World.cell?_alloc_new], h.below ((Below.refl _ _).alloc (Nat.le_refl _) _)⟩

set_option maxHeartbeats 400000 in
theorem isOpArity (n : Int) (b : Bool) (w : World) (hb : Tells b (In13 n)) :
    Calls Try.prog 178 #[.int .i64 n] w fun e w' => e = .returned (.bool b) ∧ w = w' := by
  by_cases h1 : 1 ≤ n
  · by_cases h2 : n ≤ 3
    · have HB := Lib.hid (hb.is_true ⟨h1, h2⟩)
      clear hb
      go_enter Try.func178, Try.ntmps178
      go_wp2
      go_ret
      exact ⟨ret_bool HB.out.symm, rfl⟩
    · have HB := Lib.hid (hb.is_false fun h => h2 h.2)
      clear hb
      go_enter Try.func178, Try.ntmps178
      go_wp2
      go_ret
      exact ⟨ret_bool HB.out.symm, rfl⟩
  · have HB := Lib.hid (hb.is_false fun h => h1 h.1)
    clear hb
    go_enter Try.func178, Try.ntmps178
    go_wp2
    go_ret
    exact ⟨ret_bool HB.out.symm, rfl⟩

set_option maxHeartbeats 400000 in
theorem l02Arity (n : Int) (b : Bool) (w : World) (hb : Tells b (In13 n)) :
    Calls Try.prog 202 #[.int .i64 n] w fun e w' => e = .returned (.bool b) ∧ w = w' := by
  have HB := Lib.hid hb
  clear hb
  go_enter Try.func202, Try.ntmps202
  go_wp2_with fail
  refine (l00In _ _ _ b _ HB.out).mono ?_
  rintro e w' ⟨rfl, rfl⟩
  go_wp2
  go_ret
  exact ⟨rfl, rfl⟩

set_option maxHeartbeats 1000000 in
theorem implValidOp (size : Int) (ar : Int) (a : Option Addr) (n c : Nat) (xs : List Int) (b : Bool) (w : World) (h : RowAt w (.slice a n c) xs) (hb : Tells b (OpOk size ar xs)) :
    Calls Try.prog 128 #[.int .i64 size, .agg #[.int .i64 ar, .slice a n c]] w fun e w' => e = .returned (.bool b) ∧ Below w.heap.size w w' := by
  have HBW := Lib.hid ((Below.refl w.heap.size w).alloc (Nat.le_refl _) (.cells #[.int .i64 ar, .slice a n c] 96))
  have HR := Lib.hid (h.below HBW.out)
  have HB := Lib.hid hb
  clear h hb
  by_cases hs : In14 size
  · by_cases har : In13 ar
    · obtain ⟨s, rfl⟩ : ∃ s : Nat, size = s := ⟨size.toNat, by have := hs.1; omega⟩
      obtain ⟨k, rfl⟩ : ∃ k : Nat, ar = k := ⟨ar.toNat, by have := har.1; omega⟩
      have hs1 : 1 ≤ s := by have := hs.1; omega
      have hs2 : s ≤ 4 := by have := hs.2; omega
      have hk : k ≤ 4 := by have := har.2; omega
      have HS := Lib.hid (Tells.yes hs)
      have HA := Lib.hid (Tells.yes har)
      have HT : Hid (Tells b (TupP s ((s ^ k : Nat) : Int) xs)) := Lib.hid (HB.out.congr ⟨fun h => by simpa using h.2.2, fun h => ⟨hs, har, by simpa using h⟩⟩)
      clear hs har
      go_enter Try.func128, Try.ntmps128
      go_wp2
      go_quiet ((first | (go_at_call 158; exact QW.calls_same (isSize _ true _ HS.out)) | (go_at_call 178; exact QW.calls_same (isOpArity _ true _ HA.out)) | (go_at_call 139; exact QW.calls_same (tupleCount _ _ hs1 hs2 hk _)) | (go_at_call 145; exact QW.calls_same (isListBelow _ _ _ _ b _ (((QW.refl _).drewN _).row HR.out) HT.out))))
      go_wp2
      go_ret
      exact ⟨rfl, ((QW.refl _).drewN _ |>.below _ |> HBW.out.trans)⟩
    · have HF := Lib.hid (HB.out.is_false fun h => har h.2.1)
      have HS := Lib.hid (Tells.yes hs)
      have HA := Lib.hid (Tells.no har)
      clear hs har
      go_enter Try.func128, Try.ntmps128
      go_wp2
      go_quiet ((first | (go_at_call 158; exact QW.calls_same (isSize _ true _ HS.out)) | (go_at_call 178; exact QW.calls_same (isOpArity _ false _ HA.out))))
      go_wp2
      go_ret
      exact ⟨ret_bool HF.out.symm, ((QW.refl _).drewN _ |>.below _ |> HBW.out.trans)⟩
  · have HF := Lib.hid (HB.out.is_false fun h => hs h.1)
    have HS := Lib.hid (Tells.no hs)
    clear hs
    go_enter Try.func128, Try.ntmps128
    go_wp2
    go_quiet ((first | (go_at_call 158; exact QW.calls_same (isSize _ false _ HS.out))))
    go_wp2
    go_ret
    exact ⟨ret_bool HF.out.symm, ((QW.refl _).drewN _ |>.below _ |> HBW.out.trans)⟩

theorem l01Power' (size ar p : Nat) (h1 : 1 ≤ size) (h2 : size ≤ 4) (h4 : ar ≤ 4) (hp : size ^ ar = p) (w : World) :
    Calls Try.prog 138 #[.int .i64 size, .int .i64 ar] w fun e w' => e = .returned (.int .i64 (p : Int)) ∧ w = w' := hp ▸ l01Power size ar h1 h2 h4 w

set_option maxHeartbeats 1000000 in
set_option maxRecDepth 100000 in
theorem l02Ok (size : Int) (pb po : Nat) (ar : Int) (xs : List Int) (b : Bool) (w : World) (h : OpAt w pb po ar xs) (hb : Tells b (OpOk size ar xs)) :
    Calls Try.prog 174 #[.int .i64 size, .pointer (some ⟨pb, po, none⟩)] w fun e w' => e = .returned (.bool b) ∧ QW w w' := by
  obtain ⟨hp0, a, n, c, hp1, a', c', hv, hn, hc⟩ := h
  simp only [Value.slice.injEq] at hv
  obtain ⟨rfl, rfl, rfl⟩ := hv
  have HC := Lib.hid hc
  have HB := Lib.hid hb
  clear hc hb
  by_cases hs : In14 size
  · by_cases har : In13 ar
    · obtain ⟨s, rfl⟩ : ∃ s : Nat, size = s := ⟨size.toNat, by have := hs.1; omega⟩
      obtain ⟨k, rfl⟩ : ∃ k : Nat, ar = k := ⟨ar.toNat, by have := har.1; omega⟩
      have hs1 : 1 ≤ s := by have := hs.1; omega
      have hs2 : s ≤ 4 := by have := hs.2; omega
      have hk : k ≤ 4 := by have := har.2; omega
      have HS := Lib.hid (Tells.yes hs)
      have HA := Lib.hid (Tells.yes har)
      have HT : Hid (Tells b (TupP s ((s ^ k : Nat) : Int) xs)) := Lib.hid (HB.out.congr ⟨fun h => by simpa using h.2.2, fun h => ⟨hs, har, by simpa using h⟩⟩)
      clear hs har HB
      obtain ⟨p, hp⟩ : ∃ p : Nat, s ^ k = p := ⟨_, rfl⟩
      have HP := Lib.hid hp
      rw [hp] at HT
      clear hp
      by_cases hl : xs.length = p
      · have hlb' : ((xs.length : Int) != (p : Int)) = false := by simp [hl]
        have hlb : ((xs.length : Int) == (p : Int)) = true := by simp [hl]
        have HL := Lib.hid hl
        clear hl
        go_enter Try.func174, Try.ntmps174
        go_wp2
        go_quiet ((first | (go_at_call 153; exact QW.calls_same (l01Size _ true _ HS.out)) | (go_at_call 202; exact QW.calls_same (l02Arity _ true _ HA.out)) | (go_at_call 138; exact QW.calls_same (l01Power' _ _ _ hs1 hs2 hk HP.out _))))
        go_wp2
        go_loopw [5] (fun i wr => ∃ j : Nat, j ≤ xs.length ∧ i = .int .i64 j ∧ (∀ m, m < j → 0 ≤ intN xs m ∧ intN xs m < (s : Int)) ∧ QW w wr) (fun i _ => xs.length - (intOf i).toNat)
        case atStart => exact ⟨0, Nat.zero_le _, rfl, fun j hj => absurd hj (Nat.not_lt_zero _), (QW.refl _).drewN _⟩
        case round =>
          obtain ⟨j, hj, rfl, hall, hq⟩ := hrel
          have HAL := Lib.hid hall
          have HQ := Lib.hid hq
          have hq0 := HQ.out.cell hp0
          have hq1 := HQ.out.cell hp1
          clear hall hq
          by_cases hlt : j < xs.length
          · obtain ⟨b1, off1, ha1, hcell1⟩ := HC.out (by omega)
            subst ha1
            have hx1 := HQ.out.cell (hcell1 j hlt)
            have hlt' : (j : Int) < (xs.length : Int) := by omega
            clear hcell1
            by_cases hin : InP (intN xs j) 0 ((s : Int) - 1)
            · have HI := Lib.hid hin
              have HTT := Lib.hid (Tells.yes hin)
              clear hin
              go_wp2_with (go_at_call 131; refine (l00In _ _ _ true _ HTT.out).mono ?_; rintro e w' ⟨rfl, rfl⟩)
              go_roundw
              case rel =>
                refine ⟨j + 1, by omega, by go_num, fun m hm => ?_, HQ.out⟩
                by_cases hmj : m = j
                · subst hmj
                  have := HI.out
                  unfold InP at this
                  omega
                · exact HAL.out m (by omega)
              case measure => simp [intOf]; omega
            · have HF := Lib.hid (HT.out.is_false fun h => hin (by have := h.2 j hlt; unfold InP; omega))
              have HTT := Lib.hid (Tells.no hin)
              clear hin
              go_wp2_with (go_at_call 131; refine (l00In _ _ _ false _ HTT.out).mono ?_; rintro e w' ⟨rfl, rfl⟩)
              go_ret
              exact ⟨ret_bool HF.out.symm, HQ.out⟩
          · obtain rfl : j = xs.length := by omega
            have HF := Lib.hid (HT.out.is_true ⟨by rw [HL.out], HAL.out⟩)
            go_wp2
            go_ret
            exact ⟨ret_bool HF.out.symm, HQ.out⟩
      · have hlb' : ((xs.length : Int) != (p : Int)) = true := by simp; omega
        have hlb : ((xs.length : Int) == (p : Int)) = false := by simp; omega
        have HF := Lib.hid (HT.out.is_false fun h => hl (by have := h.1; omega))
        clear hl
        go_enter Try.func174, Try.ntmps174
        go_wp2
        go_quiet ((first | (go_at_call 153; exact QW.calls_same (l01Size _ true _ HS.out)) | (go_at_call 202; exact QW.calls_same (l02Arity _ true _ HA.out)) | (go_at_call 138; exact QW.calls_same (l01Power' _ _ _ hs1 hs2 hk HP.out _))))
        go_wp2
        go_ret
        exact ⟨ret_bool HF.out.symm, (QW.refl _).drewN _⟩
    · have HF := Lib.hid (HB.out.is_false fun h => har h.2.1)
      have HS := Lib.hid (Tells.yes hs)
      have HA := Lib.hid (Tells.no har)
      clear hs har
      go_enter Try.func174, Try.ntmps174
      go_wp2
      go_quiet ((first | (go_at_call 153; exact QW.calls_same (l01Size _ true _ HS.out)) | (go_at_call 202; exact QW.calls_same (l02Arity _ false _ HA.out))))
      go_wp2
      go_ret
      exact ⟨ret_bool HF.out.symm, (QW.refl _).drewN _⟩
  · have HF := Lib.hid (HB.out.is_false fun h => hs h.1)
    have HS := Lib.hid (Tells.no hs)
    clear hs
    go_enter Try.func174, Try.ntmps174
    go_wp2
    go_quiet ((first | (go_at_call 153; exact QW.calls_same (l01Size _ false _ HS.out))))
    go_wp2
    go_ret
    exact ⟨ret_bool HF.out.symm, (QW.refl _).drewN _⟩

/-- What ValidOp answers. -/
def ValidOpIs (size ar : Int) (xs : List Int) (b : Bool) : Prop := Tells b (OpOk size ar xs)
theorem Tells.exists (p : Prop) : ∃ b, Tells b p := by
  by_cases h : p
  · exact ⟨true, Tells.yes h⟩
  · exact ⟨false, Tells.no h⟩
theorem ValidOpIs.exists (size ar : Int) (xs : List Int) : ∃ b, ValidOpIs size ar xs b := Tells.exists _

/-- What SameOp answers. -/
def SameOpIs (x : Int) (xs : List Int) (y : Int) (ys : List Int) (b : Bool) : Prop := eqO x xs y ys = b
theorem SameOpIs.exists (x : Int) (xs : List Int) (y : Int) (ys : List Int) : ∃ b, SameOpIs x xs y ys b := ⟨_, rfl⟩

end Go.Proofs.Ytnbgpeoceejolaa
