/-
  Whether a relation has a tuple: l01Has and HasTuple of the model, HasTuple of the program.
-/
import Derived.Test.YtfjfkmoeaenlbaaCode
import Derived.Test.YtfjfkmoeaenlbaaSameA
import Derived.Test.YtfjfkmoeaenlbaaValidRel
namespace Go.Proofs.Ytfjfkmoeaenlbaa
open Go.RowKit

def HasP (xss : List (List Int)) (t : List Int) : Prop := ∃ j, j < xss.length ∧ rowN xss j = t

set_option maxHeartbeats 1000000 in
theorem l01Has (pb po : Nat) (ar : Int) (xss : List (List Int)) (v : Value) (t : List Int) (b : Bool) (w : World) (h : RelAt w pb po ar xss) (hv : RowAt w v t) (hb : Tells b (HasP xss t)) :
    Calls Try.prog 50 #[.pointer (some ⟨pb, po, none⟩), v] w fun e w' => e = .returned (.bool b) ∧ QW w w' := by
  obtain ⟨_, a, n, c, hp1, V, ⟨a', c', hs, hn, hc⟩, hV⟩ := h
  simp only [Value.slice.injEq] at hs
  obtain ⟨rfl, rfl, rfl⟩ := hs
  have HC := Lib.hid hc
  have HV := Lib.hid hV
  have HB := Lib.hid hb
  have HT := Lib.hid hv
  clear hc hV hb hv
  go_enter Try.func50, Try.ntmps50
  go_wp2
  go_loopw [5] (fun i wr => ∃ k : Nat, k ≤ xss.length ∧ i = .int .i64 k ∧ (∀ j, j < k → rowN xss j ≠ t) ∧ QW w wr) (fun i _ => xss.length - (intOf i).toNat)
  case atStart => exact ⟨0, Nat.zero_le _, rfl, fun j hj => absurd hj (Nat.not_lt_zero _), QW.refl _⟩
  case round =>
    obtain ⟨k, hk, rfl, hall, hq⟩ := hrel
    have HA := Lib.hid hall
    have HQ := Lib.hid hq
    have hq1 := HQ.out.cell hp1
    clear hall hq
    by_cases hlt : k < xss.length
    · obtain ⟨b1, off1, ha1, hcell1⟩ := HC.out (by omega)
      subst ha1
      have hx1 := HQ.out.cell (hcell1 k hlt)
      have hlt' : (k : Int) < (xss.length : Int) := by omega
      clear hcell1
      by_cases he : rowN xss k = t
      · have HE := Lib.hid (eqB_yes he)
        have HF := Lib.hid (HB.out.is_true ⟨k, hlt, he⟩)
        clear he
        go_wp2_with fail
        refine (l00Same' _ _ _ _ _ _ (HQ.out.row (HV.out k hlt)) (HQ.out.row HT.out) HE.out).mono ?_
        rintro e w2 ⟨rfl, hq2⟩
        have HQ2 := Lib.hid (HQ.out.trans hq2)
        clear hq2
        go_wp2
        go_ret
        exact ⟨ret_bool HF.out.symm, HQ2.out⟩
      · have HE := Lib.hid (eqB_no he)
        have HN := Lib.hid he
        clear he
        go_wp2_with fail
        refine (l00Same' _ _ _ _ _ _ (HQ.out.row (HV.out k hlt)) (HQ.out.row HT.out) HE.out).mono ?_
        rintro e w2 ⟨rfl, hq2⟩
        have HQ2 := Lib.hid (HQ.out.trans hq2)
        clear hq2
        go_wp2
        go_roundw
        case rel =>
          refine ⟨k + 1, by omega, by go_num, fun j hj => ?_, HQ2.out⟩
          by_cases hjk : j = k
          · subst hjk; exact HN.out
          · exact HA.out j (by omega)
        case measure => simp [intOf]; omega
    · obtain rfl : k = xss.length := by omega
      have HF := Lib.hid (HB.out.is_false fun ⟨j, hj, he⟩ => HA.out j hj he)
      go_wp2
      go_ret
      exact ⟨ret_bool HF.out.symm, HQ.out⟩

/-- What HasTuple answers: whether, and the code. -/
def HasIs (size ar : Int) (xss : List (List Int)) (t : List Int) (b : Bool) (c : Int) : Prop :=
  (RelOk size ar xss ∧ Tells b (HasP xss t) ∧ c = 0) ∨ (¬ RelOk size ar xss ∧ b = false ∧ c = 1)
theorem HasIs.exists (size ar : Int) (xss : List (List Int)) (t : List Int) : ∃ b c, HasIs size ar xss t b c := by
  by_cases h : RelOk size ar xss
  · by_cases k : HasP xss t
    · exact ⟨true, 0, .inl ⟨h, Tells.yes k, rfl⟩⟩
    · exact ⟨false, 0, .inl ⟨h, Tells.no k, rfl⟩⟩
  · exact ⟨false, 1, .inr ⟨h, rfl, rfl⟩⟩

set_option maxHeartbeats 1000000 in
theorem specHasTuple (size ar : Int) (a : Option Addr) (n c : Nat) (xss : List (List Int)) (v : Value) (t : List Int) (b : Bool) (cd : Int) (w : World) (h : GridAt w (.slice a n c) xss) (hv : RowAt w v t) (hi : HasIs size ar xss t b cd) :
    Calls Try.prog 24 #[.int .i64 size, .agg #[.int .i64 ar, .slice a n c], v] w fun e w' => e = .returned (.tuple #[.bool b, .int .i64 cd]) ∧ Below w.heap.size w w' := by
  have HW := Lib.hid ((Below.refl w.heap.size w).alloc (Nat.le_refl _) (.cells #[.int .i64 ar, .slice a n c] 27))
  have HR : Hid (RelAt (w.alloc (.cells #[.int .i64 ar, .slice a n c] 27)) w.heap.size 0 ar xss) := ⟨by simp [World.cell?_alloc_new], a, n, c, by simp [World.cell?_alloc_new], h.below HW.out⟩
  have HT := Lib.hid (hv.below HW.out)
  clear h hv
  rcases hi with ⟨hr, hb, rfl⟩ | ⟨hr, rfl, rfl⟩
  · have HO := Lib.hid (Tells.yes hr)
    have HB := Lib.hid hb
    clear hr hb
    go_enter Try.func24, Try.ntmps24
    go_wp2_with fail
    refine (l01Ok _ _ _ _ _ true _ HR.out HO.out).mono ?_
    rintro e w2 ⟨rfl, hq⟩
    have HQ := Lib.hid hq.bel
    clear hq
    go_wp2_with fail
    refine (l01Has _ _ _ _ _ _ b _ (HR.out.below HQ.out) (HT.out.below HQ.out) HB.out).mono ?_
    rintro e w3 ⟨rfl, hq3⟩
    have HE := Lib.hid ((HW.out.trans (HQ.out.mono (by simp))).trans (hq3.below _))
    clear hq3
    go_wp2
    go_ret2
    exact ⟨rfl, HE.out⟩
  · have HO := Lib.hid (Tells.no hr)
    clear hr
    go_enter Try.func24, Try.ntmps24
    go_wp2_with fail
    refine (l01Ok _ _ _ _ _ false _ HR.out HO.out).mono ?_
    rintro e w2 ⟨rfl, hq⟩
    have HE := Lib.hid (HW.out.trans (hq.below _))
    clear hq
    go_wp2
    go_ret2
    exact ⟨rfl, HE.out⟩

theorem has_code {size ar : Int} {xss : List (List Int)} {t : List Int} (hr : RelOk size ar xss) (ht : TupP size ar t) {b : Bool} (hb : Tells b (HasP xss t)) : setOf size xss (codeN size t) = b := by
  cases b with
  | true =>
    obtain ⟨j, hj, he⟩ := hb.1 rfl
    exact (setK_iff _ _).2 ⟨j, hj, by rw [he]⟩
  | false =>
    cases hs : setOf size xss (codeN size t) with
    | false => rfl
    | true =>
      obtain ⟨j, hj, he⟩ := (setK_iff _ _).1 hs
      exact absurd (hb.2 ⟨j, hj, codeN_inj (hr.2.2 j hj).1 ht hr.1 hr.2.1 he⟩) (by simp)

set_option maxHeartbeats 1000000 in
theorem implHasTuple (size ar : Int) (a : Option Addr) (n c : Nat) (xss : List (List Int)) (v : Value) (t : List Int) (b : Bool) (cd : Int) (w : World) (h : GridAt w (.slice a n c) xss) (hv : RowAt w v t) (hi : HasIs size ar xss t b cd) :
    Calls Try.prog 26 #[.int .i64 size, .agg #[.int .i64 ar, .slice a n c], v] w fun e w' => e = .returned (.tuple #[.bool b, .int .i64 cd]) ∧ Below w.heap.size w w' := by
  have HK := Lib.hid ((((Kept.start w).read (lives_row _ _) hv).read (lives_grid _ _) h).box w.heap.size rfl (.int .i64 ar) (.slice a n c) 27)
  clear h hv
  rcases hi with ⟨hr, hb, rfl⟩ | ⟨hr, rfl, rfl⟩
  · have HO := Lib.hid (Tells.yes hr)
    have HP := Lib.hid hr
    have HB := Lib.hid hb
    by_cases ht : TupP size ar t
    · have HT := Lib.hid (Tells.yes ht)
      have HTP := Lib.hid ht
      have HS := Lib.hid (has_code hr ht hb)
      clear hr hb ht
      go_enter Try.func26, Try.ntmps26
      go_wp2_with fail
      refine (implValidRel _ _ _ _ _ _ true _ (HK.out.grid 0 rfl) HO.out).mono ?_
      rintro e w2 ⟨rfl, hb2⟩
      have K2 := Lib.hid (HK.out.below hb2)
      have cc0 := K2.out.c 0 rfl
      have cc1 := K2.out.c 1 rfl
      clear hb2
      go_wp2_with fail
      refine (isListBelow _ _ _ _ true _ (K2.out.row 1 rfl) HT.out).mono ?_
      rintro e w3 ⟨rfl, rfl⟩
      go_wp2_with fail
      refine (bitsOf _ _ _ _ _ _ _ (K2.out.grid 0 rfl) HP.out).mono ?_
      rintro e w4 ⟨rfl, hb4⟩
      have K4 := Lib.hid (K2.out.below hb4)
      clear hb4 cc0 cc1
      go_wp2_with fail
      refine (numberOf' _ _ _ _ _ (K4.out.row 1 rfl) HP.out.1 HP.out.2.1 HTP.out).mono ?_
      rintro e w5 ⟨rfl, rfl⟩
      go_wp2_with fail
      refine (hasBit _ _ (codeN_lt HTP.out HP.out.1 HP.out.2.1) _).mono ?_
      rw [HS.out]
      rintro e w6 ⟨rfl, hb6⟩
      have K6 := Lib.hid (K4.out.below hb6)
      clear hb6
      go_wp2
      go_ret2
      exact ⟨rfl, K6.out.bel⟩
    · have HT := Lib.hid (Tells.no ht)
      obtain rfl : b = false := hb.is_false fun ⟨j, hj, he⟩ => ht (he ▸ (hr.2.2 j hj).1)
      clear hr hb ht
      go_enter Try.func26, Try.ntmps26
      go_wp2_with fail
      refine (implValidRel _ _ _ _ _ _ true _ (HK.out.grid 0 rfl) HO.out).mono ?_
      rintro e w2 ⟨rfl, hb2⟩
      have K2 := Lib.hid (HK.out.below hb2)
      have cc0 := K2.out.c 0 rfl
      have cc1 := K2.out.c 1 rfl
      clear hb2
      go_wp2_with fail
      refine (isListBelow _ _ _ _ false _ (K2.out.row 1 rfl) HT.out).mono ?_
      rintro e w3 ⟨rfl, rfl⟩
      go_wp2
      go_ret2
      exact ⟨rfl, K2.out.bel⟩
  · have HO := Lib.hid (Tells.no hr)
    clear hr
    go_enter Try.func26, Try.ntmps26
    go_wp2_with fail
    refine (implValidRel _ _ _ _ _ _ false _ (HK.out.grid 0 rfl) HO.out).mono ?_
    rintro e w2 ⟨rfl, hb2⟩
    have K2 := Lib.hid (HK.out.below hb2)
    clear hb2
    go_wp2
    go_ret2
    exact ⟨rfl, K2.out.bel⟩

end Go.Proofs.Ytfjfkmoeaenlbaa
