/-
  Whether a relation has a tuple: l01Has and HasTuple of the model, HasTuple of the program.
-/
import Derived.Test.YtbnmgonfmihicabDoorCode
import Derived.Test.YtbnmgonfmihicabDoorSameA
import Derived.Test.YtbnmgonfmihicabDoorValidRel
namespace Go.Proofs.YtbnmgonfmihicabDoor
open Go.RowKit

def HasP (xss : List (List Int)) (t : List Int) : Prop := ∃ j, j < xss.length ∧ rowN xss j = t

set_option maxHeartbeats 1000000 in
theorem l01Has (pb po : Nat) (ar : Int) (xss : List (List Int)) (v : Value) (t : List Int) (b : Bool) (w : World) (h : RelAt w pb po ar xss) (hv : RowAt w v t) (hb : Tells b (HasP xss t)) :
    Calls Tryd.prog 61 #[.pointer (some ⟨pb, po, none⟩), v] w fun e w' => e = .returned (.bool b) ∧ QW w w' := by
  obtain ⟨_, a, n, c, hp1, V, ⟨a', c', hs, hn, hc⟩, hV⟩ := h
  simp only [Value.slice.injEq] at hs
  obtain ⟨rfl, rfl, rfl⟩ := hs
  have HC := Lib.hid hc
  have HV := Lib.hid hV
  have HB := Lib.hid hb
  have HT := Lib.hid hv
  clear hc hV hb hv
  go_enter Tryd.func61, Tryd.ntmps61
  go_wp2
  go_loopw [5] (fun i wr => ∃ k : Nat, k ≤ xss.length ∧ i = .int .i64 k ∧ (∀ j, j < k → rowN xss j ≠ t) ∧ QW w wr) (fun i _ => xss.length - (intOf i).toNat)
  case atStart => exact ⟨0, Nat.zero_le _, rfl, fun j hj => absurd hj (Nat.not_lt_zero _), QW.refl _⟩
  case round =>
    obtain ⟨k, hk, rfl, hall, hq⟩ := hrel
    have HA := Lib.hid hall
    have HQ := Lib.hid hq
    have hq1 := HQ.out.cell hp1
    clear hall hq
    by_cases hlt : k < xss.length
    · obtain ⟨b1, off1, ha1, hcell1⟩ := HC.out (by omega)
      subst ha1
      have hx1 := HQ.out.cell (hcell1 k hlt)
      have hlt' : (k : Int) < (xss.length : Int) := by omega
      clear hcell1
      by_cases he : rowN xss k = t
      · have HE := Lib.hid (eqB_yes he)
        have HF := Lib.hid (HB.out.is_true ⟨k, hlt, he⟩)
        clear he
        go_wp2_with fail
        refine (l00Same' _ _ _ _ _ _ (HQ.out.row (HV.out k hlt)) (HQ.out.row HT.out) HE.out).mono ?_
        rintro e w2 ⟨rfl, hq2⟩
        have HQ2 := Lib.hid (HQ.out.trans hq2)
        clear hq2
        go_wp2
        go_ret
        exact ⟨ret_bool HF.out.symm, HQ2.out⟩
      · have HE := Lib.hid (eqB_no he)
        have HN := Lib.hid he
        clear he
        go_wp2_with fail
        refine (l00Same' _ _ _ _ _ _ (HQ.out.row (HV.out k hlt)) (HQ.out.row HT.out) HE.out).mono ?_
        rintro e w2 ⟨rfl, hq2⟩
        have HQ2 := Lib.hid (HQ.out.trans hq2)
        clear hq2
        go_wp2
        go_roundw
        case rel =>
          refine ⟨k + 1, by omega, by go_num, fun j hj => ?_, HQ2.out⟩
          by_cases hjk : j = k
          · subst hjk; exact HN.out
          · exact HA.out j (by omega)
        case measure => simp [intOf]; omega
    · obtain rfl : k = xss.length := by omega
      have HF := Lib.hid (HB.out.is_false fun ⟨j, hj, he⟩ => HA.out j hj he)
      go_wp2
      go_ret
      exact ⟨ret_bool HF.out.symm, HQ.out⟩

/-- What HasTuple answers: whether, and the code. -/
def HasIs (size ar : Int) (xss : List (List Int)) (t : List Int) (b : Bool) (c : Int) : Prop :=
  (RelOk size ar xss ∧ Tells b (HasP xss t) ∧ c = 0) ∨ (¬ RelOk size ar xss ∧ b = false ∧ c = 1)
theorem HasIs.exists (size ar : Int) (xss : List (List Int)) (t : List Int) : ∃ b c, HasIs size ar xss t b c := by
  by_cases h : RelOk size ar xss
  · by_cases k : HasP xss t
    · exact ⟨true, 0, .inl ⟨h, Tells.yes k, rfl⟩⟩
    · exact ⟨false, 0, .inl ⟨h, Tells.no k, rfl⟩⟩
  · exact ⟨false, 1, .inr ⟨h, rfl, rfl⟩⟩

theorem has_code {size ar : Int} {xss : List (List Int)} {t : List Int} (hr : RelOk size ar xss) (ht : TupP size ar t) {b : Bool} (hb : Tells b (HasP xss t)) : setOf size xss (codeN size t) = b := by
  cases b with
  | true =>
    obtain ⟨j, hj, he⟩ := hb.1 rfl
    exact (setK_iff _ _).2 ⟨j, hj, by rw [he]⟩
  | false =>
    cases hs : setOf size xss (codeN size t) with
    | false => rfl
    | true =>
      obtain ⟨j, hj, he⟩ := (setK_iff _ _).1 hs
      exact absurd (hb.2 ⟨j, hj, codeN_inj (hr.2.2 j hj).1 ht hr.1 hr.2.1 he⟩) (by simp)

end Go.Proofs.YtbnmgonfmihicabDoor
