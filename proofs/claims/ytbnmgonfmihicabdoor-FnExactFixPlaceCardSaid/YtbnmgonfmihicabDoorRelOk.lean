/-
  Valid relations: l01Ok and ValidRel of the model, ValidRel of the program.
-/
import Derived.Test.YtbnmgonfmihicabDoorOrd
namespace Go.Proofs.YtbnmgonfmihicabDoor
open Go.RowKit

def RowOk (size ar : Int) (xss : List (List Int)) (k : Nat) : Prop := TupP size ar (rowN xss k) ∧ (0 < k → LtP (rowN xss (k - 1)) (rowN xss k))
def RelOk (size ar : Int) (xss : List (List Int)) : Prop := In14 size ∧ In14 ar ∧ ∀ k, k < xss.length → RowOk size ar xss k

theorem nat_pos_int {k : Nat} (h : 0 < k) : (0 : Int) < (k : Int) := by omega
theorem nat_pred_int {k : Nat} (h : 0 < k) : (k : Int) - 1 = ((k - 1 : Nat) : Int) := by omega

/-- A relation lies behind a pointer. -/
structure RelAt (w : World) (b o : Nat) (ar : Int) (xss : List (List Int)) : Prop where
  arity : w.cell? ⟨b, o, none⟩ = some (.int .i64 ar)
  rows : ∃ a n c, w.cell? ⟨b, o + 1, none⟩ = some (.slice a n c) ∧ GridAt w (.slice a n c) xss

theorem RelAt.below {w w' : World} {b o : Nat} {ar : Int} {xss : List (List Int)} (h : RelAt w b o ar xss) (hb : Below w.heap.size w w') : RelAt w' b o ar xss := by
  obtain ⟨h1, a, n, c, h2, h3⟩ := h
  exact ⟨below_cell hb h1, a, n, c, below_cell hb h2, h3.below hb⟩

set_option maxHeartbeats 1000000 in
set_option maxRecDepth 100000 in
theorem l01Ok (size : Int) (pb po : Nat) (ar : Int) (xss : List (List Int)) (b : Bool) (w : World) (h : RelAt w pb po ar xss) (hb : Tells b (RelOk size ar xss)) :
    Calls Tryd.prog 27 #[.int .i64 size, .pointer (some ⟨pb, po, none⟩)] w fun e w' => e = .returned (.bool b) ∧ QW w w' := by
  obtain ⟨hp0, a, n, c, hp1, V, ⟨a', c', hv, hn, hc⟩, hV⟩ := h
  simp only [Value.slice.injEq] at hv
  obtain ⟨rfl, rfl, rfl⟩ := hv
  have HC := Lib.hid hc
  have HV := Lib.hid hV
  have HB := Lib.hid hb
  clear hc hV hb
  by_cases hs : In14 size
  · by_cases har : In14 ar
    · have hs1 : 1 ≤ size := hs.1
      have hs2 : size ≤ 4 := hs.2
      have HS := Lib.hid (Tells.yes hs)
      have HR := Lib.hid (Tells.yes har)
      have HSP := Lib.hid hs
      have HRP := Lib.hid har
      clear hs har
      go_enter Tryd.func27, Tryd.ntmps27
      go_wp2_with (first | (go_at_call 52; refine (l01Size _ true _ HS.out).mono ?_; rintro e w' ⟨rfl, rfl⟩) | (go_at_call 28; refine (l01Arity _ true _ HR.out).mono ?_; rintro e w' ⟨rfl, rfl⟩))
      go_loopw [5] (fun i wr => ∃ k : Nat, k ≤ xss.length ∧ i = .int .i64 k ∧ (∀ j, j < k → RowOk size ar xss j) ∧ QW w wr) (fun i _ => xss.length - (intOf i).toNat)
      case atStart => exact ⟨0, Nat.zero_le _, rfl, fun j hj => absurd hj (Nat.not_lt_zero _), QW.refl _⟩
      case round =>
        obtain ⟨k, hk, rfl, hall, hq⟩ := hrel
        have HA := Lib.hid hall
        have HQ := Lib.hid hq
        have hq0 := HQ.out.cell hp0
        have hq1 := HQ.out.cell hp1
        clear hall hq
        by_cases hlt : k < xss.length
        · obtain ⟨b1, off1, ha1, hcell1⟩ := HC.out (by omega)
          subst ha1
          have hx1 := HQ.out.cell (hcell1 k hlt)
          have hlt' : (k : Int) < (xss.length : Int) := by omega
          have HROW := Lib.hid (HV.out k hlt)
          by_cases ht : TupP size ar (rowN xss k)
          · have HT := Lib.hid (Tells.yes ht)
            have HTP := Lib.hid ht
            clear ht
            by_cases h0 : 0 < k
            · have hx2 := HQ.out.cell (hcell1 (k - 1) (by omega))
              have HROW2 := Lib.hid (HV.out (k - 1) (by omega))
              have h0' : (0 : Int) < (k : Int) := nat_pos_int h0
              have HPR := Lib.hid (HA.out (k - 1) (by omega))
              have HLN : Hid ((rowN xss (k - 1)).length = (rowN xss k).length) := by
                have e1 := HPR.out.1.1
                have e2 := HTP.out.1
                show _ = _
                omega
              have hbnd : (k : Int) - 1 < (xss.length : Int) := by omega
              have hbnd0 : 0 ≤ (k : Int) - 1 := by omega
              have htn : ((k : Int) - 1).toNat = k - 1 := by omega
              have hd : decide ((0 : Int) < (k : Int)) = true := by simpa using h0
              clear hcell1
              by_cases hlp : LtP (rowN xss (k - 1)) (rowN xss k)
              · have HL := Lib.hid (Tells.yes hlp)
                have HLP := Lib.hid hlp
                clear hlp
                go_wp2
                go_quiet ((first | (go_at_call 53; exact QW.calls_same (l01Tuple _ _ _ _ true _ ((HQ.out.drewN _).row HROW.out) hs1 hs2 HT.out)) | (go_at_call 58; exact QW.calls (l01Before _ _ _ _ true _ ((HQ.out.drewN _).row HROW2.out) ((HQ.out.drewN _).row HROW.out) HLN.out HL.out))))
                go_wp2
                go_roundw
                case rel =>
                  refine ⟨k + 1, by omega, by go_num, fun j hj => ?_, HQ.out.drewN _⟩
                  by_cases hjk : j = k
                  · subst hjk; exact ⟨HTP.out, fun _ => HLP.out⟩
                  · exact HA.out j (by omega)
                case measure => simp [intOf]; omega
              · have HL := Lib.hid (Tells.no hlp)
                have HF := Lib.hid (HB.out.is_false fun h => hlp ((h.2.2 k hlt).2 h0))
                clear hlp
                go_wp2
                go_quiet ((first | (go_at_call 53; exact QW.calls_same (l01Tuple _ _ _ _ true _ ((HQ.out.drewN _).row HROW.out) hs1 hs2 HT.out)) | (go_at_call 58; exact QW.calls (l01Before _ _ _ _ false _ ((HQ.out.drewN _).row HROW2.out) ((HQ.out.drewN _).row HROW.out) HLN.out HL.out))))
                go_wp2
                go_ret
                exact ⟨ret_bool HF.out.symm, HQ.out.drewN _⟩
            · have hd : decide ((0 : Int) < (k : Int)) = false := by simpa using h0
              go_wp2
              go_quiet (((go_at_call 53; exact QW.calls_same (l01Tuple _ _ _ _ true _ ((HQ.out.drewN _).row HROW.out) hs1 hs2 HT.out))))
              go_wp2
              go_roundw
              case rel =>
                refine ⟨k + 1, by omega, by go_num, fun j hj => ?_, HQ.out.drewN _⟩
                by_cases hjk : j = k
                · subst hjk; exact ⟨HTP.out, fun h => absurd h h0⟩
                · exact HA.out j (by omega)
              case measure => simp [intOf]; omega
          · have HT := Lib.hid (Tells.no ht)
            have HF := Lib.hid (HB.out.is_false fun h => ht (h.2.2 k hlt).1)
            clear ht
            go_wp2
            go_quiet (((go_at_call 53; exact QW.calls_same (l01Tuple _ _ _ _ false _ ((HQ.out.drewN _).row HROW.out) hs1 hs2 HT.out))))
            go_wp2
            go_ret
            exact ⟨ret_bool HF.out.symm, HQ.out.drewN _⟩
        · obtain rfl : k = xss.length := by omega
          have HF := Lib.hid (HB.out.is_true ⟨HSP.out, HRP.out, HA.out⟩)
          go_wp2
          go_ret
          exact ⟨ret_bool HF.out.symm, HQ.out⟩
    · have HF := Lib.hid (HB.out.is_false fun h => har h.2.1)
      have HS := Lib.hid (Tells.yes hs)
      have HR := Lib.hid (Tells.no har)
      clear hs har
      go_enter Tryd.func27, Tryd.ntmps27
      go_wp2_with (first | (go_at_call 52; refine (l01Size _ true _ HS.out).mono ?_; rintro e w' ⟨rfl, rfl⟩) | (go_at_call 28; refine (l01Arity _ false _ HR.out).mono ?_; rintro e w' ⟨rfl, rfl⟩))
      go_ret
      exact ⟨ret_bool HF.out.symm, QW.refl _⟩
  · have HF := Lib.hid (HB.out.is_false fun h => hs h.1)
    have HS := Lib.hid (Tells.no hs)
    clear hs
    go_enter Tryd.func27, Tryd.ntmps27
    go_wp2_with (go_at_call 52; refine (l01Size _ false _ HS.out).mono ?_; rintro e w' ⟨rfl, rfl⟩)
    go_ret
    exact ⟨ret_bool HF.out.symm, QW.refl _⟩

end Go.Proofs.YtbnmgonfmihicabDoor
