/-
  ValidRel of the model and of the program.
-/
import Derived.Test.YtbnmgonfmihicabDoorRelOk
namespace Go.Proofs.YtbnmgonfmihicabDoor
open Go.RowKit

set_option maxHeartbeats 1000000 in
set_option maxRecDepth 100000 in
theorem implValidRel (size : Int) (ar : Int) (a : Option Addr) (n c : Nat) (xss : List (List Int)) (b : Bool) (w : World) (h : GridAt w (.slice a n c) xss) (hb : Tells b (RelOk size ar xss)) :
    Calls Tryd.prog 32 #[.int .i64 size, .agg #[.int .i64 ar, .slice a n c]] w fun e w' => e = .returned (.bool b) ∧ Below w.heap.size w w' := by
  have HBW := Lib.hid ((Below.refl w.heap.size w).alloc (Nat.le_refl _) (.cells #[.int .i64 ar, .slice a n c] 27))
  have H := Lib.hid (h.below HBW.out)
  have HB := Lib.hid hb
  clear h hb
  obtain ⟨V, ⟨a', c', hv, hn, hc⟩, hV⟩ := H.out
  clear H
  simp only [Value.slice.injEq] at hv
  obtain ⟨rfl, rfl, rfl⟩ := hv
  have HC := Lib.hid hc
  have HV := Lib.hid hV
  clear hc hV
  by_cases hs : In14 size
  · by_cases har : In14 ar
    · have HS := Lib.hid (Tells.yes hs)
      have HR := Lib.hid (Tells.yes har)
      have HSP := Lib.hid hs
      have HRP := Lib.hid har
      clear hs har
      go_enter Tryd.func32, Tryd.ntmps32
      go_wp2_with (first | (go_at_call 55; refine (isSize _ true _ HS.out).mono ?_; rintro e w' ⟨rfl, rfl⟩) | (go_at_call 33; refine (isArity _ true _ HR.out).mono ?_; rintro e w' ⟨rfl, rfl⟩))
      go_loop [19] (fun i => ∃ k : Nat, k ≤ xss.length ∧ i = .int .i64 k ∧ (∀ j, j < k → RowOk size ar xss j)) (fun i => xss.length - (intOf i).toNat)
      case atStart => exact ⟨0, Nat.zero_le _, rfl, fun j hj => absurd hj (Nat.not_lt_zero _)⟩
      case round =>
        obtain ⟨k, hk, rfl, hall⟩ := hrel
        have HA := Lib.hid hall
        clear hall
        by_cases hlt : k < xss.length
        · obtain ⟨b1, off1, ha1, hcell1⟩ := HC.out (by omega)
          subst ha1
          have hx1 := hcell1 k hlt
          have hlt' : (k : Int) < (xss.length : Int) := by omega
          have HROW := Lib.hid (HV.out k hlt)
          by_cases ht : TupP size ar (rowN xss k)
          · have HT := Lib.hid (Tells.yes ht)
            have HTP := Lib.hid ht
            clear ht
            by_cases h0 : 0 < k
            · have hx2 := hcell1 (k - 1) (by omega)
              have HROW2 := Lib.hid (HV.out (k - 1) (by omega))
              have h0' : (0 : Int) < (k : Int) := nat_pos_int h0
              have HPR := Lib.hid (HA.out (k - 1) (by omega))
              have HLN : Hid ((rowN xss (k - 1)).length = (rowN xss k).length) := by
                have e1 := HPR.out.1.1
                have e2 := HTP.out.1
                show _ = _
                omega
              have hbnd : (k : Int) - 1 < (xss.length : Int) := by omega
              have hbnd0 : 0 ≤ (k : Int) - 1 := by omega
              have htn : ((k : Int) - 1).toNat = k - 1 := by omega
              have hd : decide ((0 : Int) < (k : Int)) = true := by simpa using h0
              obtain ⟨cc, hcm, hcs, hc1, hc2⟩ := CmpIs.exists (rowN xss (k - 1)) (rowN xss k) HLN.out
              have HCM := Lib.hid hcm
              have HCS := Lib.hid hcs
              clear hcell1 hcm hcs
              by_cases hlp : LtP (rowN xss (k - 1)) (rowN xss k)
              · have hcc : cc < 0 := Int.not_le.1 fun h => HCS.out.1 h hlp
                have HLP := Lib.hid hlp
                clear hlp
                go_wp2_with (first | (go_at_call 34; refine (isListBelow _ _ _ _ true _ HROW.out HT.out).mono ?_; rintro e w' ⟨rfl, rfl⟩) | (go_at_call 63; refine (compare _ _ _ _ cc _ HROW2.out HROW.out HLN.out HCM.out).mono ?_; rintro e w' ⟨rfl, rfl⟩))
                go_round
                case rel =>
                  refine ⟨k + 1, by omega, by go_num, fun j hj => ?_⟩
                  by_cases hjk : j = k
                  · subst hjk; exact ⟨HTP.out, fun _ => HLP.out⟩
                  · exact HA.out j (by omega)
                case measure => simp [intOf]; omega
              · have hcc : 0 ≤ cc := HCS.out.2 hlp
                have HF := Lib.hid (HB.out.is_false fun h => hlp ((h.2.2 k hlt).2 h0))
                clear hlp
                go_wp2_with (first | (go_at_call 34; refine (isListBelow _ _ _ _ true _ HROW.out HT.out).mono ?_; rintro e w' ⟨rfl, rfl⟩) | (go_at_call 63; refine (compare _ _ _ _ cc _ HROW2.out HROW.out HLN.out HCM.out).mono ?_; rintro e w' ⟨rfl, rfl⟩))
                go_ret
                exact ⟨ret_bool HF.out.symm, HBW.out⟩
            · have hd : decide ((0 : Int) < (k : Int)) = false := by simpa using h0
              go_wp2_with (go_at_call 34; refine (isListBelow _ _ _ _ true _ HROW.out HT.out).mono ?_; rintro e w' ⟨rfl, rfl⟩)
              go_round
              case rel =>
                refine ⟨k + 1, by omega, by go_num, fun j hj => ?_⟩
                by_cases hjk : j = k
                · subst hjk; exact ⟨HTP.out, fun h => absurd h h0⟩
                · exact HA.out j (by omega)
              case measure => simp [intOf]; omega
          · have HT := Lib.hid (Tells.no ht)
            have HF := Lib.hid (HB.out.is_false fun h => ht (h.2.2 k hlt).1)
            clear ht
            go_wp2_with (go_at_call 34; refine (isListBelow _ _ _ _ false _ HROW.out HT.out).mono ?_; rintro e w' ⟨rfl, rfl⟩)
            go_ret
            exact ⟨ret_bool HF.out.symm, HBW.out⟩
        · obtain rfl : k = xss.length := by omega
          have HF := Lib.hid (HB.out.is_true ⟨HSP.out, HRP.out, HA.out⟩)
          go_wp2
          go_ret
          exact ⟨ret_bool HF.out.symm, HBW.out⟩
    · have HF := Lib.hid (HB.out.is_false fun h => har h.2.1)
      have HS := Lib.hid (Tells.yes hs)
      have HR := Lib.hid (Tells.no har)
      clear hs har
      go_enter Tryd.func32, Tryd.ntmps32
      go_wp2_with (first | (go_at_call 55; refine (isSize _ true _ HS.out).mono ?_; rintro e w' ⟨rfl, rfl⟩) | (go_at_call 33; refine (isArity _ false _ HR.out).mono ?_; rintro e w' ⟨rfl, rfl⟩))
      go_ret
      exact ⟨ret_bool HF.out.symm, HBW.out⟩
  · have HF := Lib.hid (HB.out.is_false fun h => hs h.1)
    have HS := Lib.hid (Tells.no hs)
    clear hs
    go_enter Tryd.func32, Tryd.ntmps32
    go_wp2_with (go_at_call 55; refine (isSize _ false _ HS.out).mono ?_; rintro e w' ⟨rfl, rfl⟩)
    go_ret
    exact ⟨ret_bool HF.out.symm, HBW.out⟩

end Go.Proofs.YtbnmgonfmihicabDoor
