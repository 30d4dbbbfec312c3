/-
  ValidInstance of the program.
-/
import Derived.Test.YtadpnckpgpamiabDoorInstOk
import Derived.Test.YtadpnckpgpamiabDoorReg
import Derived.Deep.RegionHeld3
namespace Go.Proofs.YtadpnckpgpamiabDoor
open Go.RowKit

set_option maxHeartbeats 400000 in
theorem isVarCount (n : Int) (b : Bool) (w : World) (hb : Tells b (InP n 1 10)) :
    Calls Tryd.prog 165 #[.int .i64 n] w fun e w' => e = .returned (.bool b) ∧ w = w' := by
  have HB := Lib.hid hb
  clear hb
  by_cases h1 : 1 ≤ n
  · by_cases h2 : n ≤ 10
    · have HF := Lib.hid (HB.out.is_true ⟨h1, h2⟩)
      go_enter Tryd.func165, Tryd.ntmps165
      go_wp2
      go_ret
      exact ⟨ret_bool HF.out.symm, rfl⟩
    · have HF := Lib.hid (HB.out.is_false fun h => h2 h.2)
      go_enter Tryd.func165, Tryd.ntmps165
      go_wp2
      go_ret
      exact ⟨ret_bool HF.out.symm, rfl⟩
  · have HF := Lib.hid (HB.out.is_false fun h => h1 h.1)
    go_enter Tryd.func165, Tryd.ntmps165
    go_wp2
    go_ret
    exact ⟨ret_bool HF.out.symm, rfl⟩

/-- What has a text. -/
def TextAtI (va rel : Int) (args : List Int) : Prop := InP rel 0 5 ∧ In14 args.length ∧ TupP va args.length args
def TextOkI (va : Int) (cs : List (Int × List Int)) : Prop := InP va 1 10 ∧ cs.length ≤ 24 ∧ ∀ k, k < cs.length → TextAtI va (arO cs k) (rowO cs k)

set_option maxHeartbeats 2000000 in
set_option maxRecDepth 100000 in
theorem hasInstanceText (va : Int) (a : Option Addr) (n c : Nat) (cs : List (Int × List Int)) (b : Bool) (w : World) (h : OpsAt w (.slice a n c) cs) (hb : Tells b (TextOkI va cs)) :
    Calls Tryd.prog 109 #[.agg #[.int .i64 va, .slice a n c]] w fun e w' => e = .returned (.bool b) ∧ Below w.heap.size w w' := by
  have HBW := Lib.hid ((Below.refl w.heap.size w).alloc (Nat.le_refl _) (.cells #[.int .i64 va, .slice a n c] 80))
  obtain ⟨a', c', hv, hn, hc⟩ := h.below HBW.out
  clear h
  simp only [Value.slice.injEq] at hv
  obtain ⟨rfl, rfl, rfl⟩ := hv
  have HC := Lib.hid hc
  have HB := Lib.hid hb
  clear hc hb
  by_cases h1 : InP va 1 10
  · have H1 := Lib.hid (Tells.yes h1)
    have HP1 := Lib.hid h1
    clear h1
    by_cases h4 : cs.length ≤ 24
    · have h4' : ¬ (24 : Int) < (cs.length : Int) := by omega
      have k1 : (w.alloc (.cells #[.int .i64 va, .slice a cs.length c] 80)).cell? ⟨w.heap.size, 0, none⟩ = some (.int .i64 va) := by simp
      have hz0 : (w.alloc (.cells #[.int .i64 va, .slice a cs.length c] 80)).heap.size = w.heap.size + 1 := by simp
      go_enter Tryd.func109, Tryd.ntmps109
      go_wp2_with (go_at_call 165; refine (isVarCount _ true _ H1.out).mono ?_; rintro e w' ⟨rfl, rfl⟩)
      go_loopw [19] (fun i wr => ∃ k : Nat, k ≤ cs.length ∧ i = .int .i64 k ∧ (∀ j, j < k → TextAtI va (arO cs j) (rowO cs j)) ∧ Below (w.alloc (.cells #[.int .i64 va, .slice a cs.length c] 80)).heap.size (w.alloc (.cells #[.int .i64 va, .slice a cs.length c] 80)) wr) (fun i _ => cs.length - (intOf i).toNat)
      case atStart => exact ⟨0, Nat.zero_le _, rfl, fun j hj => absurd hj (Nat.not_lt_zero _), Below.refl _ _⟩
      case round =>
        obtain ⟨k, hk, rfl, hall, hbr⟩ := hrel
        have HA := Lib.hid hall
        have HBR := Lib.hid hbr
        have q1 := below_cell HBR.out k1
        have hsz := HBR.out.size
        clear hall hbr
        rw [hz0] at hsz
        by_cases hlt : k < cs.length
        · obtain ⟨b1, off1, ha1, hcell1⟩ := HC.out (by omega)
          subst ha1
          obtain ⟨y0, a2, n2, c2, y1, hr⟩ := (hcell1 k hlt).below HBR.out
          have hnl : n2 = (rowO cs k).length := by obtain ⟨_, _, hv, _⟩ := hr; simp only [Value.slice.injEq] at hv; exact hv.2.1
          subst hnl
          have hlt' : (k : Int) < (cs.length : Int) := by omega
          have HBA := Lib.hid ((Below.refl wr.heap.size wr).alloc (Nat.le_refl _) (.cells #[.int .i64 (arO cs k), .slice a2 (rowO cs k).length c2] 161))
          have HR := Lib.hid (hr.below HBA.out)
          have q2 := below_cell HBA.out q1
          have hne : w.heap.size ≠ wr.heap.size := by omega
          have hne2 : ¬ wr.heap.size = w.heap.size := by omega
          have HE := Lib.hid (HBW.out.trans ((HBR.out.trans (HBA.out.mono HBR.out.size)).mono (by simp)))
          clear hcell1 hr
          by_cases g1 : 0 ≤ arO cs k
          · have g1' : ¬ arO cs k < 0 := by omega
            by_cases g2 : arO cs k < 6
            · have g2' : ¬ 6 ≤ arO cs k := by omega
              by_cases g3 : In14 ((rowO cs k).length : Int)
              · have G3 := Lib.hid (Tells.yes g3)
                have HP3 := Lib.hid g3
                clear g3
                by_cases g4 : TupP va (rowO cs k).length (rowO cs k)
                · have G4 := Lib.hid (Tells.yes g4)
                  have HP4 : Hid (TextAtI va (arO cs k) (rowO cs k)) := Lib.hid ⟨⟨g1, by omega⟩, HP3.out, g4⟩
                  clear g4
                  go_wp2_with (first | (go_at_call 143; refine (isArity _ true _ G3.out).mono ?_; rintro e w' ⟨rfl, rfl⟩) | (go_at_call 144; refine (isListBelow _ _ _ _ true _ HR.out G4.out).mono ?_; rintro e w' ⟨rfl, rfl⟩))
                  go_roundw
                  case rel =>
                    refine ⟨k + 1, by omega, by go_num, fun j hj => ?_, HBR.out.trans (HBA.out.mono HBR.out.size)⟩
                    by_cases hjk : j = k
                    · subst hjk; exact HP4.out
                    · exact HA.out j (by omega)
                  case measure => simp [intOf]; omega
                · have G4 := Lib.hid (Tells.no g4)
                  have HF := Lib.hid (HB.out.is_false fun h => g4 (h.2.2 k hlt).2.2)
                  clear g4
                  go_wp2_with (first | (go_at_call 143; refine (isArity _ true _ G3.out).mono ?_; rintro e w' ⟨rfl, rfl⟩) | (go_at_call 144; refine (isListBelow _ _ _ _ false _ HR.out G4.out).mono ?_; rintro e w' ⟨rfl, rfl⟩))
                  go_ret
                  exact ⟨ret_bool HF.out.symm, HE.out⟩
              · have G3 := Lib.hid (Tells.no g3)
                have HF := Lib.hid (HB.out.is_false fun h => g3 (h.2.2 k hlt).2.1)
                clear g3
                go_wp2_with (go_at_call 143; refine (isArity _ false _ G3.out).mono ?_; rintro e w' ⟨rfl, rfl⟩)
                go_ret
                exact ⟨ret_bool HF.out.symm, HE.out⟩
            · have HF := Lib.hid (HB.out.is_false fun h => g2 (by have := (h.2.2 k hlt).1.2; omega))
              have g2' : 6 ≤ arO cs k := by omega
              go_wp2
              go_ret
              exact ⟨ret_bool HF.out.symm, HE.out⟩
          · have HF := Lib.hid (HB.out.is_false fun h => g1 (h.2.2 k hlt).1.1)
            have g1' : arO cs k < 0 := by omega
            go_wp2
            go_ret
            exact ⟨ret_bool HF.out.symm, HE.out⟩
        · obtain rfl : k = cs.length := by omega
          have HF := Lib.hid (HB.out.is_true ⟨HP1.out, h4, HA.out⟩)
          have HE := Lib.hid (HBW.out.trans (HBR.out.mono (by simp)))
          go_wp2
          go_ret
          exact ⟨ret_bool HF.out.symm, HE.out⟩
    · have HF := Lib.hid (HB.out.is_false fun h => h4 h.2.1)
      have h4' : (24 : Int) < (cs.length : Int) := by omega
      go_enter Tryd.func109, Tryd.ntmps109
      go_wp2_with (go_at_call 165; refine (isVarCount _ true _ H1.out).mono ?_; rintro e w' ⟨rfl, rfl⟩)
      go_ret
      exact ⟨ret_bool HF.out.symm, HBW.out⟩
  · have H1 := Lib.hid (Tells.no h1)
    have HF := Lib.hid (HB.out.is_false fun h => h1 h.1)
    clear h1
    go_enter Tryd.func109, Tryd.ntmps109
    go_wp2_with (go_at_call 165; refine (isVarCount _ false _ H1.out).mono ?_; rintro e w' ⟨rfl, rfl⟩)
    go_ret
    exact ⟨ret_bool HF.out.symm, HBW.out⟩

theorem InstOk.text {sz : Int} {rs : List (Int × List (List Int))} {va : Int} {cs : List (Int × List Int)} (h : InstOk sz rs va cs) : TextOkI va cs := by
  refine ⟨h.2.1, h.2.2.1, fun k hk => ?_⟩
  obtain ⟨h1, h2, h3⟩ := h.2.2.2 k hk
  obtain ⟨m, hm⟩ : ∃ m : Nat, arO cs k = m := ⟨(arO cs k).toNat, by have := h1.1; omega⟩
  rw [hm] at h1 h2 ⊢
  have hmr : m < rs.length := by have := h1.2; omega
  rw [Int.toNat_natCast] at h2
  exact ⟨⟨by omega, by have := h.1.2.1; omega⟩, h2 ▸ (h.1.2.2 m hmr).2.1, rfl, h3⟩

end Go.Proofs.YtadpnckpgpamiabDoor
