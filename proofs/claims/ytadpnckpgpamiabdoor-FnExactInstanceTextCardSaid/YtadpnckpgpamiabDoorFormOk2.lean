/-
  Valid formulas: ValidFormula of the model and of the program.
-/
import Derived.Test.YtadpnckpgpamiabDoorFormOk
import Derived.Test.YtadpnckpgpamiabDoorGBase
namespace Go.Proofs.YtadpnckpgpamiabDoor
open Go.RowKit

theorem TplAt.new (w : World) (sz : Int) (a : Option Addr) (n c : Nat) (rs : List (Int × List (List Int))) (t : TypeId) (h : RelsAt w (.slice a n c) rs) : TplAt (w.alloc (.cells #[.int .i64 sz, .slice a n c] t)) w.heap.size 0 sz rs :=
  ⟨by simp [World.cell?_alloc_new], a, n, c, by simp [World.cell?_alloc_new], h.below ((Below.refl _ _).alloc (Nat.le_refl _) _)⟩

/-- What has a text. -/
def TextAt (va rel : Int) (args : List Int) : Prop := InP rel (-1) 5 ∧ In14 args.length ∧ TupP va args.length args
def TextOk (fr va : Int) (fs : List (Int × List Int)) : Prop := CountsOk fr va fs.length ∧ ∀ k, k < fs.length → TextAt va (arO fs k) (rowO fs k)

set_option maxHeartbeats 2000000 in
set_option maxRecDepth 100000 in
theorem hasText (fr va : Int) (a : Option Addr) (n c : Nat) (fs : List (Int × List Int)) (b : Bool) (w : World) (h : OpsAt w (.slice a n c) fs) (hb : Tells b (TextOk fr va fs)) :
    Calls Tryd.prog 102 #[.agg #[.int .i64 fr, .int .i64 va, .slice a n c]] w fun e w' => e = .returned (.bool b) ∧ Below w.heap.size w w' := by
  have HBW := Lib.hid ((Below.refl w.heap.size w).alloc (Nat.le_refl _) (.cells #[.int .i64 fr, .int .i64 va, .slice a n c] 69))
  obtain ⟨a', c', hv, hn, hc⟩ := h.below HBW.out
  clear h
  simp only [Value.slice.injEq] at hv
  obtain ⟨rfl, rfl, rfl⟩ := hv
  have HC := Lib.hid hc
  have HB := Lib.hid hb
  clear hc hb
  by_cases h1 : In14 fr
  · have H1 := Lib.hid (Tells.yes h1)
    have HP1 := Lib.hid h1
    clear h1
    by_cases h2 : fr ≤ va
    · have h2' : ¬ va < fr := by omega
      by_cases h3 : va ≤ 8
      · have h3' : ¬ 8 < va := by omega
        by_cases h4 : fs.length ≤ 16
        · have h4' : ¬ (16 : Int) < (fs.length : Int) := by omega
          have HP2 : Hid (CountsOk fr va fs.length) := Lib.hid ⟨HP1.out, ⟨h2, h3⟩, h4⟩
          have k1 : (w.alloc (.cells #[.int .i64 fr, .int .i64 va, .slice a fs.length c] 69)).cell? ⟨w.heap.size, 1, none⟩ = some (.int .i64 va) := by simp
          have hz0 : (w.alloc (.cells #[.int .i64 fr, .int .i64 va, .slice a fs.length c] 69)).heap.size = w.heap.size + 1 := by simp
          go_enter Tryd.func102, Tryd.ntmps102
          go_wp2_with (go_at_call 143; refine (isArity _ true _ H1.out).mono ?_; rintro e w' ⟨rfl, rfl⟩)
          go_loopw [31] (fun i wr => ∃ k : Nat, k ≤ fs.length ∧ i = .int .i64 k ∧ (∀ j, j < k → TextAt va (arO fs j) (rowO fs j)) ∧ Below (w.alloc (.cells #[.int .i64 fr, .int .i64 va, .slice a fs.length c] 69)).heap.size (w.alloc (.cells #[.int .i64 fr, .int .i64 va, .slice a fs.length c] 69)) wr) (fun i _ => fs.length - (intOf i).toNat)
          case atStart => exact ⟨0, Nat.zero_le _, rfl, fun j hj => absurd hj (Nat.not_lt_zero _), Below.refl _ _⟩
          case round =>
            obtain ⟨k, hk, rfl, hall, hbr⟩ := hrel
            have HA := Lib.hid hall
            have HBR := Lib.hid hbr
            have q1 := below_cell HBR.out k1
            have hsz := HBR.out.size
            clear hall hbr
            rw [hz0] at hsz
            by_cases hlt : k < fs.length
            · obtain ⟨b1, off1, ha1, hcell1⟩ := HC.out (by omega)
              subst ha1
              obtain ⟨y0, a2, n2, c2, y1, hr⟩ := (hcell1 k hlt).below HBR.out
              have hnl : n2 = (rowO fs k).length := by obtain ⟨_, _, hv, _⟩ := hr; simp only [Value.slice.injEq] at hv; exact hv.2.1
              subst hnl
              have hlt' : (k : Int) < (fs.length : Int) := by omega
              have HBA := Lib.hid ((Below.refl wr.heap.size wr).alloc (Nat.le_refl _) (.cells #[.int .i64 (arO fs k), .slice a2 (rowO fs k).length c2] 151))
              have HR := Lib.hid (hr.below HBA.out)
              have q2 := below_cell HBA.out q1
              have hne : w.heap.size ≠ wr.heap.size := by omega
              have hne2 : ¬ wr.heap.size = w.heap.size := by omega
              have HE := Lib.hid (HBW.out.trans ((HBR.out.trans (HBA.out.mono HBR.out.size)).mono (by simp)))
              clear hcell1 hr
              by_cases g1 : -1 ≤ arO fs k
              · have g1' : ¬ arO fs k < -1 := by omega
                by_cases g2 : arO fs k < 6
                · have g2' : ¬ 6 ≤ arO fs k := by omega
                  by_cases g3 : In14 ((rowO fs k).length : Int)
                  · have G3 := Lib.hid (Tells.yes g3)
                    have HP3 := Lib.hid g3
                    clear g3
                    by_cases g4 : TupP va (rowO fs k).length (rowO fs k)
                    · have G4 := Lib.hid (Tells.yes g4)
                      have HP4 : Hid (TextAt va (arO fs k) (rowO fs k)) := Lib.hid ⟨⟨g1, by omega⟩, HP3.out, g4⟩
                      clear g4
                      go_wp2_with (first | (go_at_call 143; refine (isArity _ true _ G3.out).mono ?_; rintro e w' ⟨rfl, rfl⟩) | (go_at_call 144; refine (isListBelow _ _ _ _ true _ HR.out G4.out).mono ?_; rintro e w' ⟨rfl, rfl⟩))
                      go_roundw
                      case rel =>
                        refine ⟨k + 1, by omega, by go_num, fun j hj => ?_, HBR.out.trans (HBA.out.mono HBR.out.size)⟩
                        by_cases hjk : j = k
                        · subst hjk; exact HP4.out
                        · exact HA.out j (by omega)
                      case measure => simp [intOf]; omega
                    · have G4 := Lib.hid (Tells.no g4)
                      have HF := Lib.hid (HB.out.is_false fun h => g4 (h.2 k hlt).2.2)
                      clear g4
                      go_wp2_with (first | (go_at_call 143; refine (isArity _ true _ G3.out).mono ?_; rintro e w' ⟨rfl, rfl⟩) | (go_at_call 144; refine (isListBelow _ _ _ _ false _ HR.out G4.out).mono ?_; rintro e w' ⟨rfl, rfl⟩))
                      go_ret
                      exact ⟨ret_bool HF.out.symm, HE.out⟩
                  · have G3 := Lib.hid (Tells.no g3)
                    have HF := Lib.hid (HB.out.is_false fun h => g3 (h.2 k hlt).2.1)
                    clear g3
                    go_wp2_with (go_at_call 143; refine (isArity _ false _ G3.out).mono ?_; rintro e w' ⟨rfl, rfl⟩)
                    go_ret
                    exact ⟨ret_bool HF.out.symm, HE.out⟩
                · have HF := Lib.hid (HB.out.is_false fun h => g2 (by have := (h.2 k hlt).1.2; omega))
                  have g2' : 6 ≤ arO fs k := by omega
                  go_wp2
                  go_ret
                  exact ⟨ret_bool HF.out.symm, HE.out⟩
              · have HF := Lib.hid (HB.out.is_false fun h => g1 (h.2 k hlt).1.1)
                have g1' : arO fs k < -1 := by omega
                go_wp2
                go_ret
                exact ⟨ret_bool HF.out.symm, HE.out⟩
            · obtain rfl : k = fs.length := by omega
              have HF := Lib.hid (HB.out.is_true ⟨HP2.out, HA.out⟩)
              have HE := Lib.hid (HBW.out.trans (HBR.out.mono (by simp)))
              go_wp2
              go_ret
              exact ⟨ret_bool HF.out.symm, HE.out⟩
        · have HF := Lib.hid (HB.out.is_false fun h => h4 h.1.2.2)
          have h4' : (16 : Int) < (fs.length : Int) := by omega
          go_enter Tryd.func102, Tryd.ntmps102
          go_wp2_with (go_at_call 143; refine (isArity _ true _ H1.out).mono ?_; rintro e w' ⟨rfl, rfl⟩)
          go_ret
          exact ⟨ret_bool HF.out.symm, HBW.out⟩
      · have HF := Lib.hid (HB.out.is_false fun h => h3 h.1.2.1.2)
        have h3' : 8 < va := by omega
        go_enter Tryd.func102, Tryd.ntmps102
        go_wp2_with (go_at_call 143; refine (isArity _ true _ H1.out).mono ?_; rintro e w' ⟨rfl, rfl⟩)
        go_ret
        exact ⟨ret_bool HF.out.symm, HBW.out⟩
    · have HF := Lib.hid (HB.out.is_false fun h => h2 h.1.2.1.1)
      have h2' : va < fr := by omega
      go_enter Tryd.func102, Tryd.ntmps102
      go_wp2_with (go_at_call 143; refine (isArity _ true _ H1.out).mono ?_; rintro e w' ⟨rfl, rfl⟩)
      go_ret
      exact ⟨ret_bool HF.out.symm, HBW.out⟩
  · have H1 := Lib.hid (Tells.no h1)
    have HF := Lib.hid (HB.out.is_false fun h => h1 h.1.1)
    clear h1
    go_enter Tryd.func102, Tryd.ntmps102
    go_wp2_with (go_at_call 143; refine (isArity _ false _ H1.out).mono ?_; rintro e w' ⟨rfl, rfl⟩)
    go_ret
    exact ⟨ret_bool HF.out.symm, HBW.out⟩

theorem FormOk.text {sz : Int} {rs : List (Int × List (List Int))} {fr va : Int} {fs : List (Int × List Int)} (h : FormOk sz rs fr va fs) : TextOk fr va fs := by
  refine ⟨h.2.1, fun k hk => ?_⟩
  obtain ⟨h1, h2, h3⟩ := h.2.2 k hk
  have hl : InP (arO fs k) (-1) 5 ∧ In14 (arityOf rs (arO fs k)) := by
    by_cases e : arO fs k = -1
    · rw [e, arityOf_eq]; exact ⟨⟨by omega, by omega⟩, ⟨by omega, by omega⟩⟩
    · by_cases hin : 0 ≤ arO fs k ∧ arO fs k < rs.length
      · obtain ⟨m, hm⟩ : ∃ m : Nat, arO fs k = m := ⟨(arO fs k).toNat, by omega⟩
        rw [hm] at hin ⊢
        rw [arityOf_in (by omega)]
        exact ⟨⟨by omega, by have := h.1.2.1; omega⟩, (h.1.2.2 m (by omega)).2.1⟩
      · exact absurd (arityOf_out e hin) h1
  exact ⟨hl.1, h2 ▸ hl.2, rfl, h3⟩

theorem five_below {w w1 w2 : World} {C : List (Addr × Value)} {R : List (World → Prop)} {a1 a2 a3 a4 a5 : Addr} {x1 x2 x3 x4 x5 : Value}
    (h : w1.cell? a1 = some x1 ∧ w1.cell? a2 = some x2 ∧ w1.cell? a3 = some x3 ∧ w1.cell? a4 = some x4 ∧ w1.cell? a5 = some x5 ∧ Kept w C R w1) (hb : Below w1.heap.size w1 w2) :
    w2.cell? a1 = some x1 ∧ w2.cell? a2 = some x2 ∧ w2.cell? a3 = some x3 ∧ w2.cell? a4 = some x4 ∧ w2.cell? a5 = some x5 ∧ Kept w C R w2 :=
  ⟨below_cell hb h.1, below_cell hb h.2.1, below_cell hb h.2.2.1, below_cell hb h.2.2.2.1, below_cell hb h.2.2.2.2.1, h.2.2.2.2.2.below hb⟩

end Go.Proofs.YtadpnckpgpamiabDoor
