/-
  Valid formulas: ValidFormula of the model and of the program.
-/
import Derived.Test.YtnbgpeoceejolabFormOk
import Derived.Test.YtnbgpeoceejolabGBase
namespace Go.Proofs.Ytnbgpeoceejolab
open Go.RowKit

set_option maxHeartbeats 1000000 in
set_option maxRecDepth 100000 in
theorem l03Ok (tb to : Nat) (sz : Int) (rs : List (Int × List (List Int))) (pb po : Nat) (fr va : Int) (fs : List (Int × List Int)) (b : Bool) (w : World) (ht : TplAt w tb to sz rs) (h : FormAt w pb po fr va fs) (hb : Tells b (FormOk sz rs fr va fs)) :
    Calls Try.prog 43 #[.pointer (some ⟨tb, to, none⟩), .pointer (some ⟨pb, po, none⟩)] w fun e w' => e = .returned (.bool b) ∧ QW w w' := by
  have H := Lib.hid h
  have HT := Lib.hid ht
  have HB := Lib.hid hb
  clear ht hb h
  by_cases h1 : TplOk sz rs
  · have H1 := Lib.hid (Tells.yes h1)
    have HP1 := Lib.hid h1
    clear h1
    by_cases h2 : CountsOk fr va fs.length
    · have H2 := Lib.hid (Tells.yes h2)
      have HP2 := Lib.hid h2
      have hva1 : 1 ≤ va := by unfold CountsOk In14 InP at h2; omega
      have hva2 : va ≤ 1000 := by unfold CountsOk In14 InP at h2; omega
      clear h2
      obtain ⟨x1, x2, a1, n1, c1, x3, a1', c1', hv1, hn1, hc1⟩ := H.out
      simp only [Value.slice.injEq] at hv1
      obtain ⟨rfl, rfl, rfl⟩ := hv1
      have HC := Lib.hid hc1
      clear hc1
      go_enter Try.func43, Try.ntmps43
      go_wp2_with fail
      refine (l01Template _ _ _ _ true _ HT.out H1.out).mono ?_
      rintro e w1 ⟨rfl, hq⟩
      have HQ1 := Lib.hid hq
      clear hq
      go_wp2_with fail
      refine (l03Counts _ _ _ _ _ true _ (H.out.below HQ1.out.bel) H2.out).mono ?_
      rintro e w2 ⟨rfl, hq⟩
      have HQ2 := Lib.hid (HQ1.out.trans hq)
      clear hq
      go_wp2
      go_loopw [5] (fun i wr => ∃ k : Nat, k ≤ fs.length ∧ i = .int .i64 k ∧ (∀ j, j < k → AtomOk rs va (arO fs j) (rowO fs j)) ∧ QW w wr) (fun i _ => fs.length - (intOf i).toNat)
      case atStart => exact ⟨0, Nat.zero_le _, rfl, fun j hj => absurd hj (Nat.not_lt_zero _), HQ2.out⟩
      case round =>
        obtain ⟨k, hk, rfl, hall, hq⟩ := hrel
        have HA := Lib.hid hall
        have HQ := Lib.hid hq
        have e2 := HQ.out.cell x2
        have e3 := HQ.out.cell x3
        clear hall hq
        by_cases hlt : k < fs.length
        · obtain ⟨b1, off1, ha1, hcell1⟩ := HC.out (by omega)
          subst ha1
          obtain ⟨y0, a2, n2, c2, y1, hr⟩ := (hcell1 k hlt).below HQ.out.bel
          have HR := Lib.hid hr
          have hnl : n2 = (rowO fs k).length := by obtain ⟨_, _, hv, _⟩ := hr; simp only [Value.slice.injEq] at hv; exact hv.2.1
          subst hnl
          have hlt' : (k : Int) < (fs.length : Int) := by omega
          obtain ⟨ar, har⟩ : ∃ ar, arityOf rs (arO fs k) = ar := ⟨_, rfl⟩
          have HAR := Lib.hid har
          have HNR : Hid (AtomOk rs va (arO fs k) (rowO fs k) ↔ ar ≠ 0 ∧ ((rowO fs k).length : Int) = ar ∧ PlP (rowO fs k) va) := Lib.hid (by unfold AtomOk; rw [har])
          clear hcell1 hr har
          go_wp2_with fail
          refine (l03Arity _ _ _ _ _ ar _ (HT.out.below HQ.out.bel) HAR.out).mono ?_
          rintro e w3 ⟨rfl, hq3⟩
          have HQ3 := Lib.hid (HQ.out.trans hq3)
          have HQ4 := Lib.hid hq3
          have e2 := HQ4.out.cell e2
          have e3 := HQ4.out.cell e3
          have y1 := HQ4.out.cell y1
          clear hq3
          by_cases g1 : ar = 0
          · have HF := Lib.hid (HB.out.is_false fun h => (HNR.out.1 (h.2.2 k hlt)).1 g1)
            subst g1
            go_wp2
            go_quiet (fail)
            go_wp2
            go_ret
            exact ⟨ret_bool HF.out.symm, HQ3.out.drewN _⟩
          · have g1' : (ar == 0) = false := beq_eq_false_iff_ne.2 g1
            by_cases g2 : ((rowO fs k).length : Int) = ar
            · subst g2
              by_cases g3 : PlP (rowO fs k) va
              · have G3 := Lib.hid (Tells.yes g3)
                have HP3 := Lib.hid (HNR.out.2 ⟨g1, rfl, g3⟩)
                clear g3
                go_wp2
                go_quiet ((go_at_call 45; exact QW.calls_same (l01PlacesV _ _ _ true _ (HR.out.below ((HQ4.out.drewN _).bel)) hva1 hva2 G3.out)))
                go_wp2
                go_roundw
                case rel =>
                  refine ⟨k + 1, by omega, by go_num, fun j hj => ?_, HQ3.out.drewN _⟩
                  by_cases hjk : j = k
                  · subst hjk; exact HP3.out
                  · exact HA.out j (by omega)
                case measure => simp [intOf]; omega
              · have G3 := Lib.hid (Tells.no g3)
                have HF := Lib.hid (HB.out.is_false fun h => g3 (HNR.out.1 (h.2.2 k hlt)).2.2)
                clear g3
                go_wp2
                go_quiet ((go_at_call 45; exact QW.calls_same (l01PlacesV _ _ _ false _ (HR.out.below ((HQ4.out.drewN _).bel)) hva1 hva2 G3.out)))
                go_wp2
                go_ret
                exact ⟨ret_bool HF.out.symm, HQ3.out.drewN _⟩
            · have HF := Lib.hid (HB.out.is_false fun h => g2 (HNR.out.1 (h.2.2 k hlt)).2.1)
              have g2' : (((rowO fs k).length : Int) == ar) = false := beq_eq_false_iff_ne.2 g2
              go_wp2
              go_quiet (fail)
              go_wp2
              go_ret
              exact ⟨ret_bool HF.out.symm, HQ3.out.drewN _⟩
        · obtain rfl : k = fs.length := by omega
          have HF := Lib.hid (HB.out.is_true ⟨HP1.out, HP2.out, HA.out⟩)
          go_wp2
          go_ret
          exact ⟨ret_bool HF.out.symm, HQ.out⟩
    · have H2 := Lib.hid (Tells.no h2)
      have HF := Lib.hid (HB.out.is_false fun h => h2 h.2.1)
      clear h2
      go_enter Try.func43, Try.ntmps43
      go_wp2_with fail
      refine (l01Template _ _ _ _ true _ HT.out H1.out).mono ?_
      rintro e w1 ⟨rfl, hq⟩
      have HQ1 := Lib.hid hq
      clear hq
      go_wp2_with fail
      refine (l03Counts _ _ _ _ _ false _ (H.out.below HQ1.out.bel) H2.out).mono ?_
      rintro e w2 ⟨rfl, hq⟩
      have HQ2 := Lib.hid (HQ1.out.trans hq)
      clear hq
      go_wp2
      go_ret
      exact ⟨ret_bool HF.out.symm, HQ2.out⟩
  · have H1 := Lib.hid (Tells.no h1)
    have HF := Lib.hid (HB.out.is_false fun h => h1 h.1)
    clear h1
    go_enter Try.func43, Try.ntmps43
    go_wp2_with fail
    refine (l01Template _ _ _ _ false _ HT.out H1.out).mono ?_
    rintro e w1 ⟨rfl, hq⟩
    have HQ1 := Lib.hid hq
    clear hq
    go_wp2
    go_ret
    exact ⟨ret_bool HF.out.symm, HQ1.out⟩

theorem TplAt.new (w : World) (sz : Int) (a : Option Addr) (n c : Nat) (rs : List (Int × List (List Int))) (t : TypeId) (h : RelsAt w (.slice a n c) rs) : TplAt (w.alloc (.cells #[.int .i64 sz, .slice a n c] t)) w.heap.size 0 sz rs :=
  ⟨by simp [World.cell?_alloc_new], a, n, c, by simp [World.cell?_alloc_new], h.below ((Below.refl _ _).alloc (Nat.le_refl _) _)⟩

/-- What has a text. -/
def TextAt (va rel : Int) (args : List Int) : Prop := InP rel (-1) 5 ∧ In14 args.length ∧ TupP va args.length args
def TextOk (fr va : Int) (fs : List (Int × List Int)) : Prop := CountsOk fr va fs.length ∧ ∀ k, k < fs.length → TextAt va (arO fs k) (rowO fs k)

set_option maxHeartbeats 2000000 in
set_option maxRecDepth 100000 in
theorem hasText (fr va : Int) (a : Option Addr) (n c : Nat) (fs : List (Int × List Int)) (b : Bool) (w : World) (h : OpsAt w (.slice a n c) fs) (hb : Tells b (TextOk fr va fs)) :
    Calls Try.prog 74 #[.agg #[.int .i64 fr, .int .i64 va, .slice a n c]] w fun e w' => e = .returned (.bool b) ∧ Below w.heap.size w w' := by
  have HBW := Lib.hid ((Below.refl w.heap.size w).alloc (Nat.le_refl _) (.cells #[.int .i64 fr, .int .i64 va, .slice a n c] 32))
  obtain ⟨a', c', hv, hn, hc⟩ := h.below HBW.out
  clear h
  simp only [Value.slice.injEq] at hv
  obtain ⟨rfl, rfl, rfl⟩ := hv
  have HC := Lib.hid hc
  have HB := Lib.hid hb
  clear hc hb
  by_cases h1 : In14 fr
  · have H1 := Lib.hid (Tells.yes h1)
    have HP1 := Lib.hid h1
    clear h1
    by_cases h2 : fr ≤ va
    · have h2' : ¬ va < fr := by omega
      by_cases h3 : va ≤ 8
      · have h3' : ¬ 8 < va := by omega
        by_cases h4 : fs.length ≤ 16
        · have h4' : ¬ (16 : Int) < (fs.length : Int) := by omega
          have HP2 : Hid (CountsOk fr va fs.length) := Lib.hid ⟨HP1.out, ⟨h2, h3⟩, h4⟩
          have k1 : (w.alloc (.cells #[.int .i64 fr, .int .i64 va, .slice a fs.length c] 32)).cell? ⟨w.heap.size, 1, none⟩ = some (.int .i64 va) := by simp
          have hz0 : (w.alloc (.cells #[.int .i64 fr, .int .i64 va, .slice a fs.length c] 32)).heap.size = w.heap.size + 1 := by simp
          go_enter Try.func74, Try.ntmps74
          go_wp2_with (go_at_call 48; refine (isArity _ true _ H1.out).mono ?_; rintro e w' ⟨rfl, rfl⟩)
          go_loopw [31] (fun i wr => ∃ k : Nat, k ≤ fs.length ∧ i = .int .i64 k ∧ (∀ j, j < k → TextAt va (arO fs j) (rowO fs j)) ∧ Below (w.alloc (.cells #[.int .i64 fr, .int .i64 va, .slice a fs.length c] 32)).heap.size (w.alloc (.cells #[.int .i64 fr, .int .i64 va, .slice a fs.length c] 32)) wr) (fun i _ => fs.length - (intOf i).toNat)
          case atStart => exact ⟨0, Nat.zero_le _, rfl, fun j hj => absurd hj (Nat.not_lt_zero _), Below.refl _ _⟩
          case round =>
            obtain ⟨k, hk, rfl, hall, hbr⟩ := hrel
            have HA := Lib.hid hall
            have HBR := Lib.hid hbr
            have q1 := below_cell HBR.out k1
            have hsz := HBR.out.size
            clear hall hbr
            rw [hz0] at hsz
            by_cases hlt : k < fs.length
            · obtain ⟨b1, off1, ha1, hcell1⟩ := HC.out (by omega)
              subst ha1
              obtain ⟨y0, a2, n2, c2, y1, hr⟩ := (hcell1 k hlt).below HBR.out
              have hnl : n2 = (rowO fs k).length := by obtain ⟨_, _, hv, _⟩ := hr; simp only [Value.slice.injEq] at hv; exact hv.2.1
              subst hnl
              have hlt' : (k : Int) < (fs.length : Int) := by omega
              have HBA := Lib.hid ((Below.refl wr.heap.size wr).alloc (Nat.le_refl _) (.cells #[.int .i64 (arO fs k), .slice a2 (rowO fs k).length c2] 83))
              have HR := Lib.hid (hr.below HBA.out)
              have q2 := below_cell HBA.out q1
              have hne : w.heap.size ≠ wr.heap.size := by omega
              have hne2 : ¬ wr.heap.size = w.heap.size := by omega
              have HE := Lib.hid (HBW.out.trans ((HBR.out.trans (HBA.out.mono HBR.out.size)).mono (by simp)))
              clear hcell1 hr
              by_cases g1 : -1 ≤ arO fs k
              · have g1' : ¬ arO fs k < -1 := by omega
                by_cases g2 : arO fs k < 6
                · have g2' : ¬ 6 ≤ arO fs k := by omega
                  by_cases g3 : In14 ((rowO fs k).length : Int)
                  · have G3 := Lib.hid (Tells.yes g3)
                    have HP3 := Lib.hid g3
                    clear g3
                    by_cases g4 : TupP va (rowO fs k).length (rowO fs k)
                    · have G4 := Lib.hid (Tells.yes g4)
                      have HP4 : Hid (TextAt va (arO fs k) (rowO fs k)) := Lib.hid ⟨⟨g1, by omega⟩, HP3.out, g4⟩
                      clear g4
                      go_wp2_with (first | (go_at_call 48; refine (isArity _ true _ G3.out).mono ?_; rintro e w' ⟨rfl, rfl⟩) | (go_at_call 49; refine (isListBelow _ _ _ _ true _ HR.out G4.out).mono ?_; rintro e w' ⟨rfl, rfl⟩))
                      go_roundw
                      case rel =>
                        refine ⟨k + 1, by omega, by go_num, fun j hj => ?_, HBR.out.trans (HBA.out.mono HBR.out.size)⟩
                        by_cases hjk : j = k
                        · subst hjk; exact HP4.out
                        · exact HA.out j (by omega)
                      case measure => simp [intOf]; omega
                    · have G4 := Lib.hid (Tells.no g4)
                      have HF := Lib.hid (HB.out.is_false fun h => g4 (h.2 k hlt).2.2)
                      clear g4
                      go_wp2_with (first | (go_at_call 48; refine (isArity _ true _ G3.out).mono ?_; rintro e w' ⟨rfl, rfl⟩) | (go_at_call 49; refine (isListBelow _ _ _ _ false _ HR.out G4.out).mono ?_; rintro e w' ⟨rfl, rfl⟩))
                      go_ret
                      exact ⟨ret_bool HF.out.symm, HE.out⟩
                  · have G3 := Lib.hid (Tells.no g3)
                    have HF := Lib.hid (HB.out.is_false fun h => g3 (h.2 k hlt).2.1)
                    clear g3
                    go_wp2_with (go_at_call 48; refine (isArity _ false _ G3.out).mono ?_; rintro e w' ⟨rfl, rfl⟩)
                    go_ret
                    exact ⟨ret_bool HF.out.symm, HE.out⟩
                · have HF := Lib.hid (HB.out.is_false fun h => g2 (by have := (h.2 k hlt).1.2; omega))
                  have g2' : 6 ≤ arO fs k := by omega
                  go_wp2
                  go_ret
                  exact ⟨ret_bool HF.out.symm, HE.out⟩
              · have HF := Lib.hid (HB.out.is_false fun h => g1 (h.2 k hlt).1.1)
                have g1' : arO fs k < -1 := by omega
                go_wp2
                go_ret
                exact ⟨ret_bool HF.out.symm, HE.out⟩
            · obtain rfl : k = fs.length := by omega
              have HF := Lib.hid (HB.out.is_true ⟨HP2.out, HA.out⟩)
              have HE := Lib.hid (HBW.out.trans (HBR.out.mono (by simp)))
              go_wp2
              go_ret
              exact ⟨ret_bool HF.out.symm, HE.out⟩
        · have HF := Lib.hid (HB.out.is_false fun h => h4 h.1.2.2)
          have h4' : (16 : Int) < (fs.length : Int) := by omega
          go_enter Try.func74, Try.ntmps74
          go_wp2_with (go_at_call 48; refine (isArity _ true _ H1.out).mono ?_; rintro e w' ⟨rfl, rfl⟩)
          go_ret
          exact ⟨ret_bool HF.out.symm, HBW.out⟩
      · have HF := Lib.hid (HB.out.is_false fun h => h3 h.1.2.1.2)
        have h3' : 8 < va := by omega
        go_enter Try.func74, Try.ntmps74
        go_wp2_with (go_at_call 48; refine (isArity _ true _ H1.out).mono ?_; rintro e w' ⟨rfl, rfl⟩)
        go_ret
        exact ⟨ret_bool HF.out.symm, HBW.out⟩
    · have HF := Lib.hid (HB.out.is_false fun h => h2 h.1.2.1.1)
      have h2' : va < fr := by omega
      go_enter Try.func74, Try.ntmps74
      go_wp2_with (go_at_call 48; refine (isArity _ true _ H1.out).mono ?_; rintro e w' ⟨rfl, rfl⟩)
      go_ret
      exact ⟨ret_bool HF.out.symm, HBW.out⟩
  · have H1 := Lib.hid (Tells.no h1)
    have HF := Lib.hid (HB.out.is_false fun h => h1 h.1.1)
    clear h1
    go_enter Try.func74, Try.ntmps74
    go_wp2_with (go_at_call 48; refine (isArity _ false _ H1.out).mono ?_; rintro e w' ⟨rfl, rfl⟩)
    go_ret
    exact ⟨ret_bool HF.out.symm, HBW.out⟩

theorem FormOk.text {sz : Int} {rs : List (Int × List (List Int))} {fr va : Int} {fs : List (Int × List Int)} (h : FormOk sz rs fr va fs) : TextOk fr va fs := by
  refine ⟨h.2.1, fun k hk => ?_⟩
  obtain ⟨h1, h2, h3⟩ := h.2.2 k hk
  have hl : InP (arO fs k) (-1) 5 ∧ In14 (arityOf rs (arO fs k)) := by
    by_cases e : arO fs k = -1
    · rw [e, arityOf_eq]; exact ⟨⟨by omega, by omega⟩, ⟨by omega, by omega⟩⟩
    · by_cases hin : 0 ≤ arO fs k ∧ arO fs k < rs.length
      · obtain ⟨m, hm⟩ : ∃ m : Nat, arO fs k = m := ⟨(arO fs k).toNat, by omega⟩
        rw [hm] at hin ⊢
        rw [arityOf_in (by omega)]
        exact ⟨⟨by omega, by have := h.1.2.1; omega⟩, (h.1.2.2 m (by omega)).2.1⟩
      · exact absurd (arityOf_out e hin) h1
  exact ⟨hl.1, h2 ▸ hl.2, rfl, h3⟩

theorem five_below {w w1 w2 : World} {C : List (Addr × Value)} {R : List (World → Prop)} {a1 a2 a3 a4 a5 : Addr} {x1 x2 x3 x4 x5 : Value}
    (h : w1.cell? a1 = some x1 ∧ w1.cell? a2 = some x2 ∧ w1.cell? a3 = some x3 ∧ w1.cell? a4 = some x4 ∧ w1.cell? a5 = some x5 ∧ Kept w C R w1) (hb : Below w1.heap.size w1 w2) :
    w2.cell? a1 = some x1 ∧ w2.cell? a2 = some x2 ∧ w2.cell? a3 = some x3 ∧ w2.cell? a4 = some x4 ∧ w2.cell? a5 = some x5 ∧ Kept w C R w2 :=
  ⟨below_cell hb h.1, below_cell hb h.2.1, below_cell hb h.2.2.1, below_cell hb h.2.2.2.1, below_cell hb h.2.2.2.2.1, h.2.2.2.2.2.below hb⟩

set_option maxHeartbeats 400000 in
theorem isRelOf (sz : Int) (a : Option Addr) (n c : Nat) (rs : List (Int × List (List Int))) (rel : Int) (b : Bool) (w : World) (h : RelsAt w (.slice a n c) rs) (hb : Tells b (0 ≤ rel ∧ rel < rs.length)) :
    Calls Try.prog 52 #[.agg #[.int .i64 sz, .slice a n c], .int .i64 rel] w fun e w' => e = .returned (.bool b) ∧ Below w.heap.size w w' := by
  obtain ⟨a', c', hv, hn, -⟩ := h
  simp only [Value.slice.injEq] at hv
  obtain ⟨rfl, rfl, rfl⟩ := hv
  have HBW := Lib.hid ((Below.refl w.heap.size w).alloc (Nat.le_refl _) (.cells #[.int .i64 sz, .slice a rs.length c] 37))
  have HB := Lib.hid hb
  clear hb
  by_cases h1 : 0 ≤ rel
  · by_cases h2 : rel < rs.length
    · have HF := Lib.hid (HB.out.is_true ⟨h1, h2⟩)
      go_enter Try.func52, Try.ntmps52
      go_wp2
      go_ret
      exact ⟨ret_bool HF.out.symm, HBW.out⟩
    · have HF := Lib.hid (HB.out.is_false fun h => h2 h.2)
      go_enter Try.func52, Try.ntmps52
      go_wp2
      go_ret
      exact ⟨ret_bool HF.out.symm, HBW.out⟩
  · have HF := Lib.hid (HB.out.is_false fun h => h1 h.1)
    go_enter Try.func52, Try.ntmps52
    go_wp2
    go_ret
    exact ⟨ret_bool HF.out.symm, HBW.out⟩

end Go.Proofs.Ytnbgpeoceejolab
