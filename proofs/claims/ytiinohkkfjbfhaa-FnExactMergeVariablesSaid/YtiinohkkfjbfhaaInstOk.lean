/-
  Valid instances: ValidInstance of the model and of the program.
-/
import Derived.Test.YtiinohkkfjbfhaaInst
import Derived.Test.YtiinohkkfjbfhaaFormOk2
namespace Go.Proofs.Ytiinohkkfjbfhaa
open Go.RowKit

def ConOk (rs : List (Int × List (List Int))) (va rel : Int) (args : List Int) : Prop := InP rel 0 ((rs.length : Int) - 1) ∧ (args.length : Int) = arN rs rel.toNat ∧ PlP args va
def InstOk (sz : Int) (rs : List (Int × List (List Int))) (va : Int) (cs : List (Int × List Int)) : Prop := TplOk sz rs ∧ InP va 1 10 ∧ cs.length ≤ 24 ∧ ∀ k, k < cs.length → ConOk rs va (arO cs k) (rowO cs k)
def ValidInstanceIs (sz : Int) (rs : List (Int × List (List Int))) (va : Int) (cs : List (Int × List Int)) (b : Bool) : Prop := Tells b (InstOk sz rs va cs)
theorem ValidInstanceIs.exists (sz : Int) (rs : List (Int × List (List Int))) (va : Int) (cs : List (Int × List Int)) : ∃ b, ValidInstanceIs sz rs va cs b := Tells.exists' _

set_option maxHeartbeats 1000000 in
set_option maxRecDepth 100000 in
theorem l05Ok (tb to : Nat) (sz : Int) (rs : List (Int × List (List Int))) (pb po : Nat) (va : Int) (cs : List (Int × List Int)) (b : Bool) (w : World) (ht : TplAt w tb to sz rs) (h : InstAt w pb po va cs) (hb : Tells b (InstOk sz rs va cs)) :
    Calls Try.prog 63 #[.pointer (some ⟨tb, to, none⟩), .pointer (some ⟨pb, po, none⟩)] w fun e w' => e = .returned (.bool b) ∧ QW w w' := by
  have HT := Lib.hid ht
  have HB := Lib.hid hb
  obtain ⟨tp0, ta, tn, tc, tp1, ta', tc', thv, thn, thc⟩ := ht
  simp only [Value.slice.injEq] at thv
  obtain ⟨rfl, rfl, rfl⟩ := thv
  have THC := Lib.hid thc
  obtain ⟨x1, a1, n1, c1, x3, a1', c1', hv1, hn1, hc1⟩ := h
  simp only [Value.slice.injEq] at hv1
  obtain ⟨rfl, rfl, rfl⟩ := hv1
  have HC := Lib.hid hc1
  clear hc1 thc hb
  by_cases h1 : TplOk sz rs
  · have H1 := Lib.hid (Tells.yes h1)
    have HP1 := Lib.hid h1
    clear h1
    by_cases h2 : InP va 1 10
    · have H2 := Lib.hid (Tells.yes h2)
      have HP2 := Lib.hid h2
      have hva1 : 1 ≤ va := h2.1
      have hva2 : va ≤ 1000 := by have := h2.2; omega
      clear h2
      by_cases h3 : cs.length ≤ 24
      · have h3' : ¬ (24 : Int) < (cs.length : Int) := by omega
        go_enter Try.func63, Try.ntmps63
        go_wp2_with fail
        refine (l01Template _ _ _ _ true _ HT.out H1.out).mono ?_
        rintro e w1 ⟨rfl, hq⟩
        have HQ1 := Lib.hid hq
        clear hq
        have x1' := HQ1.out.cell x1
        have x3' := HQ1.out.cell x3
        go_wp2_with (go_at_call 75; refine (l00In _ _ _ true _ H2.out).mono ?_; rintro e w' ⟨rfl, rfl⟩)
        clear x1' x3'
        go_loopw [5] (fun i wr => ∃ k : Nat, k ≤ cs.length ∧ i = .int .i64 k ∧ (∀ j, j < k → ConOk rs va (arO cs j) (rowO cs j)) ∧ QW w wr) (fun i _ => cs.length - (intOf i).toNat)
        case atStart => exact ⟨0, Nat.zero_le _, rfl, fun j hj => absurd hj (Nat.not_lt_zero _), HQ1.out⟩
        case round =>
          obtain ⟨k, hk, rfl, hall, hq⟩ := hrel
          have HA := Lib.hid hall
          have HQ := Lib.hid hq
          have e1 := HQ.out.cell x1
          have e3 := HQ.out.cell x3
          have t0 := HQ.out.cell tp0
          have t1 := HQ.out.cell tp1
          clear hall hq
          by_cases hlt : k < cs.length
          · obtain ⟨b1, off1, ha1, hcell1⟩ := HC.out (by omega)
            subst ha1
            obtain ⟨y0, a2, n2, c2, y1, hr⟩ := (hcell1 k hlt).below HQ.out.bel
            have hnl : n2 = (rowO cs k).length := by obtain ⟨_, _, hv, _⟩ := hr; simp only [Value.slice.injEq] at hv; exact hv.2.1
            subst hnl
            have HR := Lib.hid hr
            have hlt' : (k : Int) < (cs.length : Int) := by omega
            clear hcell1 hr
            by_cases g1 : InP (arO cs k) 0 ((rs.length : Int) - 1)
            · have G1 := Lib.hid (Tells.yes g1)
              obtain ⟨m, hm⟩ : ∃ m : Nat, arO cs k = m := ⟨(arO cs k).toNat, by have := g1.1; omega⟩
              have hmr : m < rs.length := by have := g1.2; omega
              have hmr' : (m : Int) < (rs.length : Int) := by omega
              obtain ⟨b3, off3, ha3, hcell3⟩ := THC.out (by omega)
              subst ha3
              obtain ⟨z0, -⟩ := (hcell3 m hmr).below HQ.out.bel
              have HNR : Hid (ConOk rs va (arO cs k) (rowO cs k) ↔ ((rowO cs k).length : Int) = arN rs m ∧ PlP (rowO cs k) va) := Lib.hid (by unfold ConOk; rw [hm]; exact ⟨fun h => h.2, fun h => ⟨hm ▸ g1, h⟩⟩)
              rw [hm] at y0 G1
              clear hcell3 g1
              by_cases g2 : ((rowO cs k).length : Int) = arN rs m
              · have g2' : (((rowO cs k).length : Int) == arN rs m) = true := beq_iff_eq.2 g2
                by_cases g3 : PlP (rowO cs k) va
                · have G3 := Lib.hid (Tells.yes g3)
                  have HP3 := Lib.hid (HNR.out.2 ⟨g2, g3⟩)
                  clear g3 hm
                  go_wp2
                  go_quiet ((first | (go_at_call 75; exact QW.calls_same (l00In _ _ _ true _ G1.out)) | (go_at_call 125; exact QW.calls_same (l01PlacesV _ _ _ true _ (HR.out.below (((QW.refl _).drewN _).bel)) hva1 hva2 G3.out))))
                  go_wp2
                  go_roundw
                  case rel =>
                    refine ⟨k + 1, by omega, by go_num, fun j hj => ?_, HQ.out.drewN _⟩
                    by_cases hjk : j = k
                    · subst hjk; exact HP3.out
                    · exact HA.out j (by omega)
                  case measure => simp [intOf]; omega
                · have G3 := Lib.hid (Tells.no g3)
                  have HF := Lib.hid (HB.out.is_false fun h => g3 (HNR.out.1 (h.2.2.2 k hlt)).2)
                  clear g3 hm
                  go_wp2
                  go_quiet ((first | (go_at_call 75; exact QW.calls_same (l00In _ _ _ true _ G1.out)) | (go_at_call 125; exact QW.calls_same (l01PlacesV _ _ _ false _ (HR.out.below (((QW.refl _).drewN _).bel)) hva1 hva2 G3.out))))
                  go_wp2
                  go_ret
                  exact ⟨ret_bool HF.out.symm, HQ.out.drewN _⟩
              · have HF := Lib.hid (HB.out.is_false fun h => g2 (HNR.out.1 (h.2.2.2 k hlt)).1)
                have g2' : (((rowO cs k).length : Int) == arN rs m) = false := beq_eq_false_iff_ne.2 g2
                have g2'' : (((rowO cs k).length : Int) != arN rs m) = true := bne_iff_ne.2 g2
                clear hm
                go_wp2
                go_quiet ((go_at_call 75; exact QW.calls_same (l00In _ _ _ true _ G1.out)))
                go_wp2
                go_ret
                exact ⟨ret_bool HF.out.symm, HQ.out.drewN _⟩
            · have G1 := Lib.hid (Tells.no g1)
              have HF := Lib.hid (HB.out.is_false fun h => g1 (h.2.2.2 k hlt).1)
              clear g1
              go_wp2
              go_quiet ((go_at_call 75; exact QW.calls_same (l00In _ _ _ false _ G1.out)))
              go_wp2
              go_ret
              exact ⟨ret_bool HF.out.symm, HQ.out.drewN _⟩
          · obtain rfl : k = cs.length := by omega
            have HF := Lib.hid (HB.out.is_true ⟨HP1.out, HP2.out, h3, HA.out⟩)
            go_wp2
            go_ret
            exact ⟨ret_bool HF.out.symm, HQ.out⟩
      · have h3' : (24 : Int) < (cs.length : Int) := by omega
        have HF := Lib.hid (HB.out.is_false fun h => h3 h.2.2.1)
        go_enter Try.func63, Try.ntmps63
        go_wp2_with fail
        refine (l01Template _ _ _ _ true _ HT.out H1.out).mono ?_
        rintro e w1 ⟨rfl, hq⟩
        have HQ1 := Lib.hid hq
        clear hq
        have x1' := HQ1.out.cell x1
        have x3' := HQ1.out.cell x3
        go_wp2_with (go_at_call 75; refine (l00In _ _ _ true _ H2.out).mono ?_; rintro e w' ⟨rfl, rfl⟩)
        go_ret
        exact ⟨ret_bool HF.out.symm, HQ1.out⟩
    · have H2 := Lib.hid (Tells.no h2)
      have HF := Lib.hid (HB.out.is_false fun h => h2 h.2.1)
      clear h2
      go_enter Try.func63, Try.ntmps63
      go_wp2_with fail
      refine (l01Template _ _ _ _ true _ HT.out H1.out).mono ?_
      rintro e w1 ⟨rfl, hq⟩
      have HQ1 := Lib.hid hq
      clear hq
      have x1' := HQ1.out.cell x1
      go_wp2_with (go_at_call 75; refine (l00In _ _ _ false _ H2.out).mono ?_; rintro e w' ⟨rfl, rfl⟩)
      go_ret
      exact ⟨ret_bool HF.out.symm, HQ1.out⟩
  · have H1 := Lib.hid (Tells.no h1)
    have HF := Lib.hid (HB.out.is_false fun h => h1 h.1)
    clear h1
    go_enter Try.func63, Try.ntmps63
    go_wp2_with fail
    refine (l01Template _ _ _ _ false _ HT.out H1.out).mono ?_
    rintro e w1 ⟨rfl, hq⟩
    have HQ1 := Lib.hid hq
    clear hq
    go_wp2
    go_ret
    exact ⟨ret_bool HF.out.symm, HQ1.out⟩

set_option maxHeartbeats 400000 in
theorem specValidInstance (sz : Int) (a1 : Option Addr) (n1 c1 : Nat) (rs : List (Int × List (List Int))) (va : Int) (a2 : Option Addr) (n2 c2 : Nat) (cs : List (Int × List Int)) (b : Bool) (w : World) (h1 : RelsAt w (.slice a1 n1 c1) rs) (h2 : OpsAt w (.slice a2 n2 c2) cs) (hb : ValidInstanceIs sz rs va cs b) :
    Calls Try.prog 17 #[.agg #[.int .i64 sz, .slice a1 n1 c1], .agg #[.int .i64 va, .slice a2 n2 c2]] w fun e w' => e = .returned (.bool b) ∧ Below w.heap.size w w' := by
  have hbw := (Below.refl w.heap.size w).alloc (Nat.le_refl _) (.cells #[.int .i64 sz, .slice a1 n1 c1] 33)
  have hbw2 := hbw.alloc (by simp) (.cells #[.int .i64 va, .slice a2 n2 c2] 37)
  have H1 := Lib.hid ((TplAt.new w sz a1 n1 c1 rs 33 h1).below ((Below.refl _ _).alloc (Nat.le_refl _) (.cells #[.int .i64 va, .slice a2 n2 c2] 37)))
  have H2 := Lib.hid (InstAt.new (w.alloc (.cells #[.int .i64 sz, .slice a1 n1 c1] 33)) va a2 n2 c2 cs 37 (h2.below hbw))
  have HB := Lib.hid hb
  have HW := Lib.hid hbw2
  clear h1 h2 hb hbw hbw2
  go_enter Try.func17, Try.ntmps17
  go_wp2_with fail
  refine (l05Ok w.heap.size 0 sz rs (w.heap.size + 1) 0 va cs b _ H1.out (by have := H2.out; simpa using this) HB.out).mono ?_
  rintro e w2 ⟨rfl, hq⟩
  have HQ := Lib.hid (HW.out.trans (hq.below _))
  clear hq
  go_wp2
  go_ret
  exact ⟨rfl, HQ.out⟩

end Go.Proofs.Ytiinohkkfjbfhaa
