/-
  FoldValues of the model and of the program: the two sides of the law.
-/
import Derived.Test.YtclhcnfgpkhplaaFold
import Derived.Test.YtclhcnfgpkhplaaMinor
namespace Go.Proofs.Ytclhcnfgpkhplaa
open Go.RowKit

def FoldArg (ar sz : Int) (vs : List Int) : Prop := ar = 2 ∧ 0 < vs.length ∧ TupP sz vs.length vs
/-- What FoldValues answers. -/
def FoldValuesIs (sz : Int) (rs : List (Int × List (List Int))) (ar : Int) (tab vs : List Int) (v cd : Int) : Prop :=
  (¬ TplOk sz rs ∧ v = 0 ∧ cd = 1) ∨ (TplOk sz rs ∧ ¬ OpOk sz ar tab ∧ v = 0 ∧ cd = 1) ∨ (TplOk sz rs ∧ OpOk sz ar tab ∧ ¬ FoldArg ar sz vs ∧ v = 0 ∧ cd = 2) ∨
    (TplOk sz rs ∧ OpOk sz ar tab ∧ FoldArg ar sz vs ∧ v = foldN sz.toNat tab vs (vs.length - 1) ∧ cd = 0)
theorem FoldValuesIs.exists (sz : Int) (rs : List (Int × List (List Int))) (ar : Int) (tab vs : List Int) : ∃ v cd, FoldValuesIs sz rs ar tab vs v cd := by
  by_cases h1 : TplOk sz rs
  · by_cases h2 : OpOk sz ar tab
    · by_cases h3 : FoldArg ar sz vs
      · exact ⟨_, _, .inr (.inr (.inr ⟨h1, h2, h3, rfl, rfl⟩))⟩
      · exact ⟨_, _, .inr (.inr (.inl ⟨h1, h2, h3, rfl, rfl⟩))⟩
    · exact ⟨_, _, .inr (.inl ⟨h1, h2, rfl, rfl⟩)⟩
  · exact ⟨_, _, .inl ⟨h1, rfl, rfl⟩⟩

set_option linter.unusedSimpArgs false in
set_option maxHeartbeats 1000000 in
set_option maxRecDepth 100000 in
theorem specFoldValues (sz : Int) (a1 : Option Addr) (n1 c1 : Nat) (rs : List (Int × List (List Int))) (ar : Int) (a2 : Option Addr) (n2 c2 : Nat) (tab : List Int) (v3 : Value) (vs : List Int) (v cd : Int) (w : World) (h1 : RelsAt w (.slice a1 n1 c1) rs) (h2 : RowAt w (.slice a2 n2 c2) tab) (h3 : RowAt w v3 vs) (hi : FoldValuesIs sz rs ar tab vs v cd) :
    Calls Try.prog 35 #[.agg #[.int .i64 sz, .slice a1 n1 c1], .agg #[.int .i64 ar, .slice a2 n2 c2], v3] w fun e w' => e = .returned (.tuple #[.int .i64 v, .int .i64 cd]) ∧ Below w.heap.size w w' := by
  have hbw := (Below.refl w.heap.size w).alloc (Nat.le_refl _) (.cells #[.int .i64 sz, .slice a1 n1 c1] 60)
  have hbw2 := hbw.alloc (by simp) (.cells #[.int .i64 ar, .slice a2 n2 c2] 28)
  have H1 := Lib.hid ((TplAt.new w sz a1 n1 c1 rs 60 h1).below ((Below.refl _ _).alloc (Nat.le_refl _) (.cells #[.int .i64 ar, .slice a2 n2 c2] 28)))
  have H2' := Lib.hid (OpAt.new (w.alloc (.cells #[.int .i64 sz, .slice a1 n1 c1] 60)) ar a2 n2 c2 tab 28 (h2.below hbw))
  have H2 : Hid (OpAt ((w.alloc (.cells #[.int .i64 sz, .slice a1 n1 c1] 60)).alloc (.cells #[.int .i64 ar, .slice a2 n2 c2] 28)) (w.heap.size + 1) 0 ar tab) := Lib.hid (by have := H2'.out; simpa using this)
  have H3 := Lib.hid (h3.below hbw2)
  have HW := Lib.hid hbw2
  clear h1 h2 h3 hbw hbw2 H2'
  rcases hi with ⟨ht, rfl, rfl⟩ | ⟨ht, ho, rfl, rfl⟩ | ⟨ht, ho, ha, rfl, rfl⟩ | ⟨ht, ho, ha, rfl, rfl⟩
  · have HT := Lib.hid (Tells.no ht)
    clear ht
    go_enter Try.func35, Try.ntmps35
    go_wp2_with fail
    refine (l01Template _ _ _ rs false _ H1.out HT.out).mono ?_
    rintro e w2 ⟨rfl, hq2⟩
    have HQ2 := Lib.hid (hq2 : QW _ w2).bel
    have HW2 := Lib.hid (HW.out.trans (HQ2.out.mono HW.out.size))
    have H12 := Lib.hid (H1.out.below HQ2.out)
    have H22 := Lib.hid (H2.out.below HQ2.out)
    have H32 := Lib.hid (H3.out.below HQ2.out)
    have e0 := H12.out.size
    clear hq2
    go_wp2
    go_ret2
    exact ⟨rfl, HW2.out⟩
  · have HT := Lib.hid (Tells.yes ht)
    have HO := Lib.hid (Tells.no ho)
    clear ht ho
    go_enter Try.func35, Try.ntmps35
    go_wp2_with fail
    refine (l01Template _ _ _ rs true _ H1.out HT.out).mono ?_
    rintro e w2 ⟨rfl, hq2⟩
    have HQ2 := Lib.hid (hq2 : QW _ w2).bel
    have HW2 := Lib.hid (HW.out.trans (HQ2.out.mono HW.out.size))
    have H12 := Lib.hid (H1.out.below HQ2.out)
    have H22 := Lib.hid (H2.out.below HQ2.out)
    have H32 := Lib.hid (H3.out.below HQ2.out)
    have e0 := H12.out.size
    clear hq2
    go_wp2_with fail
    refine (l02Ok _ _ _ _ tab false _ H22.out HO.out).mono ?_
    rintro e w3 ⟨rfl, hq3⟩
    have HQ3 := Lib.hid (hq3 : QW _ w3).bel
    have HW3 := Lib.hid (HW2.out.trans (HQ3.out.mono HW2.out.size))
    have H13 := Lib.hid (H12.out.below HQ3.out)
    have H23 := Lib.hid (H22.out.below HQ3.out)
    have H33 := Lib.hid (H32.out.below HQ3.out)
    have g0 := H13.out.size
    have g1 := H23.out.1
    clear hq3 e0
    go_wp2
    go_ret2
    exact ⟨rfl, HW3.out⟩
  · have HT := Lib.hid (Tells.yes ht)
    have HO := Lib.hid (Tells.yes ho)
    by_cases h2 : ar = 2
    case neg =>
      have n2' : (ar != 2) = true := by simp [h2]
      clear ht ho ha h2
      go_enter Try.func35, Try.ntmps35
      go_wp2_with fail
      refine (l01Template _ _ _ rs true _ H1.out HT.out).mono ?_
      rintro e w2 ⟨rfl, hq2⟩
      have HQ2 := Lib.hid (hq2 : QW _ w2).bel
      have HW2 := Lib.hid (HW.out.trans (HQ2.out.mono HW.out.size))
      have H12 := Lib.hid (H1.out.below HQ2.out)
      have H22 := Lib.hid (H2.out.below HQ2.out)
      have H32 := Lib.hid (H3.out.below HQ2.out)
      have e0 := H12.out.size
      clear hq2
      go_wp2_with fail
      refine (l02Ok _ _ _ _ tab true _ H22.out HO.out).mono ?_
      rintro e w3 ⟨rfl, hq3⟩
      have HQ3 := Lib.hid (hq3 : QW _ w3).bel
      have HW3 := Lib.hid (HW2.out.trans (HQ3.out.mono HW2.out.size))
      have H13 := Lib.hid (H12.out.below HQ3.out)
      have H23 := Lib.hid (H22.out.below HQ3.out)
      have H33 := Lib.hid (H32.out.below HQ3.out)
      have g0 := H13.out.size
      have g1 := H23.out.1
      clear hq3 e0
      go_wp2
      go_ret2
      exact ⟨rfl, HW3.out⟩
    subst h2
    obtain ⟨s, rfl⟩ : ∃ s : Nat, sz = s := ⟨sz.toNat, by have := ho.1.1; omega⟩
    have hs1 : (1 : Int) ≤ (s : Int) := ho.1.1
    have hs4 : (s : Int) ≤ 4 := ho.1.2
    obtain ⟨a3, n3, c3, rfl, hr3⟩ := H3.out.slice
    obtain rfl : n3 = vs.length := by obtain ⟨_, _, he, _⟩ := hr3; simp only [Value.slice.injEq] at he; exact he.2.1
    have HBG : Hid (vs.length ≤ 9223372036854775807) := Lib.hid (by obtain ⟨_, _, _, hn, _⟩ := hr3; exact hn)
    clear hr3
    by_cases h0 : vs.length = 0
    · have n0 : ((vs.length : Int) == 0) = true := by simp [h0]
      clear ht ho ha h0
      go_enter Try.func35, Try.ntmps35
      go_wp2_with fail
      refine (l01Template _ _ _ rs true _ H1.out HT.out).mono ?_
      rintro e w2 ⟨rfl, hq2⟩
      have HQ2 := Lib.hid (hq2 : QW _ w2).bel
      have HW2 := Lib.hid (HW.out.trans (HQ2.out.mono HW.out.size))
      have H12 := Lib.hid (H1.out.below HQ2.out)
      have H22 := Lib.hid (H2.out.below HQ2.out)
      have H32 := Lib.hid (H3.out.below HQ2.out)
      have e0 := H12.out.size
      clear hq2
      go_wp2_with fail
      refine (l02Ok _ _ _ _ tab true _ H22.out HO.out).mono ?_
      rintro e w3 ⟨rfl, hq3⟩
      have HQ3 := Lib.hid (hq3 : QW _ w3).bel
      have HW3 := Lib.hid (HW2.out.trans (HQ3.out.mono HW2.out.size))
      have H13 := Lib.hid (H12.out.below HQ3.out)
      have H23 := Lib.hid (H22.out.below HQ3.out)
      have H33 := Lib.hid (H32.out.below HQ3.out)
      have g0 := H13.out.size
      have g1 := H23.out.1
      clear hq3 e0
      go_wp2
      go_ret2
      exact ⟨rfl, HW3.out⟩
    have n0 : ((vs.length : Int) == 0) = false := beq_eq_false_iff_ne.2 (by omega)
    have HNA : Hid (¬ ∀ k, k < vs.length → InP (intN vs k) 0 ((s : Int) - 1)) := Lib.hid fun h => ha ⟨rfl, by omega, rfl, fun k hk => ⟨(h k hk).1, by have := (h k hk).2; omega⟩⟩
    clear ht ho ha h0
    go_enter Try.func35, Try.ntmps35
    go_wp2_with fail
    refine (l01Template _ _ _ rs true _ H1.out HT.out).mono ?_
    rintro e w2 ⟨rfl, hq2⟩
    have HQ2 := Lib.hid (hq2 : QW _ w2).bel
    have HW2 := Lib.hid (HW.out.trans (HQ2.out.mono HW.out.size))
    have H12 := Lib.hid (H1.out.below HQ2.out)
    have H22 := Lib.hid (H2.out.below HQ2.out)
    have H32 := Lib.hid (H3.out.below HQ2.out)
    have e0 := H12.out.size
    clear hq2
    go_wp2_with fail
    refine (l02Ok _ _ _ _ tab true _ H22.out HO.out).mono ?_
    rintro e w3 ⟨rfl, hq3⟩
    have HQ3 := Lib.hid (hq3 : QW _ w3).bel
    have HW3 := Lib.hid (HW2.out.trans (HQ3.out.mono HW2.out.size))
    have H13 := Lib.hid (H12.out.below HQ3.out)
    have H23 := Lib.hid (H22.out.below HQ3.out)
    have H33 := Lib.hid (H32.out.below HQ3.out)
    have g0 := H13.out.size
    have g1 := H23.out.1
    clear hq3 e0
    go_wp2
    go_loopw [8] (fun i wr => ∃ k : Nat, k ≤ vs.length ∧ i = .int .i64 (k : Int) ∧ (∀ j, j < k → InP (intN vs j) 0 ((s : Int) - 1)) ∧ Below w3.heap.size w3 wr) (fun i _ => vs.length - (intOf i).toNat)
    case atStart => exact ⟨0, Nat.zero_le _, rfl, fun j hj => absurd hj (Nat.not_lt_zero _), Below.refl _ _⟩
    case round =>
      obtain ⟨k, hk, rfl, hall, hbel⟩ := hrel
      have HL := Lib.hid hall
      have HB := Lib.hid hbel
      clear hall hbel g0 g1
      have H1r := Lib.hid (H13.out.below HB.out)
      have H2r := Lib.hid (H23.out.below HB.out)
      have H3r := Lib.hid (H33.out.below HB.out)
      have g0 := H1r.out.size
      by_cases hlt : k < vs.length
      case pos =>
        have hlt' : (k : Int) < (vs.length : Int) := by omega
        have hbk : (k : Int) + 1 ≤ 9223372036854775807 := by have := HBG.out; omega
        obtain ⟨b3, off, rfl, _, hc3⟩ := SlAt.some_of H3r.out k hlt
        obtain ⟨x, hx⟩ : ∃ x, intN vs k = x := ⟨_, rfl⟩
        have HX := Lib.hid hx
        rw [hx] at hc3
        clear hx
        by_cases hin : InP x 0 ((s : Int) - 1)
        · have HTH : Hid (InP (intN vs k) 0 ((s : Int) - 1)) := Lib.hid (by rw [HX.out]; exact hin)
          have HI := Lib.hid (Tells.yes hin)
          clear hin
          go_wp2
          go_quiet ((go_at_call 66; exact QW.calls_same (l00In _ _ _ true _ HI.out)))
          go_wp2
          go_roundw
          case rel =>
            refine ⟨k + 1, by omega, by go_num, fun j hj => ?_, HB.out.trans (((QW.refl _).drewN _).below _ |>.mono HB.out.size)⟩
            by_cases hjk : j = k
            · subst hjk; exact HTH.out
            · exact HL.out j (by omega)
          case measure => simp [intOf]; omega
        · have HI := Lib.hid (Tells.no hin)
          clear hin
          go_wp2
          go_quiet ((go_at_call 66; exact QW.calls_same (l00In _ _ _ false _ HI.out)))
          go_wp2
          go_ret2
          exact ⟨rfl, HW3.out.trans ((HB.out.trans ((((QW.refl _).drewN _).below _).mono HB.out.size)).mono HW3.out.size)⟩
      case neg =>
        obtain rfl : k = vs.length := by omega
        exact absurd HL.out HNA.out
  · have HT := Lib.hid (Tells.yes ht)
    have HO := Lib.hid (Tells.yes ho)
    obtain ⟨rfl, h0, htu⟩ := ha
    obtain ⟨s, rfl⟩ : ∃ s : Nat, sz = s := ⟨sz.toNat, by have := ho.1.1; omega⟩
    have hs1 : (1 : Int) ≤ (s : Int) := ho.1.1
    have hs4 : (s : Int) ≤ 4 := ho.1.2
    have HOO := Lib.hid ho
    obtain ⟨a3, n3, c3, rfl, hr3⟩ := H3.out.slice
    obtain rfl : n3 = vs.length := by obtain ⟨_, _, he, _⟩ := hr3; simp only [Value.slice.injEq] at he; exact he.2.1
    have HBG : Hid (vs.length ≤ 9223372036854775807) := Lib.hid (by obtain ⟨_, _, _, hn, _⟩ := hr3; exact hn)
    have n0 : ((vs.length : Int) == 0) = false := beq_eq_false_iff_ne.2 (by omega)
    have HNA : Hid (∀ k, k < vs.length → 0 ≤ intN vs k ∧ intN vs k < (s : Int)) := Lib.hid htu.2
    have H0 := Lib.hid h0
    rw [Int.toNat_natCast]
    clear ht ho htu hr3 h0
    go_enter Try.func35, Try.ntmps35
    go_wp2_with fail
    refine (l01Template _ _ _ rs true _ H1.out HT.out).mono ?_
    rintro e w2 ⟨rfl, hq2⟩
    have HQ2 := Lib.hid (hq2 : QW _ w2).bel
    have HW2 := Lib.hid (HW.out.trans (HQ2.out.mono HW.out.size))
    have H12 := Lib.hid (H1.out.below HQ2.out)
    have H22 := Lib.hid (H2.out.below HQ2.out)
    have H32 := Lib.hid (H3.out.below HQ2.out)
    have e0 := H12.out.size
    clear hq2
    go_wp2_with fail
    refine (l02Ok _ _ _ _ tab true _ H22.out HO.out).mono ?_
    rintro e w3 ⟨rfl, hq3⟩
    have HQ3 := Lib.hid (hq3 : QW _ w3).bel
    have HW3 := Lib.hid (HW2.out.trans (HQ3.out.mono HW2.out.size))
    have H13 := Lib.hid (H12.out.below HQ3.out)
    have H23 := Lib.hid (H22.out.below HQ3.out)
    have H33 := Lib.hid (H32.out.below HQ3.out)
    have g0 := H13.out.size
    have g1 := H23.out.1
    clear hq3 e0
    go_wp2
    go_loopw [8] (fun i wr => ∃ k : Nat, k ≤ vs.length ∧ i = .int .i64 (k : Int) ∧ (∀ j, j < k → InP (intN vs j) 0 ((s : Int) - 1)) ∧ Below w3.heap.size w3 wr) (fun i _ => vs.length - (intOf i).toNat)
    case atStart => exact ⟨0, Nat.zero_le _, rfl, fun j hj => absurd hj (Nat.not_lt_zero _), Below.refl _ _⟩
    case round =>
      obtain ⟨k, hk, rfl, hall, hbel⟩ := hrel
      have HL := Lib.hid hall
      have HB := Lib.hid hbel
      clear hall hbel g0 g1
      have H1r := Lib.hid (H13.out.below HB.out)
      have H2r := Lib.hid (H23.out.below HB.out)
      have H3r := Lib.hid (H33.out.below HB.out)
      have g0 := H1r.out.size
      by_cases hlt : k < vs.length
      case pos =>
        have hlt' : (k : Int) < (vs.length : Int) := by omega
        have hbk : (k : Int) + 1 ≤ 9223372036854775807 := by have := HBG.out; omega
        obtain ⟨b3, off, rfl, _, hc3⟩ := SlAt.some_of H3r.out k hlt
        obtain ⟨x, hx⟩ : ∃ x, intN vs k = x := ⟨_, rfl⟩
        have HX := Lib.hid hx
        rw [hx] at hc3
        clear hx
        have hin : InP x 0 ((s : Int) - 1) := by have := HNA.out k hlt; rw [HX.out] at this; exact ⟨this.1, by omega⟩
        have HTH : Hid (InP (intN vs k) 0 ((s : Int) - 1)) := Lib.hid (by rw [HX.out]; exact hin)
        have HI := Lib.hid (Tells.yes hin)
        clear hin
        go_wp2
        go_quiet ((go_at_call 66; exact QW.calls_same (l00In _ _ _ true _ HI.out)))
        go_wp2
        go_roundw
        case rel =>
          refine ⟨k + 1, by omega, by go_num, fun j hj => ?_, HB.out.trans (((QW.refl _).drewN _).below _ |>.mono HB.out.size)⟩
          by_cases hjk : j = k
          · subst hjk; exact HTH.out
          · exact HL.out j (by omega)
        case measure => simp [intOf]; omega
      case neg =>
        obtain rfl : k = vs.length := by omega
        go_wp2_with fail
        refine (l06FoldC s _ _ tab _ vs _ H2r.out HOO.out H3r.out H0.out HNA.out).mono ?_
        rintro e w4 ⟨rfl, hb4⟩
        have HW4 := Lib.hid (HW3.out.trans ((HB.out.trans (hb4.mono HB.out.size)).mono HW3.out.size))
        clear hb4
        go_wp2
        go_ret2
        exact ⟨rfl, HW4.out⟩

set_option linter.unusedSimpArgs false in
set_option maxHeartbeats 1000000 in
set_option maxRecDepth 100000 in
theorem implFoldValues (sz : Int) (a1 : Option Addr) (n1 c1 : Nat) (rs : List (Int × List (List Int))) (ar : Int) (a2 : Option Addr) (n2 c2 : Nat) (tab : List Int) (v3 : Value) (vs : List Int) (v cd : Int) (w : World) (h1 : RelsAt w (.slice a1 n1 c1) rs) (h2 : RowAt w (.slice a2 n2 c2) tab) (h3 : RowC w v3 vs) (hi : FoldValuesIs sz rs ar tab vs v cd) :
    Calls Try.prog 38 #[.agg #[.int .i64 sz, .slice a1 n1 c1], .agg #[.int .i64 ar, .slice a2 n2 c2], v3] w fun e w' => e = .returned (.tuple #[.int .i64 v, .int .i64 cd]) ∧ Below w.heap.size w w' := by
  have hbw := (Below.refl w.heap.size w).alloc (Nat.le_refl _) (.cells #[.int .i64 sz, .slice a1 n1 c1] 60)
  have hbw2 := hbw.alloc (by simp) (.cells #[.int .i64 ar, .slice a2 n2 c2] 28)
  have H1 := Lib.hid (h1.below hbw2)
  have H2 := Lib.hid (h2.below hbw2)
  have H3 := Lib.hid (h3.below hbw2)
  have HW := Lib.hid hbw2
  have HBT := Lib.hid ((Box.new 60 w #[.int .i64 sz, .slice a1 n1 c1]).below ((Below.refl _ _).alloc (Nat.le_refl _) (.cells #[.int .i64 ar, .slice a2 n2 c2] 28)))
  have HBO : Hid (Box 28 ((w.alloc (.cells #[.int .i64 sz, .slice a1 n1 c1] 60)).alloc (.cells #[.int .i64 ar, .slice a2 n2 c2] 28)) (w.heap.size + 1) #[.int .i64 ar, .slice a2 n2 c2]) := Lib.hid (by
    have h := Box.new 28 (w.alloc (.cells #[.int .i64 sz, .slice a1 n1 c1] 60)) #[.int .i64 ar, .slice a2 n2 c2]
    rwa [World.size_alloc] at h)
  have c0 := HBT.out.c 0 rfl
  have c1 := HBT.out.c 1 rfl
  have c2 := HBO.out.c 0 rfl
  have c3 := HBO.out.c 1 rfl
  clear h1 h2 h3 hbw hbw2 HBT HBO
  rcases hi with ⟨ht, rfl, rfl⟩ | ⟨ht, ho, rfl, rfl⟩ | ⟨ht, ho, ha, rfl, rfl⟩ | ⟨ht, ho, ha, rfl, rfl⟩
  · have HT := Lib.hid (Tells.no ht)
    clear ht
    go_enter Try.func38, Try.ntmps38
    go_wp2_with fail
    refine (implValidTemplate _ _ _ _ rs false _ H1.out HT.out).mono ?_
    rintro e w2 ⟨rfl, hb2⟩
    have HW2 := Lib.hid (HW.out.trans (hb2.mono HW.out.size))
    have H22 := Lib.hid (H2.out.below hb2)
    have H32 := Lib.hid (H3.out.below hb2)
    have d0 := below_cell hb2 c0
    have d1 := below_cell hb2 c1
    have d2 := below_cell hb2 c2
    have d3 := below_cell hb2 c3
    clear hb2 c0 c1 c2 c3
    go_wp2
    go_ret2
    exact ⟨rfl, HW2.out⟩
  · have HT := Lib.hid (Tells.yes ht)
    have HO := Lib.hid (Tells.no ho)
    clear ht ho
    go_enter Try.func38, Try.ntmps38
    go_wp2_with fail
    refine (implValidTemplate _ _ _ _ rs true _ H1.out HT.out).mono ?_
    rintro e w2 ⟨rfl, hb2⟩
    have HW2 := Lib.hid (HW.out.trans (hb2.mono HW.out.size))
    have H22 := Lib.hid (H2.out.below hb2)
    have H32 := Lib.hid (H3.out.below hb2)
    have d0 := below_cell hb2 c0
    have d1 := below_cell hb2 c1
    have d2 := below_cell hb2 c2
    have d3 := below_cell hb2 c3
    clear hb2 c0 c1 c2 c3
    go_wp2_with fail
    refine (implValidOp _ _ _ _ _ tab false _ H22.out HO.out).mono ?_
    rintro e w3 ⟨rfl, hb3⟩
    have HW3 := Lib.hid (HW2.out.trans (hb3.mono HW2.out.size))
    have H23 := Lib.hid (H22.out.below hb3)
    have H33 := Lib.hid (H32.out.below hb3)
    have g0 := below_cell hb3 d0
    have g1 := below_cell hb3 d1
    have g2 := below_cell hb3 d2
    have g3 := below_cell hb3 d3
    clear hb3 d0 d1 d2 d3
    go_wp2
    go_ret2
    exact ⟨rfl, HW3.out⟩
  · have HT := Lib.hid (Tells.yes ht)
    have HO := Lib.hid (Tells.yes ho)
    by_cases h2 : ar = 2
    case neg =>
      have n2' : (ar != 2) = true := by simp [h2]
      clear ht ho ha h2
      go_enter Try.func38, Try.ntmps38
      go_wp2_with fail
      refine (implValidTemplate _ _ _ _ rs true _ H1.out HT.out).mono ?_
      rintro e w2 ⟨rfl, hb2⟩
      have HW2 := Lib.hid (HW.out.trans (hb2.mono HW.out.size))
      have H22 := Lib.hid (H2.out.below hb2)
      have H32 := Lib.hid (H3.out.below hb2)
      have d0 := below_cell hb2 c0
      have d1 := below_cell hb2 c1
      have d2 := below_cell hb2 c2
      have d3 := below_cell hb2 c3
      clear hb2 c0 c1 c2 c3
      go_wp2_with fail
      refine (implValidOp _ _ _ _ _ tab true _ H22.out HO.out).mono ?_
      rintro e w3 ⟨rfl, hb3⟩
      have HW3 := Lib.hid (HW2.out.trans (hb3.mono HW2.out.size))
      have H23 := Lib.hid (H22.out.below hb3)
      have H33 := Lib.hid (H32.out.below hb3)
      have g0 := below_cell hb3 d0
      have g1 := below_cell hb3 d1
      have g2 := below_cell hb3 d2
      have g3 := below_cell hb3 d3
      clear hb3 d0 d1 d2 d3
      go_wp2
      go_ret2
      exact ⟨rfl, HW3.out⟩
    subst h2
    obtain ⟨a3, n3, c3', rfl, hr3⟩ := H3.out.row.slice
    obtain rfl : n3 = vs.length := by obtain ⟨_, _, he, _⟩ := hr3; simp only [Value.slice.injEq] at he; exact he.2.1
    clear hr3
    by_cases h0 : vs.length = 0
    · have n0 : ((vs.length : Int) == 0) = true := by simp [h0]
      clear ht ho ha h0
      go_enter Try.func38, Try.ntmps38
      go_wp2_with fail
      refine (implValidTemplate _ _ _ _ rs true _ H1.out HT.out).mono ?_
      rintro e w2 ⟨rfl, hb2⟩
      have HW2 := Lib.hid (HW.out.trans (hb2.mono HW.out.size))
      have H22 := Lib.hid (H2.out.below hb2)
      have H32 := Lib.hid (H3.out.below hb2)
      have d0 := below_cell hb2 c0
      have d1 := below_cell hb2 c1
      have d2 := below_cell hb2 c2
      have d3 := below_cell hb2 c3
      clear hb2 c0 c1 c2 c3
      go_wp2_with fail
      refine (implValidOp _ _ _ _ _ tab true _ H22.out HO.out).mono ?_
      rintro e w3 ⟨rfl, hb3⟩
      have HW3 := Lib.hid (HW2.out.trans (hb3.mono HW2.out.size))
      have H23 := Lib.hid (H22.out.below hb3)
      have H33 := Lib.hid (H32.out.below hb3)
      have g0 := below_cell hb3 d0
      have g1 := below_cell hb3 d1
      have g2 := below_cell hb3 d2
      have g3 := below_cell hb3 d3
      clear hb3 d0 d1 d2 d3
      go_wp2
      go_ret2
      exact ⟨rfl, HW3.out⟩
    have n0 : ((vs.length : Int) == 0) = false := beq_eq_false_iff_ne.2 (by omega)
    have HNA : Hid (Tells false (TupP sz vs.length vs)) := Lib.hid (Tells.no fun h => ha ⟨rfl, by omega, h⟩)
    clear ht ho ha h0
    go_enter Try.func38, Try.ntmps38
    go_wp2_with fail
    refine (implValidTemplate _ _ _ _ rs true _ H1.out HT.out).mono ?_
    rintro e w2 ⟨rfl, hb2⟩
    have HW2 := Lib.hid (HW.out.trans (hb2.mono HW.out.size))
    have H22 := Lib.hid (H2.out.below hb2)
    have H32 := Lib.hid (H3.out.below hb2)
    have d0 := below_cell hb2 c0
    have d1 := below_cell hb2 c1
    have d2 := below_cell hb2 c2
    have d3 := below_cell hb2 c3
    clear hb2 c0 c1 c2 c3
    go_wp2_with fail
    refine (implValidOp _ _ _ _ _ tab true _ H22.out HO.out).mono ?_
    rintro e w3 ⟨rfl, hb3⟩
    have HW3 := Lib.hid (HW2.out.trans (hb3.mono HW2.out.size))
    have H23 := Lib.hid (H22.out.below hb3)
    have H33 := Lib.hid (H32.out.below hb3)
    have g0 := below_cell hb3 d0
    have g1 := below_cell hb3 d1
    have g2 := below_cell hb3 d2
    have g3 := below_cell hb3 d3
    clear hb3 d0 d1 d2 d3
    go_wp2_with fail
    refine (isListBelow _ vs _ _ false _ H33.out.row HNA.out).mono ?_
    rintro e w4 ⟨rfl, rfl⟩
    go_wp2
    go_ret2
    exact ⟨rfl, HW3.out⟩
  · have HT := Lib.hid (Tells.yes ht)
    have HO := Lib.hid (Tells.yes ho)
    have HOO := Lib.hid ho
    obtain ⟨rfl, h0, htu⟩ := ha
    obtain ⟨s, rfl⟩ : ∃ s : Nat, sz = s := ⟨sz.toNat, by have := ho.1.1; omega⟩
    obtain ⟨a3, n3, c3', rfl, hr3⟩ := H3.out.row.slice
    obtain rfl : n3 = vs.length := by obtain ⟨_, _, he, _⟩ := hr3; simp only [Value.slice.injEq] at he; exact he.2.1
    have n0 : ((vs.length : Int) == 0) = false := beq_eq_false_iff_ne.2 (by omega)
    have HNA := Lib.hid (Tells.yes htu)
    have HVV := Lib.hid htu.2
    have H0 := Lib.hid h0
    rw [Int.toNat_natCast]
    clear ht ho htu hr3 h0
    go_enter Try.func38, Try.ntmps38
    go_wp2_with fail
    refine (implValidTemplate _ _ _ _ rs true _ H1.out HT.out).mono ?_
    rintro e w2 ⟨rfl, hb2⟩
    have HW2 := Lib.hid (HW.out.trans (hb2.mono HW.out.size))
    have H22 := Lib.hid (H2.out.below hb2)
    have H32 := Lib.hid (H3.out.below hb2)
    have d0 := below_cell hb2 c0
    have d1 := below_cell hb2 c1
    have d2 := below_cell hb2 c2
    have d3 := below_cell hb2 c3
    clear hb2 c0 c1 c2 c3
    go_wp2_with fail
    refine (implValidOp _ _ _ _ _ tab true _ H22.out HO.out).mono ?_
    rintro e w3 ⟨rfl, hb3⟩
    have HW3 := Lib.hid (HW2.out.trans (hb3.mono HW2.out.size))
    have H23 := Lib.hid (H22.out.below hb3)
    have H33 := Lib.hid (H32.out.below hb3)
    have g0 := below_cell hb3 d0
    have g1 := below_cell hb3 d1
    have g2 := below_cell hb3 d2
    have g3 := below_cell hb3 d3
    clear hb3 d0 d1 d2 d3
    go_wp2_with fail
    refine (isListBelow _ vs _ _ true _ H33.out.row HNA.out).mono ?_
    rintro e w4 ⟨rfl, rfl⟩
    go_wp2_with fail
    refine (tableOf s 2 _ _ _ tab _ H23.out HOO.out).mono ?_
    rintro e w5 ⟨b, F', rfl, hT, hF, -, hb5⟩
    have HW5 := Lib.hid (HW3.out.trans (hb5.mono HW3.out.size))
    have H35 := Lib.hid (H33.out.below hb5)
    have HTT := Lib.hid hT
    have HFF := Lib.hid hF
    clear hT hF hb5 g0 g1 g2 g3
    go_wp2_with fail
    refine (opFold s b tab.length F' tab vs _ _ HTT.out HOO.out rfl HFF.out H35.out H0.out HVV.out).mono ?_
    rintro e w6 ⟨rfl, hb6⟩
    have HW6 := Lib.hid (HW5.out.trans (hb6.mono HW5.out.size))
    clear hb6
    go_wp2
    go_ret2
    exact ⟨rfl, HW6.out⟩

end Go.Proofs.Ytclhcnfgpkhplaa
