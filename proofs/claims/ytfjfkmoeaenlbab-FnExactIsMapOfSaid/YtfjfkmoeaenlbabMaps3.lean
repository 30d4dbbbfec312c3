/-
  Maps of templates in the model: l01Arities, IsMapOf.
-/
import Derived.Test.YtfjfkmoeaenlbabMaps2
namespace Go.Proofs.Ytfjfkmoeaenlbab
open Go.RowKit

/-- Relations of one number and of the same arities. -/
def SameAr (rs qs : List (Int × List (List Int))) : Prop := rs.length = qs.length ∧ ∀ i, i < rs.length → arN rs i = arN qs i
/-- The code of two templates. -/
def ArIs (x : Int) (rs : List (Int × List (List Int))) (y : Int) (qs : List (Int × List (List Int))) (c : Int) : Prop :=
  (¬ TplOk x rs ∧ c = 1) ∨ (TplOk x rs ∧ ¬ TplOk y qs ∧ c = 1) ∨ (TplOk x rs ∧ TplOk y qs ∧ ((SameAr rs qs ∧ c = 0) ∨ (¬ SameAr rs qs ∧ c = 4)))
theorem ArIs.exists (x : Int) (rs : List (Int × List (List Int))) (y : Int) (qs : List (Int × List (List Int))) : ∃ c, ArIs x rs y qs c := by
  by_cases h1 : TplOk x rs
  · by_cases h2 : TplOk y qs
    · by_cases h3 : SameAr rs qs
      · exact ⟨0, .inr (.inr ⟨h1, h2, .inl ⟨h3, rfl⟩⟩)⟩
      · exact ⟨4, .inr (.inr ⟨h1, h2, .inr ⟨h3, rfl⟩⟩)⟩
    · exact ⟨1, .inr (.inl ⟨h1, h2, rfl⟩)⟩
  · exact ⟨1, .inl ⟨h1, rfl⟩⟩
theorem ArIs.ok {x y : Int} {rs qs : List (Int × List (List Int))} (h : ArIs x rs y qs 0) : TplOk x rs ∧ TplOk y qs ∧ SameAr rs qs := by
  rcases h with ⟨_, h⟩ | ⟨_, _, h⟩ | ⟨h1, h2, ⟨h3, _⟩ | ⟨_, h⟩⟩
  · cases h
  · cases h
  · exact ⟨h1, h2, h3⟩
  · cases h

set_option maxHeartbeats 2000000 in
set_option maxRecDepth 100000 in
theorem l01Arities (p1 o1 p2 o2 : Nat) (x y : Int) (rs qs : List (Int × List (List Int))) (cd : Int) (w : World) (h1 : TplAt w p1 o1 x rs) (h2 : TplAt w p2 o2 y qs) (hi : ArIs x rs y qs cd) :
    Calls Try.prog 18 #[.pointer (some ⟨p1, o1, none⟩), .pointer (some ⟨p2, o2, none⟩)] w fun e w' => e = .returned (.int .i64 cd) ∧ QW w w' := by
  have T1 := Lib.hid h1
  have T2 := Lib.hid h2
  clear h1 h2
  rcases hi with ⟨hn, rfl⟩ | ⟨hy, hn, rfl⟩ | ⟨hy1, hy2, hc⟩
  · have HN := Lib.hid (Tells.no hn)
    clear hn
    go_enter Try.func18, Try.ntmps18
    go_wp2_with fail
    refine (l01Template _ _ _ _ false _ T1.out HN.out).mono ?_
    rintro e w1 ⟨rfl, hq1⟩
    have Q1 := Lib.hid hq1
    clear hq1
    go_wp2
    go_ret
    exact ⟨rfl, Q1.out⟩
  · have HY := Lib.hid (Tells.yes hy)
    have HN := Lib.hid (Tells.no hn)
    clear hn hy
    go_enter Try.func18, Try.ntmps18
    go_wp2_with fail
    refine (l01Template _ _ _ _ true _ T1.out HY.out).mono ?_
    rintro e w1 ⟨rfl, hq1⟩
    have Q1 := Lib.hid hq1
    clear hq1
    go_wp2_with fail
    refine (l01Template _ _ _ _ false _ (T2.out.below Q1.out.bel) HN.out).mono ?_
    rintro e w2 ⟨rfl, hq2⟩
    have Q2 := Lib.hid (Q1.out.trans hq2)
    clear hq2
    go_wp2
    go_ret
    exact ⟨rfl, Q2.out⟩
  · have HY1 := Lib.hid (Tells.yes hy1)
    have HY2 := Lib.hid (Tells.yes hy2)
    have HCC := Lib.hid hc
    clear hy1 hy2 hc
    obtain ⟨hp0, a, n, c, hp1, a', c', hv, hn, hc⟩ := T1.out
    simp only [Value.slice.injEq] at hv
    obtain ⟨rfl, rfl, rfl⟩ := hv
    obtain ⟨hr0, a2, n2, c2, hr1, a2', c2', hv2, hn2, hc2⟩ := T2.out
    simp only [Value.slice.injEq] at hv2
    obtain ⟨rfl, rfl, rfl⟩ := hv2
    have HC := Lib.hid hc
    have HC2 := Lib.hid hc2
    clear hc hc2
    go_enter Try.func18, Try.ntmps18
    go_wp2_with fail
    refine (l01Template _ _ _ _ true _ T1.out HY1.out).mono ?_
    rintro e w1 ⟨rfl, hq1⟩
    have Q1 := Lib.hid hq1
    clear hq1
    go_wp2_with fail
    refine (l01Template _ _ _ _ true _ (T2.out.below Q1.out.bel) HY2.out).mono ?_
    rintro e w2 ⟨rfl, hq2⟩
    have Q2 := Lib.hid (Q1.out.trans hq2)
    clear hq2
    have e1 := Q2.out.cell hp1
    have e2 := Q2.out.cell hr1
    by_cases hl : rs.length = qs.length
    · rw [← hl] at hr1 hn2 HC2 e2
      have HL := Lib.hid hl
      clear hl
      go_wp2
      go_quiet (fail)
      go_wp2
      go_loopw [5] (fun i wr => ∃ k : Nat, k ≤ rs.length ∧ i = .int .i64 k ∧ (∀ j, j < k → arN rs j = arN qs j) ∧ QW w wr) (fun i _ => rs.length - (intOf i).toNat)
      case atStart => exact ⟨0, Nat.zero_le _, rfl, fun j hj => absurd hj (Nat.not_lt_zero _), Q2.out.drewN _⟩
      case round =>
        obtain ⟨k, hk, rfl, hall, hq⟩ := hrel
        have HA := Lib.hid hall
        have HQ := Lib.hid hq
        have g1 := HQ.out.cell hp1
        have g2 := HQ.out.cell hr1
        clear hall hq
        by_cases hlt : k < rs.length
        · obtain ⟨b1, off1, ha1, hcell1⟩ := HC.out (by omega)
          subst ha1
          obtain ⟨b2, off2, ha2, hcell2⟩ := HC2.out (by omega)
          subst ha2
          have hx1 := HQ.out.cell (hcell1 k hlt).arity
          have hx2 := HQ.out.cell (hcell2 k hlt).arity
          have hlt' : (k : Int) < (rs.length : Int) := by omega
          clear hcell1 hcell2
          by_cases he : arN rs k = arN qs k
          · have HE := Lib.hid he
            rw [← he] at hx2
            clear he
            go_wp2
            go_quiet (fail)
            go_wp2
            go_roundw
            case rel =>
              refine ⟨k + 1, by omega, by go_num, fun j hj => ?_, HQ.out.drewN _⟩
              by_cases hjk : j = k
              · subst hjk; exact HE.out
              · exact HA.out j (by omega)
            case measure => simp [intOf]; omega
          · have hne : (arN rs k == arN qs k) = false := by simpa using he
            have HF : Hid (cd = 4) := by
              rcases HCC.out with ⟨h, _⟩ | ⟨_, h⟩
              · exact absurd (h.2 k hlt) he
              · exact h
            go_wp2
            go_quiet (fail)
            go_wp2
            go_ret
            exact ⟨ret_int HF.out.symm, HQ.out.drewN _⟩
        · obtain rfl : k = rs.length := by omega
          have HF : Hid (cd = 0) := by
            rcases HCC.out with ⟨_, h⟩ | ⟨h, _⟩
            · exact h
            · exact absurd ⟨HL.out, HA.out⟩ h
          go_wp2
          go_ret
          exact ⟨ret_int HF.out.symm, HQ.out⟩
    · have HF : Hid (cd = 4) := by
        rcases HCC.out with ⟨h, _⟩ | ⟨_, h⟩
        · exact absurd h.1 hl
        · exact h
      have hlb : ((rs.length : Int) == qs.length) = false := beq_eq_false_iff_ne.2 (by omega)
      go_wp2
      go_quiet (fail)
      go_wp2
      go_ret
      exact ⟨ret_int HF.out.symm, Q2.out.drewN _⟩

/-- What IsMapOf answers. -/
def MapIs (x : Int) (rs : List (Int × List (List Int))) (y : Int) (qs : List (Int × List (List Int))) (to : List Int) (b : Bool) (c : Int) : Prop :=
  (ArIs x rs y qs c ∧ c ≠ 0 ∧ b = false) ∨ (ArIs x rs y qs 0 ∧ ((¬ TupP y x to ∧ b = false ∧ c = 2) ∨ (TupP y x to ∧ Tells b (MapsP rs qs to) ∧ c = 0)))
theorem MapIs.exists (x : Int) (rs : List (Int × List (List Int))) (y : Int) (qs : List (Int × List (List Int))) (to : List Int) : ∃ b c, MapIs x rs y qs to b c := by
  obtain ⟨c, hc⟩ := ArIs.exists x rs y qs
  by_cases h0 : c = 0
  · subst h0
    by_cases ht : TupP y x to
    · by_cases hm : MapsP rs qs to
      · exact ⟨true, 0, .inr ⟨hc, .inr ⟨ht, Tells.yes hm, rfl⟩⟩⟩
      · exact ⟨false, 0, .inr ⟨hc, .inr ⟨ht, Tells.no hm, rfl⟩⟩⟩
    · exact ⟨false, 2, .inr ⟨hc, .inl ⟨ht, rfl, rfl⟩⟩⟩
  · exact ⟨false, c, .inl ⟨hc, h0, rfl⟩⟩

end Go.Proofs.Ytfjfkmoeaenlbab
