/-
  Maps of templates in the model: l01Maps, l01Arities, IsMapOf.
-/
import Derived.Test.YtfjfkmoeaenlbabMaps
namespace Go.Proofs.Ytfjfkmoeaenlbab
open Go.RowKit

set_option maxHeartbeats 2000000 in
set_option maxRecDepth 100000 in
theorem l01Maps (p1 o1 p2 o2 : Nat) (x y : Int) (rs qs : List (Int × List (List Int))) (v : Value) (to : List Int) (b : Bool) (w : World) (h1 : TplAt w p1 o1 x rs) (h2 : TplAt w p2 o2 y qs) (h3 : RowAt w v to)
    (hl : rs.length = qs.length) (h4 : ∀ i, i < rs.length → ∀ j, j < (gridN rs i).length → (rowN (gridN rs i) j).length ≤ 4 ∧ ∀ k, k < (rowN (gridN rs i) j).length → 0 ≤ intN (rowN (gridN rs i) j) k ∧ intN (rowN (gridN rs i) j) k < to.length)
    (hb : Tells b (MapsP rs qs to)) :
    Calls Try.prog 20 #[.pointer (some ⟨p1, o1, none⟩), .pointer (some ⟨p2, o2, none⟩), v] w fun e w' => e = .returned (.bool b) ∧ Below w.heap.size w w' := by
  obtain ⟨at0, ct0, rfl, hnt, hct⟩ := h3
  have H3 : Hid (RowAt w (.slice at0 to.length ct0) to) := ⟨at0, ct0, rfl, hnt, hct⟩
  obtain ⟨hp0, a, n, c, hp1, a', c', hv, hn, hc⟩ := h1
  simp only [Value.slice.injEq] at hv
  obtain ⟨rfl, rfl, rfl⟩ := hv
  obtain ⟨hr0, a2, n2, c2, hr1, a2', c2', hv2, hn2, hc2⟩ := h2
  simp only [Value.slice.injEq] at hv2
  obtain ⟨rfl, rfl, rfl⟩ := hv2
  rw [← hl] at hr1 hn2 hc2
  have HL := Lib.hid hl
  have HC := Lib.hid hc
  have HC2 := Lib.hid hc2
  have H4 := Lib.hid h4
  have HB := Lib.hid hb
  clear hc hc2 h4 hb hl hct
  go_enter Try.func20, Try.ntmps20
  go_wp2
  go_loopw [7, 8] (fun i _ wr => ∃ k : Nat, k ≤ rs.length ∧ i = .int .i64 k ∧ (∀ i', i' < k → ∀ j, j < (gridN rs i').length → HasP (gridN qs i') (mapped to (rowN (gridN rs i') j))) ∧ Below w.heap.size w wr) (fun i _ _ => rs.length - (intOf i).toNat)
  case atStart => exact ⟨0, Nat.zero_le _, rfl, fun j hj => absurd hj (Nat.not_lt_zero _), Below.refl _ _⟩
  case round =>
    obtain ⟨k, hk, rfl, hall, hbel⟩ := hrel
    have HA := Lib.hid hall
    have HW := Lib.hid hbel
    have q1 := below_cell hbel hp1
    have q2 := below_cell hbel hr1
    clear hall hbel
    by_cases hlt : k < rs.length
    · obtain ⟨b1, off1, ha1, hcell1⟩ := HC.out (by omega)
      subst ha1
      obtain ⟨b2, off2, ha2, hcell2⟩ := HC2.out (by omega)
      subst ha2
      obtain ⟨hx0, A1, N1, C1, hx1, V1, ⟨A1', C1', hV1, hN1, hG1⟩, hROW⟩ := (hcell1 k hlt).below HW.out
      simp only [Value.slice.injEq] at hV1
      obtain ⟨rfl, rfl, rfl⟩ := hV1
      have HR2 := Lib.hid ((hcell2 k hlt).below HW.out)
      have HG1 := Lib.hid hG1
      have HROW := Lib.hid hROW
      have H3W := Lib.hid (H3.out.below HW.out)
      have hlt' : (k : Int) < (rs.length : Int) := by omega
      clear hcell1 hcell2 hG1 hROW
      go_wp2
      go_loopw [8] (fun i w2 => ∃ m : Nat, m ≤ (gridN rs k).length ∧ i = .int .i64 m ∧ (∀ j, j < m → HasP (gridN qs k) (mapped to (rowN (gridN rs k) j))) ∧ Below wr.heap.size wr w2) (fun i _ => (gridN rs k).length - (intOf i).toNat)
      case atStart => exact ⟨0, Nat.zero_le _, rfl, fun j hj => absurd hj (Nat.not_lt_zero _), Below.refl _ _⟩
      case round =>
        obtain ⟨m, hm, rfl, hall2, hb2⟩ := hrel
        have HA2 := Lib.hid hall2
        have HB2 := Lib.hid hb2
        have z1 := below_cell hb2 q1
        have z2 := below_cell hb2 q2
        have hx1' := below_cell hb2 hx1
        clear hall2 hb2
        by_cases hmt : m < (gridN rs k).length
        · obtain ⟨g1, goff, hga, hgc⟩ := HG1.out (by omega)
          subst hga
          have hy1 := below_cell HB2.out (hgc m hmt)
          have hmt' : (m : Int) < ((gridN rs k).length : Int) := by omega
          have HLEN := Lib.hid (H4.out k hlt m hmt).1
          have HRNG := Lib.hid (H4.out k hlt m hmt).2
          have K0 := Lib.hid (((((Kept.start w).below HW.out).below HB2.out).read (lives_row _ _) (H3W.out.below HB2.out) |>.read (lives_row _ _) ((HROW.out m hmt).below HB2.out)).read (lives_rel _ _ _ _) (HR2.out.below HB2.out))
          clear hgc
          by_cases ht : HasP (gridN qs k) (mapped to (rowN (gridN rs k) m))
          · have HT := Lib.hid (Tells.yes ht)
            have HTP := Lib.hid ht
            clear ht
            go_wp2
            go_region_held3 (fun w' => w'.cell? ⟨p2, o2 + 1, none⟩ = some (.slice (some ⟨b2, off2, none⟩) rs.length c2) ∧ w'.cell? ⟨p1, o1 + 1, none⟩ = some (.slice (some ⟨b1, off1, none⟩) rs.length c) ∧ w'.cell? ⟨b1, off1 + k * 2 + 1, none⟩ = some (.slice (some ⟨g1, goff, none⟩) (gridN rs k).length C1) ∧ w'.cell? ⟨g1, goff + m, none⟩ = some (V1 m) ∧ Kept w [] [fun w => RelAt w b2 (off2 + k * 2) (arN qs k) (gridN qs k), fun w => RowAt w (V1 m) (rowN (gridN rs k) m), fun w => RowAt w (.slice at0 to.length ct0) to] w')
              (first | exact two_below (by assumption) hb5 | exact two_below (by assumption) hb6 | exact two_below (K0.out.two0 z2 z1 hx1' hy1) ((QW.refl _).drew.below _))
              (first
                | (go_at_call 35; refine (l01Mapped _ _ _ _ _ (two_row (by assumption) 1 (by rfl)) (two_row (by assumption) 2 (by rfl)) HLEN.out HRNG.out).mono ?_; rintro e w5 ⟨a5, n5, c5, rfl, hr5, hb5⟩; have G5 := Lib.hid hr5; clear hr5)
                | (go_at_call 34; refine (l01Has _ _ _ _ _ _ true _ (two_rel (by assumption) 0 (by rfl)) G5.out HT.out).mono ?_; rintro e w6 ⟨rfl, hq6⟩; have hb6 := hq6.bel; clear hq6))
            all_goals
              have K6 := Lib.hid ((K0.out.drew.below hb5).below hb6)
              have HW6 := Lib.hid ((HB2.out.trans ((((QW.refl _).drew.below _).trans (hb5.mono (Nat.le_refl _))).mono HB2.out.size)).trans (hb6.mono (by have := HB2.out.size; have := hb5.size; simp [World.size_drew] at *; omega)))
              clear hb5 hb6
              go_wp2
              go_roundw
              case rel =>
                refine ⟨m + 1, by omega, by go_num, fun j hj => ?_, HW6.out⟩
                by_cases hjm : j = m
                · subst hjm; exact HTP.out
                · exact HA2.out j (by omega)
              case measure => simp [intOf]; omega
          · have HT := Lib.hid (Tells.no ht)
            have HF := Lib.hid (HB.out.is_false fun h => ht (h k hlt m hmt))
            clear ht
            go_wp2
            go_region_held3 (fun w' => w'.cell? ⟨p2, o2 + 1, none⟩ = some (.slice (some ⟨b2, off2, none⟩) rs.length c2) ∧ w'.cell? ⟨p1, o1 + 1, none⟩ = some (.slice (some ⟨b1, off1, none⟩) rs.length c) ∧ w'.cell? ⟨b1, off1 + k * 2 + 1, none⟩ = some (.slice (some ⟨g1, goff, none⟩) (gridN rs k).length C1) ∧ w'.cell? ⟨g1, goff + m, none⟩ = some (V1 m) ∧ Kept w [] [fun w => RelAt w b2 (off2 + k * 2) (arN qs k) (gridN qs k), fun w => RowAt w (V1 m) (rowN (gridN rs k) m), fun w => RowAt w (.slice at0 to.length ct0) to] w')
              (first | exact two_below (by assumption) hb5 | exact two_below (by assumption) hb6 | exact two_below (K0.out.two0 z2 z1 hx1' hy1) ((QW.refl _).drew.below _))
              (first
                | (go_at_call 35; refine (l01Mapped _ _ _ _ _ (two_row (by assumption) 1 (by rfl)) (two_row (by assumption) 2 (by rfl)) HLEN.out HRNG.out).mono ?_; rintro e w5 ⟨a5, n5, c5, rfl, hr5, hb5⟩; have G5 := Lib.hid hr5; clear hr5)
                | (go_at_call 34; refine (l01Has _ _ _ _ _ _ false _ (two_rel (by assumption) 0 (by rfl)) G5.out HT.out).mono ?_; rintro e w6 ⟨rfl, hq6⟩; have hb6 := hq6.bel; clear hq6))
            all_goals
              have K6 := Lib.hid ((K0.out.drew.below hb5).below hb6)
              have HW6 := Lib.hid ((HB2.out.trans ((((QW.refl _).drew.below _).trans (hb5.mono (Nat.le_refl _))).mono HB2.out.size)).trans (hb6.mono (by have := HB2.out.size; have := hb5.size; simp [World.size_drew] at *; omega)))
              clear hb5 hb6
              go_wp2
              go_ret
              exact ⟨ret_bool HF.out.symm, K6.out.bel⟩
        · obtain rfl : m = (gridN rs k).length := by omega
          go_wp2
          go_roundw
          case rel =>
            refine ⟨k + 1, by omega, by go_num, fun i' hi' => ?_, HW.out.trans (HB2.out.mono HW.out.size)⟩
            by_cases hik : i' = k
            · subst hik; exact HA2.out
            · exact HA.out i' (by omega)
          case measure => simp [intOf]; omega
    · obtain rfl : k = rs.length := by omega
      have HF := Lib.hid (HB.out.is_true HA.out)
      go_wp2
      go_ret
      exact ⟨ret_bool HF.out.symm, HW.out⟩

end Go.Proofs.Ytfjfkmoeaenlbab
