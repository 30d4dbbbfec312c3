/-
  The kinds of operations, of the model: l02Flat.
-/
import Derived.Test.YtclhcnfgpkhplaaKinds5
namespace Go.Proofs.Ytclhcnfgpkhplaa
open Go.RowKit

def ConstP (tab : List Int) : Prop := ∀ i, i < tab.length → intN tab i = intN tab 0
def projL (s r p : Nat) : List Int := rowF (fun i => intN (digs s r i) p) (s ^ r)
def FlatP (s r : Nat) (tab : List Int) : Prop := ∃ p, p < r ∧ tab = projL s r p

set_option linter.unusedSimpArgs false in
set_option maxHeartbeats 1000000 in
set_option maxRecDepth 100000 in
theorem l02FlatC (s r : Nat) (pb po : Nat) (tab : List Int) (b : Bool) (w : World) (hop0 : OpAt w pb po r tab) (ho : OpOk s r tab) (hb : Tells b (ConstP tab)) :
    Calls Try.prog 116 #[.int .i64 s, .pointer (some ⟨pb, po, none⟩), .bool true] w fun e w' => e = .returned (.bool b) ∧ Below w.heap.size w w' := by
  obtain ⟨hp0, a, n, c, hp1, hr⟩ := hop0
  have h1 : 1 ≤ s := by have := ho.1.1; omega
  have hs4 : s ≤ 4 := by have := ho.1.2; omega
  have hr1 : 1 ≤ r := by have := ho.2.1.1; omega
  have hr3 : r ≤ 3 := by have := ho.2.1.2; omega
  have hlen : tab.length = s ^ r := by have := ho.2.2.1; simp only [Int.toNat_natCast] at this; omega
  have h64 : tab.length ≤ 64 ∧ 1 ≤ tab.length := by rw [hlen]; exact pow_le3 h1 hs4 hr3
  have hq1 : 0 < tab.length := h64.2
  obtain ⟨b0, off0, rfl, rfl, -⟩ := SlAt.some_of hr 0 hq1
  have HR := Lib.hid hr
  have HP0 := Lib.hid hp0
  have HP1 := Lib.hid hp1
  have HB := Lib.hid hb
  have HLEN := Lib.hid hlen
  clear hb hr hp0 hp1 hlen
  clear ho
  go_enter Try.func116, Try.ntmps116
  go_wp2
  go_loopw [7] (fun i wr => ∃ k : Nat, k ≤ tab.length ∧ i = .int .i64 k ∧ (∀ z : Nat, z < k → intN tab z = intN tab 0) ∧ QW w wr) (fun i _ => tab.length - (intOf i).toNat)
  case atStart => exact ⟨0, Nat.zero_le _, rfl, fun _ hj => absurd hj (Nat.not_lt_zero _), QW.refl _⟩
  case round =>
    obtain ⟨k, hk, rfl, hall, hq⟩ := hrel
    have HX := Lib.hid hall
    have HQ := Lib.hid hq
    clear hall hq
    have cx1 := HQ.out.cell HP1.out
    by_cases hlt : k < tab.length
    · have hlt' : (k : Int) < (tab.length : Int) := by omega
      have hl0' : (0 : Int) < (tab.length : Int) := by omega
      have cy := HQ.out.cell (SlAt.cell_of HR.out k hlt)
      have cz : wr.cell? ⟨b0, off0, none⟩ = some (.int .i64 (intN tab 0)) := HQ.out.cell (SlAt.cell_of HR.out 0 hq1)
      by_cases he : intN tab k = intN tab 0
      · have HE := Lib.hid he
        have hne : (intN tab k != intN tab 0) = false := by simp [he]
        clear he
        go_wp2
        go_quiet (skip)
        go_wp2
        go_roundw
        case rel =>
          refine ⟨k + 1, by omega, by go_num, fun z hz => ?_, by first | exact HQ.out | exact HQ.out.drew | exact HQ.out.drewN _⟩
          by_cases hzk : z = k
          · subst hzk; exact HE.out
          · exact HX.out z (by omega)
        case measure => simp [intOf]; omega
      · have hne : (intN tab k != intN tab 0) = true := by simp [he]
        have HF := Lib.hid (HB.out.is_false fun h => he (h k hlt))
        clear he
        go_wp2
        go_quiet (skip)
        go_wp2
        go_ret
        exact ⟨ret_bool HF.out.symm, by first | exact HQ.out.below _ | exact HQ.out.drew.below _ | exact (HQ.out.drewN _).below _⟩
    · obtain rfl : k = tab.length := by omega
      have HF := Lib.hid (HB.out.is_true HX.out)
      go_wp2
      go_ret
      exact ⟨ret_bool HF.out.symm, HQ.out.below _⟩

set_option linter.unusedSimpArgs false in
set_option maxHeartbeats 1000000 in
set_option maxRecDepth 100000 in
theorem l02FlatP (s r : Nat) (pb po : Nat) (tab : List Int) (b : Bool) (w : World) (hop0 : OpAt w pb po r tab) (ho : OpOk s r tab) (hb : Tells b (FlatP s r tab)) :
    Calls Try.prog 116 #[.int .i64 s, .pointer (some ⟨pb, po, none⟩), .bool false] w fun e w' => e = .returned (.bool b) ∧ Below w.heap.size w w' := by
  have HOP := Lib.hid hop0
  obtain ⟨hp0, a, n, c, hp1, hr⟩ := hop0
  have h1 : 1 ≤ s := by have := ho.1.1; omega
  have hs4 : s ≤ 4 := by have := ho.1.2; omega
  have hr1 : 1 ≤ r := by have := ho.2.1.1; omega
  have hr3 : r ≤ 3 := by have := ho.2.1.2; omega
  have hlen : tab.length = s ^ r := by have := ho.2.2.1; simp only [Int.toNat_natCast] at this; omega
  have h64 : tab.length ≤ 64 ∧ 1 ≤ tab.length := by rw [hlen]; exact pow_le3 h1 hs4 hr3
  have hq1 : 0 < tab.length := h64.2
  obtain ⟨b0, off0, rfl, rfl, -⟩ := SlAt.some_of hr 0 hq1
  have HR := Lib.hid hr
  have HP0 := Lib.hid hp0
  have HP1 := Lib.hid hp1
  have HB := Lib.hid hb
  have HLEN := Lib.hid hlen
  clear hb hr hp0 hp1 hlen
  clear ho
  go_enter Try.func116, Try.ntmps116
  go_wp2
  go_loopw [8] (fun i wr => ∃ k : Nat, k ≤ r ∧ i = .int .i64 k ∧ (∀ z : Nat, z < k → ¬ tab = projL s r z) ∧ Below w.heap.size w wr) (fun i _ => r - (intOf i).toNat)
  case atStart => exact ⟨0, Nat.zero_le _, rfl, fun _ hj => absurd hj (Nat.not_lt_zero _), Below.refl _ _⟩
  case round =>
    obtain ⟨k, hk, rfl, hall, hbel⟩ := hrel
    have HX := Lib.hid hall
    have HW := Lib.hid hbel
    clear hall hbel
    have cx0 := below_cell HW.out HP0.out
    by_cases hlt : k < r
    · have hlt' : (k : Int) < (r : Int) := by omega
      obtain ⟨q, hq⟩ : ∃ q, s ^ r = q := ⟨_, rfl⟩
      have HQ := Lib.hid hq
      have HPJ : Hid (projL s r k = rowF (fun i => intN (digs s r i) k) q) := Lib.hid (by unfold projL; rw [hq])
      clear hq
      go_wp2_with fail
      refine (l02Projection s r q k h1 hs4 hr1 hr3 hlt HQ.out _).mono ?_
      rw [← HPJ.out]
      rintro e w3 ⟨a3, n3, c3, rfl, ho3, hb3⟩
      have HW3 := Lib.hid (HW.out.trans (hb3.mono HW.out.size))
      have HG := Lib.hid (OpAt.new w3 r a3 n3 c3 (projL s r k) 28 ho3.at)
      have HWA := Lib.hid (HW3.out.trans (((Below.refl _ _).alloc (Nat.le_refl _) (.cells #[.int .i64 r, .slice a3 n3 c3] 28) : Below w3.heap.size w3 _).mono HW3.out.size))
      clear ho3 hb3
      by_cases he : tab = projL s r k
      · have HF := Lib.hid (HB.out.is_true ⟨k, hlt, he⟩)
        have HS : Hid (SameOpIs r tab r (projL s r k) true) := Lib.hid (by unfold SameOpIs; rw [← he]; exact eqO_same _ _)
        clear he
        go_wp2_with fail
        refine (l02Same _ _ _ _ r r tab (projL s r k) true _ (HOP.out.below HWA.out) HG.out HS.out).mono ?_
        rintro e w4 ⟨rfl, hq4⟩
        have HW4 := Lib.hid (HWA.out.trans ((hq4.below _).mono HWA.out.size))
        clear hq4
        go_wp2
        go_ret
        exact ⟨ret_bool HF.out.symm, HW4.out⟩
      · have HE := Lib.hid he
        have HS : Hid (SameOpIs r tab r (projL s r k) false) := Lib.hid ((eqO_rows (x := (r : Int))).trans (eqB_no he))
        clear he
        go_wp2_with fail
        refine (l02Same _ _ _ _ r r tab (projL s r k) false _ (HOP.out.below HWA.out) HG.out HS.out).mono ?_
        rintro e w4 ⟨rfl, hq4⟩
        have HW4 := Lib.hid (HWA.out.trans ((hq4.below _).mono HWA.out.size))
        clear hq4
        go_wp2
        go_roundw
        case rel =>
          refine ⟨k + 1, by omega, by go_num, fun z hz => ?_, HW4.out⟩
          by_cases hzk : z = k
          · subst hzk; exact HE.out
          · exact HX.out z (by omega)
        case measure => simp [intOf]; omega
    · obtain rfl : k = r := by omega
      have HF := Lib.hid (HB.out.is_false fun ⟨p, hp, e⟩ => HX.out p hp e)
      go_wp2
      go_ret
      exact ⟨ret_bool HF.out.symm, HW.out⟩
end Go.Proofs.Ytclhcnfgpkhplaa
