/-
  The kinds of operations, of the model: l02Symmetric.
-/
import Derived.Test.YtclhcnfgpkhplaaKinds3
import Derived.Test.YtclhcnfgpkhplaaDepends
import Derived.Test.YtclhcnfgpkhplaaGrowAt
namespace Go.Proofs.Ytclhcnfgpkhplaa
open Go.RowKit

def swapL (t : List Int) (j : Nat) : List Int := (t.set j (intN t (j + 1))).set (j + 1) (intN t j)
def SymP (s r : Nat) (tab : List Int) : Prop := ∀ n j : Nat, n < tab.length → j + 1 < r → intN tab (codeN s (swapL (digs s r n) j)) = intN tab n
theorem intN_setx (xs : List Int) (k i : Nat) (x : Int) (h : k < xs.length) : intN (xs.set k x) i = if i = k then x else intN xs i := by
  unfold intN
  rw [List.getD_eq_getElem?_getD, List.getD_eq_getElem?_getD, List.getElem?_set]
  by_cases hk : k = i
  · subst hk; simp [h]
  · rw [if_neg hk, if_neg (fun e => hk e.symm)]
theorem swap_len (t : List Int) (j : Nat) : (swapL t j).length = t.length := by simp [swapL]
theorem swap_at (t : List Int) (j i : Nat) (h : j + 1 < t.length) : intN (swapL t j) i = if i = j + 1 then intN t j else if i = j then intN t (j + 1) else intN t i := by
  unfold swapL
  rw [intN_setx _ _ _ _ (by rw [List.length_set]; exact h), intN_setx _ _ _ _ (by omega)]
theorem swap_tup {s r : Nat} {t : List Int} (h : TupP s r t) (j : Nat) (hj : j + 1 < r) : TupP s r (swapL t j) := by
  have hl : t.length = r := by have := h.1; omega
  refine ⟨by rw [swap_len]; exact h.1, fun i hi => ?_⟩
  rw [swap_len] at hi
  rw [swap_at t j i (by omega)]
  split
  · exact h.2 j (by omega)
  · split
    · exact h.2 (j + 1) (by omega)
    · exact h.2 i hi

set_option linter.unusedSimpArgs false in
set_option maxHeartbeats 4000000 in
set_option maxRecDepth 100000 in
theorem l02Symmetric (s r : Nat) (pb po : Nat) (tab : List Int) (b : Bool) (w : World) (hop0 : OpAt w pb po r tab) (ho0 : OpOk s r tab) (hb : Tells b (SymP s r tab)) :
    Calls Try.prog 119 #[.int .i64 s, .pointer (some ⟨pb, po, none⟩)] w fun e w' => e = .returned (.bool b) ∧ Below w.heap.size w w' := by
  have HPZ := Lib.hid hop0
  have ho := Lib.hid ho0
  obtain ⟨hp0, a, n, c, hp1, hr⟩ := hop0
  have h1 : 1 ≤ s := by have := ho0.1.1; omega
  have hs4 : s ≤ 4 := by have := ho0.1.2; omega
  have hr1 : 1 ≤ r := by have := ho0.2.1.1; omega
  have hr3 : r ≤ 3 := by have := ho0.2.1.2; omega
  have hlen : tab.length = s ^ r := by have := ho0.2.2.1; simp only [Int.toNat_natCast] at this; omega
  have h64 : tab.length ≤ 64 ∧ 1 ≤ tab.length := by rw [hlen]; exact pow_le3 h1 hs4 hr3
  have hq1 : 0 < tab.length := h64.2
  obtain ⟨b0, off0, rfl, rfl, -⟩ := SlAt.some_of hr 0 hq1
  have HR := Lib.hid hr
  have HP0 := Lib.hid hp0
  have HP1 := Lib.hid hp1
  have HB := Lib.hid hb
  have HLEN := Lib.hid hlen
  clear hb hr hp0 hp1 hlen
  clear ho0
  go_enter Try.func119, Try.ntmps119
  go_wp2
  go_loopw [5] (fun i wr => ∃ k : Nat, k ≤ tab.length ∧ i = .int .i64 k ∧ (∀ z j : Nat, z < k → j + 1 < r → intN tab (codeN s (swapL (digs s r z) j)) = intN tab z) ∧ Below w.heap.size w wr) (fun i _ => tab.length - (intOf i).toNat)
  case atStart => exact ⟨0, Nat.zero_le _, rfl, fun _ _ hj => absurd hj (Nat.not_lt_zero _), Below.refl _ _⟩
  case round =>
    obtain ⟨k, hk, rfl, hall, hbel⟩ := hrel
    have HX := Lib.hid hall
    have HW0 := Lib.hid hbel
    clear hall hbel
    have cx0 := below_cell HW0.out HP0.out
    have cx1 := below_cell HW0.out HP1.out
    by_cases hlt : k < tab.length
    · have hlt' : (k : Int) < (tab.length : Int) := by omega
      go_wp2_with fail
      refine (l01Digits s r k h1 (by omega) (by omega) (by omega) _).mono ?_
      rintro e w3 ⟨a3, c3, rfl, ho3, hb3⟩
      have HWD := Lib.hid (HW0.out.trans (hb3.mono HW0.out.size))
      obtain ⟨b3, off3, rfl, -, -⟩ := SlAt.some_of ho3.rowAt 0 (by rw [digs_len]; omega)
      have HD := Lib.hid ho3.rowAt
      have HDL := Lib.hid (digs_len s r k)
      have HDT := Lib.hid (digs_tup s r k h1)
      clear ho3 hb3 cx0 cx1
      go_wp2
      obtain ⟨wd, rfl⟩ : ∃ wd, wd = w3 := ⟨_, rfl⟩
      go_loopw [7] (fun i wr => ∃ j : Nat, j ≤ r ∧ i = .int .i64 j ∧ (∀ q : Nat, q < j → q + 1 < r → intN tab (codeN s (swapL (digs s r k) q)) = intN tab k) ∧ Below wd.heap.size wd wr) (fun i _ => r - (intOf i).toNat)
      case atStart => exact ⟨0, Nat.zero_le _, rfl, fun _ hj => absurd hj (Nat.not_lt_zero _), Below.refl _ _⟩
      case round =>
        obtain ⟨j, hj, rfl, hally, hbely⟩ := hrel
        have HY := Lib.hid hally
        have HWI := Lib.hid hbely
        have HW := Lib.hid (HWD.out.trans (hbely.mono HWD.out.size))
        clear hally hbely
        have cx0 := below_cell HW.out HP0.out
        by_cases hjr : j + 1 < r
        · have hjr' : (j : Int) + 1 < (r : Int) := by omega
          have hjr0 : (j : Int) < (r : Int) := by omega
          have htn : ((j : Int) + 1).toNat = j + 1 := by omega
          have HDW := Lib.hid (HD.out.below HWI.out)
          go_wp2_with fail
          refine (l00Own _ _ _ (digs s r k) _ HDW.out (by rw [HDL.out]; omega) (by rw [HDL.out]; omega)).mono ?_
          rw [HDL.out]
          rintro e w8 ⟨a8, c8, rfl, ho8, hb8⟩
          obtain ⟨g, c8', he8, hg8, hg8', -, -⟩ : ∃ g c', Value.slice a8 r c8 = .slice (some ⟨g, 0, none⟩) r c' ∧ wr.heap.size ≤ g ∧ g < w8.heap.size ∧ True ∧ True := by
            rcases ho8.rowIn with ⟨h1, h2⟩ | ⟨g, c', h1, h2, h3, _, _⟩
            · have := congrArg List.length h2
              rw [digs_len] at this
              simp at this
              omega
            · rw [digs_len] at h1
              exact ⟨g, c', h1, h2, h3, trivial, trivial⟩
          simp only [Value.slice.injEq] at he8
          obtain ⟨rfl, -, rfl⟩ := he8
          have HDW8 := Lib.hid (HDW.out.below hb8)
          obtain ⟨y1, hy1⟩ : ∃ y, intN (digs s r k) (j + 1) = y := ⟨_, rfl⟩
          obtain ⟨y0, hy0⟩ : ∃ y, intN (digs s r k) j = y := ⟨_, rfl⟩
          have ct1 := SlAt.cell_of HDW8.out (j + 1) (by rw [HDL.out]; exact hjr)
          have HW8 := Lib.hid (HW.out.trans (hb8.mono HW.out.size))
          have HWI8 := Lib.hid (HWI.out.trans (hb8.mono HWI.out.size))
          have cu0 := OwnRow.cell_of ho8 j (by rw [digs_len]; omega)
          have fu0 := ho8.free j
          have HO9 := Lib.hid (ho8.set j y1)
          have cu1 := OwnRow.cell_of HO9.out (j + 1) (by rw [List.length_set, digs_len]; omega)
          have fu1 := HO9.out.free (j + 1)
          have HB9 : Hid (Below wr.heap.size wr (w8.setCell ⟨g, j, none⟩ (.int .i64 y1))) := Lib.hid (hb8.setCell hg8 _)
          have ct0 := SlAt.cell_of (HDW.out.below HB9.out) j (by rw [HDL.out]; omega)
          have HB10 : Hid (Below wr.heap.size wr ((w8.setCell ⟨g, j, none⟩ (.int .i64 y1)).setCell ⟨g, j + 1, none⟩ (.int .i64 y0))) := Lib.hid (HB9.out.setCell hg8 _)
          have HRU : Hid (RowAt ((w8.setCell ⟨g, j, none⟩ (.int .i64 y1)).setCell ⟨g, j + 1, none⟩ (.int .i64 y0)) (.slice (some ⟨g, 0, none⟩) r c8) (swapL (digs s r k) j)) := Lib.hid (by
            unfold swapL; rw [hy1, hy0]; exact (HO9.out.set (j + 1) y0).rowAt)
          have HW10 := Lib.hid (HW.out.trans (HB10.out.mono HW.out.size))
          have HWI10 := Lib.hid (HWI.out.trans (HB10.out.mono HWI.out.size))
          have HPX := Lib.hid (HPZ.out.below HW10.out)
          have HTU := Lib.hid (swap_tup HDT.out j hjr)
          have cz1 := below_cell HW10.out HP1.out
          have cz2 := below_cell HW10.out (SlAt.cell_of HR.out k hlt)
          rw [hy1] at ct1
          rw [hy0] at ct0
          obtain ⟨m, hm⟩ : ∃ m, codeN s (swapL (digs s r k) j) = m := ⟨_, rfl⟩
          have HCL := Lib.hid hm
          clear ho8 hb8 hy1 hy0 hm cx0
          by_cases he : intN tab m = intN tab k
          · have HE := Lib.hid he
            have hne : (intN tab m != intN tab k) = false := by simp [he]
            have heq : (intN tab m == intN tab k) = true := by simp [he]
            clear he
            go_wp2
            go_quiet ((go_at_call 143; exact QW.calls (l02ValueN _ _ _ _ _ _ _ _ _ (HPX.out.below (((QW.refl _).drewN _).bel)) (((QW.refl _).drewN _).row HRU.out) ho.out HTU.out HCL.out)))
            go_wp2
            go_roundw
            case rel =>
              refine ⟨j + 1, by omega, by go_num, fun q hq hqr => ?_, HWI10.out.trans (((QW.refl _).drewN _).below _)⟩
              by_cases hqj : q = j
              · subst hqj; rw [HCL.out]; exact HE.out
              · exact HY.out q (by omega) hqr
            case measure => simp [intOf]; omega
          · have HF := Lib.hid (HB.out.is_false fun h => he (by have := h k j hlt hjr; rwa [HCL.out] at this))
            have hne : (intN tab m != intN tab k) = true := by simp [he]
            have heq : (intN tab m == intN tab k) = false := by simp [he]
            clear he
            go_wp2
            go_quiet ((go_at_call 143; exact QW.calls (l02ValueN _ _ _ _ _ _ _ _ _ (HPX.out.below (((QW.refl _).drewN _).bel)) (((QW.refl _).drewN _).row HRU.out) ho.out HTU.out HCL.out)))
            go_wp2
            go_ret
            exact ⟨ret_bool HF.out.symm, HW10.out.trans (((QW.refl _).drewN _).below _)⟩
        · have hjr' : (r : Int) ≤ (j : Int) + 1 := by omega
          go_wp2
          go_roundw
          case rel =>
            refine ⟨k + 1, by omega, by go_num, fun z q hz hq => ?_, HW.out⟩
            by_cases hzk : z = k
            · subst hzk; exact HY.out q (by omega) hq
            · exact HX.out z q (by omega) hq
          case measure => simp [intOf]; omega
    · obtain rfl : k = tab.length := by omega
      have HF := Lib.hid (HB.out.is_true fun z j hz hj => HX.out z j hz hj)
      go_wp2
      go_ret
      exact ⟨ret_bool HF.out.symm, HW0.out⟩
end Go.Proofs.Ytclhcnfgpkhplaa
