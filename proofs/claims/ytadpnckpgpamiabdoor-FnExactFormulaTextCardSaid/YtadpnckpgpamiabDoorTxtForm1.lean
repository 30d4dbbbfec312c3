/-
  The text of a formula: FormulaText of the model and of the program.
-/
import Derived.Test.YtadpnckpgpamiabDoorTxtSys2
import Derived.Test.YtadpnckpgpamiabDoorFormOk2
namespace Go.Proofs.YtadpnckpgpamiabDoor
open Go.RowKit

def formH (p u : Nat) : List UInt8 := [102, 111, 114, 109, 117, 108, 97, 32] ++ dig1 p ++ [32] ++ dig1 u
theorem formH_len (p u : Nat) : (formH p u).length = 11 := rfl
def atomT (rel : Int) (row : List Int) : List UInt8 := (if rel = -1 then [32, 61, 58] else [32, 82] ++ dig1 rel.toNat ++ [58]) ++ digK row row.length
def atomsT (fs : List (Int × List Int)) : Nat → List UInt8
  | 0 => []
  | k + 1 => atomsT fs k ++ atomT (arO fs k) (rowO fs k)
theorem atomsT_succ (fs : List (Int × List Int)) (k : Nat) : atomsT fs (k + 1) = atomsT fs k ++ atomT (arO fs k) (rowO fs k) := rfl
def formT (p u : Nat) (fs : List (Int × List Int)) : List UInt8 := formH p u ++ atomsT fs fs.length
theorem TextAt.dig {va rel : Int} {row : List Int} (h : TextAt va rel row) (hv : va < 10) : Dig10 row := fun k hk => by
  have := h.2.2.2 k hk
  omega
theorem atomT_len {rel : Int} {row : List Int} (h : row.length ≤ 4) : (atomT rel row).length ≤ 8 := by
  unfold atomT
  rw [List.length_append, digK_len]
  by_cases h1 : rel = -1
  · rw [if_pos h1]; simp; omega
  · rw [if_neg h1]; simp [dig1]; omega
theorem atomsT_len {fs : List (Int × List Int)} (h : ∀ j, j < fs.length → (rowO fs j).length ≤ 4) : ∀ k, k ≤ fs.length → (atomsT fs k).length ≤ 8 * k
  | 0, _ => Nat.le_refl _
  | k + 1, hk => by
    have h1 := atomsT_len h k (by omega)
    have h2 := atomT_len (rel := arO fs k) (h k (by omega))
    rw [atomsT_succ, List.length_append]
    omega

set_option linter.unusedSimpArgs false in
set_option maxHeartbeats 4000000 in
set_option maxRecDepth 100000 in
theorem l03Shown (pb po : Nat) (fr va : Int) (fs : List (Int × List Int)) (b : Bool) (w : World) (h : FormAt w pb po fr va fs) (hb : Tells b (TextOk fr va fs)) :
    Calls Tryd.prog 99 #[.pointer (some ⟨pb, po, none⟩)] w fun e w' => e = .returned (.bool b) ∧ QW w w' := by
  have HF0 := Lib.hid h
  have HB := Lib.hid hb
  obtain ⟨x0, x1, a, n, c, x2, a', c', hv, hn, hc⟩ := h
  simp only [Value.slice.injEq] at hv
  obtain ⟨rfl, rfl, rfl⟩ := hv
  have HC := Lib.hid hc
  have X1 := Lib.hid x1
  have X2 := Lib.hid x2
  clear hc hb x0 x1 x2
  by_cases hcnt : CountsOk fr va fs.length
  case neg =>
    have HT := Lib.hid (Tells.no hcnt)
    have HF := Lib.hid (HB.out.is_false fun h => hcnt h.1)
    clear hcnt
    go_enter Tryd.func99, Tryd.ntmps99
    go_wp2_with fail
    refine (l03Counts _ _ _ _ fs false _ HF0.out HT.out).mono ?_
    rintro e w2 ⟨rfl, hq⟩
    have HQ := Lib.hid hq
    clear hq
    go_wp2
    go_ret
    exact ⟨ret_bool HF.out.symm, HQ.out⟩
  have HCN := Lib.hid hcnt
  have HT := Lib.hid (Tells.yes hcnt)
  have HV1 : Hid (1 ≤ va) := Lib.hid (by have := hcnt.1.1; have := hcnt.2.1.1; omega)
  have HV2 : Hid (va ≤ 1000) := Lib.hid (by have := hcnt.2.1.2; omega)
  clear hcnt
  go_enter Tryd.func99, Tryd.ntmps99
  go_wp2_with fail
  refine (l03Counts _ _ _ _ fs true _ HF0.out HT.out).mono ?_
  rintro e w2 ⟨rfl, hq⟩
  have HQ2 := Lib.hid hq
  clear hq
  go_wp2
  go_loopw [3] (fun i wr => ∃ k : Nat, k ≤ fs.length ∧ i = .int .i64 k ∧ (∀ j, j < k → TextAt va (arO fs j) (rowO fs j)) ∧ QW w wr) (fun i _ => fs.length - (intOf i).toNat)
  case atStart => exact ⟨0, Nat.zero_le _, rfl, fun j hj => absurd hj (Nat.not_lt_zero _), HQ2.out⟩
  case round =>
    obtain ⟨k, hk, rfl, hall, hq⟩ := hrel
    have HA := Lib.hid hall
    have HQ := Lib.hid hq
    have e1 := hq.cell X1.out
    have e2 := hq.cell X2.out
    clear hall hq
    by_cases hlt : k < fs.length
    · obtain ⟨b1, off1, rfl, hd1⟩ := HC.out (by omega)
      obtain ⟨rel, hrel'⟩ : ∃ r, arO fs k = r := ⟨_, rfl⟩
      obtain ⟨row, hrow⟩ : ∃ r, rowO fs k = r := ⟨_, rfl⟩
      have hE := hd1 k hlt
      rw [hrel', hrow] at hE
      obtain ⟨g0, ra, rn, rc, g1, hrr⟩ := hE.below HQ.out.bel
      obtain rfl : rn = row.length := by obtain ⟨_, _, he, _⟩ := hrr; simp only [Value.slice.injEq] at he; exact he.2.1
      have HRR := Lib.hid hrr
      have HRE := Lib.hid hrel'
      have HRW := Lib.hid hrow
      have hlt' : (k : Int) < (fs.length : Int) := by omega
      clear hd1 hrr hrel' hrow hE
      by_cases h1 : InP rel (-1) 5
      case neg =>
        have T1 := Lib.hid (Tells.no h1)
        have HF := Lib.hid (HB.out.is_false fun h => h1 (by have := (h.2 k hlt).1; rwa [HRE.out] at this))
        clear h1
        go_wp2
        go_quiet ((go_at_call 152; exact QW.calls_same (l00In _ _ _ _ _ T1.out)))
        go_wp2
        go_ret
        exact ⟨ret_bool HF.out.symm, HQ.out.drewN _⟩
      have T1 := Lib.hid (Tells.yes h1)
      have H1 := Lib.hid h1
      clear h1
      by_cases h2 : In14 (row.length : Int)
      case neg =>
        have T2 := Lib.hid (Tells.no h2)
        have HF := Lib.hid (HB.out.is_false fun h => h2 (by have := (h.2 k hlt).2.1; rwa [HRW.out] at this))
        clear h2
        go_wp2
        go_quiet ((first | (go_at_call 152; exact QW.calls_same (l00In _ _ _ _ _ T1.out)) | (go_at_call 138; exact QW.calls_same (l01Arity _ _ _ T2.out))))
        go_wp2
        go_ret
        exact ⟨ret_bool HF.out.symm, HQ.out.drewN _⟩
      have T2 := Lib.hid (Tells.yes h2)
      have H2 := Lib.hid h2
      clear h2
      by_cases h3 : PlP row va
      case neg =>
        have T3 := Lib.hid (Tells.no h3)
        have HF := Lib.hid (HB.out.is_false fun h => h3 (by have := (h.2 k hlt).2.2; rw [HRW.out] at this; exact PlP.tup.2 this))
        clear h3
        go_wp2
        go_quiet ((first | (go_at_call 152; exact QW.calls_same (l00In _ _ _ _ _ T1.out)) | (go_at_call 138; exact QW.calls_same (l01Arity _ _ _ T2.out)) | (go_at_call 160; exact QW.calls_same (l01PlacesV _ row _ _ _ (HRR.out.below (((QW.refl _).drewN _).bel)) HV1.out HV2.out T3.out))))
        go_wp2
        go_ret
        exact ⟨ret_bool HF.out.symm, HQ.out.drewN _⟩
      have T3 := Lib.hid (Tells.yes h3)
      have HTH : Hid (TextAt va (arO fs k) (rowO fs k)) := Lib.hid (by rw [HRE.out, HRW.out]; exact ⟨H1.out, H2.out, PlP.tup.1 h3⟩)
      clear h3
      go_wp2
      go_quiet ((first | (go_at_call 152; exact QW.calls_same (l00In _ _ _ _ _ T1.out)) | (go_at_call 138; exact QW.calls_same (l01Arity _ _ _ T2.out)) | (go_at_call 160; exact QW.calls_same (l01PlacesV _ row _ _ _ (HRR.out.below (((QW.refl _).drewN _).bel)) HV1.out HV2.out T3.out))))
      go_wp2
      go_roundw
      case rel =>
        refine ⟨k + 1, by omega, by go_num, fun j hj => ?_, HQ.out.drewN _⟩
        by_cases hjk : j = k
        · subst hjk; exact HTH.out
        · exact HA.out j (by omega)
      case measure => simp [intOf]; omega
    · obtain rfl : k = fs.length := by omega
      have HF := Lib.hid (HB.out.is_true ⟨HCN.out, HA.out⟩)
      go_wp2
      go_ret
      exact ⟨ret_bool HF.out.symm, HQ.out⟩

set_option linter.unusedSimpArgs false in
set_option maxHeartbeats 4000000 in
set_option maxRecDepth 100000 in
theorem l03Text (pb po p u : Nat) (fs : List (Int × List Int)) (w : World) (h : FormAt w pb po p u fs) (hok : TextOk p u fs) :
    Calls Tryd.prog 100 #[.pointer (some ⟨pb, po, none⟩)] w fun e w' => e = .returned (.string ⟨(formT p u fs).toArray⟩) ∧ Below w.heap.size w w' := by
  obtain ⟨hp0, hp1, a, n, c, hp2, a', c', hv, hn, hc⟩ := h
  simp only [Value.slice.injEq] at hv
  obtain ⟨rfl, rfl, rfl⟩ := hv
  have HC := Lib.hid hc
  have HOK := Lib.hid hok
  have HP0 := Lib.hid hp0
  have HP1 := Lib.hid hp1
  have HP2 := Lib.hid hp2
  have HPN : Hid (p < 10) := Lib.hid (by have := hok.1.1.2; omega)
  have HUN : Hid (u < 10) := Lib.hid (by have := hok.1.2.1.2; omega)
  have HR16 : Hid (fs.length ≤ 16) := Lib.hid hok.1.2.2
  have HLEN : Hid (∀ j, j < fs.length → (rowO fs j).length ≤ 4) := Lib.hid (fun j hj => by have := (hok.2 j hj).2.1.2; omega)
  obtain ⟨A1, hA1⟩ : ∃ A, [102, 111, 114, 109, 117, 108, 97, 32] ++ dig1 p = A := ⟨_, rfl⟩
  obtain ⟨A2, hA2⟩ : ∃ A, A1 ++ [32] = A := ⟨_, rfl⟩
  have hA4 : A2 ++ dig1 u = formH p u := by rw [← hA2, ← hA1]; rfl
  have e1 : A1.length = 9 := by rw [← hA1]; rfl
  have e2 : A2.length = 10 := by rw [← hA2, List.length_append, e1]; rfl
  have HC1 : Hid (∀ w, (Op.stringOp .add ⟨#[102, 111, 114, 109, 117, 108, 97, 32]⟩ ⟨(dig1 p).toArray⟩).run Tryd.prog w = .ok (.string ⟨A1.toArray⟩) w) := Lib.hid (fun w => catE [102, 111, 114, 109, 117, 108, 97, 32] (dig1 p) _ hA1 (by decide) (by simp [dig1]) w)
  have HC2 : Hid (∀ w, (Op.stringOp .add ⟨A1.toArray⟩ ⟨#[32]⟩).run Tryd.prog w = .ok (.string ⟨A2.toArray⟩) w) := Lib.hid (fun w => catE A1 [32] _ hA2 (by omega) (by decide) w)
  have HC3 : Hid (∀ w, (Op.stringOp .add ⟨A2.toArray⟩ ⟨(dig1 u).toArray⟩).run Tryd.prog w = .ok (.string ⟨(formH p u).toArray⟩) w) := Lib.hid (fun w => catE A2 (dig1 u) _ hA4 (by omega) (by simp [dig1]) w)
  clear hc hok hp0 hp1 hp2 hA1 hA2 hA4 e1 e2
  go_enter Tryd.func100, Tryd.ntmps100
  go_upto_region 1 with fail
  refine wp_region_noPanic ?_
  refine wp_region_inv (fun w' => w'.cell? ⟨pb, po, none⟩ = some (.int .i64 p) ∧ w'.cell? ⟨pb, po + 1, none⟩ = some (.int .i64 u) ∧ Below w.heap.size w w') (fun w1 w2 => Below w1.heap.size w1 w2) (fun kI vv ww => match kI with
    | 0 => vv = .pointer (some ⟨pb, po, none⟩)
    | 1 => vv = .pointer (some ⟨pb, po, none⟩)
    | 2 => vv = .pointer (some ⟨pb, po, none⟩)
    | 3 => vv = .int .i64 p
    | 4 => vv = .string ⟨(dig1 p).toArray⟩
    | 5 => vv = .string ⟨A1.toArray⟩
    | 6 => vv = .string ⟨A2.toArray⟩
    | 7 => vv = .pointer (some ⟨pb, po, none⟩)
    | 8 => vv = .pointer (some ⟨pb, po, none⟩)
    | 9 => vv = .pointer (some ⟨pb, po + 1, none⟩)
    | 10 => vv = .int .i64 u
    | 11 => vv = .string ⟨(dig1 u).toArray⟩
    | 12 => vv = .string ⟨(formH p u).toArray⟩
    | 13 => vv = .string ⟨(formH p u).toArray⟩
    | _ => True) [(13, some 3), (12, some 18), (11, some 17), (10, some 16), (9, some 15), (8, some 14), (7, some 13), (6, some 12), (5, some 11), (4, some 10), (3, some 9), (2, some 8), (1, some 7), (0, some 6)] 14 (by kernel_rfl) rfl (by kernel_rfl) (by kernel_rfl) (by kernel_rfl) ?_ ?_ ?_ ?_
  · intro kI v w1 w2 hN h
    match kI, h with
    | 0, h => exact h
    | 1, h => exact h
    | 2, h => exact h
    | 3, h => exact h
    | 4, h => exact h
    | 5, h => exact h
    | 6, h => exact h
    | 7, h => exact h
    | 8, h => exact h
    | 9, h => exact h
    | 10, h => exact h
    | 11, h => exact h
    | 12, h => exact h
    | 13, h => exact h
    | kI + 14, _ => exact trivial
  · exact ⟨HP0.out, HP1.out, ((QW.refl w).drew.below _)⟩
  · refine ⟨⟨⟨⟨⟨⟨⟨⟨⟨⟨⟨⟨⟨⟨trivial, ?_⟩, ?_⟩, ?_⟩, ?_⟩, ?_⟩, ?_⟩, ?_⟩, ?_⟩, ?_⟩, ?_⟩, ?_⟩, ?_⟩, ?_⟩, ?_⟩
    · refine StepOk.intro (some 6) rfl rfl (fun xI w1 hS hdep K hK => ?_)
      clear hdep
      have hSS := Lib.hid hS
      obtain ⟨c0, c1, hB⟩ := hS
      refine ⟨?_⟩
      simp only [puts, Act.put, List.setIfInBounds_toArray, List.set_cons_zero, List.set_cons_succ]
      go_simp
      exact hK.out _ (.pointer (some ⟨pb, po, none⟩)) _ (by simp only [puts, Act.put, List.setIfInBounds_toArray, List.set_cons_zero, List.set_cons_succ]) (Below.refl _ _) (hSS.out) (rfl)
    · refine StepOk.intro (some 7) rfl rfl (fun xI w1 hS hdep K hK => ?_)
      have h0 : xI 0 = .pointer (some ⟨pb, po, none⟩) := hdep 0 (by kernel_rfl)
      clear hdep
      have hSS := Lib.hid hS
      obtain ⟨c0, c1, hB⟩ := hS
      refine ⟨?_⟩
      simp only [puts, Act.put, List.setIfInBounds_toArray, List.set_cons_zero, List.set_cons_succ, h0]
      go_simp
      exact hK.out _ (.pointer (some ⟨pb, po, none⟩)) _ (by simp only [puts, Act.put, List.setIfInBounds_toArray, List.set_cons_zero, List.set_cons_succ, h0]) (Below.refl _ _) (hSS.out) (rfl)
    · refine StepOk.intro (some 8) rfl rfl (fun xI w1 hS hdep K hK => ?_)
      have h1 : xI 1 = .pointer (some ⟨pb, po, none⟩) := hdep 1 (by kernel_rfl)
      clear hdep
      have hSS := Lib.hid hS
      obtain ⟨c0, c1, hB⟩ := hS
      refine ⟨?_⟩
      simp only [puts, Act.put, List.setIfInBounds_toArray, List.set_cons_zero, List.set_cons_succ, h1]
      go_simp
      exact hK.out _ (.pointer (some ⟨pb, po, none⟩)) _ (by simp only [puts, Act.put, List.setIfInBounds_toArray, List.set_cons_zero, List.set_cons_succ, h1]) (Below.refl _ _) (hSS.out) (rfl)
    · refine StepOk.intro (some 9) rfl rfl (fun xI w1 hS hdep K hK => ?_)
      have h2 : xI 2 = .pointer (some ⟨pb, po, none⟩) := hdep 2 (by kernel_rfl)
      clear hdep
      have hSS := Lib.hid hS
      obtain ⟨c0, c1, hB⟩ := hS
      refine ⟨?_⟩
      simp only [puts, Act.put, List.setIfInBounds_toArray, List.set_cons_zero, List.set_cons_succ, h2]
      go_simp
      exact hK.out _ (.int .i64 p) _ (by simp only [puts, Act.put, List.setIfInBounds_toArray, List.set_cons_zero, List.set_cons_succ, h2]) (Below.refl _ _) (hSS.out) (rfl)
    · refine StepOk.intro (some 10) rfl rfl (fun xI w1 hS hdep K hK => ?_)
      have h3 : xI 3 = .int .i64 p := hdep 3 (by kernel_rfl)
      clear hdep
      have hSS := Lib.hid hS
      obtain ⟨c0, c1, hB⟩ := hS
      refine ⟨?_⟩
      simp only [puts, Act.put, List.setIfInBounds_toArray, List.set_cons_zero, List.set_cons_succ, h3]
      go_simp; go_at_call 141; refine (decOne p HPN.out _).mono ?_; rintro e w5 ⟨rfl, hb5⟩
      exact hK.out _ (.string ⟨(dig1 p).toArray⟩) _ (by simp only [puts, Act.put, List.setIfInBounds_toArray, List.set_cons_zero, List.set_cons_succ, h3]) hb5 (⟨below_cell hb5 hSS.out.1, below_cell hb5 hSS.out.2.1, hSS.out.2.2.trans (hb5.mono hSS.out.2.2.size)⟩) (rfl)
    · refine StepOk.intro (some 11) rfl rfl (fun xI w1 hS hdep K hK => ?_)
      have h4 : xI 4 = .string ⟨(dig1 p).toArray⟩ := hdep 4 (by kernel_rfl)
      clear hdep
      have hSS := Lib.hid hS
      obtain ⟨c0, c1, hB⟩ := hS
      refine ⟨?_⟩
      simp only [puts, Act.put, List.setIfInBounds_toArray, List.set_cons_zero, List.set_cons_succ, h4]
      have hct := HC1.out w1
      go_simp
      exact hK.out _ (.string ⟨A1.toArray⟩) _ (by simp only [puts, Act.put, List.setIfInBounds_toArray, List.set_cons_zero, List.set_cons_succ, h4]) (Below.refl _ _) (hSS.out) (rfl)
    · refine StepOk.intro (some 12) rfl rfl (fun xI w1 hS hdep K hK => ?_)
      have h5 : xI 5 = .string ⟨A1.toArray⟩ := hdep 5 (by kernel_rfl)
      clear hdep
      have hSS := Lib.hid hS
      obtain ⟨c0, c1, hB⟩ := hS
      refine ⟨?_⟩
      simp only [puts, Act.put, List.setIfInBounds_toArray, List.set_cons_zero, List.set_cons_succ, h5]
      have hct := HC2.out w1
      go_simp
      exact hK.out _ (.string ⟨A2.toArray⟩) _ (by simp only [puts, Act.put, List.setIfInBounds_toArray, List.set_cons_zero, List.set_cons_succ, h5]) (Below.refl _ _) (hSS.out) (rfl)
    · refine StepOk.intro (some 13) rfl rfl (fun xI w1 hS hdep K hK => ?_)
      clear hdep
      have hSS := Lib.hid hS
      obtain ⟨c0, c1, hB⟩ := hS
      refine ⟨?_⟩
      simp only [puts, Act.put, List.setIfInBounds_toArray, List.set_cons_zero, List.set_cons_succ]
      go_simp
      exact hK.out _ (.pointer (some ⟨pb, po, none⟩)) _ (by simp only [puts, Act.put, List.setIfInBounds_toArray, List.set_cons_zero, List.set_cons_succ]) (Below.refl _ _) (hSS.out) (rfl)
    · refine StepOk.intro (some 14) rfl rfl (fun xI w1 hS hdep K hK => ?_)
      have h7 : xI 7 = .pointer (some ⟨pb, po, none⟩) := hdep 7 (by kernel_rfl)
      clear hdep
      have hSS := Lib.hid hS
      obtain ⟨c0, c1, hB⟩ := hS
      refine ⟨?_⟩
      simp only [puts, Act.put, List.setIfInBounds_toArray, List.set_cons_zero, List.set_cons_succ, h7]
      go_simp
      exact hK.out _ (.pointer (some ⟨pb, po, none⟩)) _ (by simp only [puts, Act.put, List.setIfInBounds_toArray, List.set_cons_zero, List.set_cons_succ, h7]) (Below.refl _ _) (hSS.out) (rfl)
    · refine StepOk.intro (some 15) rfl rfl (fun xI w1 hS hdep K hK => ?_)
      have h8 : xI 8 = .pointer (some ⟨pb, po, none⟩) := hdep 8 (by kernel_rfl)
      clear hdep
      have hSS := Lib.hid hS
      obtain ⟨c0, c1, hB⟩ := hS
      refine ⟨?_⟩
      simp only [puts, Act.put, List.setIfInBounds_toArray, List.set_cons_zero, List.set_cons_succ, h8]
      go_simp
      exact hK.out _ (.pointer (some ⟨pb, po + 1, none⟩)) _ (by simp only [puts, Act.put, List.setIfInBounds_toArray, List.set_cons_zero, List.set_cons_succ, h8]) (Below.refl _ _) (hSS.out) (rfl)
    · refine StepOk.intro (some 16) rfl rfl (fun xI w1 hS hdep K hK => ?_)
      have h9 : xI 9 = .pointer (some ⟨pb, po + 1, none⟩) := hdep 9 (by kernel_rfl)
      clear hdep
      have hSS := Lib.hid hS
      obtain ⟨c0, c1, hB⟩ := hS
      refine ⟨?_⟩
      simp only [puts, Act.put, List.setIfInBounds_toArray, List.set_cons_zero, List.set_cons_succ, h9]
      go_simp
      exact hK.out _ (.int .i64 u) _ (by simp only [puts, Act.put, List.setIfInBounds_toArray, List.set_cons_zero, List.set_cons_succ, h9]) (Below.refl _ _) (hSS.out) (rfl)
    · refine StepOk.intro (some 17) rfl rfl (fun xI w1 hS hdep K hK => ?_)
      have h4 : xI 4 = .string ⟨(dig1 p).toArray⟩ := hdep 4 (by kernel_rfl)
      have h10 : xI 10 = .int .i64 u := hdep 10 (by kernel_rfl)
      clear hdep
      have hSS := Lib.hid hS
      obtain ⟨c0, c1, hB⟩ := hS
      refine ⟨?_⟩
      simp only [puts, Act.put, List.setIfInBounds_toArray, List.set_cons_zero, List.set_cons_succ, h4, h10]
      go_simp; go_at_call 141; refine (decOne u HUN.out _).mono ?_; rintro e w5 ⟨rfl, hb5⟩
      exact hK.out _ (.string ⟨(dig1 u).toArray⟩) _ (by simp only [puts, Act.put, List.setIfInBounds_toArray, List.set_cons_zero, List.set_cons_succ, h4, h10]) hb5 (⟨below_cell hb5 hSS.out.1, below_cell hb5 hSS.out.2.1, hSS.out.2.2.trans (hb5.mono hSS.out.2.2.size)⟩) (rfl)
    · refine StepOk.intro (some 18) rfl rfl (fun xI w1 hS hdep K hK => ?_)
      have h6 : xI 6 = .string ⟨A2.toArray⟩ := hdep 6 (by kernel_rfl)
      have h11 : xI 11 = .string ⟨(dig1 u).toArray⟩ := hdep 11 (by kernel_rfl)
      clear hdep
      have hSS := Lib.hid hS
      obtain ⟨c0, c1, hB⟩ := hS
      refine ⟨?_⟩
      simp only [puts, Act.put, List.setIfInBounds_toArray, List.set_cons_zero, List.set_cons_succ, h6, h11]
      have hct := HC3.out w1
      go_simp
      exact hK.out _ (.string ⟨(formH p u).toArray⟩) _ (by simp only [puts, Act.put, List.setIfInBounds_toArray, List.set_cons_zero, List.set_cons_succ, h6, h11]) (Below.refl _ _) (hSS.out) (rfl)
    · refine StepOk.intro (some 3) rfl rfl (fun xI w1 hS hdep K hK => ?_)
      have h0 : xI 0 = .pointer (some ⟨pb, po, none⟩) := hdep 0 (by kernel_rfl)
      have h1 : xI 1 = .pointer (some ⟨pb, po, none⟩) := hdep 1 (by kernel_rfl)
      have h2 : xI 2 = .pointer (some ⟨pb, po, none⟩) := hdep 2 (by kernel_rfl)
      have h3 : xI 3 = .int .i64 p := hdep 3 (by kernel_rfl)
      have h4 : xI 4 = .string ⟨(dig1 p).toArray⟩ := hdep 4 (by kernel_rfl)
      have h5 : xI 5 = .string ⟨A1.toArray⟩ := hdep 5 (by kernel_rfl)
      have h6 : xI 6 = .string ⟨A2.toArray⟩ := hdep 6 (by kernel_rfl)
      have h7 : xI 7 = .pointer (some ⟨pb, po, none⟩) := hdep 7 (by kernel_rfl)
      have h8 : xI 8 = .pointer (some ⟨pb, po, none⟩) := hdep 8 (by kernel_rfl)
      have h9 : xI 9 = .pointer (some ⟨pb, po + 1, none⟩) := hdep 9 (by kernel_rfl)
      have h10 : xI 10 = .int .i64 u := hdep 10 (by kernel_rfl)
      have h11 : xI 11 = .string ⟨(dig1 u).toArray⟩ := hdep 11 (by kernel_rfl)
      have h12 : xI 12 = .string ⟨(formH p u).toArray⟩ := hdep 12 (by kernel_rfl)
      clear hdep
      have hSS := Lib.hid hS
      obtain ⟨c0, c1, hB⟩ := hS
      refine ⟨?_⟩
      simp only [puts, Act.put, List.setIfInBounds_toArray, List.set_cons_zero, List.set_cons_succ, h0, h1, h2, h3, h4, h5, h6, h7, h8, h9, h10, h11, h12]
      go_simp
      exact hK.out _ (.string ⟨(formH p u).toArray⟩) _ (by simp only [puts, Act.put, List.setIfInBounds_toArray, List.set_cons_zero, List.set_cons_succ, h0, h1, h2, h3, h4, h5, h6, h7, h8, h9, h10, h11, h12]) (Below.refl _ _) (hSS.out) (rfl)
  · intro xI w1 hS hx
    have e0 : xI 0 = .pointer (some ⟨pb, po, none⟩) := hx 0 (by decide)
    have e1 : xI 1 = .pointer (some ⟨pb, po, none⟩) := hx 1 (by decide)
    have e2 : xI 2 = .pointer (some ⟨pb, po, none⟩) := hx 2 (by decide)
    have e3 : xI 3 = .int .i64 p := hx 3 (by decide)
    have e4 : xI 4 = .string ⟨(dig1 p).toArray⟩ := hx 4 (by decide)
    have e5 : xI 5 = .string ⟨A1.toArray⟩ := hx 5 (by decide)
    have e6 : xI 6 = .string ⟨A2.toArray⟩ := hx 6 (by decide)
    have e7 : xI 7 = .pointer (some ⟨pb, po, none⟩) := hx 7 (by decide)
    have e8 : xI 8 = .pointer (some ⟨pb, po, none⟩) := hx 8 (by decide)
    have e9 : xI 9 = .pointer (some ⟨pb, po + 1, none⟩) := hx 9 (by decide)
    have e10 : xI 10 = .int .i64 u := hx 10 (by decide)
    have e11 : xI 11 = .string ⟨(dig1 u).toArray⟩ := hx 11 (by decide)
    have e12 : xI 12 = .string ⟨(formH p u).toArray⟩ := hx 12 (by decide)
    have e13 : xI 13 = .string ⟨(formH p u).toArray⟩ := hx 13 (by decide)
    clear hx
    obtain ⟨c0, c1, hB⟩ := hS
    simp only [puts, Act.put, List.setIfInBounds_toArray, List.set_cons_zero, List.set_cons_succ, e0, e1, e2, e3, e4, e5, e6, e7, e8, e9, e10, e11, e12, e13]
    clear e0 e1 e2 e3 e4 e5 e6 e7 e8 e9 e10 e11 e12 e13
    refine NoPanic.normal ?_
    have HB1 := Lib.hid hB
    clear hB c0 c1
    go_wp2
    go_loopw [3, 4] (fun s i wr => ∃ k : Nat, k ≤ fs.length ∧ i = .int .i64 k ∧ s = .string ⟨(formH p u ++ atomsT fs k).toArray⟩ ∧ Below w.heap.size w wr) (fun _ i _ => fs.length - (intOf i).toNat)
    case atStart => exact ⟨0, Nat.zero_le _, rfl, by show _ = Value.string ⟨(formH p u ++ []).toArray⟩; rw [List.append_nil], HB1.out⟩
    case round =>
      obtain ⟨k, hk, rfl, rfl, hbel⟩ := hrel
      have HB := Lib.hid hbel
      have hp2 := below_cell hbel HP2.out
      have hlenk := atomsT_len HLEN.out k hk
      have hbg : fs.length ≤ 16 := HR16.out
      obtain ⟨A, hA⟩ : ∃ A, formH p u ++ atomsT fs k = A := ⟨_, rfl⟩
      have hAl : A.length ≤ 500 := by rw [← hA, List.length_append, formH_len]; omega
      rw [hA]
      have HA := Lib.hid hA
      have HAL := Lib.hid hAl
      clear hbel hA hlenk hAl
      by_cases hlt : k < fs.length
      · obtain ⟨b1, off1, rfl, hd1⟩ := HC.out (by omega)
        obtain ⟨r0, hr0⟩ : ∃ r0, arO fs k = r0 := ⟨_, rfl⟩
        obtain ⟨row, hrow⟩ : ∃ row, rowO fs k = row := ⟨_, rfl⟩
        have hE := hd1 k hlt
        have hok1 := HOK.out.2 k hlt
        rw [hr0, hrow] at hE hok1
        obtain ⟨g0, ra, rn, rc, g1, hrr⟩ := hE
        have hg0 := below_cell HB.out g0
        have HGW := Lib.hid (below_cell HB.out g1)
        obtain ⟨ra', rc', hrv, hrn, hrc⟩ := hrr
        simp only [Value.slice.injEq] at hrv
        obtain ⟨rfl, rfl, rfl⟩ := hrv
        have HRC := Lib.hid hrc
        have HR0 := Lib.hid hr0
        have HRW := Lib.hid hrow
        have HDG : Hid (Dig10 row) := Lib.hid (hok1.dig (by have := HUN.out; omega))
        have hr4 : row.length ≤ 4 := by have := hok1.2.1.2; omega
        have HRNG := Lib.hid hok1.1
        have hlt' : (k : Int) < (fs.length : Int) := by omega
        have HQ0 := Lib.hid hp2
        obtain ⟨wo, rfl⟩ : ∃ wo : World, wo = wr := ⟨_, rfl⟩
        clear hd1 hrc hr0 hrow hok1 g1 g0
        by_cases hr1 : r0 = -1
        · subst hr1
          have hct : (Op.stringOp .add ⟨A.toArray⟩ ⟨#[32, 61, 58]⟩).run Tryd.prog wo = .ok (.string ⟨(A ++ [32, 61, 58]).toArray⟩) wo := catE A [32, 61, 58] _ rfl (by have := HAL.out; omega) (by decide) wo
          obtain ⟨B, hB⟩ : ∃ B, A ++ [32, 61, 58] = B := ⟨_, rfl⟩
          rw [hB] at hct
          have HBL : Hid (B.length ≤ 600) := Lib.hid (by rw [← hB, List.length_append]; have := HAL.out; simp; omega)
          have HBO : Hid (Below wo.heap.size wo wo) := Lib.hid (Below.refl _ _)
          have HNX : Hid (formH p u ++ atomsT fs (k + 1) = B ++ digK row row.length) := Lib.hid (by
            rw [atomsT_succ, HR0.out, HRW.out, ← hB, ← HA.out]
            simp [atomT])
          clear hB
          go_wp2
          clear hct
          go_loopw [3, 5] (fun s i wr => ∃ j : Nat, j ≤ row.length ∧ i = .int .i64 j ∧ s = .string ⟨(B ++ digK row j).toArray⟩ ∧ Below wo.heap.size wo wr) (fun _ i _ => row.length - (intOf i).toNat)
          case atStart => exact ⟨0, Nat.zero_le _, rfl, by show _ = Value.string ⟨(B ++ []).toArray⟩; rw [List.append_nil], HBO.out⟩
          case round =>
            obtain ⟨j, hj, rfl, rfl, hbel2⟩ := hrel
            have HB2 := Lib.hid hbel2
            have hq2 := below_cell hbel2 HQ0.out
            have hg0 := below_cell hbel2 HGW.out
            clear hbel2
            by_cases hjt : j < row.length
            · obtain ⟨b2, off2, rfl, hd2⟩ := HRC.out (by omega)
              have hx : wo.cell? ⟨b2, off2 + j, none⟩ = some (.int .i64 (intN row j)) := below_cell HB.out (hd2 j hjt)
              have hx2 := below_cell HB2.out hx
              have hdj := HDG.out j hjt
              obtain ⟨d, hde⟩ : ∃ d : Nat, (intN row j).toNat = d := ⟨_, rfl⟩
              have hdi : intN row j = (d : Int) := by omega
              rw [hdi] at hx2
              have HD : Hid (d < 10) := Lib.hid (by omega)
              have HS : Hid ((B ++ digK row j) ++ dig1 d = B ++ digK row (j + 1)) := Lib.hid (by rw [digK_succ, hde, List.append_assoc])
              have HL : Hid ((B ++ digK row j).length ≤ 10000000) := Lib.hid (by rw [List.length_append, digK_len]; have := HBL.out; omega)
              have hjt' : (j : Int) < (row.length : Int) := by omega
              obtain ⟨G, hG⟩ : ∃ G, B ++ digK row j = G := ⟨_, rfl⟩
              rw [hG]
              have HG := Lib.hid hG
              clear hx hdj hde hdi hd2 hG
              go_wp2_with fail
              refine (decOne d HD.out _).mono ?_
              rintro e w4 ⟨rfl, hb4⟩
              have HB4 := Lib.hid (HB2.out.trans (hb4.mono HB2.out.size))
              have hct : (Op.stringOp .add ⟨G.toArray⟩ ⟨(dig1 d).toArray⟩).run Tryd.prog w4 = .ok (.string ⟨(B ++ digK row (j + 1)).toArray⟩) w4 := catE G (dig1 d) _ (by rw [← HG.out]; exact HS.out) (by rw [← HG.out]; exact HL.out) (by simp [dig1]) w4
              clear hb4 hq2 hg0 hx2
              go_wp2
              clear hct
              go_roundw
              case rel => exact ⟨j + 1, by omega, by go_num, rfl, HB4.out⟩
              case measure => simp [intOf]; omega
            · obtain rfl : j = row.length := by omega
              go_wp2
              go_roundw
              case rel => exact ⟨k + 1, by omega, by go_num, by rw [HNX.out], HB.out.trans (HB2.out.mono HB.out.size)⟩
              case measure => simp [intOf]; omega
        · have hrb := HRNG.out.1
          have hrb2 := HRNG.out.2
          obtain ⟨r, rfl⟩ : ∃ r : Nat, r0 = r := ⟨r0.toNat, by omega⟩
          have HRN : Hid (r < 10) := Lib.hid (by omega)
          have hne : ((r : Int) == -1) = false := beq_eq_false_iff_ne.2 hr1
          clear hrb hrb2 hr1
          go_wp2_with fail
          refine (decOne r HRN.out _).mono ?_
          rintro e w9 ⟨rfl, hb9⟩
          have HBO := Lib.hid hb9
          obtain ⟨E1, hE1⟩ : ∃ E, [32, 82] ++ dig1 r = E := ⟨_, rfl⟩
          obtain ⟨E2, hE2⟩ : ∃ E, E1 ++ [58] = E := ⟨_, rfl⟩
          have hl1 : E1.length = 3 := by rw [← hE1]; rfl
          have hl2 : E2.length = 4 := by rw [← hE2, List.length_append, hl1]; rfl
          have hct1 : (Op.stringOp .add ⟨#[32, 82]⟩ ⟨(dig1 r).toArray⟩).run Tryd.prog w9 = .ok (.string ⟨E1.toArray⟩) w9 := catE [32, 82] (dig1 r) _ hE1 (by decide) (by simp [dig1]) w9
          have hct2 : (Op.stringOp .add ⟨E1.toArray⟩ ⟨#[58]⟩).run Tryd.prog w9 = .ok (.string ⟨E2.toArray⟩) w9 := catE E1 [58] _ hE2 (by omega) (by decide) w9
          have hct3 : (Op.stringOp .add ⟨A.toArray⟩ ⟨E2.toArray⟩).run Tryd.prog w9 = .ok (.string ⟨(A ++ E2).toArray⟩) w9 := catE A E2 _ rfl (by have := HAL.out; omega) (by omega) w9
          obtain ⟨B, hB⟩ : ∃ B, A ++ E2 = B := ⟨_, rfl⟩
          rw [hB] at hct3
          have HBL : Hid (B.length ≤ 600) := Lib.hid (by rw [← hB, List.length_append]; have := HAL.out; omega)
          have HNX : Hid (formH p u ++ atomsT fs (k + 1) = B ++ digK row row.length) := Lib.hid (by
            rw [atomsT_succ, HR0.out, HRW.out, ← hB, ← HA.out, ← hE2, ← hE1]
            simp [atomT])
          clear hb9 hE1 hE2 hl1 hl2 hB hg0 hp2
          go_wp2
          clear hct1 hct2 hct3
          go_loopw [3, 5] (fun s i wr => ∃ j : Nat, j ≤ row.length ∧ i = .int .i64 j ∧ s = .string ⟨(B ++ digK row j).toArray⟩ ∧ Below wo.heap.size wo wr) (fun _ i _ => row.length - (intOf i).toNat)
          case atStart => exact ⟨0, Nat.zero_le _, rfl, by show _ = Value.string ⟨(B ++ []).toArray⟩; rw [List.append_nil], HBO.out⟩
          case round =>
            obtain ⟨j, hj, rfl, rfl, hbel2⟩ := hrel
            have HB2 := Lib.hid hbel2
            have hq2 := below_cell hbel2 HQ0.out
            have hg0 := below_cell hbel2 HGW.out
            clear hbel2
            by_cases hjt : j < row.length
            · obtain ⟨b2, off2, rfl, hd2⟩ := HRC.out (by omega)
              have hx : wo.cell? ⟨b2, off2 + j, none⟩ = some (.int .i64 (intN row j)) := below_cell HB.out (hd2 j hjt)
              have hx2 := below_cell HB2.out hx
              have hdj := HDG.out j hjt
              obtain ⟨d, hde⟩ : ∃ d : Nat, (intN row j).toNat = d := ⟨_, rfl⟩
              have hdi : intN row j = (d : Int) := by omega
              rw [hdi] at hx2
              have HD : Hid (d < 10) := Lib.hid (by omega)
              have HS : Hid ((B ++ digK row j) ++ dig1 d = B ++ digK row (j + 1)) := Lib.hid (by rw [digK_succ, hde, List.append_assoc])
              have HL : Hid ((B ++ digK row j).length ≤ 10000000) := Lib.hid (by rw [List.length_append, digK_len]; have := HBL.out; omega)
              have hjt' : (j : Int) < (row.length : Int) := by omega
              obtain ⟨G, hG⟩ : ∃ G, B ++ digK row j = G := ⟨_, rfl⟩
              rw [hG]
              have HG := Lib.hid hG
              clear hx hdj hde hdi hd2 hG
              go_wp2_with fail
              refine (decOne d HD.out _).mono ?_
              rintro e w4 ⟨rfl, hb4⟩
              have HB4 := Lib.hid (HB2.out.trans (hb4.mono HB2.out.size))
              have hct : (Op.stringOp .add ⟨G.toArray⟩ ⟨(dig1 d).toArray⟩).run Tryd.prog w4 = .ok (.string ⟨(B ++ digK row (j + 1)).toArray⟩) w4 := catE G (dig1 d) _ (by rw [← HG.out]; exact HS.out) (by rw [← HG.out]; exact HL.out) (by simp [dig1]) w4
              clear hb4 hq2 hg0 hx2
              go_wp2
              clear hct
              go_roundw
              case rel => exact ⟨j + 1, by omega, by go_num, rfl, HB4.out⟩
              case measure => simp [intOf]; omega
            · obtain rfl : j = row.length := by omega
              go_wp2
              go_roundw
              case rel => exact ⟨k + 1, by omega, by go_num, by rw [HNX.out], HB.out.trans (HB2.out.mono HB.out.size)⟩
              case measure => simp [intOf]; omega
      · obtain rfl : k = fs.length := by omega
        have HE : Hid (formT p u fs = A) := Lib.hid HA.out
        go_wp2
        go_ret
        exact ⟨ret_str HE.out.symm, HB.out⟩

end Go.Proofs.YtadpnckpgpamiabDoor
