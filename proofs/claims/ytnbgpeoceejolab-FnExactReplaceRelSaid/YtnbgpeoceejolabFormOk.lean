/-
  Valid formulas: ValidFormula of the model and of the program.
-/
import Derived.Test.YtnbgpeoceejolabFormula
import Derived.Test.YtnbgpeoceejolabGMaps
import Derived.Test.YtnbgpeoceejolabAtP
namespace Go.Proofs.Ytnbgpeoceejolab
open Go.RowKit

set_option maxHeartbeats 1000000 in
theorem l01PlacesV (v : Value) (ps : List Int) (x : Int) (b : Bool) (w : World) (h : RowAt w v ps) (h1 : 1 ≤ x) (h2 : x ≤ 1000) (hb : Tells b (PlP ps x)) :
    Calls Try.prog 45 #[v, .int .i64 x] w fun e w' => e = .returned (.bool b) ∧ w = w' := by
  obtain ⟨a, c, rfl, hn, hc⟩ := h
  have HC := Lib.hid hc
  have HB := Lib.hid hb
  clear hc hb
  go_enter Try.func45, Try.ntmps45
  go_wp2
  go_loop [5] (fun i => ∃ k : Nat, k ≤ ps.length ∧ i = .int .i64 k ∧ ∀ j, j < k → 0 ≤ intN ps j ∧ intN ps j < x) (fun i => ps.length - (intOf i).toNat)
  case atStart => exact ⟨0, Nat.zero_le _, rfl, fun j hj => absurd hj (Nat.not_lt_zero _)⟩
  case round =>
    obtain ⟨k, hk, rfl, hall⟩ := hrel
    have HA := Lib.hid hall
    clear hall
    by_cases hlt : k < ps.length
    · obtain ⟨b1, off1, ha1, hcell1⟩ := HC.out (by omega)
      subst ha1
      have hx1 := hcell1 k hlt
      have hlt' : (k : Int) < (ps.length : Int) := by omega
      clear hcell1
      by_cases hin : InP (intN ps k) 0 (x - 1)
      · have HI := Lib.hid (Tells.yes hin)
        have HP := Lib.hid hin
        clear hin
        go_wp2_with (go_at_call 51; refine (l00In _ _ _ true _ HI.out).mono ?_; rintro e w' ⟨rfl, rfl⟩)
        go_round
        case rel =>
          refine ⟨k + 1, by omega, by go_num, fun j hj => ?_⟩
          by_cases e : j = k
          · subst e; have := HP.out; unfold InP at this; omega
          · exact HA.out j (by omega)
        case measure => simp [intOf]; omega
      · have HI := Lib.hid (Tells.no hin)
        have HF := Lib.hid (HB.out.is_false fun h => hin (by have := h k hlt; unfold InP; omega))
        clear hin
        go_wp2_with (go_at_call 51; refine (l00In _ _ _ false _ HI.out).mono ?_; rintro e w' ⟨rfl, rfl⟩)
        go_ret
        exact ⟨ret_bool HF.out.symm, rfl⟩
    · obtain rfl : k = ps.length := by omega
      have HF := Lib.hid (HB.out.is_true fun j hj => HA.out j hj)
      go_wp2
      go_ret
      exact ⟨ret_bool HF.out.symm, rfl⟩

/-- The arity of an atom; 0 if there is no such relation. -/
def arityOf (rs : List (Int × List (List Int))) (rel : Int) : Int := if rel = -1 then 2 else if 0 ≤ rel ∧ rel < rs.length then arN rs rel.toNat else 0
theorem arityOf_eq (rs : List (Int × List (List Int))) : arityOf rs (-1) = 2 := by simp [arityOf]
theorem arityOf_in {rs : List (Int × List (List Int))} {k : Nat} (h : k < rs.length) : arityOf rs (k : Int) = arN rs k := by
  unfold arityOf
  rw [if_neg (by omega), if_pos ⟨by omega, by omega⟩, Int.toNat_natCast]
theorem arityOf_out {rs : List (Int × List (List Int))} {rel : Int} (h1 : rel ≠ -1) (h2 : ¬ (0 ≤ rel ∧ rel < rs.length)) : arityOf rs rel = 0 := by
  unfold arityOf
  rw [if_neg h1, if_neg h2]
def AtomOk (rs : List (Int × List (List Int))) (va rel : Int) (args : List Int) : Prop := arityOf rs rel ≠ 0 ∧ (args.length : Int) = arityOf rs rel ∧ PlP args va
def CountsOk (fr va : Int) (n : Nat) : Prop := In14 fr ∧ InP va fr 8 ∧ n ≤ 16
def FormOk (sz : Int) (rs : List (Int × List (List Int))) (fr va : Int) (fs : List (Int × List Int)) : Prop := TplOk sz rs ∧ CountsOk fr va fs.length ∧ ∀ k, k < fs.length → AtomOk rs va (arO fs k) (rowO fs k)
def ValidFormulaIs (sz : Int) (rs : List (Int × List (List Int))) (fr va : Int) (fs : List (Int × List Int)) (b : Bool) : Prop := Tells b (FormOk sz rs fr va fs)
theorem Tells.exists' (p : Prop) : ∃ b, Tells b p := by
  by_cases h : p
  · exact ⟨true, Tells.yes h⟩
  · exact ⟨false, Tells.no h⟩
theorem ValidFormulaIs.exists (sz : Int) (rs : List (Int × List (List Int))) (fr va : Int) (fs : List (Int × List Int)) : ∃ b, ValidFormulaIs sz rs fr va fs b := Tells.exists' _

set_option maxHeartbeats 1000000 in
theorem l03Arity (pb po : Nat) (sz : Int) (rs : List (Int × List (List Int))) (rel ar : Int) (w : World) (h : TplAt w pb po sz rs) (he : arityOf rs rel = ar) :
    Calls Try.prog 72 #[.pointer (some ⟨pb, po, none⟩), .int .i64 rel] w fun e w' => e = .returned (.int .i64 ar) ∧ QW w w' := by
  obtain ⟨hp0, a, n, c, hp1, a', c', hv, hn, hc⟩ := h
  simp only [Value.slice.injEq] at hv
  obtain ⟨rfl, rfl, rfl⟩ := hv
  have HC := Lib.hid hc
  have HE := Lib.hid he
  clear hc he
  by_cases h1 : rel = -1
  · subst h1
    have HF : Hid ((2 : Int) = ar) := Lib.hid ((arityOf_eq rs).symm.trans HE.out)
    go_enter Try.func72, Try.ntmps72
    go_wp2
    go_ret
    exact ⟨ret_int HF.out, QW.refl _⟩
  · have hne : (rel == -1) = false := beq_eq_false_iff_ne.2 h1
    by_cases h2 : InP rel 0 ((rs.length : Int) - 1)
    · obtain ⟨k, rfl⟩ : ∃ k : Nat, rel = k := ⟨rel.toNat, by unfold InP at h2; omega⟩
      have hk : k < rs.length := by unfold InP at h2; omega
      have HI := Lib.hid (Tells.yes h2)
      have HF : Hid (arN rs k = ar) := Lib.hid ((arityOf_in hk).symm.trans HE.out)
      obtain ⟨b1, off1, ha1, hcell1⟩ := HC.out (by omega)
      subst ha1
      obtain ⟨hx0, _⟩ := hcell1 k hk
      have hlt' : (k : Int) < (rs.length : Int) := by omega
      clear h2 hcell1
      go_enter Try.func72, Try.ntmps72
      go_wp2_with (go_at_call 51; refine (l00In _ _ _ true _ HI.out).mono ?_; rintro e w' ⟨rfl, rfl⟩)
      go_ret
      exact ⟨ret_int HF.out, QW.refl _⟩
    · have HI := Lib.hid (Tells.no h2)
      have HF : Hid ((0 : Int) = ar) := Lib.hid ((arityOf_out h1 (fun h => h2 ⟨h.1, by omega⟩)).symm.trans HE.out)
      clear h2
      go_enter Try.func72, Try.ntmps72
      go_wp2_with (go_at_call 51; refine (l00In _ _ _ false _ HI.out).mono ?_; rintro e w' ⟨rfl, rfl⟩)
      go_ret
      exact ⟨ret_int HF.out, QW.refl _⟩

set_option maxHeartbeats 1000000 in
theorem l03Counts (pb po : Nat) (fr va : Int) (fs : List (Int × List Int)) (b : Bool) (w : World) (h : FormAt w pb po fr va fs) (hb : Tells b (CountsOk fr va fs.length)) :
    Calls Try.prog 71 #[.pointer (some ⟨pb, po, none⟩)] w fun e w' => e = .returned (.bool b) ∧ QW w w' := by
  obtain ⟨x1, x2, a1, n1, c1, x3, a1', c1', hv1, hn1, hc1⟩ := h
  simp only [Value.slice.injEq] at hv1
  obtain ⟨rfl, rfl, rfl⟩ := hv1
  have HB := Lib.hid hb
  clear hc1 hb
  have hl : ¬ ((fs.length : Int) < 0) := by omega
  by_cases h1 : In14 fr
  · have H1 := Lib.hid (Tells.yes h1)
    by_cases h2 : InP va fr 8
    · have H2 := Lib.hid (Tells.yes h2)
      by_cases h3 : fs.length ≤ 16
      · have HF := Lib.hid (HB.out.is_true ⟨h1, h2, h3⟩)
        have h3' : (fs.length : Int) ≤ 16 := by omega
        clear h1 h2
        go_enter Try.func71, Try.ntmps71
        go_wp2
        go_quiet ((first | (go_at_call 44; exact QW.calls_same (l01Arity _ true _ H1.out)) | (go_at_call 51; exact QW.calls_same (l00In _ _ _ true _ H2.out))))
        go_wp2
        go_ret
        exact ⟨ret_bool (by first | exact HF.out.symm | simp [HF.out, h3']), (QW.refl _).drewN _⟩
      · have HF := Lib.hid (HB.out.is_false fun h => h3 h.2.2)
        have h3' : (16 : Int) < (fs.length : Int) := by omega
        clear h1 h2
        go_enter Try.func71, Try.ntmps71
        go_wp2
        go_quiet ((first | (go_at_call 44; exact QW.calls_same (l01Arity _ true _ H1.out)) | (go_at_call 51; exact QW.calls_same (l00In _ _ _ true _ H2.out))))
        go_wp2
        go_ret
        exact ⟨ret_bool (by first | exact HF.out.symm | simp [HF.out, h3']), (QW.refl _).drewN _⟩
    · have H2 := Lib.hid (Tells.no h2)
      have HF := Lib.hid (HB.out.is_false fun h => h2 h.2.1)
      clear h1 h2
      go_enter Try.func71, Try.ntmps71
      go_wp2
      go_quiet ((first | (go_at_call 44; exact QW.calls_same (l01Arity _ true _ H1.out)) | (go_at_call 51; exact QW.calls_same (l00In _ _ _ false _ H2.out))))
      go_wp2
      go_ret
      exact ⟨ret_bool HF.out.symm, (QW.refl _).drewN _⟩
  · have H1 := Lib.hid (Tells.no h1)
    have HF := Lib.hid (HB.out.is_false fun h => h1 h.1)
    clear h1
    go_enter Try.func71, Try.ntmps71
    go_wp2
    go_quiet ((go_at_call 44; exact QW.calls_same (l01Arity _ false _ H1.out)))
    go_wp2
    go_ret
    exact ⟨ret_bool HF.out.symm, (QW.refl _).drewN _⟩

end Go.Proofs.Ytnbgpeoceejolab
