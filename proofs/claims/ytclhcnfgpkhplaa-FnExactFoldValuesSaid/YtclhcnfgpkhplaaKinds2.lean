/-
  The kinds of operations, of the model: l02Idempotent, l00Has.
-/
import Derived.Test.YtclhcnfgpkhplaaKinds1
namespace Go.Proofs.Ytclhcnfgpkhplaa
open Go.RowKit

def IdemP (s r : Nat) (tab : List Int) : Prop := ∀ x : Nat, x < s → intN tab (codeN s (List.replicate r (x : Int))) = x
theorem rep_succ (k : Nat) (x : Int) : (List.replicate (k + 1) x).map (Value.int .i64) = (List.replicate k x).map (Value.int .i64) ++ [.int .i64 x] := by
  rw [List.replicate_succ', List.map_append]
  rfl
theorem rep_tup (s r x : Nat) (hx : x < s) : TupP s r (List.replicate r (x : Int)) := by
  refine ⟨by simp, fun i hi => ?_⟩
  have hi' : i < r := by simpa using hi
  rw [show intN (List.replicate r (x : Int)) i = x by simp [intN, hi']]
  omega

set_option linter.unusedSimpArgs false in
set_option maxHeartbeats 4000000 in
set_option maxRecDepth 100000 in
theorem l02Idempotent (s r : Nat) (pb po : Nat) (tab : List Int) (b : Bool) (w : World) (hop : OpAt w pb po r tab) (ho : OpOk s r tab) (hb : Tells b (IdemP s r tab)) :
    Calls Try.prog 117 #[.int .i64 s, .pointer (some ⟨pb, po, none⟩)] w fun e w' => e = .returned (.bool b) ∧ Below w.heap.size w w' := by
  obtain ⟨i0, hi, hz0, hz1, hz2⟩ := info_parts info_intT
  have hs4 : s ≤ 4 := by have := ho.1.2; omega
  have hr3 : r ≤ 3 := by have := ho.2.1.2; omega
  have HB := Lib.hid hb
  have HOP := Lib.hid hop
  have HO := Lib.hid ho
  clear hb hop ho
  go_enter Try.func117, Try.ntmps117
  go_wp2
  go_loopw [5] (fun i wr => ∃ x : Nat, x ≤ s ∧ i = .int .i64 x ∧ (∀ z : Nat, z < x → intN tab (codeN s (List.replicate r (z : Int))) = z) ∧ Below w.heap.size w wr) (fun i _ => s - (intOf i).toNat)
  case atStart => exact ⟨0, Nat.zero_le _, rfl, fun j hj => absurd hj (Nat.not_lt_zero _), Below.refl _ _⟩
  case round =>
    obtain ⟨x, hxs, rfl, hall, hbel⟩ := hrel
    have HX := Lib.hid hall
    have HW0 := Lib.hid hbel
    clear hall hbel
    by_cases hx : x < s
    · have hx' : (x : Int) < (s : Int) := by omega
      obtain ⟨wo, rfl⟩ : ∃ wo, wo = wr := ⟨_, rfl⟩
      go_wp2
      go_loopw [6, 7] (fun v i wr => ∃ (k : Nat) (a : Option Addr) (n c : Nat), k ≤ r ∧ i = .int .i64 k ∧ v = .slice a n c ∧ wr.ownsRow wo.heap.size 2 1 (.slice a n c) k ((List.replicate k (x : Int)).map (Value.int .i64)) ∧ Below wo.heap.size wo wr) (fun _ i _ => r - (intOf i).toNat)
      case atStart => exact ⟨0, _, _, _, Nat.zero_le _, rfl, rfl, ownRow_lit wo wo.heap.size [] (Nat.le_refl _) (by simp), (Below.refl _ _).alloc (Nat.le_refl _) _⟩
      case round =>
        obtain ⟨k, a, n, c, hk, rfl, rfl, hown, hbely⟩ := hrel
        have HO2 := Lib.hid hown
        have HWL := Lib.hid hbely
        have HW := Lib.hid (HW0.out.trans (hbely.mono HW0.out.size))
        have cA := (HOP.out.below HW.out).1
        clear hown hbely
        by_cases hlt : k < r
        · have hlt' : (k : Int) < (r : Int) := by omega
          have HC1' := Lib.hid (cell_one_new wr (.int .i64 (x : Int)) 2)
          go_wp2_with (at_builtin; refine wpList_append_own _ rfl _ _ 22 rfl wo.heap.size 2 i0 (.int .i64 0) 1 8 Try.underlying22 hi hz0 hz1 hz2 rfl (by decide) (.slice a n c) k _ rfl (HO2.out.alloc _) ⟨wr.heap.size, 0, none⟩ 1 1 [.int .i64 (x : Int)] rfl rfl HC1'.out (by simp [Value.oneCell']) (by unfold maxLen; omega) (by omega) (by have := HWL.out.size; simp; omega) ?_; intro v' w3 hown' hgrow _; obtain ⟨g', c', rfl⟩ := ownsRow_succ hown'; have HG3 := Lib.hid hown'; have HR3 := Lib.hid hgrow; clear hown' hgrow)
          go_roundw
          case rel =>
            refine ⟨k + 1, _, _, _, by omega, by go_num, rfl, ?_, ((HWL.out.alloc HWL.out.size _).grown HR3.out (by have := HWL.out.size; simp; omega) (fun q hq => (HO2.out.lt q hq).1))⟩
            rw [rep_succ]; exact HG3.out
          case measure => simp [intOf]; omega
        · obtain rfl : k = r := by omega
          have HE : Hid (OwnRow wr wo.heap.size (.slice a n c) (List.replicate k (x : Int))) := by
            show World.ownsRow _ _ _ _ _ _ _
            rw [List.length_replicate]
            exact HO2.out
          have HTU := Lib.hid (rep_tup s k x hx)
          obtain ⟨v1, hv1⟩ : ∃ v, intN tab (codeN s (List.replicate k (x : Int))) = v := ⟨_, rfl⟩
          have HV1 := Lib.hid hv1
          clear hv1
          by_cases e1 : v1 = (x : Int)
          · have n1 : (v1 != (x : Int)) = false := by simp [e1]
            have HTH : Hid (intN tab (codeN s (List.replicate k (x : Int))) = x) := Lib.hid (HV1.out.trans e1)
            clear e1
            go_wp2_with fail
            refine (l02ValueK s k pb po tab _ (List.replicate k (x : Int)) v1 _ (HOP.out.below HW.out) HE.out.rowAt HO.out HTU.out HV1.out).mono ?_
            rintro e w1 ⟨rfl, hq1⟩
            have HB1 := Lib.hid (HW.out.trans ((hq1.below _).mono HW.out.size))
            clear hq1
            go_wp2
            go_roundw
            case rel =>
              refine ⟨x + 1, by omega, by go_num, fun z hz => ?_, HB1.out⟩
              by_cases hzx : z = x
              · subst hzx; exact HTH.out
              · exact HX.out z (by omega)
            case measure => simp [intOf]; omega
          · have n1 : (v1 != (x : Int)) = true := by simp [e1]
            have HF := Lib.hid (HB.out.is_false fun h => e1 (HV1.out.symm.trans (h x hx)))
            clear e1
            go_wp2_with fail
            refine (l02ValueK s k pb po tab _ (List.replicate k (x : Int)) v1 _ (HOP.out.below HW.out) HE.out.rowAt HO.out HTU.out HV1.out).mono ?_
            rintro e w1 ⟨rfl, hq1⟩
            have HB1 := Lib.hid (HW.out.trans ((hq1.below _).mono HW.out.size))
            clear hq1
            go_wp2
            go_ret
            exact ⟨ret_bool HF.out.symm, HB1.out⟩
    · obtain rfl : x = s := by omega
      have HF := Lib.hid (HB.out.is_true fun z hz => HX.out z hz)
      go_wp2
      go_ret
      exact ⟨ret_bool HF.out.symm, HW0.out⟩

def HasN (xs : List Int) (x : Int) : Prop := ∃ i, i < xs.length ∧ intN xs i = x

set_option maxHeartbeats 1000000 in
set_option maxRecDepth 100000 in
theorem l00Has (v : Value) (xs : List Int) (x : Int) (b : Bool) (w : World) (h : RowAt w v xs) (hb : Tells b (HasN xs x)) :
    Calls Try.prog 166 #[v, .int .i64 x] w fun e w' => e = .returned (.bool b) ∧ w = w' := by
  obtain ⟨a, c, rfl, hn, hc⟩ := h
  have HC := Lib.hid hc
  have HB := Lib.hid hb
  clear hc hb
  go_enter Try.func166, Try.ntmps166
  go_wp2
  go_loop [5] (fun i => ∃ k : Nat, k ≤ xs.length ∧ i = .int .i64 k ∧ ∀ j, j < k → intN xs j ≠ x) (fun i => xs.length - (intOf i).toNat)
  case atStart => exact ⟨0, Nat.zero_le _, rfl, fun j hj => absurd hj (Nat.not_lt_zero _)⟩
  case round =>
    obtain ⟨k, hk, rfl, hall⟩ := hrel
    have HA := Lib.hid hall
    clear hall
    by_cases hlt : k < xs.length
    · obtain ⟨b1, off1, ha1, hcell1⟩ := HC.out (by omega)
      subst ha1
      have hx1 := hcell1 k hlt
      have hlt' : (k : Int) < (xs.length : Int) := by omega
      clear hcell1
      obtain ⟨y, hy⟩ : ∃ y, intN xs k = y := ⟨_, rfl⟩
      rw [hy] at hx1
      have HY := Lib.hid hy
      clear hy
      by_cases e1 : y = x
      · have HF := Lib.hid (HB.out.is_true ⟨k, hlt, HY.out.trans e1⟩)
        have n1 : (y == x) = true := by simp [e1]
        clear e1
        go_wp2
        go_ret
        exact ⟨ret_bool HF.out.symm, rfl⟩
      · have n1 : (y == x) = false := by simp [e1]
        have HE := Lib.hid e1
        clear e1
        go_wp2
        go_round
        case rel =>
          refine ⟨k + 1, by omega, by go_num, fun j hj => ?_⟩
          by_cases e : j = k
          · subst e; rw [HY.out]; exact HE.out
          · exact HA.out j (by omega)
        case measure => simp [intOf]; omega
    · obtain rfl : k = xs.length := by omega
      have HF := Lib.hid (HB.out.is_false fun ⟨i, hi, e⟩ => HA.out i hi e)
      go_wp2
      go_ret
      exact ⟨ret_bool HF.out.symm, rfl⟩
end Go.Proofs.Ytclhcnfgpkhplaa
