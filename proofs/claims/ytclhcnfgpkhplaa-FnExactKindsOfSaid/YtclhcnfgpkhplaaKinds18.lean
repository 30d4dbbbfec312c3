/-
  KindsOf of the program.
-/
import Derived.Test.YtclhcnfgpkhplaaKinds17
namespace Go.Proofs.Ytclhcnfgpkhplaa
open Go.RowKit

set_option linter.unusedSimpArgs false in
set_option maxHeartbeats 1000000 in
set_option maxRecDepth 100000 in
theorem implKindsOf (size ar : Int) (a : Option Addr) (n c : Nat) (tab : List Int) (zs : List Int) (cd : Int) (w : World) (h : RowAt w (.slice a n c) tab) (hi : KindsOfIs size ar tab zs cd) :
    Calls Try.prog 21 #[.int .i64 size, .agg #[.int .i64 ar, .slice a n c]] w (MadeRow2 w zs cd) := by
  obtain ⟨i0, hi0, hz0, hz1, hz2⟩ := info_parts info_int8
  have HA : Hid (Below w.heap.size w (w.alloc (.cells #[.int .i64 ar, .slice a n c] 28))) := Lib.hid ((Below.refl _ _).alloc (Nat.le_refl _) _)
  have HR := Lib.hid (h.below HA.out)
  have HBX := Lib.hid (Box.new 28 w #[.int .i64 ar, .slice a n c])
  have c0 := HBX.out.c 0 rfl
  have c1 := HBX.out.c 1 rfl
  clear h
  rcases hi with ⟨ho, rfl, rfl⟩ | ⟨ho, rfl, rfl⟩
  · have HO := Lib.hid (Tells.no ho)
    clear ho
    go_enter Try.func21, Try.ntmps21
    go_wp2_with fail
    refine (implValidOp _ _ _ _ _ _ false _ HR.out HO.out).mono ?_
    rintro e w1 ⟨rfl, hb1⟩
    have HB1 := Lib.hid (HA.out.trans (hb1.mono HA.out.size))
    clear hb1
    go_wp2
    go_ret2
    exact ⟨_, _, _, rfl, OwnRowE.nil _ _ _ (Nat.le_refl _), HB1.out⟩
  · have HO := Lib.hid (Tells.yes ho)
    have HOO := Lib.hid ho
    obtain ⟨s, rfl⟩ : ∃ s : Nat, size = s := ⟨size.toNat, by have := ho.1.1; omega⟩
    obtain ⟨r, rfl⟩ : ∃ r : Nat, ar = r := ⟨ar.toNat, by have := ho.2.1.1; omega⟩
    clear ho
    simp only [Int.toNat_natCast]
    go_enter Try.func21, Try.ntmps21
    go_wp2_with fail
    refine (implValidOp _ _ _ _ _ _ true _ HR.out HO.out).mono ?_
    rintro e w1 ⟨rfl, hb1⟩
    have HB1 := Lib.hid (HA.out.trans (hb1.mono HA.out.size))
    have HR1 := Lib.hid (HR.out.below hb1)
    have d0 := Lib.hid (below_cell hb1 c0)
    have d1 := Lib.hid (below_cell hb1 c1)
    clear hb1 c0 c1
    go_wp2
    go_loopw [6, 7] (fun v i wr => ∃ (k : Nat) (a' : Option Addr) (n' c' : Nat), k ≤ 10 ∧ i = .int .i64 ((k + 1 : Nat) : Int) ∧ v = .slice a' n' c' ∧ wr.ownsRow w1.heap.size 2 1 (.slice a' n' c') (kindsL s r tab k).length ((kindsL s r tab k).map (Value.int .i64)) ∧ Below w1.heap.size w1 wr) (fun _ i _ => 11 - (intOf i).toNat)
    case atStart => exact ⟨0, _, _, _, Nat.zero_le _, rfl, rfl, World.ownsRow_nil _ _ _ 1, Below.refl _ _⟩
    case round =>
      obtain ⟨k, a', n', c', hk, rfl, rfl, hown, hbel⟩ := hrel
      have HO1 := Lib.hid hown
      have HW := Lib.hid hbel
      clear hown hbel
      have HLE := Lib.hid (kindsL_len s r tab k)
      by_cases hlt : k < 10
      · have hlt' : ((k + 1 : Nat) : Int) ≤ 10 := by omega
        have HK : Hid (1 ≤ k + 1 ∧ k + 1 ≤ 10) := Lib.hid (by omega)
        obtain ⟨b, hb⟩ : ∃ b, kindB s r tab (k + 1) = b := ⟨_, rfl⟩
        have HT : Hid (Tells b (KindP s r tab (k + 1))) := Lib.hid (by rw [← hb]; exact kindB_tells s r tab (k + 1))
        have HKB := Lib.hid hb
        clear hb
        obtain ⟨q, hq⟩ : ∃ q, k + 1 = q := ⟨_, rfl⟩
        rw [hq] at HK HT hlt' ⊢
        have e0 := below_cell HW.out d0.out
        have e1 := below_cell HW.out d1.out
        go_wp2_with fail
        refine (tableOf s r a n c tab _ (HR1.out.below HW.out) HOO.out).mono ?_
        rintro e w2 ⟨b2, F', rfl, hT, hF, -, hb2⟩
        have HW2 := Lib.hid (HW.out.trans (hb2.mono HW.out.size))
        have HO2 := Lib.hid (ownsRow_below HO1.out hb2)
        have HTT := Lib.hid hT
        have HFF := Lib.hid hF
        clear hT hF hb2 e0 e1
        go_wp2_with fail
        refine (isOfKind q HK.out s r b2 tab.length F' tab b _ HTT.out HOO.out rfl HFF.out HT.out).mono ?_
        rintro e w3 ⟨rfl, hb3⟩
        have HW3 := Lib.hid (HW2.out.trans (hb3.mono HW2.out.size))
        have HO3 := Lib.hid (ownsRow_below HO2.out hb3)
        clear hb3
        cases b with
        | false =>
          go_wp2
          go_roundw
          case rel =>
            refine ⟨k + 1, _, _, _, by omega, by rw [hq]; go_num, rfl, ?_, HW3.out⟩
            have e1 : kindsL s r tab (k + 1) = kindsL s r tab k := by
              show kindsL s r tab k ++ _ = _
              rw [if_neg (by rw [HKB.out]; decide), List.append_nil]
            rw [e1]
            exact HO3.out
          case measure => simp [intOf]; omega
        | true =>
          have HC1 := Lib.hid (cell_one_new w3 (.int .i64 (q : Int)) 2)
          have hlen := HLE.out
          go_wp2_with (at_builtin; refine wpList_append_own _ rfl _ _ 22 rfl w1.heap.size 2 i0 (.int .i64 0) 1 8 Try.underlying22 hi0 hz0 hz1 hz2 rfl (by decide) (.slice a' n' c') (kindsL s r tab k).length _ rfl (HO3.out.alloc _) ⟨w3.heap.size, 0, none⟩ 1 1 [.int .i64 (q : Int)] rfl rfl HC1.out (by simp [Value.oneCell']) (by unfold maxLen; omega) (by omega) (by have := HW3.out.size; simp; omega) ?_; intro v' w4 hown' hgrow _; obtain ⟨g', c4, rfl⟩ := ownsRow_succ hown'; have HG3 := Lib.hid hown'; have HR3 := Lib.hid hgrow; clear hown' hgrow)
          go_roundw
          case rel =>
            refine ⟨k + 1, _, _, _, by omega, by rw [hq]; go_num, rfl, ?_, ((HW3.out.alloc HW3.out.size _).grown HR3.out (by have := HW3.out.size; simp; omega) (fun q hq => (HO3.out.lt q hq).1))⟩
            have e1 : kindsL s r tab (k + 1) = kindsL s r tab k ++ [(q : Int)] := by
              show kindsL s r tab k ++ _ = _
              rw [if_pos HKB.out, hq]
            rw [e1, List.map_append, List.length_append]
            exact HG3.out
          case measure => simp [intOf]; omega
      · obtain rfl : k = 10 := by omega
        have HE : Hid (OwnRow wr w1.heap.size (.slice a' n' c') (kindsL s r tab 10)) := HO1.out
        clear HO1
        go_wp2
        go_ret2
        exact ⟨_, _, _, rfl, (HE.out.full).mono HB1.out.size, HB1.out.trans (HW.out.mono HB1.out.size)⟩
end Go.Proofs.Ytclhcnfgpkhplaa
