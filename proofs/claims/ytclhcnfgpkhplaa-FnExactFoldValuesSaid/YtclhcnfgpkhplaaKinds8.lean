/-
  IsOfKind and KindsOf of the model.
-/
import Derived.Test.YtclhcnfgpkhplaaKinds7
import Derived.Test.YtclhcnfgpkhplaaDepends
namespace Go.Proofs.Ytclhcnfgpkhplaa
open Go.RowKit

noncomputable def kindB (s r : Nat) (tab : List Int) (k : Nat) : Bool := @decide (KindP s r tab k) (Classical.propDecidable _)
theorem kindB_tells (s r : Nat) (tab : List Int) (k : Nat) : Tells (kindB s r tab k) (KindP s r tab k) := @decide_eq_true_iff _ (Classical.propDecidable _)
/-- The kinds up to k. -/
noncomputable def kindsL (s r : Nat) (tab : List Int) : Nat → List Int
  | 0 => []
  | k + 1 => kindsL s r tab k ++ (if kindB s r tab (k + 1) = true then [((k + 1 : Nat) : Int)] else [])
theorem kindsL_len (s r : Nat) (tab : List Int) (k : Nat) : (kindsL s r tab k).length ≤ k := by
  induction k with
  | zero => simp [kindsL]
  | succ k ih =>
    unfold kindsL
    rw [List.length_append]
    split <;> simp <;> omega

def IsOfKindIs (size ar : Int) (tab : List Int) (kind : Int) (b : Bool) (cd : Int) : Prop :=
  (¬ OpOk size ar tab ∧ b = false ∧ cd = 1) ∨ (OpOk size ar tab ∧ ¬ InP kind 1 10 ∧ b = false ∧ cd = 2) ∨ (OpOk size ar tab ∧ InP kind 1 10 ∧ b = kindB size.toNat ar.toNat tab kind.toNat ∧ cd = 0)
theorem IsOfKindIs.exists (size ar : Int) (tab : List Int) (kind : Int) : ∃ b cd, IsOfKindIs size ar tab kind b cd := by
  by_cases h : OpOk size ar tab
  · by_cases h2 : InP kind 1 10
    · exact ⟨_, _, .inr (.inr ⟨h, h2, rfl, rfl⟩)⟩
    · exact ⟨_, _, .inr (.inl ⟨h, h2, rfl, rfl⟩)⟩
  · exact ⟨_, _, .inl ⟨h, rfl, rfl⟩⟩
def KindsOfIs (size ar : Int) (tab : List Int) (zs : List Int) (cd : Int) : Prop :=
  (¬ OpOk size ar tab ∧ zs = [] ∧ cd = 1) ∨ (OpOk size ar tab ∧ zs = kindsL size.toNat ar.toNat tab 10 ∧ cd = 0)
theorem KindsOfIs.exists (size ar : Int) (tab : List Int) : ∃ zs cd, KindsOfIs size ar tab zs cd := by
  by_cases h : OpOk size ar tab
  · exact ⟨_, _, .inr ⟨h, rfl, rfl⟩⟩
  · exact ⟨_, _, .inl ⟨h, rfl, rfl⟩⟩
theorem KindsOfIs.small {size ar : Int} {tab : List Int} {zs : List Int} {cd : Int} (h : KindsOfIs size ar tab zs cd) : zs.length ≤ 1048576 := by
  rcases h with ⟨_, rfl, _⟩ | ⟨_, rfl, _⟩
  · simp
  · have := kindsL_len size.toNat ar.toNat tab 10
    omega

set_option linter.unusedSimpArgs false in
set_option maxHeartbeats 1000000 in
set_option maxRecDepth 100000 in
theorem specIsOfKind (size ar : Int) (a : Option Addr) (n c : Nat) (tab : List Int) (kind : Int) (b : Bool) (cd : Int) (w : World) (h : RowAt w (.slice a n c) tab) (hi : IsOfKindIs size ar tab kind b cd) :
    Calls Try.prog 16 #[.int .i64 size, .agg #[.int .i64 ar, .slice a n c], .int .i64 kind] w fun e w' => e = .returned (.tuple #[.bool b, .int .i64 cd]) ∧ Below w.heap.size w w' := by
  have HP := Lib.hid (OpAt.new w ar a n c tab 28 h)
  have HA : Hid (Below w.heap.size w (w.alloc (.cells #[.int .i64 ar, .slice a n c] 28))) := Lib.hid ((Below.refl _ _).alloc (Nat.le_refl _) _)
  clear h
  rcases hi with ⟨ho, rfl, rfl⟩ | ⟨ho, hk, rfl, rfl⟩ | ⟨ho, hk, hb, rfl⟩
  · have HO := Lib.hid (Tells.no ho)
    clear ho
    go_enter Try.func16, Try.ntmps16
    go_wp2_with fail
    refine (l02Ok _ _ _ _ _ false _ HP.out HO.out).mono ?_
    rintro e w1 ⟨rfl, hq1⟩
    have HB1 := Lib.hid (HA.out.trans ((hq1.below _).mono HA.out.size))
    have HP1 := Lib.hid (HP.out.below hq1.bel)
    clear hq1
    go_wp2
    go_ret2
    exact ⟨rfl, HB1.out⟩
  · have HO := Lib.hid (Tells.yes ho)
    have HI := Lib.hid (Tells.no hk)
    clear ho hk
    go_enter Try.func16, Try.ntmps16
    go_wp2_with fail
    refine (l02Ok _ _ _ _ _ true _ HP.out HO.out).mono ?_
    rintro e w1 ⟨rfl, hq1⟩
    have HB1 := Lib.hid (HA.out.trans ((hq1.below _).mono HA.out.size))
    have HP1 := Lib.hid (HP.out.below hq1.bel)
    clear hq1
    go_wp2_with fail
    refine (l00In _ _ _ false _ HI.out).mono ?_
    rintro e w2 ⟨rfl, rfl⟩
    go_wp2
    go_ret2
    exact ⟨rfl, HB1.out⟩
  · have HO := Lib.hid (Tells.yes ho)
    have HI := Lib.hid (Tells.yes hk)
    have HOO := Lib.hid ho
    obtain ⟨s, rfl⟩ : ∃ s : Nat, size = s := ⟨size.toNat, by have := ho.1.1; omega⟩
    obtain ⟨r, rfl⟩ : ∃ r : Nat, ar = r := ⟨ar.toNat, by have := ho.2.1.1; omega⟩
    obtain ⟨k, rfl⟩ : ∃ k : Nat, kind = k := ⟨kind.toNat, by unfold InP at hk; omega⟩
    have HK : Hid (1 ≤ k ∧ k ≤ 10) := Lib.hid (by unfold InP at hk; omega)
    have HT : Hid (Tells b (KindP s r tab k)) := Lib.hid (by rw [hb]; exact kindB_tells s r tab k)
    clear ho hk hb
    go_enter Try.func16, Try.ntmps16
    go_wp2_with fail
    refine (l02Ok _ _ _ _ _ true _ HP.out HO.out).mono ?_
    rintro e w1 ⟨rfl, hq1⟩
    have HB1 := Lib.hid (HA.out.trans ((hq1.below _).mono HA.out.size))
    have HP1 := Lib.hid (HP.out.below hq1.bel)
    clear hq1
    go_wp2_with fail
    refine (l00In _ _ _ true _ HI.out).mono ?_
    rintro e w2 ⟨rfl, rfl⟩
    go_wp2_with fail
    refine (l02Kind s r k _ _ tab b _ HK.out HP1.out HOO.out HT.out).mono ?_
    rintro e w3 ⟨rfl, hb3⟩
    have HB3 := Lib.hid (HB1.out.trans (hb3.mono HB1.out.size))
    clear hb3
    go_wp2
    go_ret2
    exact ⟨rfl, HB3.out⟩

set_option linter.unusedSimpArgs false in
set_option maxHeartbeats 1000000 in
set_option maxRecDepth 100000 in
theorem specKindsOf (size ar : Int) (a : Option Addr) (n c : Nat) (tab : List Int) (zs : List Int) (cd : Int) (w : World) (h : RowAt w (.slice a n c) tab) (hi : KindsOfIs size ar tab zs cd) :
    Calls Try.prog 20 #[.int .i64 size, .agg #[.int .i64 ar, .slice a n c]] w (MadeRow2 w zs cd) := by
  obtain ⟨i0, hi0, hz0, hz1, hz2⟩ := info_parts info_int8
  have HP := Lib.hid (OpAt.new w ar a n c tab 28 h)
  have HA : Hid (Below w.heap.size w (w.alloc (.cells #[.int .i64 ar, .slice a n c] 28))) := Lib.hid ((Below.refl _ _).alloc (Nat.le_refl _) _)
  clear h
  rcases hi with ⟨ho, rfl, rfl⟩ | ⟨ho, rfl, rfl⟩
  · have HO := Lib.hid (Tells.no ho)
    clear ho
    go_enter Try.func20, Try.ntmps20
    go_wp2_with fail
    refine (l02Ok _ _ _ _ _ false _ HP.out HO.out).mono ?_
    rintro e w1 ⟨rfl, hq1⟩
    have HB1 := Lib.hid (HA.out.trans ((hq1.below _).mono HA.out.size))
    have HP1 := Lib.hid (HP.out.below hq1.bel)
    clear hq1
    go_wp2
    go_ret2
    exact ⟨_, _, _, rfl, ((ownRow_lit w1 w1.heap.size [] (Nat.le_refl _) (by simp)).full).mono HB1.out.size, HB1.out.trans (((Below.refl _ _).alloc (Nat.le_refl _) _).mono HB1.out.size)⟩
  · have HO := Lib.hid (Tells.yes ho)
    have HOO := Lib.hid ho
    obtain ⟨s, rfl⟩ : ∃ s : Nat, size = s := ⟨size.toNat, by have := ho.1.1; omega⟩
    obtain ⟨r, rfl⟩ : ∃ r : Nat, ar = r := ⟨ar.toNat, by have := ho.2.1.1; omega⟩
    clear ho
    simp only [Int.toNat_natCast]
    go_enter Try.func20, Try.ntmps20
    go_wp2_with fail
    refine (l02Ok _ _ _ _ _ true _ HP.out HO.out).mono ?_
    rintro e w1 ⟨rfl, hq1⟩
    have HB1 := Lib.hid (HA.out.trans ((hq1.below _).mono HA.out.size))
    have HP1 := Lib.hid (HP.out.below hq1.bel)
    clear hq1
    go_wp2
    go_loopw [6, 7] (fun v i wr => ∃ (k : Nat) (a' : Option Addr) (n' c' : Nat), k ≤ 10 ∧ i = .int .i64 ((k + 1 : Nat) : Int) ∧ v = .slice a' n' c' ∧ wr.ownsRow w1.heap.size 2 1 (.slice a' n' c') (kindsL s r tab k).length ((kindsL s r tab k).map (Value.int .i64)) ∧ Below w1.heap.size w1 wr) (fun _ i _ => 11 - (intOf i).toNat)
    case atStart => exact ⟨0, _, _, _, Nat.zero_le _, rfl, rfl, ownRow_lit w1 w1.heap.size [] (Nat.le_refl _) (by simp), (Below.refl _ _).alloc (Nat.le_refl _) _⟩
    case round =>
      obtain ⟨k, a', n', c', hk, rfl, rfl, hown, hbel⟩ := hrel
      have HO1 := Lib.hid hown
      have HW := Lib.hid hbel
      clear hown hbel
      have HLE := Lib.hid (kindsL_len s r tab k)
      by_cases hlt : k < 10
      · have hlt' : ((k + 1 : Nat) : Int) ≤ 10 := by omega
        have HK : Hid (1 ≤ k + 1 ∧ k + 1 ≤ 10) := Lib.hid (by omega)
        obtain ⟨b, hb⟩ : ∃ b, kindB s r tab (k + 1) = b := ⟨_, rfl⟩
        have HT : Hid (Tells b (KindP s r tab (k + 1))) := Lib.hid (by rw [← hb]; exact kindB_tells s r tab (k + 1))
        have HKB := Lib.hid hb
        clear hb
        obtain ⟨q, hq⟩ : ∃ q, k + 1 = q := ⟨_, rfl⟩
        rw [hq] at HK HT hlt' ⊢
        go_wp2_with fail
        refine (l02Kind s r q _ _ tab b _ HK.out (HP1.out.below HW.out) HOO.out HT.out).mono ?_
        rintro e w3 ⟨rfl, hb3⟩
        have HW3 := Lib.hid (HW.out.trans (hb3.mono HW.out.size))
        have HO3 := Lib.hid (ownsRow_below HO1.out hb3)
        clear hb3
        cases b with
        | false =>
          go_wp2
          go_roundw
          case rel =>
            refine ⟨k + 1, _, _, _, by omega, by rw [hq]; go_num, rfl, ?_, HW3.out⟩
            have e1 : kindsL s r tab (k + 1) = kindsL s r tab k := by
              show kindsL s r tab k ++ _ = _
              rw [if_neg (by rw [HKB.out]; decide), List.append_nil]
            rw [e1]
            exact HO3.out
          case measure => simp [intOf]; omega
        | true =>
          have HC1 := Lib.hid (cell_one_new w3 (.int .i64 (q : Int)) 2)
          have hlen := HLE.out
          go_wp2_with (at_builtin; refine wpList_append_own _ rfl _ _ 22 rfl w1.heap.size 2 i0 (.int .i64 0) 1 8 Try.underlying22 hi0 hz0 hz1 hz2 rfl (by decide) (.slice a' n' c') (kindsL s r tab k).length _ rfl (HO3.out.alloc _) ⟨w3.heap.size, 0, none⟩ 1 1 [.int .i64 (q : Int)] rfl rfl HC1.out (by simp [Value.oneCell']) (by unfold maxLen; omega) (by omega) (by have := HW3.out.size; simp; omega) ?_; intro v' w4 hown' hgrow _; obtain ⟨g', c4, rfl⟩ := ownsRow_succ hown'; have HG3 := Lib.hid hown'; have HR3 := Lib.hid hgrow; clear hown' hgrow)
          go_roundw
          case rel =>
            refine ⟨k + 1, _, _, _, by omega, by rw [hq]; go_num, rfl, ?_, ((HW3.out.alloc HW3.out.size _).grown HR3.out (by have := HW3.out.size; simp; omega) (fun q hq => (HO3.out.lt q hq).1))⟩
            have e1 : kindsL s r tab (k + 1) = kindsL s r tab k ++ [(q : Int)] := by
              show kindsL s r tab k ++ _ = _
              rw [if_pos HKB.out, hq]
            rw [e1, List.map_append, List.length_append]
            exact HG3.out
          case measure => simp [intOf]; omega
      · obtain rfl : k = 10 := by omega
        have HE : Hid (OwnRow wr w1.heap.size (.slice a' n' c') (kindsL s r tab 10)) := HO1.out
        clear HO1
        go_wp2
        go_ret2
        exact ⟨_, _, _, rfl, (HE.out.full).mono HB1.out.size, HB1.out.trans (HW.out.mono HB1.out.size)⟩
end Go.Proofs.Ytclhcnfgpkhplaa
