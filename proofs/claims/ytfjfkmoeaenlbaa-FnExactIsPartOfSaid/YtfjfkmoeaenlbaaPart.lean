/-
  Whether a relation is a part of another one: IsPartOf of the model and of the program, with what they call.
-/
import Derived.Test.YtfjfkmoeaenlbaaHas
import Derived.Deep.RegionHeld3
namespace Go.Proofs.Ytfjfkmoeaenlbaa
open Go.RowKit

/-- The code of two relations that should be of one arity. -/
def TwoCode (size x : Int) (xs : List (List Int)) (y : Int) (ys : List (List Int)) (c : Int) : Prop :=
  (RelOk size x xs ∧ RelOk size y ys ∧ x = y ∧ c = 0) ∨ (RelOk size x xs ∧ RelOk size y ys ∧ x ≠ y ∧ c = 2) ∨ (RelOk size x xs ∧ ¬ RelOk size y ys ∧ c = 1) ∨ (¬ RelOk size x xs ∧ c = 1)
theorem TwoCode.exists (size x : Int) (xs : List (List Int)) (y : Int) (ys : List (List Int)) : ∃ c, TwoCode size x xs y ys c := by
  by_cases h1 : RelOk size x xs
  · by_cases h2 : RelOk size y ys
    · by_cases h3 : x = y
      · exact ⟨0, .inl ⟨h1, h2, h3, rfl⟩⟩
      · exact ⟨2, .inr (.inl ⟨h1, h2, h3, rfl⟩)⟩
    · exact ⟨1, .inr (.inr (.inl ⟨h1, h2, rfl⟩))⟩
  · exact ⟨1, .inr (.inr (.inr ⟨h1, rfl⟩))⟩

set_option maxHeartbeats 1000000 in
theorem l01Two (size : Int) (p1 o1 p2 o2 : Nat) (x y : Int) (xs ys : List (List Int)) (c : Int) (w : World) (h1 : RelAt w p1 o1 x xs) (h2 : RelAt w p2 o2 y ys) (hc : TwoCode size x xs y ys c) :
    Calls Try.prog 54 #[.int .i64 size, .pointer (some ⟨p1, o1, none⟩), .pointer (some ⟨p2, o2, none⟩)] w fun e w' => e = .returned (.int .i64 c) ∧ QW w w' := by
  have H1 := Lib.hid h1
  have H2 := Lib.hid h2
  have hp0 := h1.arity
  have hr0 := h2.arity
  clear h1 h2
  rcases hc with ⟨r1, r2, hxy, rfl⟩ | ⟨r1, r2, hxy, rfl⟩ | ⟨r1, r2, rfl⟩ | ⟨r1, rfl⟩
  · have T1 := Lib.hid (Tells.yes r1)
    have T2 := Lib.hid (Tells.yes r2)
    subst hxy
    clear r1 r2
    go_enter Try.func54, Try.ntmps54
    go_wp2_with fail
    refine (l01Ok _ _ _ _ _ true _ H1.out T1.out).mono ?_
    rintro e w2 ⟨rfl, hq⟩
    have HQ := Lib.hid hq
    clear hq
    go_wp2_with fail
    refine (l01Ok _ _ _ _ _ true _ (H2.out.below HQ.out.bel) T2.out).mono ?_
    rintro e w3 ⟨rfl, hq3⟩
    have HQ3 := Lib.hid (HQ.out.trans hq3)
    have g0 := HQ3.out.cell hp0
    have g1 := HQ3.out.cell hr0
    clear hq3
    go_wp2_with fail
    go_quiet (fail)
    go_wp2
    go_ret
    exact ⟨rfl, HQ3.out.drewN _⟩
  · have T1 := Lib.hid (Tells.yes r1)
    have T2 := Lib.hid (Tells.yes r2)
    have hne : (x == y) = false := beq_eq_false_iff_ne.2 hxy
    clear r1 r2
    go_enter Try.func54, Try.ntmps54
    go_wp2_with fail
    refine (l01Ok _ _ _ _ _ true _ H1.out T1.out).mono ?_
    rintro e w2 ⟨rfl, hq⟩
    have HQ := Lib.hid hq
    clear hq
    go_wp2_with fail
    refine (l01Ok _ _ _ _ _ true _ (H2.out.below HQ.out.bel) T2.out).mono ?_
    rintro e w3 ⟨rfl, hq3⟩
    have HQ3 := Lib.hid (HQ.out.trans hq3)
    have g0 := HQ3.out.cell hp0
    have g1 := HQ3.out.cell hr0
    clear hq3
    go_wp2_with fail
    go_quiet (fail)
    go_wp2
    go_ret
    exact ⟨rfl, HQ3.out.drewN _⟩
  · have T1 := Lib.hid (Tells.yes r1)
    have T2 := Lib.hid (Tells.no r2)
    clear r1 r2
    go_enter Try.func54, Try.ntmps54
    go_wp2_with fail
    refine (l01Ok _ _ _ _ _ true _ H1.out T1.out).mono ?_
    rintro e w2 ⟨rfl, hq⟩
    have HQ := Lib.hid hq
    clear hq
    go_wp2_with fail
    refine (l01Ok _ _ _ _ _ false _ (H2.out.below HQ.out.bel) T2.out).mono ?_
    rintro e w3 ⟨rfl, hq3⟩
    have HQ3 := Lib.hid (HQ.out.trans hq3)
    clear hq3
    go_wp2
    go_ret
    exact ⟨rfl, HQ3.out⟩
  · have T1 := Lib.hid (Tells.no r1)
    clear r1
    go_enter Try.func54, Try.ntmps54
    go_wp2_with fail
    refine (l01Ok _ _ _ _ _ false _ H1.out T1.out).mono ?_
    rintro e w2 ⟨rfl, hq⟩
    have HQ := Lib.hid hq
    clear hq
    go_wp2
    go_ret
    exact ⟨rfl, HQ.out⟩

set_option maxHeartbeats 1000000 in
theorem pairCode (size x : Int) (a1 : Option Addr) (n1 c1 : Nat) (xs : List (List Int)) (y : Int) (a2 : Option Addr) (n2 c2 : Nat) (ys : List (List Int)) (c : Int) (w : World) (h1 : GridAt w (.slice a1 n1 c1) xs) (h2 : GridAt w (.slice a2 n2 c2) ys) (hc : TwoCode size x xs y ys c) :
    Calls Try.prog 56 #[.int .i64 size, .agg #[.int .i64 x, .slice a1 n1 c1], .agg #[.int .i64 y, .slice a2 n2 c2]] w fun e w' => e = .returned (.int .i64 c) ∧ Below w.heap.size w w' := by
  have K0 := Lib.hid (((((Kept.start w).read (lives_grid _ _) h2).read (lives_grid _ _) h1).box w.heap.size rfl (.int .i64 x) (.slice a1 n1 c1) 27).box (w.heap.size + 1) (by simp) (.int .i64 y) (.slice a2 n2 c2) 27)
  clear h1 h2
  rcases hc with ⟨r1, r2, hxy, rfl⟩ | ⟨r1, r2, hxy, rfl⟩ | ⟨r1, r2, rfl⟩ | ⟨r1, rfl⟩
  · have T1 := Lib.hid (Tells.yes r1)
    have T2 := Lib.hid (Tells.yes r2)
    subst hxy
    clear r1 r2
    go_enter Try.func56, Try.ntmps56
    go_wp2_with fail
    refine (implValidRel _ _ _ _ _ _ true _ (K0.out.grid 0 rfl) T1.out).mono ?_
    rintro e w2 ⟨rfl, hb2⟩
    have K2 := Lib.hid (K0.out.below hb2)
    have cc0 := K2.out.c 0 rfl
    have cc1 := K2.out.c 1 rfl
    clear hb2
    go_wp2_with fail
    refine (implValidRel _ _ _ _ _ _ true _ (K2.out.grid 1 rfl) T2.out).mono ?_
    rintro e w3 ⟨rfl, hb3⟩
    have K3 := Lib.hid (K2.out.below hb3)
    clear hb3 cc0 cc1
    have cc0 := K3.out.c 0 rfl
    have cc2 := K3.out.c 2 rfl
    go_wp2
    go_ret
    exact ⟨rfl, K3.out.bel⟩
  · have T1 := Lib.hid (Tells.yes r1)
    have T2 := Lib.hid (Tells.yes r2)
    have hne : (x == y) = false := beq_eq_false_iff_ne.2 hxy
    clear r1 r2
    go_enter Try.func56, Try.ntmps56
    go_wp2_with fail
    refine (implValidRel _ _ _ _ _ _ true _ (K0.out.grid 0 rfl) T1.out).mono ?_
    rintro e w2 ⟨rfl, hb2⟩
    have K2 := Lib.hid (K0.out.below hb2)
    have cc0 := K2.out.c 0 rfl
    have cc1 := K2.out.c 1 rfl
    clear hb2
    go_wp2_with fail
    refine (implValidRel _ _ _ _ _ _ true _ (K2.out.grid 1 rfl) T2.out).mono ?_
    rintro e w3 ⟨rfl, hb3⟩
    have K3 := Lib.hid (K2.out.below hb3)
    clear hb3 cc0 cc1
    have cc0 := K3.out.c 0 rfl
    have cc2 := K3.out.c 2 rfl
    go_wp2
    go_ret
    exact ⟨rfl, K3.out.bel⟩
  · have T1 := Lib.hid (Tells.yes r1)
    have T2 := Lib.hid (Tells.no r2)
    clear r1 r2
    go_enter Try.func56, Try.ntmps56
    go_wp2_with fail
    refine (implValidRel _ _ _ _ _ _ true _ (K0.out.grid 0 rfl) T1.out).mono ?_
    rintro e w2 ⟨rfl, hb2⟩
    have K2 := Lib.hid (K0.out.below hb2)
    have cc0 := K2.out.c 0 rfl
    have cc1 := K2.out.c 1 rfl
    clear hb2
    go_wp2_with fail
    refine (implValidRel _ _ _ _ _ _ false _ (K2.out.grid 1 rfl) T2.out).mono ?_
    rintro e w3 ⟨rfl, hb3⟩
    have K3 := Lib.hid (K2.out.below hb3)
    clear hb3 cc0 cc1
    go_wp2
    go_ret
    exact ⟨rfl, K3.out.bel⟩
  · have T1 := Lib.hid (Tells.no r1)
    clear r1
    go_enter Try.func56, Try.ntmps56
    go_wp2_with fail
    refine (implValidRel _ _ _ _ _ _ false _ (K0.out.grid 0 rfl) T1.out).mono ?_
    rintro e w2 ⟨rfl, hb2⟩
    have K2 := Lib.hid (K0.out.below hb2)
    clear hb2
    go_wp2
    go_ret
    exact ⟨rfl, K2.out.bel⟩

def PartP (xs ys : List (List Int)) : Prop := ∀ j, j < xs.length → HasP ys (rowN xs j)

set_option maxHeartbeats 1000000 in
theorem l01Part (p1 o1 p2 o2 : Nat) (x y : Int) (xs ys : List (List Int)) (b : Bool) (w : World) (h1 : RelAt w p1 o1 x xs) (h2 : RelAt w p2 o2 y ys) (hb : Tells b (PartP xs ys)) :
    Calls Try.prog 55 #[.pointer (some ⟨p1, o1, none⟩), .pointer (some ⟨p2, o2, none⟩)] w fun e w' => e = .returned (.bool b) ∧ QW w w' := by
  obtain ⟨_, a, n, c, hp1, V, ⟨a', c', hs, hn, hc⟩, hV⟩ := h1
  simp only [Value.slice.injEq] at hs
  obtain ⟨rfl, rfl, rfl⟩ := hs
  have HC := Lib.hid hc
  have HV := Lib.hid hV
  have HB := Lib.hid hb
  have H2 := Lib.hid h2
  clear hc hV hb h2
  go_enter Try.func55, Try.ntmps55
  go_wp2
  go_loopw [5] (fun i wr => ∃ k : Nat, k ≤ xs.length ∧ i = .int .i64 k ∧ (∀ j, j < k → HasP ys (rowN xs j)) ∧ QW w wr) (fun i _ => xs.length - (intOf i).toNat)
  case atStart => exact ⟨0, Nat.zero_le _, rfl, fun j hj => absurd hj (Nat.not_lt_zero _), QW.refl _⟩
  case round =>
    obtain ⟨k, hk, rfl, hall, hq⟩ := hrel
    have HA := Lib.hid hall
    have HQ := Lib.hid hq
    have hq1 := HQ.out.cell hp1
    clear hall hq
    by_cases hlt : k < xs.length
    · obtain ⟨b1, off1, ha1, hcell1⟩ := HC.out (by omega)
      subst ha1
      have hx1 := HQ.out.cell (hcell1 k hlt)
      have hlt' : (k : Int) < (xs.length : Int) := by omega
      clear hcell1
      by_cases he : HasP ys (rowN xs k)
      · have HE := Lib.hid (Tells.yes he)
        have HH := Lib.hid he
        clear he
        go_wp2_with fail
        refine (l01Has _ _ _ _ _ _ true _ (H2.out.below HQ.out.bel) (HQ.out.row (HV.out k hlt)) HE.out).mono ?_
        rintro e w2 ⟨rfl, hq2⟩
        have HQ2 := Lib.hid (HQ.out.trans hq2)
        clear hq2
        go_wp2
        go_roundw
        case rel =>
          refine ⟨k + 1, by omega, by go_num, fun j hj => ?_, HQ2.out⟩
          by_cases hjk : j = k
          · subst hjk; exact HH.out
          · exact HA.out j (by omega)
        case measure => simp [intOf]; omega
      · have HE := Lib.hid (Tells.no he)
        have HF := Lib.hid (HB.out.is_false fun h => he (h k hlt))
        clear he
        go_wp2_with fail
        refine (l01Has _ _ _ _ _ _ false _ (H2.out.below HQ.out.bel) (HQ.out.row (HV.out k hlt)) HE.out).mono ?_
        rintro e w2 ⟨rfl, hq2⟩
        have HQ2 := Lib.hid (HQ.out.trans hq2)
        clear hq2
        go_wp2
        go_ret
        exact ⟨ret_bool HF.out.symm, HQ2.out⟩
    · obtain rfl : k = xs.length := by omega
      have HF := Lib.hid (HB.out.is_true HA.out)
      go_wp2
      go_ret
      exact ⟨ret_bool HF.out.symm, HQ.out⟩

/-- What IsPartOf answers. -/
def PartIs (size x : Int) (xs : List (List Int)) (y : Int) (ys : List (List Int)) (b : Bool) (c : Int) : Prop :=
  TwoCode size x xs y ys c ∧ ((c = 0 ∧ Tells b (PartP xs ys)) ∨ (c ≠ 0 ∧ b = false))
theorem PartIs.exists (size x : Int) (xs : List (List Int)) (y : Int) (ys : List (List Int)) : ∃ b c, PartIs size x xs y ys b c := by
  obtain ⟨c, hc⟩ := TwoCode.exists size x xs y ys
  by_cases h0 : c = 0
  · by_cases k : PartP xs ys
    · exact ⟨true, c, hc, .inl ⟨h0, Tells.yes k⟩⟩
    · exact ⟨false, c, hc, .inl ⟨h0, Tells.no k⟩⟩
  · exact ⟨false, c, hc, .inr ⟨h0, rfl⟩⟩
theorem TwoCode.ok {size x : Int} {xs : List (List Int)} {y : Int} {ys : List (List Int)} (h : TwoCode size x xs y ys 0) : RelOk size x xs ∧ RelOk size y ys ∧ x = y := by
  rcases h with ⟨r1, r2, hxy, _⟩ | ⟨_, _, _, h⟩ | ⟨_, _, h⟩ | ⟨_, h⟩
  · exact ⟨r1, r2, hxy⟩
  · exact absurd h (by decide)
  · exact absurd h (by decide)
  · exact absurd h (by decide)

set_option maxHeartbeats 1000000 in
theorem specIsPartOf (size x : Int) (a1 : Option Addr) (n1 c1 : Nat) (xs : List (List Int)) (y : Int) (a2 : Option Addr) (n2 c2 : Nat) (ys : List (List Int)) (b : Bool) (cd : Int) (w : World) (h1 : GridAt w (.slice a1 n1 c1) xs) (h2 : GridAt w (.slice a2 n2 c2) ys) (hi : PartIs size x xs y ys b cd) :
    Calls Try.prog 28 #[.int .i64 size, .agg #[.int .i64 x, .slice a1 n1 c1], .agg #[.int .i64 y, .slice a2 n2 c2]] w fun e w' => e = .returned (.tuple #[.bool b, .int .i64 cd]) ∧ Below w.heap.size w w' := by
  have HW := Lib.hid (((Below.refl w.heap.size w).alloc (Nat.le_refl _) (.cells #[.int .i64 x, .slice a1 n1 c1] 27)).alloc (by simp) (.cells #[.int .i64 y, .slice a2 n2 c2] 27))
  have R1 : Hid (RelAt ((w.alloc (.cells #[.int .i64 x, .slice a1 n1 c1] 27)).alloc (.cells #[.int .i64 y, .slice a2 n2 c2] 27)) w.heap.size 0 x xs) := ⟨by go_simp, a1, n1, c1, by go_simp, h1.below HW.out⟩
  have R2 : Hid (RelAt ((w.alloc (.cells #[.int .i64 x, .slice a1 n1 c1] 27)).alloc (.cells #[.int .i64 y, .slice a2 n2 c2] 27)) (w.heap.size + 1) 0 y ys) := ⟨by go_simp, a2, n2, c2, by go_simp, h2.below HW.out⟩
  clear h1 h2
  obtain ⟨hc, hd⟩ := hi
  have HC := Lib.hid hc
  clear hc
  rcases hd with ⟨rfl, hb⟩ | ⟨h0, rfl⟩
  · have HB := Lib.hid hb
    clear hb
    go_enter Try.func28, Try.ntmps28
    go_wp2_with fail
    refine (l01Two _ _ _ _ _ _ _ _ _ 0 _ R1.out R2.out HC.out).mono ?_
    rintro e w2 ⟨rfl, hq⟩
    have HQ := Lib.hid hq
    clear hq
    go_wp2_with fail
    refine (l01Part _ _ _ _ _ _ _ _ b _ (R1.out.below HQ.out.bel) (R2.out.below HQ.out.bel) HB.out).mono ?_
    rintro e w3 ⟨rfl, hq3⟩
    have HE := Lib.hid (HW.out.trans ((HQ.out.trans hq3).below _))
    clear hq3
    go_wp2
    go_ret2
    exact ⟨rfl, HE.out⟩
  · have hne : (cd == 0) = false := beq_eq_false_iff_ne.2 h0
    clear h0
    go_enter Try.func28, Try.ntmps28
    go_wp2_with fail
    refine (l01Two _ _ _ _ _ _ _ _ _ cd _ R1.out R2.out HC.out).mono ?_
    rintro e w2 ⟨rfl, hq⟩
    have HE := Lib.hid (HW.out.trans (hq.below _))
    clear hq
    go_wp2
    go_ret2
    exact ⟨rfl, HE.out⟩

end Go.Proofs.Ytfjfkmoeaenlbaa
