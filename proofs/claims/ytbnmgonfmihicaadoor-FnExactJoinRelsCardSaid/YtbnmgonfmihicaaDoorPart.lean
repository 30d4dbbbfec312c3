/-
  Whether a relation is a part of another one: IsPartOf of the model and of the program, with what they call.
-/
import Derived.Test.YtbnmgonfmihicaaDoorHas
import Derived.Deep.RegionHeld3
namespace Go.Proofs.YtbnmgonfmihicaaDoor
open Go.RowKit

/-- The code of two relations that should be of one arity. -/
def TwoCode (size x : Int) (xs : List (List Int)) (y : Int) (ys : List (List Int)) (c : Int) : Prop :=
  (RelOk size x xs ∧ RelOk size y ys ∧ x = y ∧ c = 0) ∨ (RelOk size x xs ∧ RelOk size y ys ∧ x ≠ y ∧ c = 2) ∨ (RelOk size x xs ∧ ¬ RelOk size y ys ∧ c = 1) ∨ (¬ RelOk size x xs ∧ c = 1)
theorem TwoCode.exists (size x : Int) (xs : List (List Int)) (y : Int) (ys : List (List Int)) : ∃ c, TwoCode size x xs y ys c := by
  by_cases h1 : RelOk size x xs
  · by_cases h2 : RelOk size y ys
    · by_cases h3 : x = y
      · exact ⟨0, .inl ⟨h1, h2, h3, rfl⟩⟩
      · exact ⟨2, .inr (.inl ⟨h1, h2, h3, rfl⟩)⟩
    · exact ⟨1, .inr (.inr (.inl ⟨h1, h2, rfl⟩))⟩
  · exact ⟨1, .inr (.inr (.inr ⟨h1, rfl⟩))⟩

set_option maxHeartbeats 1000000 in
theorem l01Two (size : Int) (p1 o1 p2 o2 : Nat) (x y : Int) (xs ys : List (List Int)) (c : Int) (w : World) (h1 : RelAt w p1 o1 x xs) (h2 : RelAt w p2 o2 y ys) (hc : TwoCode size x xs y ys c) :
    Calls Tryd.prog 54 #[.int .i64 size, .pointer (some ⟨p1, o1, none⟩), .pointer (some ⟨p2, o2, none⟩)] w fun e w' => e = .returned (.int .i64 c) ∧ QW w w' := by
  have H1 := Lib.hid h1
  have H2 := Lib.hid h2
  have hp0 := h1.arity
  have hr0 := h2.arity
  clear h1 h2
  rcases hc with ⟨r1, r2, hxy, rfl⟩ | ⟨r1, r2, hxy, rfl⟩ | ⟨r1, r2, rfl⟩ | ⟨r1, rfl⟩
  · have T1 := Lib.hid (Tells.yes r1)
    have T2 := Lib.hid (Tells.yes r2)
    subst hxy
    clear r1 r2
    go_enter Tryd.func54, Tryd.ntmps54
    go_wp2_with fail
    refine (l01Ok _ _ _ _ _ true _ H1.out T1.out).mono ?_
    rintro e w2 ⟨rfl, hq⟩
    have HQ := Lib.hid hq
    clear hq
    go_wp2_with fail
    refine (l01Ok _ _ _ _ _ true _ (H2.out.below HQ.out.bel) T2.out).mono ?_
    rintro e w3 ⟨rfl, hq3⟩
    have HQ3 := Lib.hid (HQ.out.trans hq3)
    have g0 := HQ3.out.cell hp0
    have g1 := HQ3.out.cell hr0
    clear hq3
    go_wp2_with fail
    go_quiet (fail)
    go_wp2
    go_ret
    exact ⟨rfl, HQ3.out.drewN _⟩
  · have T1 := Lib.hid (Tells.yes r1)
    have T2 := Lib.hid (Tells.yes r2)
    have hne : (x == y) = false := beq_eq_false_iff_ne.2 hxy
    clear r1 r2
    go_enter Tryd.func54, Tryd.ntmps54
    go_wp2_with fail
    refine (l01Ok _ _ _ _ _ true _ H1.out T1.out).mono ?_
    rintro e w2 ⟨rfl, hq⟩
    have HQ := Lib.hid hq
    clear hq
    go_wp2_with fail
    refine (l01Ok _ _ _ _ _ true _ (H2.out.below HQ.out.bel) T2.out).mono ?_
    rintro e w3 ⟨rfl, hq3⟩
    have HQ3 := Lib.hid (HQ.out.trans hq3)
    have g0 := HQ3.out.cell hp0
    have g1 := HQ3.out.cell hr0
    clear hq3
    go_wp2_with fail
    go_quiet (fail)
    go_wp2
    go_ret
    exact ⟨rfl, HQ3.out.drewN _⟩
  · have T1 := Lib.hid (Tells.yes r1)
    have T2 := Lib.hid (Tells.no r2)
    clear r1 r2
    go_enter Tryd.func54, Tryd.ntmps54
    go_wp2_with fail
    refine (l01Ok _ _ _ _ _ true _ H1.out T1.out).mono ?_
    rintro e w2 ⟨rfl, hq⟩
    have HQ := Lib.hid hq
    clear hq
    go_wp2_with fail
    refine (l01Ok _ _ _ _ _ false _ (H2.out.below HQ.out.bel) T2.out).mono ?_
    rintro e w3 ⟨rfl, hq3⟩
    have HQ3 := Lib.hid (HQ.out.trans hq3)
    clear hq3
    go_wp2
    go_ret
    exact ⟨rfl, HQ3.out⟩
  · have T1 := Lib.hid (Tells.no r1)
    clear r1
    go_enter Tryd.func54, Tryd.ntmps54
    go_wp2_with fail
    refine (l01Ok _ _ _ _ _ false _ H1.out T1.out).mono ?_
    rintro e w2 ⟨rfl, hq⟩
    have HQ := Lib.hid hq
    clear hq
    go_wp2
    go_ret
    exact ⟨rfl, HQ.out⟩

set_option maxHeartbeats 1000000 in
theorem pairCode (size x : Int) (a1 : Option Addr) (n1 c1 : Nat) (xs : List (List Int)) (y : Int) (a2 : Option Addr) (n2 c2 : Nat) (ys : List (List Int)) (c : Int) (w : World) (h1 : GridAt w (.slice a1 n1 c1) xs) (h2 : GridAt w (.slice a2 n2 c2) ys) (hc : TwoCode size x xs y ys c) :
    Calls Tryd.prog 56 #[.int .i64 size, .agg #[.int .i64 x, .slice a1 n1 c1], .agg #[.int .i64 y, .slice a2 n2 c2]] w fun e w' => e = .returned (.int .i64 c) ∧ Below w.heap.size w w' := by
  have K0 := Lib.hid (((((Kept.start w).read (lives_grid _ _) h2).read (lives_grid _ _) h1).box w.heap.size rfl (.int .i64 x) (.slice a1 n1 c1) 25).box (w.heap.size + 1) (by simp) (.int .i64 y) (.slice a2 n2 c2) 25)
  clear h1 h2
  rcases hc with ⟨r1, r2, hxy, rfl⟩ | ⟨r1, r2, hxy, rfl⟩ | ⟨r1, r2, rfl⟩ | ⟨r1, rfl⟩
  · have T1 := Lib.hid (Tells.yes r1)
    have T2 := Lib.hid (Tells.yes r2)
    subst hxy
    clear r1 r2
    go_enter Tryd.func56, Tryd.ntmps56
    go_wp2_with fail
    refine (implValidRel _ _ _ _ _ _ true _ (K0.out.grid 0 rfl) T1.out).mono ?_
    rintro e w2 ⟨rfl, hb2⟩
    have K2 := Lib.hid (K0.out.below hb2)
    have cc0 := K2.out.c 0 rfl
    have cc1 := K2.out.c 1 rfl
    clear hb2
    go_wp2_with fail
    refine (implValidRel _ _ _ _ _ _ true _ (K2.out.grid 1 rfl) T2.out).mono ?_
    rintro e w3 ⟨rfl, hb3⟩
    have K3 := Lib.hid (K2.out.below hb3)
    clear hb3 cc0 cc1
    have cc0 := K3.out.c 0 rfl
    have cc2 := K3.out.c 2 rfl
    go_wp2
    go_ret
    exact ⟨rfl, K3.out.bel⟩
  · have T1 := Lib.hid (Tells.yes r1)
    have T2 := Lib.hid (Tells.yes r2)
    have hne : (x == y) = false := beq_eq_false_iff_ne.2 hxy
    clear r1 r2
    go_enter Tryd.func56, Tryd.ntmps56
    go_wp2_with fail
    refine (implValidRel _ _ _ _ _ _ true _ (K0.out.grid 0 rfl) T1.out).mono ?_
    rintro e w2 ⟨rfl, hb2⟩
    have K2 := Lib.hid (K0.out.below hb2)
    have cc0 := K2.out.c 0 rfl
    have cc1 := K2.out.c 1 rfl
    clear hb2
    go_wp2_with fail
    refine (implValidRel _ _ _ _ _ _ true _ (K2.out.grid 1 rfl) T2.out).mono ?_
    rintro e w3 ⟨rfl, hb3⟩
    have K3 := Lib.hid (K2.out.below hb3)
    clear hb3 cc0 cc1
    have cc0 := K3.out.c 0 rfl
    have cc2 := K3.out.c 2 rfl
    go_wp2
    go_ret
    exact ⟨rfl, K3.out.bel⟩
  · have T1 := Lib.hid (Tells.yes r1)
    have T2 := Lib.hid (Tells.no r2)
    clear r1 r2
    go_enter Tryd.func56, Tryd.ntmps56
    go_wp2_with fail
    refine (implValidRel _ _ _ _ _ _ true _ (K0.out.grid 0 rfl) T1.out).mono ?_
    rintro e w2 ⟨rfl, hb2⟩
    have K2 := Lib.hid (K0.out.below hb2)
    have cc0 := K2.out.c 0 rfl
    have cc1 := K2.out.c 1 rfl
    clear hb2
    go_wp2_with fail
    refine (implValidRel _ _ _ _ _ _ false _ (K2.out.grid 1 rfl) T2.out).mono ?_
    rintro e w3 ⟨rfl, hb3⟩
    have K3 := Lib.hid (K2.out.below hb3)
    clear hb3 cc0 cc1
    go_wp2
    go_ret
    exact ⟨rfl, K3.out.bel⟩
  · have T1 := Lib.hid (Tells.no r1)
    clear r1
    go_enter Tryd.func56, Tryd.ntmps56
    go_wp2_with fail
    refine (implValidRel _ _ _ _ _ _ false _ (K0.out.grid 0 rfl) T1.out).mono ?_
    rintro e w2 ⟨rfl, hb2⟩
    have K2 := Lib.hid (K0.out.below hb2)
    clear hb2
    go_wp2
    go_ret
    exact ⟨rfl, K2.out.bel⟩

def PartP (xs ys : List (List Int)) : Prop := ∀ j, j < xs.length → HasP ys (rowN xs j)

/-- What IsPartOf answers. -/
def PartIs (size x : Int) (xs : List (List Int)) (y : Int) (ys : List (List Int)) (b : Bool) (c : Int) : Prop :=
  TwoCode size x xs y ys c ∧ ((c = 0 ∧ Tells b (PartP xs ys)) ∨ (c ≠ 0 ∧ b = false))
theorem PartIs.exists (size x : Int) (xs : List (List Int)) (y : Int) (ys : List (List Int)) : ∃ b c, PartIs size x xs y ys b c := by
  obtain ⟨c, hc⟩ := TwoCode.exists size x xs y ys
  by_cases h0 : c = 0
  · by_cases k : PartP xs ys
    · exact ⟨true, c, hc, .inl ⟨h0, Tells.yes k⟩⟩
    · exact ⟨false, c, hc, .inl ⟨h0, Tells.no k⟩⟩
  · exact ⟨false, c, hc, .inr ⟨h0, rfl⟩⟩
theorem TwoCode.ok {size x : Int} {xs : List (List Int)} {y : Int} {ys : List (List Int)} (h : TwoCode size x xs y ys 0) : RelOk size x xs ∧ RelOk size y ys ∧ x = y := by
  rcases h with ⟨r1, r2, hxy, _⟩ | ⟨_, _, _, h⟩ | ⟨_, _, h⟩ | ⟨_, h⟩
  · exact ⟨r1, r2, hxy⟩
  · exact absurd h (by decide)
  · exact absurd h (by decide)
  · exact absurd h (by decide)

end Go.Proofs.YtbnmgonfmihicaaDoor
