/-
  SameVerdict of the model; what the laws do with verdicts, bundled.
-/
import Derived.Test.YtclhcnfgpkhplaaSameV2
import Derived.Test.YtclhcnfgpkhplaaSameV3
namespace Go.Proofs.Ytclhcnfgpkhplaa
open Go.RowKit

set_option linter.unusedSimpArgs false in
set_option maxHeartbeats 1600000 in
set_option maxRecDepth 100000 in
theorem specSameVerdict (k : Int) (a1 : Option Addr) (n1 c1 : Nat) (vs : List Int) (a2 : Option Addr) (n2 c2 : Nat) (mA : Nat) (ts : List Int) (a3 : Option Addr) (n3 c3 : Nat) (mP : Nat) (ps : List Int) (a4 : Option Addr) (n4 c4 : Nat) (us : List Int) (k' : Int) (a1' : Option Addr) (n1' c1' : Nat) (vs' : List Int) (a2' : Option Addr) (n2' c2' : Nat) (mA' : Nat) (ts' : List Int) (a3' : Option Addr) (n3' c3' : Nat) (mP' : Nat) (ps' : List Int) (a4' : Option Addr) (n4' c4' : Nat) (us' : List Int) (bb : Bool) (w : World) (h1 : RowAt w (.slice a1 n1 c1) vs) (h2 : TripAt w (.slice a2 n2 c2) mA ts) (h3 : TripAt w (.slice a3 n3 c3) mP ps) (h4 : RowAt w (.slice a4 n4 c4) us) (h1' : RowAt w (.slice a1' n1' c1') vs') (h2' : TripAt w (.slice a2' n2' c2') mA' ts') (h3' : TripAt w (.slice a3' n3' c3') mP' ps') (h4' : RowAt w (.slice a4' n4' c4') us') (hb : eqV k vs ts ps us k' vs' ts' ps' us' = bb) :
    Calls Try.prog 41 #[.agg #[.int .i64 k, .slice a1 n1 c1, .slice a2 n2 c2, .slice a3 n3 c3, .slice a4 n4 c4], .agg #[.int .i64 k', .slice a1' n1' c1', .slice a2' n2' c2', .slice a3' n3' c3', .slice a4' n4' c4']] w fun e w' => e = .returned (.bool bb) ∧ Below w.heap.size w w' := by
  have HW : Hid (Below w.heap.size w ((w.alloc (.cells #[.int .i64 k, .slice a1 n1 c1, .slice a2 n2 c2, .slice a3 n3 c3, .slice a4 n4 c4] 74)).alloc (.cells #[.int .i64 k', .slice a1' n1' c1', .slice a2' n2' c2', .slice a3' n3' c3', .slice a4' n4' c4'] 74))) := Lib.hid (((Below.refl _ _).alloc (Nat.le_refl _) _).alloc (by simp) _)
  have H1 := Lib.hid (h1.below HW.out)
  have H2 := Lib.hid (h2.below HW.out)
  have H3 := Lib.hid (h3.below HW.out)
  have H4 := Lib.hid (h4.below HW.out)
  have H1' := Lib.hid (h1'.below HW.out)
  have H2' := Lib.hid (h2'.below HW.out)
  have H3' := Lib.hid (h3'.below HW.out)
  have H4' := Lib.hid (h4'.below HW.out)
  have HX := Lib.hid ((Box.new 74 w #[.int .i64 k, .slice a1 n1 c1, .slice a2 n2 c2, .slice a3 n3 c3, .slice a4 n4 c4]).below ((Below.refl _ _).alloc (Nat.le_refl _) (.cells #[.int .i64 k', .slice a1' n1' c1', .slice a2' n2' c2', .slice a3' n3' c3', .slice a4' n4' c4'] 74)))
  have HY : Hid (Box 74 ((w.alloc (.cells #[.int .i64 k, .slice a1 n1 c1, .slice a2 n2 c2, .slice a3 n3 c3, .slice a4 n4 c4] 74)).alloc (.cells #[.int .i64 k', .slice a1' n1' c1', .slice a2' n2' c2', .slice a3' n3' c3', .slice a4' n4' c4'] 74)) (w.heap.size + 1) #[.int .i64 k', .slice a1' n1' c1', .slice a2' n2' c2', .slice a3' n3' c3', .slice a4' n4' c4']) := Lib.hid (by
    have h := Box.new 74 (w.alloc (.cells #[.int .i64 k, .slice a1 n1 c1, .slice a2 n2 c2, .slice a3 n3 c3, .slice a4 n4 c4] 74)) #[.int .i64 k', .slice a1' n1' c1', .slice a2' n2' c2', .slice a3' n3' c3', .slice a4' n4' c4']
    rwa [World.size_alloc] at h)
  have HB := Lib.hid hb
  clear h1 h2 h3 h4 h1' h2' h3' h4' hb
  go_enter Try.func41, Try.ntmps41
  go_wp2_with fail
  refine (l06Same _ _ _ _ _ _ _ _ _ _ _ _ _ _ _ _ _ _ _ _ _ _ _ _ _ _ _ _ _ _ _ _ _ _ _ _ _ _ _ _ bb _ HX.out HY.out H1.out H2.out H3.out H4.out H1'.out H2'.out H3'.out H4'.out HB.out).mono ?_
  rintro e w2 ⟨rfl, hq⟩
  have HE := Lib.hid (HW.out.trans (hq.below _))
  clear hq
  go_wp2
  go_ret
  exact ⟨rfl, HE.out⟩

/-- where a verdict's lists lie -/
structure VA where
  a1 : Option Addr
  n1 : Nat
  c1 : Nat
  a2 : Option Addr
  n2 : Nat
  c2 : Nat
  a3 : Option Addr
  n3 : Nat
  c3 : Nat
  a4 : Option Addr
  n4 : Nat
  c4 : Nat
/-- what a verdict says -/
structure VC where
  k : Int
  vs : List Int
  mA : Nat
  ts : List Int
  mP : Nat
  ps : List Int
  us : List Int
structure F4 (w : World) (p : VA) (c : VC) : Prop where
  r1 : RowAt w (.slice p.a1 p.n1 p.c1) c.vs
  r2 : TripAt w (.slice p.a2 p.n2 p.c2) c.mA c.ts
  r3 : TripAt w (.slice p.a3 p.n3 p.c3) c.mP c.ps
  r4 : RowAt w (.slice p.a4 p.n4 p.c4) c.us
theorem F4.below {w w2 : World} {p : VA} {c : VC} (h : F4 w p c) (hb : Below w.heap.size w w2) : F4 w2 p c := ⟨h.r1.below hb, h.r2.below hb, h.r3.below hb, h.r4.below hb⟩
def totV (c : VC) : Nat := c.vs.length + c.mA + c.mP + c.us.length
def sameV (c d : VC) : Bool := eqV c.k c.vs c.ts c.ps c.us d.k d.vs d.ts d.ps d.us

theorem szV (p : VA) (c : VC) (left : Int) (w : World) (h : F4 w p c) (h0 : 0 ≤ left) (h1 : left ≤ 1048576) :
    Calls Try.prog 40 #[.agg #[.int .i64 c.k, .slice p.a1 p.n1 p.c1, .slice p.a2 p.n2 p.c2, .slice p.a3 p.n3 p.c3, .slice p.a4 p.n4 p.c4], .int .i64 left] w fun e w' => e = .returned (.int .i64 (szF (totV c) left)) ∧ Below w.heap.size w w' :=
  szVerdict c.k p.a1 p.n1 p.c1 c.vs p.a2 p.n2 p.c2 c.mA c.ts p.a3 p.n3 p.c3 c.mP c.ps p.a4 p.n4 p.c4 c.us left w h.r1 h.r2 h.r3 h.r4 h0 h1
theorem toV (p : VA) (c : VC) (w : World) (h : F4 w p c) (g : totV c ≤ 1048576) :
    Calls Try.prog 42 #[.agg #[.int .i64 c.k, .slice p.a1 p.n1 p.c1, .slice p.a2 p.n2 p.c2, .slice p.a3 p.n3 p.c3, .slice p.a4 p.n4 p.c4]] w fun e w' => ∃ m : VA, e = .returned (.agg #[.int .i64 c.k, .slice m.a1 m.n1 m.c1, .slice m.a2 m.n2 m.c2, .slice m.a3 m.n3 m.c3, .slice m.a4 m.n4 m.c4]) ∧ F4 w' m c ∧ Below w.heap.size w w' :=
  (toVerdict c.k p.a1 p.n1 p.c1 c.vs p.a2 p.n2 p.c2 c.mA c.ts p.a3 p.n3 p.c3 c.mP c.ps p.a4 p.n4 p.c4 c.us w h.r1 h.r2 h.r3 h.r4 (by unfold totV at g; omega) (by unfold totV at g; omega) (by unfold totV at g; omega) (by unfold totV at g; omega)).mono fun e w' h => by
    obtain ⟨a1, n1, c1, a2, n2, c2, a3, n3, c3, a4, n4, c4, E1, E2, E3, rfl, o1, o2, o3, o4, hb⟩ := h
    exact ⟨⟨a1, n1, c1, a2, n2, c2, a3, n3, c3, a4, n4, c4⟩, rfl, ⟨o1.at, o2.at, o3.at, o4.at⟩, hb⟩
theorem eqVV (p q : VA) (c : VC) (w : World) (h : F4 w p c) (h' : F4 w q c) :
    Calls Try.prog 44 #[.agg #[.int .i64 c.k, .slice p.a1 p.n1 p.c1, .slice p.a2 p.n2 p.c2, .slice p.a3 p.n3 p.c3, .slice p.a4 p.n4 p.c4], .agg #[.int .i64 c.k, .slice q.a1 q.n1 q.c1, .slice q.a2 q.n2 q.c2, .slice q.a3 q.n3 q.c3, .slice q.a4 q.n4 q.c4]] w fun e w' => e = .returned (.bool true) ∧ Below w.heap.size w w' :=
  eqVerdict c.k p.a1 p.n1 p.c1 c.vs p.a2 p.n2 p.c2 c.mA c.ts p.a3 p.n3 p.c3 c.mP c.ps p.a4 p.n4 p.c4 c.us c.k q.a1 q.n1 q.c1 c.vs q.a2 q.n2 q.c2 c.mA c.ts q.a3 q.n3 q.c3 c.mP c.ps q.a4 q.n4 q.c4 c.us true w h.r1 h.r2 h.r3 h.r4 h'.r1 h'.r2 h'.r3 h'.r4 (eqV_same _ _ _ _ _)
theorem specV (p : VA) (c : VC) (q : VA) (d : VC) (b : Bool) (w : World) (h : F4 w p c) (h' : F4 w q d) (hb : sameV c d = b) :
    Calls Try.prog 41 #[.agg #[.int .i64 c.k, .slice p.a1 p.n1 p.c1, .slice p.a2 p.n2 p.c2, .slice p.a3 p.n3 p.c3, .slice p.a4 p.n4 p.c4], .agg #[.int .i64 d.k, .slice q.a1 q.n1 q.c1, .slice q.a2 q.n2 q.c2, .slice q.a3 q.n3 q.c3, .slice q.a4 q.n4 q.c4]] w fun e w' => e = .returned (.bool b) ∧ Below w.heap.size w w' :=
  specSameVerdict c.k p.a1 p.n1 p.c1 c.vs p.a2 p.n2 p.c2 c.mA c.ts p.a3 p.n3 p.c3 c.mP c.ps p.a4 p.n4 p.c4 c.us d.k q.a1 q.n1 q.c1 d.vs q.a2 q.n2 q.c2 d.mA d.ts q.a3 q.n3 q.c3 d.mP d.ps q.a4 q.n4 q.c4 d.us b w h.r1 h.r2 h.r3 h.r4 h'.r1 h'.r2 h'.r3 h'.r4 hb
theorem implV (p : VA) (c : VC) (q : VA) (d : VC) (b : Bool) (w : World) (h : F4 w p c) (h' : F4 w q d) (hb : sameV c d = b) :
    Calls Try.prog 43 #[.agg #[.int .i64 c.k, .slice p.a1 p.n1 p.c1, .slice p.a2 p.n2 p.c2, .slice p.a3 p.n3 p.c3, .slice p.a4 p.n4 p.c4], .agg #[.int .i64 d.k, .slice q.a1 q.n1 q.c1, .slice q.a2 q.n2 q.c2, .slice q.a3 q.n3 q.c3, .slice q.a4 q.n4 q.c4]] w fun e w' => e = .returned (.bool b) ∧ Below w.heap.size w w' :=
  implSameVerdict c.k p.a1 p.n1 p.c1 c.vs p.a2 p.n2 p.c2 c.mA c.ts p.a3 p.n3 p.c3 c.mP c.ps p.a4 p.n4 p.c4 c.us d.k q.a1 q.n1 q.c1 d.vs q.a2 q.n2 q.c2 d.mA d.ts q.a3 q.n3 q.c3 d.mP d.ps q.a4 q.n4 q.c4 d.us b w h.r1 h.r2 h.r3 h.r4 h'.r1 h'.r2 h'.r3 h'.r4 hb

end Go.Proofs.Ytclhcnfgpkhplaa
