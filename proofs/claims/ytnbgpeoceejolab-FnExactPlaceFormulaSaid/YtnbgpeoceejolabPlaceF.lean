/-
  PlaceFormula of the program: its closure.
-/
import Derived.Test.YtnbgpeoceejolabSay
import Derived.Test.YtnbgpeoceejolabFormOk3
namespace Go.Proofs.Ytnbgpeoceejolab
open Go.RowKit

set_option linter.unusedSimpArgs false in
set_option maxHeartbeats 800000 in
theorem placeBody_ok {R : World → Prop} (w : World) (b pf pp : Nat) (fr va : Int) (a2 : Option Addr) (n2 c2 : Nat) (a3 : Option Addr) (n3 c3 : Nat)
    (h0 : w.cell? ⟨pf, 0, none⟩ = some (.int .i64 fr)) (h1 : w.cell? ⟨pf, 1, none⟩ = some (.int .i64 va)) (h2 : w.cell? ⟨pf, 2, none⟩ = some (.slice a2 n2 c2)) (h3 : w.cell? ⟨pp, 0, none⟩ = some (.slice a3 n3 c3))
    (h : Calls Try.prog 36 #[.pointer (some ⟨b, 0, none⟩), .agg #[.int .i64 fr, .int .i64 va, .slice a2 n2 c2], .slice a3 n3 c3] w fun e w' => e = .returned (.tuple #[]) ∧ R w') :
    Calls Try.prog 50 #[.pointer (some ⟨b, 0, none⟩), .pointer (some ⟨pf, 0, none⟩), .pointer (some ⟨pp, 0, none⟩)] w fun e w' => e = .returned (.tuple #[]) ∧ R w' := by
  go_enter Try.func50, Try.ntmps50
  go_wp2_with (go_at_call 36; refine h.mono ?_; rintro e w' ⟨rfl, hr⟩)
  exact ⟨rfl, .tuple #[], results_none rfl _ _ _, rfl, hr⟩

set_option linter.unusedSimpArgs false in
set_option maxHeartbeats 800000 in
theorem placeBody_told {R : World → Prop} (w : World) (b pf pp : Nat) (fr va : Int) (a2 : Option Addr) (n2 c2 : Nat) (a3 : Option Addr) (n3 c3 : Nat)
    (h0 : w.cell? ⟨pf, 0, none⟩ = some (.int .i64 fr)) (h1 : w.cell? ⟨pf, 1, none⟩ = some (.int .i64 va)) (h2 : w.cell? ⟨pf, 2, none⟩ = some (.slice a2 n2 c2)) (h3 : w.cell? ⟨pp, 0, none⟩ = some (.slice a3 n3 c3))
    (h : Calls Try.prog 36 #[.pointer (some ⟨b, 0, none⟩), .agg #[.int .i64 fr, .int .i64 va, .slice a2 n2 c2], .slice a3 n3 c3] w fun e w' => e = .panicked [{ v := tooBig, recovered := false }] ∧ R w') :
    Calls Try.prog 50 #[.pointer (some ⟨b, 0, none⟩), .pointer (some ⟨pf, 0, none⟩), .pointer (some ⟨pp, 0, none⟩)] w fun e w' => e = .panicked [{ v := tooBig, recovered := false }] ∧ R w' := by
  go_enter Try.func50, Try.ntmps50
  go_wp2_with (go_at_call 36; refine h.mono ?_; rintro e w' ⟨rfl, hr⟩)
  exact ⟨rfl, rfl, hr⟩

/-- What makeFormula makes of PlaceFormula's closure, where it fits. -/
theorem placeMake_ok (w : World) (pf pp free m : Nat) (va : Int) (a2 : Option Addr) (n2 c2 : Nat) (a3 : Option Addr) (n3 c3 : Nat) (fs : List (Int × List Int)) (ps : List Int)
    (h0 : w.cell? ⟨pf, 0, none⟩ = some (.int .i64 ps.length)) (h1 : w.cell? ⟨pf, 1, none⟩ = some (.int .i64 va)) (h2 : w.cell? ⟨pf, 2, none⟩ = some (.slice a2 n2 c2)) (h3 : w.cell? ⟨pp, 0, none⟩ = some (.slice a3 n3 c3))
    (hf : OpsAt w (.slice a2 n2 c2) fs) (hp : RowAt w (.slice a3 n3 c3) ps) (hp0 : 0 < ps.length) (hva : va = ps.length + m) (hpl : ps.length ≤ 1000) (hy : free + m ≤ 8) (hlen : fs.length ≤ 16)
    (hfl : ∀ k, k < fs.length → (rowO fs k).length ≤ 1000) (hfr : ∀ k, k < fs.length → ∀ i, i < (rowO fs k).length → 0 ≤ intN (rowO fs k) i ∧ intN (rowO fs k) i < va) :
    Calls Try.prog 34 #[.int .i64 free, .int .i64 free, .func (.func 50) #[] #[.pointer (some ⟨pf, 0, none⟩), .pointer (some ⟨pp, 0, none⟩)]] w
      (MadeF w free ((free + m : Nat) : Int) (movedL fs (sayL ps free m)) 0) := by
  have hG : ∀ (args : Array Value) (w : World), (callFunc 50 args).run Try.prog w = .ok (.enter 50 args) w := fun args w => by simp [go_sem]
  refine (makeFormula_ok (R := fun x y a n c w2 => x = free ∧ y = ((free + m : Nat) : Int) ∧ OwnOps 83 w2 (w.heap.size + 8) w2.heap.size (.slice a n c) (movedL fs (sayL ps free m))) _ _ w free free hG fun wM b1 b2 b3 => ?_).mono ?_
  · refine placeBody_ok wM _ pf pp _ va a2 n2 c2 a3 n3 c3 (below_cell b1 h0) (below_cell b1 h1) (below_cell b1 h2) (below_cell b1 h3) ((say_ok wM (w.heap.size + 7) (w.heap.size + 8) free m va free none 0 0 [] fs _ _ ps w b3 (by omega) (by omega) (OwnOps.nil _ _ _ _ (Nat.le_refl _)) (by omega) b1 hf (hp.below b1) hp0 hva hpl hy (by simpa using hlen) hfl hfr).mono ?_)
    rintro e w' ⟨rfl, a', n', c', g1, g2, g3⟩
    exact ⟨rfl, _, _, _, _, _, g1, g3, rfl, rfl, by simpa using g2⟩
  · rintro e w' ⟨x, y, a, n, c, w2, ⟨rfl, rfl, g1⟩, g2, rfl, g3⟩
    refine ⟨a, n, c, rfl, ?_, g2.trans (g3.below g2.size (fun k hk => hk.1))⟩
    exact ((g1.same g3.size (fun g h4 _ => g3.block g (by omega) (fun h5 => by omega))).mono (by omega)).full

theorem placeMake_told (w : World) (pf pp free m : Nat) (va : Int) (a2 : Option Addr) (n2 c2 : Nat) (a3 : Option Addr) (n3 c3 : Nat) (fs : List (Int × List Int)) (ps : List Int)
    (h0 : w.cell? ⟨pf, 0, none⟩ = some (.int .i64 ps.length)) (h1 : w.cell? ⟨pf, 1, none⟩ = some (.int .i64 va)) (h2 : w.cell? ⟨pf, 2, none⟩ = some (.slice a2 n2 c2)) (h3 : w.cell? ⟨pp, 0, none⟩ = some (.slice a3 n3 c3))
    (hf : OpsAt w (.slice a2 n2 c2) fs) (hp : RowAt w (.slice a3 n3 c3) ps) (hp0 : 0 < ps.length) (hva : va = ps.length + m) (hpl : ps.length ≤ 1000) (hm8 : m ≤ 8) (hy8 : free ≤ 8) (hbig : 8 < free + m ∨ 16 < fs.length)
    (hfl : ∀ k, k < fs.length → (rowO fs k).length ≤ 1000) (hfr : ∀ k, k < fs.length → ∀ i, i < (rowO fs k).length → 0 ≤ intN (rowO fs k) i ∧ intN (rowO fs k) i < va) :
    Calls Try.prog 34 #[.int .i64 free, .int .i64 free, .func (.func 50) #[] #[.pointer (some ⟨pf, 0, none⟩), .pointer (some ⟨pp, 0, none⟩)]] w
      (MadeF w 0 0 [] 3) := by
  have hG : ∀ (args : Array Value) (w : World), (callFunc 50 args).run Try.prog w = .ok (.enter 50 args) w := fun args w => by simp [go_sem]
  refine (makeFormula_told _ _ w free free hG fun wM b1 b2 b3 => ?_).mono ?_
  · exact placeBody_told wM _ pf pp _ va a2 n2 c2 a3 n3 c3 (below_cell b1 h0) (below_cell b1 h1) (below_cell b1 h2) (below_cell b1 h3) (say_told wM (w.heap.size + 7) (w.heap.size + 8) free m va free none 0 0 [] fs _ _ ps w b3 (by omega) (by omega) (OwnOps.nil _ _ _ _ (Nat.le_refl _)) (by omega) b1 hf (hp.below b1) hp0 hva hpl hm8 hy8 (by simp) (by simpa using hbig) hfl hfr)
  · rintro e w' ⟨rfl, g2⟩
    exact ⟨none, 0, 0, rfl, OwnOps.nil _ _ _ _ (Nat.le_refl _), g2⟩

/-- What PlaceFormula answers. -/
def PlaceFormulaIs (sz : Int) (rs : List (Int × List (List Int))) (fr va : Int) (fs : List (Int × List Int)) (free : Int) (ps : List Int) (x y : Int) (zs : List (Int × List Int)) (cd : Int) : Prop :=
  (FormOk sz rs fr va fs ∧ In14 free ∧ TupP free fr ps ∧ free + (va - fr) ≤ 8 ∧ x = free ∧ y = free + (va - fr) ∧ zs = movedL fs (sayL ps free.toNat (va - fr).toNat) ∧ cd = 0)
  ∨ (FormOk sz rs fr va fs ∧ In14 free ∧ TupP free fr ps ∧ 8 < free + (va - fr) ∧ x = 0 ∧ y = 0 ∧ zs = [] ∧ cd = 3)
  ∨ (FormOk sz rs fr va fs ∧ ¬ (In14 free ∧ TupP free fr ps) ∧ x = 0 ∧ y = 0 ∧ zs = [] ∧ cd = 2)
  ∨ (¬ FormOk sz rs fr va fs ∧ x = 0 ∧ y = 0 ∧ zs = [] ∧ cd = 1)

set_option linter.unusedSimpArgs false in
set_option maxHeartbeats 2000000 in
set_option maxRecDepth 100000 in
theorem implPlaceFormula0 (sz : Int) (a1 : Option Addr) (n1 c1 : Nat) (rs : List (Int × List (List Int))) (fr va : Int) (a2 : Option Addr) (n2 c2 : Nat) (fs : List (Int × List Int)) (free : Int) (a3 : Option Addr) (n3 c3 : Nat) (ps : List Int) (x y : Int) (zs : List (Int × List Int)) (cd : Int) (w : World)
    (h1 : RelsAt w (.slice a1 n1 c1) rs) (h2 : OpsAt w (.slice a2 n2 c2) fs) (h3 : RowAt w (.slice a3 n3 c3) ps) (hi : PlaceFormulaIs sz rs fr va fs free ps x y zs cd) :
    Calls Try.prog 19 #[.agg #[.int .i64 sz, .slice a1 n1 c1], .agg #[.int .i64 fr, .int .i64 va, .slice a2 n2 c2], .int .i64 free, .slice a3 n3 c3] w (MadeF w x y zs cd) := by
  have HW4 : Hid (Below w.heap.size w ((((w.alloc (.cells #[.int .i64 sz, .slice a1 n1 c1] 37)).alloc (.cells #[.int .i64 fr, .int .i64 va, .slice a2 n2 c2] 32)).alloc (.cells #[.slice a3 n3 c3] 45)).alloc (.cells #[.int .i64 0, .int .i64 0, .slice none 0 0] 32))) := Lib.hid (((((Below.refl _ _).alloc (Nat.le_refl _) _).alloc (by simp [go_sem] <;> omega) _).alloc (by simp [go_sem] <;> omega) _).alloc (by simp [go_sem] <;> omega) _)
  have HF4 : Hid (Box 32 ((((w.alloc (.cells #[.int .i64 sz, .slice a1 n1 c1] 37)).alloc (.cells #[.int .i64 fr, .int .i64 va, .slice a2 n2 c2] 32)).alloc (.cells #[.slice a3 n3 c3] 45)).alloc (.cells #[.int .i64 0, .int .i64 0, .slice none 0 0] 32)) (w.heap.size + 1) #[.int .i64 fr, .int .i64 va, .slice a2 n2 c2]) := Lib.hid (by
    have h := (Box.new 32 (w.alloc (.cells #[.int .i64 sz, .slice a1 n1 c1] 37)) #[.int .i64 fr, .int .i64 va, .slice a2 n2 c2]).below (((Below.refl _ _).alloc (Nat.le_refl _) (.cells #[.slice a3 n3 c3] 45)).alloc (by simp [go_sem] <;> omega) (.cells #[.int .i64 0, .int .i64 0, .slice none 0 0] 32))
    simp only [World.size_alloc] at h
    exact h)
  have HT4 : Hid (Box 37 ((((w.alloc (.cells #[.int .i64 sz, .slice a1 n1 c1] 37)).alloc (.cells #[.int .i64 fr, .int .i64 va, .slice a2 n2 c2] 32)).alloc (.cells #[.slice a3 n3 c3] 45)).alloc (.cells #[.int .i64 0, .int .i64 0, .slice none 0 0] 32)) w.heap.size #[.int .i64 sz, .slice a1 n1 c1]) := Lib.hid (
    (Box.new 37 w #[.int .i64 sz, .slice a1 n1 c1]).below ((((Below.refl _ _).alloc (Nat.le_refl _) (.cells #[.int .i64 fr, .int .i64 va, .slice a2 n2 c2] 32)).alloc (by simp [go_sem] <;> omega) (.cells #[.slice a3 n3 c3] 45)).alloc (by simp [go_sem] <;> omega) (.cells #[.int .i64 0, .int .i64 0, .slice none 0 0] 32)))
  have HP4 : Hid (Box 45 ((((w.alloc (.cells #[.int .i64 sz, .slice a1 n1 c1] 37)).alloc (.cells #[.int .i64 fr, .int .i64 va, .slice a2 n2 c2] 32)).alloc (.cells #[.slice a3 n3 c3] 45)).alloc (.cells #[.int .i64 0, .int .i64 0, .slice none 0 0] 32)) (w.heap.size + 2) #[.slice a3 n3 c3]) := Lib.hid (by
    have h := (Box.new 45 ((w.alloc (.cells #[.int .i64 sz, .slice a1 n1 c1] 37)).alloc (.cells #[.int .i64 fr, .int .i64 va, .slice a2 n2 c2] 32)) #[.slice a3 n3 c3]).below ((Below.refl _ _).alloc (Nat.le_refl _) (.cells #[.int .i64 0, .int .i64 0, .slice none 0 0] 32))
    simp only [World.size_alloc] at h
    exact h)
  have HR4 : Hid (Box 32 ((((w.alloc (.cells #[.int .i64 sz, .slice a1 n1 c1] 37)).alloc (.cells #[.int .i64 fr, .int .i64 va, .slice a2 n2 c2] 32)).alloc (.cells #[.slice a3 n3 c3] 45)).alloc (.cells #[.int .i64 0, .int .i64 0, .slice none 0 0] 32)) (w.heap.size + 1 + 1 + 1) #[.int .i64 0, .int .i64 0, .slice none 0 0]) := Lib.hid (by
    have h := Box.new 32 (((w.alloc (.cells #[.int .i64 sz, .slice a1 n1 c1] 37)).alloc (.cells #[.int .i64 fr, .int .i64 va, .slice a2 n2 c2] 32)).alloc (.cells #[.slice a3 n3 c3] 45)) #[.int .i64 0, .int .i64 0, .slice none 0 0]
    simp only [World.size_alloc] at h
    exact h)
  have HP0 := Lib.hid h3
  have x0 := HF4.out.c 0 rfl
  have x1 := HF4.out.c 1 rfl
  have x2 := HF4.out.c 2 rfl
  have z0 := HT4.out.c 0 rfl
  have z1 := HT4.out.c 1 rfl
  have HQ1 := Lib.hid (h1.below HW4.out)
  have HQ2 := Lib.hid (h2.below HW4.out)
  have HO2 := Lib.hid h2
  clear h1 h2 h3
  rcases hi with ⟨hf, hA, hL, hfit, hx, rfl, rfl, rfl⟩ | ⟨hf, hA, hL, hbig, rfl, rfl, rfl, rfl⟩ | ⟨hf, hno, rfl, rfl, rfl, rfl⟩ | ⟨hf, rfl, rfl, rfl, rfl⟩
  · have hc := hf.2.1
    obtain ⟨fz, rfl⟩ : ∃ fz : Nat, free = fz := ⟨free.toNat, by have := hA.1; omega⟩
    obtain rfl : (ps.length : Int) = fr := hL.1
    obtain ⟨m, hm⟩ : ∃ m : Nat, (va - (ps.length : Int)) = m := ⟨(va - (ps.length : Int)).toNat, by have := hc.2.1.1; omega⟩
    have hva : va = ps.length + m := by omega
    have hv8 : va ≤ 8 := hc.2.1.2
    have hp4 : 1 ≤ (ps.length : Int) ∧ (ps.length : Int) ≤ 4 := ⟨hc.1.1, hc.1.2⟩
    have hf4 : (fz : Int) ≤ 4 := hA.2
    have hm16 : fs.length ≤ 16 := hc.2.2
    have HLEN : Hid (∀ k, k < fs.length → (rowO fs k).length ≤ 1000) := Lib.hid (fun k hk => by have := (hf.text.2 k hk).2.1.2; omega)
    have HRNG : Hid (∀ k, k < fs.length → ∀ i, i < (rowO fs k).length → 0 ≤ intN (rowO fs k) i ∧ intN (rowO fs k) i < va) := Lib.hid (fun k hk i hi => (hf.text.2 k hk).2.2.2 i hi)
    have hA' : Tells true (In14 (fz : Int)) := Tells.yes hA
    have hL' : Tells true (TupP (fz : Int) (ps.length : Int) ps) := Tells.yes hL
    have hval := implValidFormula sz a1 n1 c1 rs (ps.length : Int) va a2 n2 c2 fs true _ HQ1.out HQ2.out (Tells.yes hf)
    have hfit' : fz + m ≤ 8 := by omega
    subst hx
    have e1 : ((fz : Int) + (va - (ps.length : Int))) = ((fz + m : Nat) : Int) := by omega
    have e2 : (va - (ps.length : Int)).toNat = m := by omega
    rw [e1, e2, Int.toNat_natCast]
    obtain ⟨yy, hyy⟩ : ∃ yy : Int, yy = ((fz + m : Nat) : Int) := ⟨_, rfl⟩
    have HYY := Lib.hid hyy
    rw [← hyy]
    have HVA := Lib.hid hva
    have HM := Lib.hid hm
    clear hf hA hL hc hva hm e1 e2 hyy hfit
    go_enter Try.func19, Try.ntmps19
    go_wp2_with (first | (go_at_call 47; refine hval.mono ?_; rintro e w1 ⟨rfl, hb1⟩; have HB1 := Lib.hid hb1; have y0 := (HF4.out.below hb1).c 0 rfl; have y1 := (HF4.out.below hb1).c 1 rfl; have y2 := (HF4.out.below hb1).c 2 rfl; have y3 := (HP4.out.below hb1).c 0 rfl; have HR1 := Lib.hid (HR4.out.below hb1); have d0 := HR1.out.c 0 rfl; have d1 := HR1.out.c 1 rfl; have d2 := HR1.out.c 2 rfl; have f0 := HR1.out.free 0; have f1 := HR1.out.free 1; have f2 := HR1.out.free 2; clear hb1) | (go_at_call 48; refine (isArity _ true _ hA').mono ?_; rintro e w2 ⟨rfl, rfl⟩) | (go_at_call 49; refine (isListBelow _ ps _ _ true _ (HP0.out.below (HW4.out.trans (HB1.out.mono HW4.out.size))) hL').mono ?_; rintro e w2 ⟨rfl, rfl⟩) | (go_at_call 34; have hpm := (placeMake_ok w1 (w.heap.size + 1) (w.heap.size + 2) fz m va a2 n2 c2 a3 n3 c3 fs ps y0 y1 y2 y3 (HO2.out.below (HW4.out.trans (HB1.out.mono HW4.out.size))) (HP0.out.below (HW4.out.trans (HB1.out.mono HW4.out.size))) (by omega) HVA.out (by omega) hfit' hm16 HLEN.out HRNG.out); rw [← HYY.out] at hpm; refine hpm.mono ?_; rintro e w3 ⟨a5, n5, c5, rfl, ho5, hb5⟩; have HO5 := Lib.hid ho5; have HB5 := Lib.hid hb5; have HR5 := Lib.hid (HR1.out.below hb5); have q0 := HR5.out.c 0 rfl; have q1 := HR5.out.c 1 rfl; have q2 := HR5.out.c 2 rfl; have u0 := HR5.out.free 0; have u1 := HR5.out.free 1; have u2 := HR5.out.free 2; clear ho5 hb5))
    have hs1 : w.heap.size + 4 ≤ w1.heap.size := by have := HB1.out.size; simpa [go_sem] using this
    refine bodyPost_ret (v := .tuple #[.agg #[.int .i64 fz, .int .i64 yy, .slice a5 n5 c5], .int .i64 0]) (by simp [results, Try.results19, go_sem, q0, q1, q2]) rfl ⟨a5, n5, c5, rfl, ?_, ?_⟩
    · exact ((((HO5.out.stored (by show w.heap.size + 3 < w1.heap.size; omega) _).stored (by show w.heap.size + 3 < w1.heap.size; omega) _).stored (by show w.heap.size + 3 < w1.heap.size; omega) _).mono (by omega)).full
    · exact (((HW4.out.trans (HB1.out.mono HW4.out.size)).trans (HB5.out.mono (by omega))).setCell (by show w.heap.size ≤ w.heap.size + 3; omega) _).setCell (by show w.heap.size ≤ w.heap.size + 3; omega) _ |>.setCell (by show w.heap.size ≤ w.heap.size + 3; omega) _
  · have hc := hf.2.1
    obtain ⟨fz, rfl⟩ : ∃ fz : Nat, free = fz := ⟨free.toNat, by have := hA.1; omega⟩
    obtain rfl : (ps.length : Int) = fr := hL.1
    obtain ⟨m, hm⟩ : ∃ m : Nat, (va - (ps.length : Int)) = m := ⟨(va - (ps.length : Int)).toNat, by have := hc.2.1.1; omega⟩
    have hva : va = ps.length + m := by omega
    have hv8 : va ≤ 8 := hc.2.1.2
    have hp4 : 1 ≤ (ps.length : Int) ∧ (ps.length : Int) ≤ 4 := ⟨hc.1.1, hc.1.2⟩
    have hf4 : (fz : Int) ≤ 4 := hA.2
    have hm16 : fs.length ≤ 16 := hc.2.2
    have HLEN : Hid (∀ k, k < fs.length → (rowO fs k).length ≤ 1000) := Lib.hid (fun k hk => by have := (hf.text.2 k hk).2.1.2; omega)
    have HRNG : Hid (∀ k, k < fs.length → ∀ i, i < (rowO fs k).length → 0 ≤ intN (rowO fs k) i ∧ intN (rowO fs k) i < va) := Lib.hid (fun k hk i hi => (hf.text.2 k hk).2.2.2 i hi)
    have hA' : Tells true (In14 (fz : Int)) := Tells.yes hA
    have hL' : Tells true (TupP (fz : Int) (ps.length : Int) ps) := Tells.yes hL
    have hval := implValidFormula sz a1 n1 c1 rs (ps.length : Int) va a2 n2 c2 fs true _ HQ1.out HQ2.out (Tells.yes hf)
    have hbig' : 8 < fz + m ∨ 16 < fs.length := by omega
    have HVA := Lib.hid hva
    have HM := Lib.hid hm
    have hm8 : m ≤ 8 := by omega
    have hf8 : fz ≤ 8 := by omega
    clear hf hA hL hc hva hm hbig
    go_enter Try.func19, Try.ntmps19
    go_wp2_with (first | (go_at_call 47; refine hval.mono ?_; rintro e w1 ⟨rfl, hb1⟩; have HB1 := Lib.hid hb1; have y0 := (HF4.out.below hb1).c 0 rfl; have y1 := (HF4.out.below hb1).c 1 rfl; have y2 := (HF4.out.below hb1).c 2 rfl; have y3 := (HP4.out.below hb1).c 0 rfl; have HR1 := Lib.hid (HR4.out.below hb1); have d0 := HR1.out.c 0 rfl; have d1 := HR1.out.c 1 rfl; have d2 := HR1.out.c 2 rfl; have f0 := HR1.out.free 0; have f1 := HR1.out.free 1; have f2 := HR1.out.free 2; clear hb1) | (go_at_call 48; refine (isArity _ true _ hA').mono ?_; rintro e w2 ⟨rfl, rfl⟩) | (go_at_call 49; refine (isListBelow _ ps _ _ true _ (HP0.out.below (HW4.out.trans (HB1.out.mono HW4.out.size))) hL').mono ?_; rintro e w2 ⟨rfl, rfl⟩) | (go_at_call 34; refine (placeMake_told w1 (w.heap.size + 1) (w.heap.size + 2) fz m va a2 n2 c2 a3 n3 c3 fs ps y0 y1 y2 y3 (HO2.out.below (HW4.out.trans (HB1.out.mono HW4.out.size))) (HP0.out.below (HW4.out.trans (HB1.out.mono HW4.out.size))) (by omega) HVA.out (by omega) hm8 hf8 hbig' HLEN.out HRNG.out).mono ?_; rintro e w3 ⟨a5, n5, c5, rfl, ho5, hb5⟩; have HO5 := Lib.hid ho5; have HB5 := Lib.hid hb5; have HR5 := Lib.hid (HR1.out.below hb5); have q0 := HR5.out.c 0 rfl; have q1 := HR5.out.c 1 rfl; have q2 := HR5.out.c 2 rfl; have u0 := HR5.out.free 0; have u1 := HR5.out.free 1; have u2 := HR5.out.free 2; clear ho5 hb5))
    have hs1 : w.heap.size + 4 ≤ w1.heap.size := by have := HB1.out.size; simpa [go_sem] using this
    refine bodyPost_ret (v := .tuple #[.agg #[.int .i64 0, .int .i64 0, .slice a5 n5 c5], .int .i64 3]) (by simp [results, Try.results19, go_sem, q0, q1, q2]) rfl ⟨a5, n5, c5, rfl, ?_, ?_⟩
    · exact ((((HO5.out.stored (by show w.heap.size + 3 < w1.heap.size; omega) _).stored (by show w.heap.size + 3 < w1.heap.size; omega) _).stored (by show w.heap.size + 3 < w1.heap.size; omega) _).mono (by omega)).full
    · exact (((HW4.out.trans (HB1.out.mono HW4.out.size)).trans (HB5.out.mono (by omega))).setCell (by show w.heap.size ≤ w.heap.size + 3; omega) _).setCell (by show w.heap.size ≤ w.heap.size + 3; omega) _ |>.setCell (by show w.heap.size ≤ w.heap.size + 3; omega) _
  · have hval := implValidFormula sz a1 n1 c1 rs fr va a2 n2 c2 fs true _ HQ1.out HQ2.out (Tells.yes hf)
    clear hf
    by_cases hin : In14 free
    · have hA' : Tells true (In14 free) := Tells.yes hin
      have hL' : Tells false (TupP free fr ps) := Tells.no (fun h => hno ⟨hin, h⟩)
      clear hin hno
      go_enter Try.func19, Try.ntmps19
      go_wp2_with (first | (go_at_call 47; refine hval.mono ?_; rintro e w1 ⟨rfl, hb1⟩; have HB1 := Lib.hid hb1; have y0 := (HF4.out.below hb1).c 0 rfl; have y1 := (HF4.out.below hb1).c 1 rfl; have y2 := (HF4.out.below hb1).c 2 rfl; have y3 := (HP4.out.below hb1).c 0 rfl; have HR1 := Lib.hid (HR4.out.below hb1); have d0 := HR1.out.c 0 rfl; have d1 := HR1.out.c 1 rfl; have d2 := HR1.out.c 2 rfl; have f0 := HR1.out.free 0; have f1 := HR1.out.free 1; have f2 := HR1.out.free 2; clear hb1) | (go_at_call 48; refine (isArity _ true _ hA').mono ?_; rintro e w2 ⟨rfl, rfl⟩) | (go_at_call 49; refine (isListBelow _ ps _ _ false _ (HP0.out.below (HW4.out.trans (HB1.out.mono HW4.out.size))) hL').mono ?_; rintro e w2 ⟨rfl, rfl⟩))
      refine bodyPost_ret (v := .tuple #[.agg #[.int .i64 0, .int .i64 0, .slice none 0 0], .int .i64 2]) (by simp [results, Try.results19, go_sem, d0, d1, d2]) rfl ⟨none, 0, 0, rfl, ?_, ?_⟩
      · exact OwnOps.nil _ _ _ _ (Nat.le_refl _)
      · exact (((HW4.out.trans (HB1.out.mono HW4.out.size)).setCell (by show w.heap.size ≤ w.heap.size + 3; omega) _).setCell (by show w.heap.size ≤ w.heap.size + 3; omega) _).setCell (by show w.heap.size ≤ w.heap.size + 3; omega) _
    · have hA' : Tells false (In14 free) := Tells.no hin
      clear hin hno
      go_enter Try.func19, Try.ntmps19
      go_wp2_with (first | (go_at_call 47; refine hval.mono ?_; rintro e w1 ⟨rfl, hb1⟩; have HB1 := Lib.hid hb1; have y0 := (HF4.out.below hb1).c 0 rfl; have y1 := (HF4.out.below hb1).c 1 rfl; have y2 := (HF4.out.below hb1).c 2 rfl; have y3 := (HP4.out.below hb1).c 0 rfl; have HR1 := Lib.hid (HR4.out.below hb1); have d0 := HR1.out.c 0 rfl; have d1 := HR1.out.c 1 rfl; have d2 := HR1.out.c 2 rfl; have f0 := HR1.out.free 0; have f1 := HR1.out.free 1; have f2 := HR1.out.free 2; clear hb1) | (go_at_call 48; refine (isArity _ false _ hA').mono ?_; rintro e w2 ⟨rfl, rfl⟩))
      refine bodyPost_ret (v := .tuple #[.agg #[.int .i64 0, .int .i64 0, .slice none 0 0], .int .i64 2]) (by simp [results, Try.results19, go_sem, d0, d1, d2]) rfl ⟨none, 0, 0, rfl, ?_, ?_⟩
      · exact OwnOps.nil _ _ _ _ (Nat.le_refl _)
      · exact (((HW4.out.trans (HB1.out.mono HW4.out.size)).setCell (by show w.heap.size ≤ w.heap.size + 3; omega) _).setCell (by show w.heap.size ≤ w.heap.size + 3; omega) _).setCell (by show w.heap.size ≤ w.heap.size + 3; omega) _
  · have hval := implValidFormula sz a1 n1 c1 rs fr va a2 n2 c2 fs false _ HQ1.out HQ2.out (Tells.no hf)
    clear hf
    go_enter Try.func19, Try.ntmps19
    go_wp2_with (first | (go_at_call 47; refine hval.mono ?_; rintro e w1 ⟨rfl, hb1⟩; have HB1 := Lib.hid hb1; have y0 := (HF4.out.below hb1).c 0 rfl; have y1 := (HF4.out.below hb1).c 1 rfl; have y2 := (HF4.out.below hb1).c 2 rfl; have y3 := (HP4.out.below hb1).c 0 rfl; have HR1 := Lib.hid (HR4.out.below hb1); have d0 := HR1.out.c 0 rfl; have d1 := HR1.out.c 1 rfl; have d2 := HR1.out.c 2 rfl; have f0 := HR1.out.free 0; have f1 := HR1.out.free 1; have f2 := HR1.out.free 2; clear hb1))
    refine bodyPost_ret (v := .tuple #[.agg #[.int .i64 0, .int .i64 0, .slice none 0 0], .int .i64 1]) (by simp [results, Try.results19, go_sem, d0, d1, d2]) rfl ⟨none, 0, 0, rfl, ?_, ?_⟩
    · exact OwnOps.nil _ _ _ _ (Nat.le_refl _)
    · exact (((HW4.out.trans (HB1.out.mono HW4.out.size)).setCell (by show w.heap.size ≤ w.heap.size + 3; omega) _).setCell (by show w.heap.size ≤ w.heap.size + 3; omega) _).setCell (by show w.heap.size ≤ w.heap.size + 3; omega) _

end Go.Proofs.Ytnbgpeoceejolab
