/-
  Instances: the laws' measures, copies and comparisons of them.
-/
import Derived.Test.YtadpnckpgpamiabDoorPairsCon
import Derived.Test.YtadpnckpgpamiabDoorKept3
namespace Go.Proofs.YtadpnckpgpamiabDoor
open Go.RowKit

/-- what an instance is compared by -/
def eqI (x : Int) (rs : List (Int × List Int)) (y : Int) (qs : List (Int × List Int)) : Bool := eqB x y && eqB rs qs
theorem eqI_same (x : Int) (rs : List (Int × List Int)) : eqI x rs x rs = true := by simp [eqI, eqB]
theorem eqI_no1 {x y : Int} {rs qs : List (Int × List Int)} (h : x ≠ y) : eqI x rs y qs = false := by simp [eqI, eqB, h]
theorem eqI_no2 {x y : Int} {rs qs : List (Int × List Int)} (h : rs ≠ qs) : eqI x rs y qs = false := by simp [eqI, eqB, h]
theorem eqI_rows {x : Int} {rs qs : List (Int × List Int)} : eqI x rs x qs = eqB rs qs := by simp [eqI, eqB]

/-- An instance lies behind a pointer. -/
structure InstAt (w : World) (b o : Nat) (x : Int) (rs : List (Int × List Int)) : Prop where
  vars : w.cell? ⟨b, o, none⟩ = some (.int .i64 x)
  cons : ∃ a n c, w.cell? ⟨b, o + 1, none⟩ = some (.slice a n c) ∧ OpsAt w (.slice a n c) rs
theorem InstAt.below {w w' : World} {b o : Nat} {x : Int} {rs : List (Int × List Int)} (h : InstAt w b o x rs) (hb : Below w.heap.size w w') : InstAt w' b o x rs := by
  obtain ⟨h1, a, n, c, h3, h4⟩ := h
  exact ⟨below_cell hb h1, a, n, c, below_cell hb h3, h4.below hb⟩
theorem InstAt.new (w : World) (x : Int) (a : Option Addr) (n c : Nat) (rs : List (Int × List Int)) (t : TypeId) (h : OpsAt w (.slice a n c) rs) : InstAt (w.alloc (.cells #[.int .i64 x, .slice a n c] t)) w.heap.size 0 x rs :=
  ⟨by simp [World.cell?_alloc_new], a, n, c, by simp [World.cell?_alloc_new], h.below ((Below.refl _ _).alloc (Nat.le_refl _) _)⟩

set_option maxHeartbeats 400000 in
theorem szInstance (x : Int) (a : Option Addr) (n c : Nat) (rs : List (Int × List Int)) (left : Int) (w : World) (h : OpsAt w (.slice a n c) rs) (h0 : 0 ≤ left) (h1 : left ≤ 1048576) :
    Calls Tryd.prog 40 #[.agg #[.int .i64 x, .slice a n c], .int .i64 left] w fun e w' => e = .returned (.int .i64 (szF (opsSize rs) left)) ∧ Below w.heap.size w w' := by
  have H := Lib.hid h
  clear h
  by_cases hl : left < opsSize rs
  · have HF := Lib.hid (szF_no hl)
    go_enter Tryd.func40, Tryd.ntmps40
    go_wp2_with fail
    have hbw := (Below.refl w.heap.size w).alloc (Nat.le_refl _) (.cells #[.int .i64 x, .slice a n c] 75)
    refine (szConS _ _ _ _ (H.out.below hbw) h0 h1).mono ?_
    rw [HF.out]
    rintro e w2 ⟨rfl, hb2⟩
    have HQ := Lib.hid (hbw.trans (hb2.mono hbw.size))
    clear hbw hb2
    go_wp2
    go_ret
    exact ⟨ret_int HF.out.symm, HQ.out⟩
  · have HF := Lib.hid (szF_yes (t := opsSize rs) (l := left) (by omega))
    have hl' : ¬ left - opsSize rs < 0 := by omega
    go_enter Tryd.func40, Tryd.ntmps40
    go_wp2_with fail
    have hbw := (Below.refl w.heap.size w).alloc (Nat.le_refl _) (.cells #[.int .i64 x, .slice a n c] 75)
    refine (szConS _ _ _ _ (H.out.below hbw) h0 h1).mono ?_
    rw [HF.out]
    rintro e w2 ⟨rfl, hb2⟩
    have HQ := Lib.hid (hbw.trans (hb2.mono hbw.size))
    clear hbw hb2
    go_wp2
    go_ret
    exact ⟨ret_int HF.out.symm, HQ.out⟩

/-- An instance of its own. -/
def MadeInstance (w : World) (x : Int) (rs : List (Int × List Int)) (e : Ending) (w' : World) : Prop :=
  ∃ a n c, e = .returned (.agg #[.int .i64 x, .slice a n c]) ∧ OwnOps 161 w' w.heap.size w'.heap.size (.slice a n c) rs ∧ Below w.heap.size w w'

set_option maxHeartbeats 400000 in
theorem toInstance (sz : Int) (a : Option Addr) (n c : Nat) (rs : List (Int × List Int)) (w : World) (h : OpsAt w (.slice a n c) rs) (hl : opsSize rs ≤ 1048576) :
    Calls Tryd.prog 42 #[.agg #[.int .i64 sz, .slice a n c]] w (MadeInstance w sz rs) := by
  have hH := Lib.hid h
  clear h
  go_enter Tryd.func42, Tryd.ntmps42
  go_wp2_with fail
  refine (toConS _ _ _ (hH.out.below ((((Below.refl _ _).alloc (Nat.le_refl _) _).alloc (by simp) _).alloc (by simp; omega) _)) hl).mono ?_
  rintro e w2 ⟨a2, n2, c2, rfl, ho, hb2⟩
  obtain ⟨hc, hf⟩ := bcell hb2
  have hz : w.heap.size + 3 ≤ w2.heap.size := by have := hb2.size; simp at this; omega
  have HO := Lib.hid ho
  have HB := Lib.hid hb2
  clear ho hb2
  go_wp2
  refine bodyPost_ret (v := .agg #[.int .i64 sz, .slice a2 n2 c2]) (by simp [results, Tryd.results42, go_sem, hc]) rfl ⟨a2, n2, c2, rfl, ?_, ?_⟩
  · exact ((((HO.out.stored (by simp) _).stored (by simp) _).stored (by simp) _).mono (by simp; omega)).full
  · exact ((((((((Below.refl _ _).alloc (Nat.le_refl _) _).alloc (by simp) _).alloc (by simp; omega) _).trans (HB.out.mono (by simp; omega))).setCell (by simp; omega) _).setCell (by simp) _).setCell (by simp) _)

set_option maxHeartbeats 400000 in
theorem eqInstance (x : Int) (a1 : Option Addr) (n1 c1 : Nat) (rs : List (Int × List Int)) (y : Int) (a2 : Option Addr) (n2 c2 : Nat) (qs : List (Int × List Int)) (w : World) (h1 : OpsAt w (.slice a1 n1 c1) rs) (h2 : OpsAt w (.slice a2 n2 c2) qs) :
    Calls Tryd.prog 44 #[.agg #[.int .i64 x, .slice a1 n1 c1], .agg #[.int .i64 y, .slice a2 n2 c2]] w fun e w' => e = .returned (.bool (eqI x rs y qs)) ∧ Below w.heap.size w w' := by
  have H1 := Lib.hid h1
  have H2 := Lib.hid h2
  clear h1 h2
  by_cases hxy : x = y
  · subst hxy
    have HF : Hid (eqI x rs x qs = eqB rs qs) := by simp [Hid, eqI, eqB]
    cases hb : eqB rs qs with
    | true =>
      have HB := Lib.hid hb
      clear hb
      go_enter Tryd.func44, Tryd.ntmps44
      go_wp2_with fail
      have hbw := ((Below.refl w.heap.size w).alloc (Nat.le_refl _) (.cells #[.int .i64 x, .slice a1 n1 c1] 80)).alloc (by simp) (.cells #[.int .i64 x, .slice a2 n2 c2] 80)
      refine (eqConS' _ _ _ _ _ _ (H1.out.below hbw) (H2.out.below hbw) HB.out).mono ?_
      rintro e w2 ⟨rfl, hq⟩
      have HQ := Lib.hid (hbw.trans (hq.mono hbw.size))
      clear hq hbw
      go_wp2
      go_ret
      exact ⟨ret_bool (by rw [HF.out, HB.out]), HQ.out⟩
    | false =>
      have HB := Lib.hid hb
      clear hb
      go_enter Tryd.func44, Tryd.ntmps44
      go_wp2_with fail
      have hbw := ((Below.refl w.heap.size w).alloc (Nat.le_refl _) (.cells #[.int .i64 x, .slice a1 n1 c1] 80)).alloc (by simp) (.cells #[.int .i64 x, .slice a2 n2 c2] 80)
      refine (eqConS' _ _ _ _ _ _ (H1.out.below hbw) (H2.out.below hbw) HB.out).mono ?_
      rintro e w2 ⟨rfl, hq⟩
      have HQ := Lib.hid (hbw.trans (hq.mono hbw.size))
      clear hq hbw
      go_wp2
      go_ret
      exact ⟨ret_bool (by rw [HF.out, HB.out]), HQ.out⟩
  · have HF : Hid (eqI x rs y qs = false) := by simp [Hid, eqI, eqB, hxy]
    have hne : (x == y) = false := beq_eq_false_iff_ne.2 hxy
    go_enter Tryd.func44, Tryd.ntmps44
    go_wp2
    go_ret
    exact ⟨ret_bool HF.out.symm, ((Below.refl _ _).alloc (Nat.le_refl _) _).alloc (by simp) _⟩

theorem eqInstance' (x : Int) (a1 : Option Addr) (n1 c1 : Nat) (rs : List (Int × List Int)) (y : Int) (a2 : Option Addr) (n2 c2 : Nat) (qs : List (Int × List Int)) (b : Bool) (w : World) (h1 : OpsAt w (.slice a1 n1 c1) rs) (h2 : OpsAt w (.slice a2 n2 c2) qs) (hb : eqI x rs y qs = b) :
    Calls Tryd.prog 44 #[.agg #[.int .i64 x, .slice a1 n1 c1], .agg #[.int .i64 y, .slice a2 n2 c2]] w fun e w' => e = .returned (.bool b) ∧ Below w.heap.size w w' := hb ▸ eqInstance x a1 n1 c1 rs y a2 n2 c2 qs w h1 h2

end Go.Proofs.YtadpnckpgpamiabDoor
