/-
  Operations: the laws' copies, measures, comparisons and marks of them; valid operations; ValidOp and SameOp of the model and of the program.
-/
import Derived.Test.YtnbgpeoceejolaaGBase
import Derived.Test.YtnbgpeoceejolaaGSet
import Derived.Test.YtnbgpeoceejolaaGRel
namespace Go.Proofs.Ytnbgpeoceejolaa
open Go.RowKit

theorem OwnRow.stored {w : World} {B : Nat} {v : Value} {xs : List Int} (h : OwnRow w B v xs) {p : Addr} (hp : p.block < B) (u : Value) : OwnRow (w.setCell p u) B v xs :=
  ownsRow_same h fun g hg => Below.heap_setCell _ _ _ _ (by have := (h.lt g hg).1; omega)

/-- An operation (or what else has a number and a row) of its own. -/
def MadeOp (w : World) (ar : Int) (xs : List Int) (e : Ending) (w' : World) : Prop :=
  ∃ a n c, e = .returned (.agg #[.int .i64 ar, .slice a n c]) ∧ OwnRowE w' w.heap.size w'.heap.size (.slice a n c) xs ∧ Below w.heap.size w w'

set_option maxHeartbeats 400000 in
theorem toOp (ar : Int) (a : Option Addr) (n c : Nat) (xs : List Int) (w : World) (h : RowAt w (.slice a n c) xs) (hl : xs.length ≤ 1048576) :
    Calls Try.prog 67 #[.agg #[.int .i64 ar, .slice a n c]] w (MadeOp w ar xs) := by
  have hH := Lib.hid h
  clear h
  go_enter Try.func67, Try.ntmps67
  go_wp2_with fail
  refine (toRow _ _ _ (hH.out.below ((((Below.refl _ _).alloc (Nat.le_refl _) _).alloc (by simp) _).alloc (by simp; omega) _)) hl).mono ?_
  rintro e w2 ⟨a2, n2, c2, rfl, ho, hb2⟩
  obtain ⟨hc, hf⟩ := bcell hb2
  have hz : w.heap.size + 3 ≤ w2.heap.size := by have := hb2.size; simp at this; omega
  have HO := Lib.hid ho
  have HB := Lib.hid hb2
  clear ho hb2
  go_wp2
  refine bodyPost_ret (v := .agg #[.int .i64 ar, .slice a2 n2 c2]) (by simp [results, Try.results67, go_sem, hc]) rfl ⟨a2, n2, c2, rfl, ?_, ?_⟩
  · exact ((((HO.out.stored (by simp) _).stored (by simp) _).stored (by simp) _).mono (by simp; omega)).full
  · exact ((((((((Below.refl _ _).alloc (Nat.le_refl _) _).alloc (by simp) _).alloc (by simp; omega) _).trans (HB.out.mono (by simp; omega))).setCell (by simp; omega) _).setCell (by simp) _).setCell (by simp) _)

/-- what an operation is compared by -/
def eqO (a : Int) (xs : List Int) (b : Int) (ys : List Int) : Bool := eqB a b && eqB xs ys
theorem eqO_same (x : Int) (xs : List Int) : eqO x xs x xs = true := by simp [eqO, eqB]
theorem eqO_no_arity {x y : Int} {xs ys : List Int} (h : x ≠ y) : eqO x xs y ys = false := by simp [eqO, eqB, h]
theorem eqO_rows {x : Int} {xs ys : List Int} : eqO x xs x ys = eqB xs ys := by simp [eqO, eqB]

set_option maxHeartbeats 400000 in
theorem eqOp (x : Int) (a1 : Option Addr) (n1 c1 : Nat) (xs : List Int) (y : Int) (a2 : Option Addr) (n2 c2 : Nat) (ys : List Int) (w : World) (h1 : RowAt w (.slice a1 n1 c1) xs) (h2 : RowAt w (.slice a2 n2 c2) ys) :
    Calls Try.prog 69 #[.agg #[.int .i64 x, .slice a1 n1 c1], .agg #[.int .i64 y, .slice a2 n2 c2]] w fun e w' => e = .returned (.bool (eqO x xs y ys)) ∧ Below w.heap.size w w' := by
  have H1 := Lib.hid h1
  have H2 := Lib.hid h2
  clear h1 h2
  by_cases hxy : x = y
  · subst hxy
    have HF : Hid (eqO x xs x ys = eqB xs ys) := by simp [Hid, eqO, eqB]
    cases hb : eqB xs ys with
    | true =>
      have HB := Lib.hid hb
      clear hb
      go_enter Try.func69, Try.ntmps69
      go_wp2_with fail
      have hbw := ((Below.refl w.heap.size w).alloc (Nat.le_refl _) (.cells #[.int .i64 x, .slice a1 n1 c1] 96)).alloc (by simp) (.cells #[.int .i64 x, .slice a2 n2 c2] 96)
      refine (eqRow' _ _ _ _ _ _ (H1.out.below hbw) (H2.out.below hbw) HB.out).mono ?_
      rintro e w2 ⟨rfl, hq⟩
      have HQ := Lib.hid (hbw.trans (hq.below _))
      clear hq hbw
      go_wp2
      go_ret
      exact ⟨ret_bool (by rw [HF.out, HB.out]), HQ.out⟩
    | false =>
      have HB := Lib.hid hb
      clear hb
      go_enter Try.func69, Try.ntmps69
      go_wp2_with fail
      have hbw := ((Below.refl w.heap.size w).alloc (Nat.le_refl _) (.cells #[.int .i64 x, .slice a1 n1 c1] 96)).alloc (by simp) (.cells #[.int .i64 x, .slice a2 n2 c2] 96)
      refine (eqRow' _ _ _ _ _ _ (H1.out.below hbw) (H2.out.below hbw) HB.out).mono ?_
      rintro e w2 ⟨rfl, hq⟩
      have HQ := Lib.hid (hbw.trans (hq.below _))
      clear hq hbw
      go_wp2
      go_ret
      exact ⟨ret_bool (by rw [HF.out, HB.out]), HQ.out⟩
  · have HF : Hid (eqO x xs y ys = false) := by simp [Hid, eqO, eqB, hxy]
    have hne : (x == y) = false := beq_eq_false_iff_ne.2 hxy
    go_enter Try.func69, Try.ntmps69
    go_wp2
    go_ret
    exact ⟨ret_bool HF.out.symm, ((Below.refl _ _).alloc (Nat.le_refl _) _).alloc (by simp) _⟩

theorem eqOp' (x : Int) (a1 : Option Addr) (n1 c1 : Nat) (xs : List Int) (y : Int) (a2 : Option Addr) (n2 c2 : Nat) (ys : List Int) (b : Bool) (w : World) (h1 : RowAt w (.slice a1 n1 c1) xs) (h2 : RowAt w (.slice a2 n2 c2) ys) (hb : eqO x xs y ys = b) :
    Calls Try.prog 69 #[.agg #[.int .i64 x, .slice a1 n1 c1], .agg #[.int .i64 y, .slice a2 n2 c2]] w fun e w' => e = .returned (.bool b) ∧ Below w.heap.size w w' := hb ▸ eqOp x a1 n1 c1 xs y a2 n2 c2 ys w h1 h2

set_option maxHeartbeats 400000 in
theorem szOp (x : Int) (a : Option Addr) (n c : Nat) (xs : List Int) (left : Int) (w : World) (h : RowAt w (.slice a n c) xs) (h0 : 0 ≤ left) (h1 : left ≤ 1048576) :
    Calls Try.prog 65 #[.agg #[.int .i64 x, .slice a n c], .int .i64 left] w fun e w' => e = .returned (.int .i64 (szF xs.length left)) ∧ Below w.heap.size w w' := by
  have H := Lib.hid h
  clear h
  by_cases hl : left < xs.length
  · have HF := Lib.hid (szF_no hl)
    go_enter Try.func65, Try.ntmps65
    go_wp2_with fail
    have hbw := (Below.refl w.heap.size w).alloc (Nat.le_refl _) (.cells #[.int .i64 x, .slice a n c] 92)
    refine (szRow _ _ _ _ (H.out.below hbw) h0 h1).mono ?_
    rw [HF.out]
    rintro e w2 ⟨rfl, rfl⟩
    have HQ := Lib.hid hbw
    clear hbw
    go_wp2
    go_ret
    exact ⟨ret_int HF.out.symm, HQ.out⟩
  · have HF := Lib.hid (szF_yes (t := xs.length) (l := left) (by omega))
    have hl' : ¬ left - xs.length < 0 := by omega
    go_enter Try.func65, Try.ntmps65
    go_wp2_with fail
    have hbw := (Below.refl w.heap.size w).alloc (Nat.le_refl _) (.cells #[.int .i64 x, .slice a n c] 92)
    refine (szRow _ _ _ _ (H.out.below hbw) h0 h1).mono ?_
    rw [HF.out]
    rintro e w2 ⟨rfl, rfl⟩
    have HQ := Lib.hid hbw
    clear hbw
    go_wp2
    go_ret
    exact ⟨ret_int HF.out.symm, HQ.out⟩

set_option maxHeartbeats 1000000 in
theorem markOp (B E : Nat) (ar : Int) (a : Option Addr) (n c : Nat) (xs : List Int) (k0 : Int) (w : World) (h : OwnRowE w B E (.slice a n c) xs) (hk0 : 0 ≤ k0) (hk1 : k0 + xs.length ≤ 1000000000000) :
    Calls Try.prog 70 #[.agg #[.int .i64 ar, .slice a n c], .int .i64 k0] w fun e w' => e = .returned (.int .i64 (k0 + xs.length)) ∧ OwnRowE w' B E (.slice a n c) (marks k0 xs.length) ∧ Only (fun g => B ≤ g ∧ g < E) w w' := by
  have hbw : Below w.heap.size w (w.alloc (.cells #[.int .i64 ar, .slice a n c] 96)) := (Below.refl _ _).alloc (Nat.le_refl _) _
  have H := Lib.hid (h.below hbw)
  have HN : Hid (Only (fun g => B ≤ g ∧ g < E) w (w.alloc (.cells #[.int .i64 ar, .slice a n c] 96))) := ⟨rfl, rfl, rfl, by simp, fun k hk _ => Below.heap_alloc _ _ _ hk⟩
  clear h hbw
  go_enter Try.func70, Try.ntmps70
  go_wp2_with fail
  refine (markRow B _ _ _ _ H.out.row hk0 hk1).mono ?_
  rintro e w2 ⟨rfl, ho2, hn2⟩
  have HO := Lib.hid (Only.rowE H.out hn2 ho2)
  clear ho2 hn2
  go_wp2
  go_ret
  exact ⟨rfl, HO.out.1, HN.out.trans HO.out.2⟩

end Go.Proofs.Ytnbgpeoceejolaa
