/-
  Valid formulas: ValidFormula of the model and of the program.
-/
import Derived.Test.YtnbgpeoceejolaaFormOk
import Derived.Test.YtnbgpeoceejolaaGBase
namespace Go.Proofs.Ytnbgpeoceejolaa
open Go.RowKit

theorem TplAt.new (w : World) (sz : Int) (a : Option Addr) (n c : Nat) (rs : List (Int × List (List Int))) (t : TypeId) (h : RelsAt w (.slice a n c) rs) : TplAt (w.alloc (.cells #[.int .i64 sz, .slice a n c] t)) w.heap.size 0 sz rs :=
  ⟨by simp [World.cell?_alloc_new], a, n, c, by simp [World.cell?_alloc_new], h.below ((Below.refl _ _).alloc (Nat.le_refl _) _)⟩

/-- What has a text. -/
def TextAt (va rel : Int) (args : List Int) : Prop := InP rel (-1) 5 ∧ In14 args.length ∧ TupP va args.length args
def TextOk (fr va : Int) (fs : List (Int × List Int)) : Prop := CountsOk fr va fs.length ∧ ∀ k, k < fs.length → TextAt va (arO fs k) (rowO fs k)

theorem FormOk.text {sz : Int} {rs : List (Int × List (List Int))} {fr va : Int} {fs : List (Int × List Int)} (h : FormOk sz rs fr va fs) : TextOk fr va fs := by
  refine ⟨h.2.1, fun k hk => ?_⟩
  obtain ⟨h1, h2, h3⟩ := h.2.2 k hk
  have hl : InP (arO fs k) (-1) 5 ∧ In14 (arityOf rs (arO fs k)) := by
    by_cases e : arO fs k = -1
    · rw [e, arityOf_eq]; exact ⟨⟨by omega, by omega⟩, ⟨by omega, by omega⟩⟩
    · by_cases hin : 0 ≤ arO fs k ∧ arO fs k < rs.length
      · obtain ⟨m, hm⟩ : ∃ m : Nat, arO fs k = m := ⟨(arO fs k).toNat, by omega⟩
        rw [hm] at hin ⊢
        rw [arityOf_in (by omega)]
        exact ⟨⟨by omega, by have := h.1.2.1; omega⟩, (h.1.2.2 m (by omega)).2.1⟩
      · exact absurd (arityOf_out e hin) h1
  exact ⟨hl.1, h2 ▸ hl.2, rfl, h3⟩

theorem five_below {w w1 w2 : World} {C : List (Addr × Value)} {R : List (World → Prop)} {a1 a2 a3 a4 a5 : Addr} {x1 x2 x3 x4 x5 : Value}
    (h : w1.cell? a1 = some x1 ∧ w1.cell? a2 = some x2 ∧ w1.cell? a3 = some x3 ∧ w1.cell? a4 = some x4 ∧ w1.cell? a5 = some x5 ∧ Kept w C R w1) (hb : Below w1.heap.size w1 w2) :
    w2.cell? a1 = some x1 ∧ w2.cell? a2 = some x2 ∧ w2.cell? a3 = some x3 ∧ w2.cell? a4 = some x4 ∧ w2.cell? a5 = some x5 ∧ Kept w C R w2 :=
  ⟨below_cell hb h.1, below_cell hb h.2.1, below_cell hb h.2.2.1, below_cell hb h.2.2.2.1, below_cell hb h.2.2.2.2.1, h.2.2.2.2.2.below hb⟩

set_option maxHeartbeats 400000 in
theorem isRelOf (sz : Int) (a : Option Addr) (n c : Nat) (rs : List (Int × List (List Int))) (rel : Int) (b : Bool) (w : World) (h : RelsAt w (.slice a n c) rs) (hb : Tells b (0 ≤ rel ∧ rel < rs.length)) :
    Calls Try.prog 164 #[.agg #[.int .i64 sz, .slice a n c], .int .i64 rel] w fun e w' => e = .returned (.bool b) ∧ Below w.heap.size w w' := by
  obtain ⟨a', c', hv, hn, -⟩ := h
  simp only [Value.slice.injEq] at hv
  obtain ⟨rfl, rfl, rfl⟩ := hv
  have HBW := Lib.hid ((Below.refl w.heap.size w).alloc (Nat.le_refl _) (.cells #[.int .i64 sz, .slice a rs.length c] 78))
  have HB := Lib.hid hb
  clear hb
  by_cases h1 : 0 ≤ rel
  · by_cases h2 : rel < rs.length
    · have HF := Lib.hid (HB.out.is_true ⟨h1, h2⟩)
      go_enter Try.func164, Try.ntmps164
      go_wp2
      go_ret
      exact ⟨ret_bool HF.out.symm, HBW.out⟩
    · have HF := Lib.hid (HB.out.is_false fun h => h2 h.2)
      go_enter Try.func164, Try.ntmps164
      go_wp2
      go_ret
      exact ⟨ret_bool HF.out.symm, HBW.out⟩
  · have HF := Lib.hid (HB.out.is_false fun h => h1 h.1)
    go_enter Try.func164, Try.ntmps164
    go_wp2
    go_ret
    exact ⟨ret_bool HF.out.symm, HBW.out⟩

end Go.Proofs.Ytnbgpeoceejolaa
