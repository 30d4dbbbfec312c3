/-
  The kinds of operations, of the program: at, isKind.
-/
import Derived.Test.YtclhcnfgpkhplaaKinds8
import Derived.Test.YtclhcnfgpkhplaaTab
import Derived.Test.YtclhcnfgpkhplaaProjOp
namespace Go.Proofs.Ytclhcnfgpkhplaa
open Go.RowKit

set_option maxRecDepth 100000 in
theorem isKind (k : Int) (b : Bool) (w : World) (hb : Tells b (InP k 1 10)) :
    Calls Try.prog 69 #[.int .i64 k] w fun e w' => e = .returned (.bool b) ∧ w = w' := by
  have HB := Lib.hid hb
  clear hb
  by_cases h1 : 1 ≤ k
  · by_cases h2 : k ≤ 10
    · have HF := Lib.hid (HB.out.is_true ⟨h1, h2⟩)
      go_enter Try.func69, Try.ntmps69
      go_wp2
      go_ret
      exact ⟨ret_bool HF.out.symm, rfl⟩
    · have HF := Lib.hid (HB.out.is_false fun h => h2 h.2)
      go_enter Try.func69, Try.ntmps69
      go_wp2
      go_ret
      exact ⟨ret_bool HF.out.symm, rfl⟩
  · have HF := Lib.hid (HB.out.is_false fun h => h1 h.1)
    go_enter Try.func69, Try.ntmps69
    go_wp2
    go_ret
    exact ⟨ret_bool HF.out.symm, rfl⟩

set_option linter.unusedSimpArgs false in
set_option maxHeartbeats 1000000 in
set_option maxRecDepth 100000 in
theorem opAt (s r b q m : Nat) (G : Nat → Int) (ar : Int) (v : Value) (xs : List Int) (x : Int) (w : World) (hT : TabAt w b G) (hv : RowAt w v xs) (hs : In14 (s : Int)) (har : In14 ar) (ht : TupP s ar xs) (hm : codeN s xs = m) (hmq : m < q) (hq : q ≤ 64) (hG : G m = x) (hx : 0 ≤ x ∧ x < 256) :
    Calls Try.prog 146 #[.agg #[.int .i64 s, .int .i64 r, .slice (some ⟨b, 0, none⟩) q q], v] w fun e w' => e = .returned (.int .i64 x) ∧ Below w.heap.size w w' := by
  have HA : Hid (Below w.heap.size w (w.alloc (.cells #[.int .i64 s, .int .i64 r, .slice (some ⟨b, 0, none⟩) q q] 105))) := Lib.hid ((Below.refl _ _).alloc (Nat.le_refl _) _)
  have cT := (hT.below HA.out).c m (by omega)
  rw [hG] at cT
  have HV := Lib.hid (hv.below HA.out)
  have HS := Lib.hid hs
  have HR := Lib.hid har
  have HT := Lib.hid ht
  have HM := Lib.hid hm
  have hmq' : (m : Int) < (q : Int) := by omega
  have hx0 := hx.1
  have hx1 := hx.2
  clear hT hv hs har ht hm hG hx
  go_enter Try.func146, Try.ntmps146
  go_wp2
  go_quiet ((go_at_call 156; exact QW.calls_same (numberOfN _ _ _ _ _ _ (((QW.refl _).drewN _).row HV.out) HS.out HR.out HT.out HM.out)))
  go_wp2
  go_ret
  exact ⟨rfl, HA.out.trans (((QW.refl _).drewN _).below _)⟩
end Go.Proofs.Ytclhcnfgpkhplaa
