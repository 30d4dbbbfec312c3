/-
  The kinds of operations, of the model: l02Kind.
-/
import Derived.Test.YtclhcnfgpkhplaaKinds6
namespace Go.Proofs.Ytclhcnfgpkhplaa
open Go.RowKit

def KindP (s r : Nat) (tab : List Int) : Nat → Prop
  | 1 => FlatP s r tab
  | 2 => ConstP tab
  | 3 => IdemP s r tab
  | 4 => ConsP s r tab
  | 5 => r = 2 ∧ SymP s r tab
  | 6 => r = 2 ∧ SymP s r tab ∧ IdemP s r tab ∧ AssocP s tab
  | 7 => ThirdsP s r tab true false
  | 8 => ThirdsP s r tab true true
  | 9 => ThirdsP s r tab false true
  | 10 => SymP s r tab
  | _ => False

set_option linter.unusedSimpArgs false in
set_option linter.unusedVariables false in
set_option maxHeartbeats 1000000 in
set_option maxRecDepth 100000 in
theorem l02Kind1 (s r : Nat) (pb po : Nat) (tab : List Int) (b : Bool) (w : World) (hop : OpAt w pb po r tab) (ho : OpOk s r tab) (hb : Tells b (FlatP s r tab)) :
    Calls Try.prog 67 #[.int .i64 s, .pointer (some ⟨pb, po, none⟩), .int .i64 1] w fun e w' => e = .returned (.bool b) ∧ Below w.heap.size w w' := by
  have HOP := Lib.hid hop
  have HO := Lib.hid ho
  have HB := Lib.hid hb
  clear hop ho hb
  go_enter Try.func67, Try.ntmps67
  go_wp2_with fail
  refine (l02FlatP s r pb po tab b _ HOP.out HO.out HB.out).mono ?_
  rintro e w1 ⟨rfl, hb1⟩
  go_wp2
  go_ret
  exact ⟨rfl, hb1⟩

set_option linter.unusedSimpArgs false in
set_option linter.unusedVariables false in
set_option maxHeartbeats 1000000 in
set_option maxRecDepth 100000 in
theorem l02Kind2 (s r : Nat) (pb po : Nat) (tab : List Int) (b : Bool) (w : World) (hop : OpAt w pb po r tab) (ho : OpOk s r tab) (hb : Tells b (ConstP tab)) :
    Calls Try.prog 67 #[.int .i64 s, .pointer (some ⟨pb, po, none⟩), .int .i64 2] w fun e w' => e = .returned (.bool b) ∧ Below w.heap.size w w' := by
  have HOP := Lib.hid hop
  have HO := Lib.hid ho
  have HB := Lib.hid hb
  clear hop ho hb
  go_enter Try.func67, Try.ntmps67
  go_wp2_with fail
  refine (l02FlatC s r pb po tab b _ HOP.out HO.out HB.out).mono ?_
  rintro e w1 ⟨rfl, hb1⟩
  go_wp2
  go_ret
  exact ⟨rfl, hb1⟩

set_option linter.unusedSimpArgs false in
set_option linter.unusedVariables false in
set_option maxHeartbeats 1000000 in
set_option maxRecDepth 100000 in
theorem l02Kind3 (s r : Nat) (pb po : Nat) (tab : List Int) (b : Bool) (w : World) (hop : OpAt w pb po r tab) (ho : OpOk s r tab) (hb : Tells b (IdemP s r tab)) :
    Calls Try.prog 67 #[.int .i64 s, .pointer (some ⟨pb, po, none⟩), .int .i64 3] w fun e w' => e = .returned (.bool b) ∧ Below w.heap.size w w' := by
  have HOP := Lib.hid hop
  have HO := Lib.hid ho
  have HB := Lib.hid hb
  clear hop ho hb
  go_enter Try.func67, Try.ntmps67
  go_wp2_with fail
  refine (l02Idempotent s r pb po tab b _ HOP.out HO.out HB.out).mono ?_
  rintro e w1 ⟨rfl, hb1⟩
  go_wp2
  go_ret
  exact ⟨rfl, hb1⟩

set_option linter.unusedSimpArgs false in
set_option linter.unusedVariables false in
set_option maxHeartbeats 1000000 in
set_option maxRecDepth 100000 in
theorem l02Kind4 (s r : Nat) (pb po : Nat) (tab : List Int) (b : Bool) (w : World) (hop : OpAt w pb po r tab) (ho : OpOk s r tab) (hb : Tells b (ConsP s r tab)) :
    Calls Try.prog 67 #[.int .i64 s, .pointer (some ⟨pb, po, none⟩), .int .i64 4] w fun e w' => e = .returned (.bool b) ∧ Below w.heap.size w w' := by
  have HOP := Lib.hid hop
  have HO := Lib.hid ho
  have HB := Lib.hid hb
  clear hop ho hb
  go_enter Try.func67, Try.ntmps67
  go_wp2_with fail
  refine (l02Conservative s r pb po tab b _ HOP.out HO.out HB.out).mono ?_
  rintro e w1 ⟨rfl, hb1⟩
  go_wp2
  go_ret
  exact ⟨rfl, hb1⟩

set_option linter.unusedSimpArgs false in
set_option linter.unusedVariables false in
set_option maxHeartbeats 1000000 in
set_option maxRecDepth 100000 in
theorem l02Kind5 (s r : Nat) (pb po : Nat) (tab : List Int) (b : Bool) (w : World) (hop : OpAt w pb po r tab) (ho : OpOk s r tab) (hb : Tells b (r = 2 ∧ SymP s r tab)) :
    Calls Try.prog 67 #[.int .i64 s, .pointer (some ⟨pb, po, none⟩), .int .i64 5] w fun e w' => e = .returned (.bool b) ∧ Below w.heap.size w w' := by
  have HOP := Lib.hid hop
  have HO := Lib.hid ho
  have HB := Lib.hid hb
  clear hop ho hb
  have c0 := HOP.out.1
  by_cases h2 : r = 2
  · subst h2
    have HS : Hid (Tells b (SymP s 2 tab)) := Lib.hid (HB.out.congr ⟨fun h => h.2, fun h => ⟨rfl, h⟩⟩)
    go_enter Try.func67, Try.ntmps67
    go_wp2_with fail
    refine (l02Symmetric s 2 pb po tab b _ HOP.out HO.out HS.out).mono ?_
    rintro e w1 ⟨rfl, hb1⟩
    go_wp2
    go_ret
    exact ⟨rfl, hb1⟩
  · have hne : ((r : Int) == 2) = false := by simp; omega
    have hne' : ¬ (r : Int) = 2 := by omega
    have HF := Lib.hid (HB.out.is_false fun h => h2 h.1)
    go_enter Try.func67, Try.ntmps67
    go_wp2
    go_ret
    exact ⟨ret_bool HF.out.symm, Below.refl _ _⟩

set_option linter.unusedSimpArgs false in
set_option linter.unusedVariables false in
set_option maxHeartbeats 1000000 in
set_option maxRecDepth 100000 in
theorem l02Kind6 (s r : Nat) (pb po : Nat) (tab : List Int) (b : Bool) (w : World) (hop : OpAt w pb po r tab) (ho : OpOk s r tab) (hb : Tells b (r = 2 ∧ SymP s r tab ∧ IdemP s r tab ∧ AssocP s tab)) :
    Calls Try.prog 67 #[.int .i64 s, .pointer (some ⟨pb, po, none⟩), .int .i64 6] w fun e w' => e = .returned (.bool b) ∧ Below w.heap.size w w' := by
  have HOP := Lib.hid hop
  have HO := Lib.hid ho
  have HB := Lib.hid hb
  clear hop ho hb
  have c0 := HOP.out.1
  by_cases h2 : r = 2
  · subst h2
    by_cases hs : SymP s 2 tab
    · have HS := Lib.hid (Tells.yes hs)
      by_cases hi : IdemP s 2 tab
      · have HI := Lib.hid (Tells.yes hi)
        have HAS : Hid (Tells b (AssocP s tab)) := Lib.hid (HB.out.congr ⟨fun h => h.2.2.2, fun h => ⟨rfl, hs, hi, h⟩⟩)
        clear hs hi
        go_enter Try.func67, Try.ntmps67
        go_wp2_with fail
        refine (l02Symmetric s 2 pb po tab true _ HOP.out HO.out HS.out).mono ?_
        rintro e w1 ⟨rfl, hb1⟩
        have HW1 := Lib.hid hb1
        go_wp2_with fail
        refine (l02Idempotent s 2 pb po tab true _ (HOP.out.below HW1.out) HO.out HI.out).mono ?_
        rintro e w2 ⟨rfl, hb2⟩
        have HW2 := Lib.hid (HW1.out.trans (hb2.mono HW1.out.size))
        clear hb1 hb2
        go_wp2_with fail
        refine (l02Associative s pb po tab b _ (HOP.out.below HW2.out) HO.out HAS.out).mono ?_
        rintro e w3 ⟨rfl, hb3⟩
        have HW3 := Lib.hid (HW2.out.trans (hb3.mono HW2.out.size))
        clear hb3
        go_wp2
        go_ret
        exact ⟨rfl, HW3.out⟩
      · have HI := Lib.hid (Tells.no hi)
        have HF := Lib.hid (HB.out.is_false fun h => hi h.2.2.1)
        clear hs hi
        go_enter Try.func67, Try.ntmps67
        go_wp2_with fail
        refine (l02Symmetric s 2 pb po tab true _ HOP.out HO.out HS.out).mono ?_
        rintro e w1 ⟨rfl, hb1⟩
        have HW1 := Lib.hid hb1
        go_wp2_with fail
        refine (l02Idempotent s 2 pb po tab false _ (HOP.out.below HW1.out) HO.out HI.out).mono ?_
        rintro e w2 ⟨rfl, hb2⟩
        have HW2 := Lib.hid (HW1.out.trans (hb2.mono HW1.out.size))
        clear hb1 hb2
        go_wp2
        go_ret
        exact ⟨ret_bool HF.out.symm, HW2.out⟩
    · have HS := Lib.hid (Tells.no hs)
      have HF := Lib.hid (HB.out.is_false fun h => hs h.2.1)
      clear hs
      go_enter Try.func67, Try.ntmps67
      go_wp2_with fail
      refine (l02Symmetric s 2 pb po tab false _ HOP.out HO.out HS.out).mono ?_
      rintro e w1 ⟨rfl, hb1⟩
      have HW1 := Lib.hid hb1
      clear hb1
      go_wp2
      go_ret
      exact ⟨ret_bool HF.out.symm, HW1.out⟩
  · have hne : ((r : Int) == 2) = false := by simp; omega
    have hne' : ¬ (r : Int) = 2 := by omega
    have HF := Lib.hid (HB.out.is_false fun h => h2 h.1)
    go_enter Try.func67, Try.ntmps67
    go_wp2
    go_ret
    exact ⟨ret_bool HF.out.symm, Below.refl _ _⟩

set_option linter.unusedSimpArgs false in
set_option linter.unusedVariables false in
set_option maxHeartbeats 1000000 in
set_option maxRecDepth 100000 in
theorem l02Kind7 (s r : Nat) (pb po : Nat) (tab : List Int) (b : Bool) (w : World) (hop : OpAt w pb po r tab) (ho : OpOk s r tab) (hb : Tells b (ThirdsP s r tab true false)) :
    Calls Try.prog 67 #[.int .i64 s, .pointer (some ⟨pb, po, none⟩), .int .i64 7] w fun e w' => e = .returned (.bool b) ∧ Below w.heap.size w w' := by
  have HOP := Lib.hid hop
  have HO := Lib.hid ho
  have HB := Lib.hid hb
  clear hop ho hb
  go_enter Try.func67, Try.ntmps67
  go_wp2_with fail
  refine (l02Thirds s r pb po tab true false b _ HOP.out HO.out HB.out).mono ?_
  rintro e w1 ⟨rfl, hb1⟩
  go_wp2
  go_ret
  exact ⟨rfl, hb1⟩

set_option linter.unusedSimpArgs false in
set_option linter.unusedVariables false in
set_option maxHeartbeats 1000000 in
set_option maxRecDepth 100000 in
theorem l02Kind8 (s r : Nat) (pb po : Nat) (tab : List Int) (b : Bool) (w : World) (hop : OpAt w pb po r tab) (ho : OpOk s r tab) (hb : Tells b (ThirdsP s r tab true true)) :
    Calls Try.prog 67 #[.int .i64 s, .pointer (some ⟨pb, po, none⟩), .int .i64 8] w fun e w' => e = .returned (.bool b) ∧ Below w.heap.size w w' := by
  have HOP := Lib.hid hop
  have HO := Lib.hid ho
  have HB := Lib.hid hb
  clear hop ho hb
  go_enter Try.func67, Try.ntmps67
  go_wp2_with fail
  refine (l02Thirds s r pb po tab true true b _ HOP.out HO.out HB.out).mono ?_
  rintro e w1 ⟨rfl, hb1⟩
  go_wp2
  go_ret
  exact ⟨rfl, hb1⟩

set_option linter.unusedSimpArgs false in
set_option linter.unusedVariables false in
set_option maxHeartbeats 1000000 in
set_option maxRecDepth 100000 in
theorem l02Kind9 (s r : Nat) (pb po : Nat) (tab : List Int) (b : Bool) (w : World) (hop : OpAt w pb po r tab) (ho : OpOk s r tab) (hb : Tells b (ThirdsP s r tab false true)) :
    Calls Try.prog 67 #[.int .i64 s, .pointer (some ⟨pb, po, none⟩), .int .i64 9] w fun e w' => e = .returned (.bool b) ∧ Below w.heap.size w w' := by
  have HOP := Lib.hid hop
  have HO := Lib.hid ho
  have HB := Lib.hid hb
  clear hop ho hb
  go_enter Try.func67, Try.ntmps67
  go_wp2_with fail
  refine (l02Thirds s r pb po tab false true b _ HOP.out HO.out HB.out).mono ?_
  rintro e w1 ⟨rfl, hb1⟩
  go_wp2
  go_ret
  exact ⟨rfl, hb1⟩

set_option linter.unusedSimpArgs false in
set_option linter.unusedVariables false in
set_option maxHeartbeats 1000000 in
set_option maxRecDepth 100000 in
theorem l02Kind10 (s r : Nat) (pb po : Nat) (tab : List Int) (b : Bool) (w : World) (hop : OpAt w pb po r tab) (ho : OpOk s r tab) (hb : Tells b (SymP s r tab)) :
    Calls Try.prog 67 #[.int .i64 s, .pointer (some ⟨pb, po, none⟩), .int .i64 10] w fun e w' => e = .returned (.bool b) ∧ Below w.heap.size w w' := by
  have HOP := Lib.hid hop
  have HO := Lib.hid ho
  have HB := Lib.hid hb
  clear hop ho hb
  go_enter Try.func67, Try.ntmps67
  go_wp2_with fail
  refine (l02Symmetric s r pb po tab b _ HOP.out HO.out HB.out).mono ?_
  rintro e w1 ⟨rfl, hb1⟩
  go_wp2
  go_ret
  exact ⟨rfl, hb1⟩

theorem l02Kind (s r : Nat) (k : Nat) (pb po : Nat) (tab : List Int) (b : Bool) (w : World) (hk : 1 ≤ k ∧ k ≤ 10) (hop : OpAt w pb po r tab) (ho : OpOk s r tab) (hb : Tells b (KindP s r tab k)) :
    Calls Try.prog 67 #[.int .i64 s, .pointer (some ⟨pb, po, none⟩), .int .i64 k] w fun e w' => e = .returned (.bool b) ∧ Below w.heap.size w w' := by
  match k, hk, hb with
  | 1, _, hb => exact l02Kind1 s r pb po tab b w hop ho hb
  | 2, _, hb => exact l02Kind2 s r pb po tab b w hop ho hb
  | 3, _, hb => exact l02Kind3 s r pb po tab b w hop ho hb
  | 4, _, hb => exact l02Kind4 s r pb po tab b w hop ho hb
  | 5, _, hb => exact l02Kind5 s r pb po tab b w hop ho hb
  | 6, _, hb => exact l02Kind6 s r pb po tab b w hop ho hb
  | 7, _, hb => exact l02Kind7 s r pb po tab b w hop ho hb
  | 8, _, hb => exact l02Kind8 s r pb po tab b w hop ho hb
  | 9, _, hb => exact l02Kind9 s r pb po tab b w hop ho hb
  | 10, _, hb => exact l02Kind10 s r pb po tab b w hop ho hb
  | 0, hk, _ => omega
  | k + 11, hk, _ => omega
end Go.Proofs.Ytclhcnfgpkhplaa
