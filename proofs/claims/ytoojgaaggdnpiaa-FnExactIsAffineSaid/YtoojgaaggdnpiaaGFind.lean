/-  What a last tuple adds: the number and the sums of the program's search for a break. The sums of the program's search for a break. tupleRows.cut of the program. opTable.rowsFor of the program. The tuple with a number, as an array of four bytes: smallTupleOf of the program. (*breakSearch).findLast of the program: the last tuple of a list, by the sums for all its values. (*breakSearch).find of the program: the first list of tuples of a relation of which an operation makes one that is none of it. The number of what a search of the program makes is the number of the tuple that the operation makes. No program in this text. firstBreak of the program: the first list of tuples of a relation that an operation breaks. -/
import Derived.Test.YtoojgaaggdnpiaaKeepM
import Derived.Test.YtoojgaaggdnpiaaTab
import Derived.Test.YtoojgaaggdnpiaaTupleOf
import Derived.Test.YtoojgaaggdnpiaaGRel
import Derived.Deep.CutRange
import Derived.Deep.AppendLies
import Derived.Test.YtoojgaaggdnpiaaGKeepS
import Derived.Test.YtoojgaaggdnpiaaMinor
import Derived.Test.YtoojgaaggdnpiaaPlace
namespace Go.Proofs.Ytoojgaaggdnpiaa
open Go.RowKit

set_option linter.unusedSimpArgs false in
set_option maxHeartbeats 4000000 in
set_option maxRecDepth 100000 in
theorem numberC (b off : Nat) (x0 x1 x2 x3 s0 s1 s2 s3 m : Nat) (w : World) (h0 : w.cell? ⟨b, off + x0, none⟩ = some (.int .u8 (s0 : Int))) (h1 : w.cell? ⟨b, off + 4 + x1, none⟩ = some (.int .u8 (s1 : Int))) (h2 : w.cell? ⟨b, off + 8 + x2, none⟩ = some (.int .u8 (s2 : Int))) (h3 : w.cell? ⟨b, off + 12 + x3, none⟩ = some (.int .u8 (s3 : Int)))
    (l0 : x0 < 4) (l1 : x1 < 4) (l2 : x2 < 4) (l3 : x3 < 4) (hm : s0 + s1 + s2 + s3 = m) (hm2 : m ≤ 255) :
    Calls Try.prog 170 #[.pointer (some ⟨b, off, none⟩), .agg #[.int .u8 (x0 : Int), .int .u8 (x1 : Int), .int .u8 (x2 : Int), .int .u8 (x3 : Int)]] w fun e w' => e = .returned (.int .i64 (m : Int)) ∧ Below w.heap.size w w' := by
  have HW : Hid (Below w.heap.size w (w.alloc (.cells #[.int .u8 (x0 : Int), .int .u8 (x1 : Int), .int .u8 (x2 : Int), .int .u8 (x3 : Int)] 165))) := Lib.hid ((Below.refl _ _).alloc (Nat.le_refl _) _)
  have HBX := Lib.hid (Box.new 165 w #[.int .u8 (x0 : Int), .int .u8 (x1 : Int), .int .u8 (x2 : Int), .int .u8 (x3 : Int)])
  have c0 := HBX.out.c 0 rfl
  have c1 := HBX.out.c 1 rfl
  have c2 := HBX.out.c 2 rfl
  have c3 := HBX.out.c 3 rfl
  have e0 := below_cell HW.out h0
  have e1 := below_cell HW.out h1
  have e2 := below_cell HW.out h2
  have e3 := below_cell HW.out h3
  obtain ⟨a1, ha1⟩ : ∃ a : Nat, s0 + s1 = a := ⟨_, rfl⟩
  obtain ⟨a2, ha2⟩ : ∃ a : Nat, a1 + s2 = a := ⟨_, rfl⟩
  have hw0 : ∀ x : Nat, x < 4 → Int.tmod (x : Int) 4 = (x : Int) := fun x hx => by rw [Int.tmod_eq_emod_of_nonneg (by omega)]; omega
  have r0 := hw0 x0 l0
  have r1 := hw0 x1 l1
  have r2 := hw0 x2 l2
  have r3 := hw0 x3 l3
  have g1 : IntKind.u8.wrap ((s0 : Int) + (s1 : Int)) = (a1 : Int) := by rw [IntWalk.u8_in _ (by omega)]; omega
  have g2 : IntKind.u8.wrap ((a1 : Int) + (s2 : Int)) = (a2 : Int) := by rw [IntWalk.u8_in _ (by omega)]; omega
  have g3 : IntKind.u8.wrap ((a2 : Int) + (s3 : Int)) = (m : Int) := by rw [IntWalk.u8_in _ (by omega)]; omega
  have q0 : (x0 : Int) < 4 := by omega
  have q1 : (x1 : Int) < 4 := by omega
  have q2 : (x2 : Int) < 4 := by omega
  have q3 : (x3 : Int) < 4 := by omega
  clear h0 h1 h2 h3 ha1 ha2 hm hw0
  go_enter Try.func170, Try.ntmps170
  go_wp2
  go_quiet (fail)
  go_wp2
  go_ret
  exact ⟨by first | rfl | trace_state, HW.out.trans (((QW.refl _).drewN _).below _)⟩

end Go.Proofs.Ytoojgaaggdnpiaa

namespace Go.Proofs.Ytoojgaaggdnpiaa
open Go.RowKit

/-- Sixteen bytes. -/
def arr16 (F : Nat → Nat) : Array Value := ((List.range 16).map fun i => Value.int .u8 (F i : Int)).toArray
theorem arr16_at (F : Nat → Nat) (i : Nat) (h : i < 16) : (arr16 F)[i]? = some (.int .u8 (F i : Int)) := by simp [arr16, h]
theorem arr16_set (F : Nat → Nat) (k x : Nat) : (arr16 F).setIfInBounds k (.int .u8 (x : Int)) = arr16 (fun i => if i = k then x else F i) := by
  unfold arr16
  rw [List.setIfInBounds_toArray]
  congr 1
  apply List.ext_getElem?
  intro j
  rw [List.getElem?_set]
  by_cases hj : k = j
  · subst hj
    by_cases h : k < 16 <;> simp [h]
  · rw [if_neg hj]
    by_cases h : j < 16
    · simp [h, show ¬ j = k from fun e => hj e.symm]
    · simp [h]
/-- What has been told of the sums. -/
def uptoS (H : Nat → Nat) (k : Nat) : Nat → Nat := fun i => if i < k then H i else 0
theorem uptoS_set (H : Nat → Nat) (k : Nat) : arr16 (fun i => if i = k then H k else uptoS H k i) = arr16 (uptoS H (k + 1)) := by
  congr 1
  funext i
  unfold uptoS
  by_cases h : i = k
  · subst h; simp
  · have e : i < k + 1 ↔ i < k := by omega
    simp [h, e]
theorem uptoS_skip {H : Nat → Nat} {k l : Nat} (h : k ≤ l) (hz : ∀ i, k ≤ i → i < l → H i = 0) : uptoS H k = uptoS H l := by
  funext i
  unfold uptoS
  by_cases h1 : i < k
  · simp [h1, show i < l by omega]
  · by_cases h2 : i < l
    · simp [h1, h2, hz i (by omega) h2]
    · simp [h1, h2]
/-- The sums: of each place and value, place by place. -/
def sumH (s q : Nat) (G : Nat → Nat → Nat) (i : Nat) : Nat := if i / 4 < q ∧ i % 4 < s then G (i / 4) (i % 4) * s ^ (q - 1 - i / 4) else 0
theorem sumH_at {s q : Nat} {G : Nat → Nat → Nat} {p v : Nat} (hp : p < q) (hv : v < s) (hs : s ≤ 4) : sumH s q G (4 * p + v) = G p v * s ^ (q - 1 - p) := by
  unfold sumH
  have h1 : (4 * p + v) / 4 = p := by omega
  have h2 : (4 * p + v) % 4 = v := by omega
  rw [h1, h2, if_pos ⟨hp, hv⟩]
theorem arr16_lit (F : Nat → Nat) : arr16 F = #[.int .u8 (F 0 : Int), .int .u8 (F 1 : Int), .int .u8 (F 2 : Int), .int .u8 (F 3 : Int), .int .u8 (F 4 : Int), .int .u8 (F 5 : Int), .int .u8 (F 6 : Int), .int .u8 (F 7 : Int), .int .u8 (F 8 : Int), .int .u8 (F 9 : Int), .int .u8 (F 10 : Int), .int .u8 (F 11 : Int), .int .u8 (F 12 : Int), .int .u8 (F 13 : Int), .int .u8 (F 14 : Int), .int .u8 (F 15 : Int)] := rfl
theorem Box.a0 {w : World} {b : Nat} {A : Nat → Nat} (h : Box 217 w b #[.int .u8 0, .int .u8 0, .int .u8 0, .int .u8 0, .int .u8 0, .int .u8 0, .int .u8 0, .int .u8 0, .int .u8 0, .int .u8 0, .int .u8 0, .int .u8 0, .int .u8 0, .int .u8 0, .int .u8 0, .int .u8 0]) : Box 217 (w.setCell ⟨b, 0, none⟩ (.int .u8 (A 0 : Int))) b #[.int .u8 (A 0 : Int), .int .u8 0, .int .u8 0, .int .u8 0, .int .u8 0, .int .u8 0, .int .u8 0, .int .u8 0, .int .u8 0, .int .u8 0, .int .u8 0, .int .u8 0, .int .u8 0, .int .u8 0, .int .u8 0, .int .u8 0] := by
  have e := h.set 0 (.int .u8 (A 0 : Int))
  rwa [show (#[.int .u8 0, .int .u8 0, .int .u8 0, .int .u8 0, .int .u8 0, .int .u8 0, .int .u8 0, .int .u8 0, .int .u8 0, .int .u8 0, .int .u8 0, .int .u8 0, .int .u8 0, .int .u8 0, .int .u8 0, .int .u8 0] : Array Value).setIfInBounds 0 (.int .u8 (A 0 : Int)) = #[.int .u8 (A 0 : Int), .int .u8 0, .int .u8 0, .int .u8 0, .int .u8 0, .int .u8 0, .int .u8 0, .int .u8 0, .int .u8 0, .int .u8 0, .int .u8 0, .int .u8 0, .int .u8 0, .int .u8 0, .int .u8 0, .int .u8 0] by simp [Array.setIfInBounds]] at e
theorem Box.a1 {w : World} {b : Nat} {A : Nat → Nat} (h : Box 217 w b #[.int .u8 (A 0 : Int), .int .u8 0, .int .u8 0, .int .u8 0, .int .u8 0, .int .u8 0, .int .u8 0, .int .u8 0, .int .u8 0, .int .u8 0, .int .u8 0, .int .u8 0, .int .u8 0, .int .u8 0, .int .u8 0, .int .u8 0]) : Box 217 (w.setCell ⟨b, 1, none⟩ (.int .u8 (A 1 : Int))) b #[.int .u8 (A 0 : Int), .int .u8 (A 1 : Int), .int .u8 0, .int .u8 0, .int .u8 0, .int .u8 0, .int .u8 0, .int .u8 0, .int .u8 0, .int .u8 0, .int .u8 0, .int .u8 0, .int .u8 0, .int .u8 0, .int .u8 0, .int .u8 0] := by
  have e := h.set 1 (.int .u8 (A 1 : Int))
  rwa [show (#[.int .u8 (A 0 : Int), .int .u8 0, .int .u8 0, .int .u8 0, .int .u8 0, .int .u8 0, .int .u8 0, .int .u8 0, .int .u8 0, .int .u8 0, .int .u8 0, .int .u8 0, .int .u8 0, .int .u8 0, .int .u8 0, .int .u8 0] : Array Value).setIfInBounds 1 (.int .u8 (A 1 : Int)) = #[.int .u8 (A 0 : Int), .int .u8 (A 1 : Int), .int .u8 0, .int .u8 0, .int .u8 0, .int .u8 0, .int .u8 0, .int .u8 0, .int .u8 0, .int .u8 0, .int .u8 0, .int .u8 0, .int .u8 0, .int .u8 0, .int .u8 0, .int .u8 0] by simp [Array.setIfInBounds]] at e
theorem Box.a2 {w : World} {b : Nat} {A : Nat → Nat} (h : Box 217 w b #[.int .u8 (A 0 : Int), .int .u8 (A 1 : Int), .int .u8 0, .int .u8 0, .int .u8 0, .int .u8 0, .int .u8 0, .int .u8 0, .int .u8 0, .int .u8 0, .int .u8 0, .int .u8 0, .int .u8 0, .int .u8 0, .int .u8 0, .int .u8 0]) : Box 217 (w.setCell ⟨b, 2, none⟩ (.int .u8 (A 2 : Int))) b #[.int .u8 (A 0 : Int), .int .u8 (A 1 : Int), .int .u8 (A 2 : Int), .int .u8 0, .int .u8 0, .int .u8 0, .int .u8 0, .int .u8 0, .int .u8 0, .int .u8 0, .int .u8 0, .int .u8 0, .int .u8 0, .int .u8 0, .int .u8 0, .int .u8 0] := by
  have e := h.set 2 (.int .u8 (A 2 : Int))
  rwa [show (#[.int .u8 (A 0 : Int), .int .u8 (A 1 : Int), .int .u8 0, .int .u8 0, .int .u8 0, .int .u8 0, .int .u8 0, .int .u8 0, .int .u8 0, .int .u8 0, .int .u8 0, .int .u8 0, .int .u8 0, .int .u8 0, .int .u8 0, .int .u8 0] : Array Value).setIfInBounds 2 (.int .u8 (A 2 : Int)) = #[.int .u8 (A 0 : Int), .int .u8 (A 1 : Int), .int .u8 (A 2 : Int), .int .u8 0, .int .u8 0, .int .u8 0, .int .u8 0, .int .u8 0, .int .u8 0, .int .u8 0, .int .u8 0, .int .u8 0, .int .u8 0, .int .u8 0, .int .u8 0, .int .u8 0] by simp [Array.setIfInBounds]] at e
theorem Box.a3 {w : World} {b : Nat} {A : Nat → Nat} (h : Box 217 w b #[.int .u8 (A 0 : Int), .int .u8 (A 1 : Int), .int .u8 (A 2 : Int), .int .u8 0, .int .u8 0, .int .u8 0, .int .u8 0, .int .u8 0, .int .u8 0, .int .u8 0, .int .u8 0, .int .u8 0, .int .u8 0, .int .u8 0, .int .u8 0, .int .u8 0]) : Box 217 (w.setCell ⟨b, 3, none⟩ (.int .u8 (A 3 : Int))) b #[.int .u8 (A 0 : Int), .int .u8 (A 1 : Int), .int .u8 (A 2 : Int), .int .u8 (A 3 : Int), .int .u8 0, .int .u8 0, .int .u8 0, .int .u8 0, .int .u8 0, .int .u8 0, .int .u8 0, .int .u8 0, .int .u8 0, .int .u8 0, .int .u8 0, .int .u8 0] := by
  have e := h.set 3 (.int .u8 (A 3 : Int))
  rwa [show (#[.int .u8 (A 0 : Int), .int .u8 (A 1 : Int), .int .u8 (A 2 : Int), .int .u8 0, .int .u8 0, .int .u8 0, .int .u8 0, .int .u8 0, .int .u8 0, .int .u8 0, .int .u8 0, .int .u8 0, .int .u8 0, .int .u8 0, .int .u8 0, .int .u8 0] : Array Value).setIfInBounds 3 (.int .u8 (A 3 : Int)) = #[.int .u8 (A 0 : Int), .int .u8 (A 1 : Int), .int .u8 (A 2 : Int), .int .u8 (A 3 : Int), .int .u8 0, .int .u8 0, .int .u8 0, .int .u8 0, .int .u8 0, .int .u8 0, .int .u8 0, .int .u8 0, .int .u8 0, .int .u8 0, .int .u8 0, .int .u8 0] by simp [Array.setIfInBounds]] at e
theorem Box.a4 {w : World} {b : Nat} {A : Nat → Nat} (h : Box 217 w b #[.int .u8 (A 0 : Int), .int .u8 (A 1 : Int), .int .u8 (A 2 : Int), .int .u8 (A 3 : Int), .int .u8 0, .int .u8 0, .int .u8 0, .int .u8 0, .int .u8 0, .int .u8 0, .int .u8 0, .int .u8 0, .int .u8 0, .int .u8 0, .int .u8 0, .int .u8 0]) : Box 217 (w.setCell ⟨b, 4, none⟩ (.int .u8 (A 4 : Int))) b #[.int .u8 (A 0 : Int), .int .u8 (A 1 : Int), .int .u8 (A 2 : Int), .int .u8 (A 3 : Int), .int .u8 (A 4 : Int), .int .u8 0, .int .u8 0, .int .u8 0, .int .u8 0, .int .u8 0, .int .u8 0, .int .u8 0, .int .u8 0, .int .u8 0, .int .u8 0, .int .u8 0] := by
  have e := h.set 4 (.int .u8 (A 4 : Int))
  rwa [show (#[.int .u8 (A 0 : Int), .int .u8 (A 1 : Int), .int .u8 (A 2 : Int), .int .u8 (A 3 : Int), .int .u8 0, .int .u8 0, .int .u8 0, .int .u8 0, .int .u8 0, .int .u8 0, .int .u8 0, .int .u8 0, .int .u8 0, .int .u8 0, .int .u8 0, .int .u8 0] : Array Value).setIfInBounds 4 (.int .u8 (A 4 : Int)) = #[.int .u8 (A 0 : Int), .int .u8 (A 1 : Int), .int .u8 (A 2 : Int), .int .u8 (A 3 : Int), .int .u8 (A 4 : Int), .int .u8 0, .int .u8 0, .int .u8 0, .int .u8 0, .int .u8 0, .int .u8 0, .int .u8 0, .int .u8 0, .int .u8 0, .int .u8 0, .int .u8 0] by simp [Array.setIfInBounds]] at e
theorem Box.a5 {w : World} {b : Nat} {A : Nat → Nat} (h : Box 217 w b #[.int .u8 (A 0 : Int), .int .u8 (A 1 : Int), .int .u8 (A 2 : Int), .int .u8 (A 3 : Int), .int .u8 (A 4 : Int), .int .u8 0, .int .u8 0, .int .u8 0, .int .u8 0, .int .u8 0, .int .u8 0, .int .u8 0, .int .u8 0, .int .u8 0, .int .u8 0, .int .u8 0]) : Box 217 (w.setCell ⟨b, 5, none⟩ (.int .u8 (A 5 : Int))) b #[.int .u8 (A 0 : Int), .int .u8 (A 1 : Int), .int .u8 (A 2 : Int), .int .u8 (A 3 : Int), .int .u8 (A 4 : Int), .int .u8 (A 5 : Int), .int .u8 0, .int .u8 0, .int .u8 0, .int .u8 0, .int .u8 0, .int .u8 0, .int .u8 0, .int .u8 0, .int .u8 0, .int .u8 0] := by
  have e := h.set 5 (.int .u8 (A 5 : Int))
  rwa [show (#[.int .u8 (A 0 : Int), .int .u8 (A 1 : Int), .int .u8 (A 2 : Int), .int .u8 (A 3 : Int), .int .u8 (A 4 : Int), .int .u8 0, .int .u8 0, .int .u8 0, .int .u8 0, .int .u8 0, .int .u8 0, .int .u8 0, .int .u8 0, .int .u8 0, .int .u8 0, .int .u8 0] : Array Value).setIfInBounds 5 (.int .u8 (A 5 : Int)) = #[.int .u8 (A 0 : Int), .int .u8 (A 1 : Int), .int .u8 (A 2 : Int), .int .u8 (A 3 : Int), .int .u8 (A 4 : Int), .int .u8 (A 5 : Int), .int .u8 0, .int .u8 0, .int .u8 0, .int .u8 0, .int .u8 0, .int .u8 0, .int .u8 0, .int .u8 0, .int .u8 0, .int .u8 0] by simp [Array.setIfInBounds]] at e
theorem Box.a6 {w : World} {b : Nat} {A : Nat → Nat} (h : Box 217 w b #[.int .u8 (A 0 : Int), .int .u8 (A 1 : Int), .int .u8 (A 2 : Int), .int .u8 (A 3 : Int), .int .u8 (A 4 : Int), .int .u8 (A 5 : Int), .int .u8 0, .int .u8 0, .int .u8 0, .int .u8 0, .int .u8 0, .int .u8 0, .int .u8 0, .int .u8 0, .int .u8 0, .int .u8 0]) : Box 217 (w.setCell ⟨b, 6, none⟩ (.int .u8 (A 6 : Int))) b #[.int .u8 (A 0 : Int), .int .u8 (A 1 : Int), .int .u8 (A 2 : Int), .int .u8 (A 3 : Int), .int .u8 (A 4 : Int), .int .u8 (A 5 : Int), .int .u8 (A 6 : Int), .int .u8 0, .int .u8 0, .int .u8 0, .int .u8 0, .int .u8 0, .int .u8 0, .int .u8 0, .int .u8 0, .int .u8 0] := by
  have e := h.set 6 (.int .u8 (A 6 : Int))
  rwa [show (#[.int .u8 (A 0 : Int), .int .u8 (A 1 : Int), .int .u8 (A 2 : Int), .int .u8 (A 3 : Int), .int .u8 (A 4 : Int), .int .u8 (A 5 : Int), .int .u8 0, .int .u8 0, .int .u8 0, .int .u8 0, .int .u8 0, .int .u8 0, .int .u8 0, .int .u8 0, .int .u8 0, .int .u8 0] : Array Value).setIfInBounds 6 (.int .u8 (A 6 : Int)) = #[.int .u8 (A 0 : Int), .int .u8 (A 1 : Int), .int .u8 (A 2 : Int), .int .u8 (A 3 : Int), .int .u8 (A 4 : Int), .int .u8 (A 5 : Int), .int .u8 (A 6 : Int), .int .u8 0, .int .u8 0, .int .u8 0, .int .u8 0, .int .u8 0, .int .u8 0, .int .u8 0, .int .u8 0, .int .u8 0] by simp [Array.setIfInBounds]] at e
theorem Box.a7 {w : World} {b : Nat} {A : Nat → Nat} (h : Box 217 w b #[.int .u8 (A 0 : Int), .int .u8 (A 1 : Int), .int .u8 (A 2 : Int), .int .u8 (A 3 : Int), .int .u8 (A 4 : Int), .int .u8 (A 5 : Int), .int .u8 (A 6 : Int), .int .u8 0, .int .u8 0, .int .u8 0, .int .u8 0, .int .u8 0, .int .u8 0, .int .u8 0, .int .u8 0, .int .u8 0]) : Box 217 (w.setCell ⟨b, 7, none⟩ (.int .u8 (A 7 : Int))) b #[.int .u8 (A 0 : Int), .int .u8 (A 1 : Int), .int .u8 (A 2 : Int), .int .u8 (A 3 : Int), .int .u8 (A 4 : Int), .int .u8 (A 5 : Int), .int .u8 (A 6 : Int), .int .u8 (A 7 : Int), .int .u8 0, .int .u8 0, .int .u8 0, .int .u8 0, .int .u8 0, .int .u8 0, .int .u8 0, .int .u8 0] := by
  have e := h.set 7 (.int .u8 (A 7 : Int))
  rwa [show (#[.int .u8 (A 0 : Int), .int .u8 (A 1 : Int), .int .u8 (A 2 : Int), .int .u8 (A 3 : Int), .int .u8 (A 4 : Int), .int .u8 (A 5 : Int), .int .u8 (A 6 : Int), .int .u8 0, .int .u8 0, .int .u8 0, .int .u8 0, .int .u8 0, .int .u8 0, .int .u8 0, .int .u8 0, .int .u8 0] : Array Value).setIfInBounds 7 (.int .u8 (A 7 : Int)) = #[.int .u8 (A 0 : Int), .int .u8 (A 1 : Int), .int .u8 (A 2 : Int), .int .u8 (A 3 : Int), .int .u8 (A 4 : Int), .int .u8 (A 5 : Int), .int .u8 (A 6 : Int), .int .u8 (A 7 : Int), .int .u8 0, .int .u8 0, .int .u8 0, .int .u8 0, .int .u8 0, .int .u8 0, .int .u8 0, .int .u8 0] by simp [Array.setIfInBounds]] at e
theorem Box.a8 {w : World} {b : Nat} {A : Nat → Nat} (h : Box 217 w b #[.int .u8 (A 0 : Int), .int .u8 (A 1 : Int), .int .u8 (A 2 : Int), .int .u8 (A 3 : Int), .int .u8 (A 4 : Int), .int .u8 (A 5 : Int), .int .u8 (A 6 : Int), .int .u8 (A 7 : Int), .int .u8 0, .int .u8 0, .int .u8 0, .int .u8 0, .int .u8 0, .int .u8 0, .int .u8 0, .int .u8 0]) : Box 217 (w.setCell ⟨b, 8, none⟩ (.int .u8 (A 8 : Int))) b #[.int .u8 (A 0 : Int), .int .u8 (A 1 : Int), .int .u8 (A 2 : Int), .int .u8 (A 3 : Int), .int .u8 (A 4 : Int), .int .u8 (A 5 : Int), .int .u8 (A 6 : Int), .int .u8 (A 7 : Int), .int .u8 (A 8 : Int), .int .u8 0, .int .u8 0, .int .u8 0, .int .u8 0, .int .u8 0, .int .u8 0, .int .u8 0] := by
  have e := h.set 8 (.int .u8 (A 8 : Int))
  rwa [show (#[.int .u8 (A 0 : Int), .int .u8 (A 1 : Int), .int .u8 (A 2 : Int), .int .u8 (A 3 : Int), .int .u8 (A 4 : Int), .int .u8 (A 5 : Int), .int .u8 (A 6 : Int), .int .u8 (A 7 : Int), .int .u8 0, .int .u8 0, .int .u8 0, .int .u8 0, .int .u8 0, .int .u8 0, .int .u8 0, .int .u8 0] : Array Value).setIfInBounds 8 (.int .u8 (A 8 : Int)) = #[.int .u8 (A 0 : Int), .int .u8 (A 1 : Int), .int .u8 (A 2 : Int), .int .u8 (A 3 : Int), .int .u8 (A 4 : Int), .int .u8 (A 5 : Int), .int .u8 (A 6 : Int), .int .u8 (A 7 : Int), .int .u8 (A 8 : Int), .int .u8 0, .int .u8 0, .int .u8 0, .int .u8 0, .int .u8 0, .int .u8 0, .int .u8 0] by simp [Array.setIfInBounds]] at e
theorem Box.a9 {w : World} {b : Nat} {A : Nat → Nat} (h : Box 217 w b #[.int .u8 (A 0 : Int), .int .u8 (A 1 : Int), .int .u8 (A 2 : Int), .int .u8 (A 3 : Int), .int .u8 (A 4 : Int), .int .u8 (A 5 : Int), .int .u8 (A 6 : Int), .int .u8 (A 7 : Int), .int .u8 (A 8 : Int), .int .u8 0, .int .u8 0, .int .u8 0, .int .u8 0, .int .u8 0, .int .u8 0, .int .u8 0]) : Box 217 (w.setCell ⟨b, 9, none⟩ (.int .u8 (A 9 : Int))) b #[.int .u8 (A 0 : Int), .int .u8 (A 1 : Int), .int .u8 (A 2 : Int), .int .u8 (A 3 : Int), .int .u8 (A 4 : Int), .int .u8 (A 5 : Int), .int .u8 (A 6 : Int), .int .u8 (A 7 : Int), .int .u8 (A 8 : Int), .int .u8 (A 9 : Int), .int .u8 0, .int .u8 0, .int .u8 0, .int .u8 0, .int .u8 0, .int .u8 0] := by
  have e := h.set 9 (.int .u8 (A 9 : Int))
  rwa [show (#[.int .u8 (A 0 : Int), .int .u8 (A 1 : Int), .int .u8 (A 2 : Int), .int .u8 (A 3 : Int), .int .u8 (A 4 : Int), .int .u8 (A 5 : Int), .int .u8 (A 6 : Int), .int .u8 (A 7 : Int), .int .u8 (A 8 : Int), .int .u8 0, .int .u8 0, .int .u8 0, .int .u8 0, .int .u8 0, .int .u8 0, .int .u8 0] : Array Value).setIfInBounds 9 (.int .u8 (A 9 : Int)) = #[.int .u8 (A 0 : Int), .int .u8 (A 1 : Int), .int .u8 (A 2 : Int), .int .u8 (A 3 : Int), .int .u8 (A 4 : Int), .int .u8 (A 5 : Int), .int .u8 (A 6 : Int), .int .u8 (A 7 : Int), .int .u8 (A 8 : Int), .int .u8 (A 9 : Int), .int .u8 0, .int .u8 0, .int .u8 0, .int .u8 0, .int .u8 0, .int .u8 0] by simp [Array.setIfInBounds]] at e
theorem Box.a10 {w : World} {b : Nat} {A : Nat → Nat} (h : Box 217 w b #[.int .u8 (A 0 : Int), .int .u8 (A 1 : Int), .int .u8 (A 2 : Int), .int .u8 (A 3 : Int), .int .u8 (A 4 : Int), .int .u8 (A 5 : Int), .int .u8 (A 6 : Int), .int .u8 (A 7 : Int), .int .u8 (A 8 : Int), .int .u8 (A 9 : Int), .int .u8 0, .int .u8 0, .int .u8 0, .int .u8 0, .int .u8 0, .int .u8 0]) : Box 217 (w.setCell ⟨b, 10, none⟩ (.int .u8 (A 10 : Int))) b #[.int .u8 (A 0 : Int), .int .u8 (A 1 : Int), .int .u8 (A 2 : Int), .int .u8 (A 3 : Int), .int .u8 (A 4 : Int), .int .u8 (A 5 : Int), .int .u8 (A 6 : Int), .int .u8 (A 7 : Int), .int .u8 (A 8 : Int), .int .u8 (A 9 : Int), .int .u8 (A 10 : Int), .int .u8 0, .int .u8 0, .int .u8 0, .int .u8 0, .int .u8 0] := by
  have e := h.set 10 (.int .u8 (A 10 : Int))
  rwa [show (#[.int .u8 (A 0 : Int), .int .u8 (A 1 : Int), .int .u8 (A 2 : Int), .int .u8 (A 3 : Int), .int .u8 (A 4 : Int), .int .u8 (A 5 : Int), .int .u8 (A 6 : Int), .int .u8 (A 7 : Int), .int .u8 (A 8 : Int), .int .u8 (A 9 : Int), .int .u8 0, .int .u8 0, .int .u8 0, .int .u8 0, .int .u8 0, .int .u8 0] : Array Value).setIfInBounds 10 (.int .u8 (A 10 : Int)) = #[.int .u8 (A 0 : Int), .int .u8 (A 1 : Int), .int .u8 (A 2 : Int), .int .u8 (A 3 : Int), .int .u8 (A 4 : Int), .int .u8 (A 5 : Int), .int .u8 (A 6 : Int), .int .u8 (A 7 : Int), .int .u8 (A 8 : Int), .int .u8 (A 9 : Int), .int .u8 (A 10 : Int), .int .u8 0, .int .u8 0, .int .u8 0, .int .u8 0, .int .u8 0] by simp [Array.setIfInBounds]] at e
theorem Box.a11 {w : World} {b : Nat} {A : Nat → Nat} (h : Box 217 w b #[.int .u8 (A 0 : Int), .int .u8 (A 1 : Int), .int .u8 (A 2 : Int), .int .u8 (A 3 : Int), .int .u8 (A 4 : Int), .int .u8 (A 5 : Int), .int .u8 (A 6 : Int), .int .u8 (A 7 : Int), .int .u8 (A 8 : Int), .int .u8 (A 9 : Int), .int .u8 (A 10 : Int), .int .u8 0, .int .u8 0, .int .u8 0, .int .u8 0, .int .u8 0]) : Box 217 (w.setCell ⟨b, 11, none⟩ (.int .u8 (A 11 : Int))) b #[.int .u8 (A 0 : Int), .int .u8 (A 1 : Int), .int .u8 (A 2 : Int), .int .u8 (A 3 : Int), .int .u8 (A 4 : Int), .int .u8 (A 5 : Int), .int .u8 (A 6 : Int), .int .u8 (A 7 : Int), .int .u8 (A 8 : Int), .int .u8 (A 9 : Int), .int .u8 (A 10 : Int), .int .u8 (A 11 : Int), .int .u8 0, .int .u8 0, .int .u8 0, .int .u8 0] := by
  have e := h.set 11 (.int .u8 (A 11 : Int))
  rwa [show (#[.int .u8 (A 0 : Int), .int .u8 (A 1 : Int), .int .u8 (A 2 : Int), .int .u8 (A 3 : Int), .int .u8 (A 4 : Int), .int .u8 (A 5 : Int), .int .u8 (A 6 : Int), .int .u8 (A 7 : Int), .int .u8 (A 8 : Int), .int .u8 (A 9 : Int), .int .u8 (A 10 : Int), .int .u8 0, .int .u8 0, .int .u8 0, .int .u8 0, .int .u8 0] : Array Value).setIfInBounds 11 (.int .u8 (A 11 : Int)) = #[.int .u8 (A 0 : Int), .int .u8 (A 1 : Int), .int .u8 (A 2 : Int), .int .u8 (A 3 : Int), .int .u8 (A 4 : Int), .int .u8 (A 5 : Int), .int .u8 (A 6 : Int), .int .u8 (A 7 : Int), .int .u8 (A 8 : Int), .int .u8 (A 9 : Int), .int .u8 (A 10 : Int), .int .u8 (A 11 : Int), .int .u8 0, .int .u8 0, .int .u8 0, .int .u8 0] by simp [Array.setIfInBounds]] at e
theorem Box.a12 {w : World} {b : Nat} {A : Nat → Nat} (h : Box 217 w b #[.int .u8 (A 0 : Int), .int .u8 (A 1 : Int), .int .u8 (A 2 : Int), .int .u8 (A 3 : Int), .int .u8 (A 4 : Int), .int .u8 (A 5 : Int), .int .u8 (A 6 : Int), .int .u8 (A 7 : Int), .int .u8 (A 8 : Int), .int .u8 (A 9 : Int), .int .u8 (A 10 : Int), .int .u8 (A 11 : Int), .int .u8 0, .int .u8 0, .int .u8 0, .int .u8 0]) : Box 217 (w.setCell ⟨b, 12, none⟩ (.int .u8 (A 12 : Int))) b #[.int .u8 (A 0 : Int), .int .u8 (A 1 : Int), .int .u8 (A 2 : Int), .int .u8 (A 3 : Int), .int .u8 (A 4 : Int), .int .u8 (A 5 : Int), .int .u8 (A 6 : Int), .int .u8 (A 7 : Int), .int .u8 (A 8 : Int), .int .u8 (A 9 : Int), .int .u8 (A 10 : Int), .int .u8 (A 11 : Int), .int .u8 (A 12 : Int), .int .u8 0, .int .u8 0, .int .u8 0] := by
  have e := h.set 12 (.int .u8 (A 12 : Int))
  rwa [show (#[.int .u8 (A 0 : Int), .int .u8 (A 1 : Int), .int .u8 (A 2 : Int), .int .u8 (A 3 : Int), .int .u8 (A 4 : Int), .int .u8 (A 5 : Int), .int .u8 (A 6 : Int), .int .u8 (A 7 : Int), .int .u8 (A 8 : Int), .int .u8 (A 9 : Int), .int .u8 (A 10 : Int), .int .u8 (A 11 : Int), .int .u8 0, .int .u8 0, .int .u8 0, .int .u8 0] : Array Value).setIfInBounds 12 (.int .u8 (A 12 : Int)) = #[.int .u8 (A 0 : Int), .int .u8 (A 1 : Int), .int .u8 (A 2 : Int), .int .u8 (A 3 : Int), .int .u8 (A 4 : Int), .int .u8 (A 5 : Int), .int .u8 (A 6 : Int), .int .u8 (A 7 : Int), .int .u8 (A 8 : Int), .int .u8 (A 9 : Int), .int .u8 (A 10 : Int), .int .u8 (A 11 : Int), .int .u8 (A 12 : Int), .int .u8 0, .int .u8 0, .int .u8 0] by simp [Array.setIfInBounds]] at e
theorem Box.a13 {w : World} {b : Nat} {A : Nat → Nat} (h : Box 217 w b #[.int .u8 (A 0 : Int), .int .u8 (A 1 : Int), .int .u8 (A 2 : Int), .int .u8 (A 3 : Int), .int .u8 (A 4 : Int), .int .u8 (A 5 : Int), .int .u8 (A 6 : Int), .int .u8 (A 7 : Int), .int .u8 (A 8 : Int), .int .u8 (A 9 : Int), .int .u8 (A 10 : Int), .int .u8 (A 11 : Int), .int .u8 (A 12 : Int), .int .u8 0, .int .u8 0, .int .u8 0]) : Box 217 (w.setCell ⟨b, 13, none⟩ (.int .u8 (A 13 : Int))) b #[.int .u8 (A 0 : Int), .int .u8 (A 1 : Int), .int .u8 (A 2 : Int), .int .u8 (A 3 : Int), .int .u8 (A 4 : Int), .int .u8 (A 5 : Int), .int .u8 (A 6 : Int), .int .u8 (A 7 : Int), .int .u8 (A 8 : Int), .int .u8 (A 9 : Int), .int .u8 (A 10 : Int), .int .u8 (A 11 : Int), .int .u8 (A 12 : Int), .int .u8 (A 13 : Int), .int .u8 0, .int .u8 0] := by
  have e := h.set 13 (.int .u8 (A 13 : Int))
  rwa [show (#[.int .u8 (A 0 : Int), .int .u8 (A 1 : Int), .int .u8 (A 2 : Int), .int .u8 (A 3 : Int), .int .u8 (A 4 : Int), .int .u8 (A 5 : Int), .int .u8 (A 6 : Int), .int .u8 (A 7 : Int), .int .u8 (A 8 : Int), .int .u8 (A 9 : Int), .int .u8 (A 10 : Int), .int .u8 (A 11 : Int), .int .u8 (A 12 : Int), .int .u8 0, .int .u8 0, .int .u8 0] : Array Value).setIfInBounds 13 (.int .u8 (A 13 : Int)) = #[.int .u8 (A 0 : Int), .int .u8 (A 1 : Int), .int .u8 (A 2 : Int), .int .u8 (A 3 : Int), .int .u8 (A 4 : Int), .int .u8 (A 5 : Int), .int .u8 (A 6 : Int), .int .u8 (A 7 : Int), .int .u8 (A 8 : Int), .int .u8 (A 9 : Int), .int .u8 (A 10 : Int), .int .u8 (A 11 : Int), .int .u8 (A 12 : Int), .int .u8 (A 13 : Int), .int .u8 0, .int .u8 0] by simp [Array.setIfInBounds]] at e
theorem Box.a14 {w : World} {b : Nat} {A : Nat → Nat} (h : Box 217 w b #[.int .u8 (A 0 : Int), .int .u8 (A 1 : Int), .int .u8 (A 2 : Int), .int .u8 (A 3 : Int), .int .u8 (A 4 : Int), .int .u8 (A 5 : Int), .int .u8 (A 6 : Int), .int .u8 (A 7 : Int), .int .u8 (A 8 : Int), .int .u8 (A 9 : Int), .int .u8 (A 10 : Int), .int .u8 (A 11 : Int), .int .u8 (A 12 : Int), .int .u8 (A 13 : Int), .int .u8 0, .int .u8 0]) : Box 217 (w.setCell ⟨b, 14, none⟩ (.int .u8 (A 14 : Int))) b #[.int .u8 (A 0 : Int), .int .u8 (A 1 : Int), .int .u8 (A 2 : Int), .int .u8 (A 3 : Int), .int .u8 (A 4 : Int), .int .u8 (A 5 : Int), .int .u8 (A 6 : Int), .int .u8 (A 7 : Int), .int .u8 (A 8 : Int), .int .u8 (A 9 : Int), .int .u8 (A 10 : Int), .int .u8 (A 11 : Int), .int .u8 (A 12 : Int), .int .u8 (A 13 : Int), .int .u8 (A 14 : Int), .int .u8 0] := by
  have e := h.set 14 (.int .u8 (A 14 : Int))
  rwa [show (#[.int .u8 (A 0 : Int), .int .u8 (A 1 : Int), .int .u8 (A 2 : Int), .int .u8 (A 3 : Int), .int .u8 (A 4 : Int), .int .u8 (A 5 : Int), .int .u8 (A 6 : Int), .int .u8 (A 7 : Int), .int .u8 (A 8 : Int), .int .u8 (A 9 : Int), .int .u8 (A 10 : Int), .int .u8 (A 11 : Int), .int .u8 (A 12 : Int), .int .u8 (A 13 : Int), .int .u8 0, .int .u8 0] : Array Value).setIfInBounds 14 (.int .u8 (A 14 : Int)) = #[.int .u8 (A 0 : Int), .int .u8 (A 1 : Int), .int .u8 (A 2 : Int), .int .u8 (A 3 : Int), .int .u8 (A 4 : Int), .int .u8 (A 5 : Int), .int .u8 (A 6 : Int), .int .u8 (A 7 : Int), .int .u8 (A 8 : Int), .int .u8 (A 9 : Int), .int .u8 (A 10 : Int), .int .u8 (A 11 : Int), .int .u8 (A 12 : Int), .int .u8 (A 13 : Int), .int .u8 (A 14 : Int), .int .u8 0] by simp [Array.setIfInBounds]] at e
theorem Box.a15 {w : World} {b : Nat} {A : Nat → Nat} (h : Box 217 w b #[.int .u8 (A 0 : Int), .int .u8 (A 1 : Int), .int .u8 (A 2 : Int), .int .u8 (A 3 : Int), .int .u8 (A 4 : Int), .int .u8 (A 5 : Int), .int .u8 (A 6 : Int), .int .u8 (A 7 : Int), .int .u8 (A 8 : Int), .int .u8 (A 9 : Int), .int .u8 (A 10 : Int), .int .u8 (A 11 : Int), .int .u8 (A 12 : Int), .int .u8 (A 13 : Int), .int .u8 (A 14 : Int), .int .u8 0]) : Box 217 (w.setCell ⟨b, 15, none⟩ (.int .u8 (A 15 : Int))) b #[.int .u8 (A 0 : Int), .int .u8 (A 1 : Int), .int .u8 (A 2 : Int), .int .u8 (A 3 : Int), .int .u8 (A 4 : Int), .int .u8 (A 5 : Int), .int .u8 (A 6 : Int), .int .u8 (A 7 : Int), .int .u8 (A 8 : Int), .int .u8 (A 9 : Int), .int .u8 (A 10 : Int), .int .u8 (A 11 : Int), .int .u8 (A 12 : Int), .int .u8 (A 13 : Int), .int .u8 (A 14 : Int), .int .u8 (A 15 : Int)] := by
  have e := h.set 15 (.int .u8 (A 15 : Int))
  rwa [show (#[.int .u8 (A 0 : Int), .int .u8 (A 1 : Int), .int .u8 (A 2 : Int), .int .u8 (A 3 : Int), .int .u8 (A 4 : Int), .int .u8 (A 5 : Int), .int .u8 (A 6 : Int), .int .u8 (A 7 : Int), .int .u8 (A 8 : Int), .int .u8 (A 9 : Int), .int .u8 (A 10 : Int), .int .u8 (A 11 : Int), .int .u8 (A 12 : Int), .int .u8 (A 13 : Int), .int .u8 (A 14 : Int), .int .u8 0] : Array Value).setIfInBounds 15 (.int .u8 (A 15 : Int)) = #[.int .u8 (A 0 : Int), .int .u8 (A 1 : Int), .int .u8 (A 2 : Int), .int .u8 (A 3 : Int), .int .u8 (A 4 : Int), .int .u8 (A 5 : Int), .int .u8 (A 6 : Int), .int .u8 (A 7 : Int), .int .u8 (A 8 : Int), .int .u8 (A 9 : Int), .int .u8 (A 10 : Int), .int .u8 (A 11 : Int), .int .u8 (A 12 : Int), .int .u8 (A 13 : Int), .int .u8 (A 14 : Int), .int .u8 (A 15 : Int)] by simp [Array.setIfInBounds]] at e
theorem arr16_zero : arr16 (fun _ => 0) = Array.replicate 16 (.int .u8 0) := by kernel_rfl

set_option linter.unusedSimpArgs false in
set_option maxHeartbeats 4000000 in
set_option maxRecDepth 100000 in
theorem sumsC (s q : Nat) (R : Nat → Value) (G : Nat → Nat → Nat) (w : World) (h : ∀ p, p < q → SlAt w (R p) s (fun v => .int .u8 (G p v : Int))) (hs1 : 1 ≤ s) (hs4 : s ≤ 4) (hq1 : 1 ≤ q) (hq4 : q ≤ 4) (hG : ∀ p v, p < q → v < s → G p v * s ^ (q - 1 - p) ≤ 255) :
    Calls Try.prog 169 #[.agg #[R 0, R 1, R 2, R 3], .int .i64 (s : Int), .int .i64 (q : Int)] w fun e w' => e = .returned (.agg (arr16 (sumH s q G))) ∧ Below w.heap.size w w' := by
  have H := Lib.hid h
  have HG := Lib.hid hG
  obtain ⟨P, hP⟩ : ∃ P, s ^ q = P := ⟨_, rfl⟩
  have HP := Lib.hid hP
  clear h hG hP
  go_enter Try.func169, Try.ntmps169
  go_wp2_with fail
  refine (tupleCount' s q P hs1 hs4 hq4 HP.out _).mono ?_
  rintro e w2 ⟨rfl, rfl⟩
  go_wp2
  obtain ⟨w3, hw3⟩ : ∃ w3, ((w.alloc (.cells #[R 0, R 1, R 2, R 3] 171)).alloc (.cells #[.int .u8 0, .int .u8 0, .int .u8 0, .int .u8 0, .int .u8 0, .int .u8 0, .int .u8 0, .int .u8 0, .int .u8 0, .int .u8 0, .int .u8 0, .int .u8 0, .int .u8 0, .int .u8 0, .int .u8 0, .int .u8 0] 217)).alloc (.cells #[.int .u8 0, .int .u8 0, .int .u8 0, .int .u8 0, .int .u8 0, .int .u8 0, .int .u8 0, .int .u8 0, .int .u8 0, .int .u8 0, .int .u8 0, .int .u8 0, .int .u8 0, .int .u8 0, .int .u8 0, .int .u8 0] 217) = w3 := ⟨_, rfl⟩
  have S0 : Hid (Box 171 w3 w.heap.size #[R 0, R 1, R 2, R 3]) := Lib.hid (by rw [← hw3]; exact ((Box.new _ _ _).below ((Below.refl _ _).alloc (Nat.le_refl _) _)).below ((Below.refl _ _).alloc (Nat.le_refl _) _))
  have S1 : Hid (Box 217 w3 (w.heap.size + 1) #[.int .u8 0, .int .u8 0, .int .u8 0, .int .u8 0, .int .u8 0, .int .u8 0, .int .u8 0, .int .u8 0, .int .u8 0, .int .u8 0, .int .u8 0, .int .u8 0, .int .u8 0, .int .u8 0, .int .u8 0, .int .u8 0]) := Lib.hid (by
    have h := Box.new 217 (w.alloc (.cells #[R 0, R 1, R 2, R 3] 171)) #[.int .u8 0, .int .u8 0, .int .u8 0, .int .u8 0, .int .u8 0, .int .u8 0, .int .u8 0, .int .u8 0, .int .u8 0, .int .u8 0, .int .u8 0, .int .u8 0, .int .u8 0, .int .u8 0, .int .u8 0, .int .u8 0]
    rw [World.size_alloc] at h
    rw [← hw3]
    exact h.below ((Below.refl _ _).alloc (Nat.le_refl _) _))
  have S2 : Hid (Box 217 w3 (w.heap.size + 1 + 1) (arr16 (uptoS (sumH s q G) 0))) := Lib.hid (by
    have h := Box.new 217 ((w.alloc (.cells #[R 0, R 1, R 2, R 3] 171)).alloc (.cells #[.int .u8 0, .int .u8 0, .int .u8 0, .int .u8 0, .int .u8 0, .int .u8 0, .int .u8 0, .int .u8 0, .int .u8 0, .int .u8 0, .int .u8 0, .int .u8 0, .int .u8 0, .int .u8 0, .int .u8 0, .int .u8 0] 217)) #[.int .u8 0, .int .u8 0, .int .u8 0, .int .u8 0, .int .u8 0, .int .u8 0, .int .u8 0, .int .u8 0, .int .u8 0, .int .u8 0, .int .u8 0, .int .u8 0, .int .u8 0, .int .u8 0, .int .u8 0, .int .u8 0]
    rw [World.size_alloc, World.size_alloc] at h
    have e : uptoS (sumH s q G) 0 = fun _ => 0 := by funext i; simp [uptoS]
    rw [← hw3, e]
    exact h)
  have S3 : Hid (Below w.heap.size w w3) := Lib.hid (by rw [← hw3]; exact (((Below.refl _ _).alloc (Nat.le_refl _) _).alloc (by simp) _).alloc (by simp; omega) _)
  rw [hw3]
  clear hw3
  go_loopw [8, 16] (fun x i wr => ∃ p : Nat, p ≤ q ∧ i = .int .i64 p ∧ x = .int .i64 ((s ^ (q - p) : Nat) : Int) ∧ Box 171 wr w.heap.size #[R 0, R 1, R 2, R 3] ∧ Box 217 wr (w.heap.size + 1) #[.int .u8 0, .int .u8 0, .int .u8 0, .int .u8 0, .int .u8 0, .int .u8 0, .int .u8 0, .int .u8 0, .int .u8 0, .int .u8 0, .int .u8 0, .int .u8 0, .int .u8 0, .int .u8 0, .int .u8 0, .int .u8 0] ∧ Box 217 wr (w.heap.size + 1 + 1) (arr16 (uptoS (sumH s q G) (4 * p))) ∧ Below w.heap.size w wr) (fun _ i _ => q - (intOf i).toNat)
  case atStart => exact ⟨0, Nat.zero_le _, rfl, by rw [← HP.out]; rfl, S0.out, S1.out, S2.out, S3.out⟩
  case round =>
    obtain ⟨p, hp, rfl, rfl, hb0, hb1, hb2, hbl⟩ := hrel
    have HB0 := Lib.hid hb0
    have HB1 := Lib.hid hb1
    have HB2 := Lib.hid hb2
    have HBL := Lib.hid hbl
    clear hb0 hb1 hb2 hbl
    by_cases hlt : p < q
    · obtain ⟨ra, rc, hre, hrn, hrc⟩ := H.out p hlt
      have cR : wr.cell? ⟨w.heap.size, p, none⟩ = some (.slice ra s rc) := by
        have h := HB0.out.c p (v := R p) (by
          have : p = 0 ∨ p = 1 ∨ p = 2 ∨ p = 3 := by omega
          rcases this with rfl | rfl | rfl | rfl <;> rfl)
        rwa [hre] at h
      obtain ⟨rb, roff, rfl, hcl⟩ := hrc (by omega)
      have HCL := Lib.hid hcl
      obtain ⟨wt, hwt⟩ : ∃ wt, s ^ (q - 1 - p) = wt := ⟨_, rfl⟩
      have hwts : wt ≤ 64 ∧ 1 ≤ wt := by rw [← hwt]; exact pow_le3 hs1 hs4 (by omega)
      obtain ⟨W, hW⟩ : ∃ W, s ^ (q - p) = W := ⟨_, rfl⟩
      have hWw : W = wt * s := by rw [← hW, ← hwt, ← Nat.pow_succ]; congr 1; omega
      have HWT := Lib.hid hwt
      have hqd : Int.tdiv (W : Int) (s : Int) = (wt : Int) := by
        rw [hWw, Int.natCast_mul, Int.mul_tdiv_cancel _ (by omega)]
      have hs0 : ¬ (s : Int) = 0 := by omega
      have hwq : IntKind.i64.wrap (wt : Int) = (wt : Int) := IntWalk.i64_in _ (by omega)
      have hpI : (p : Int) < 4 := by omega
      have hpq : (p : Int) < (q : Int) := by omega
      rw [hW]
      clear hrc hcl hre hrn hwt hW hWw
      go_wp2
      obtain ⟨wo, rfl⟩ : ∃ wo, wo = wr := ⟨_, rfl⟩
      go_loopw [26] (fun i wr => ∃ v : Nat, v ≤ s ∧ i = .int .i64 v ∧ Box 171 wr w.heap.size #[R 0, R 1, R 2, R 3] ∧ Box 217 wr (w.heap.size + 1) #[.int .u8 0, .int .u8 0, .int .u8 0, .int .u8 0, .int .u8 0, .int .u8 0, .int .u8 0, .int .u8 0, .int .u8 0, .int .u8 0, .int .u8 0, .int .u8 0, .int .u8 0, .int .u8 0, .int .u8 0, .int .u8 0] ∧ Box 217 wr (w.heap.size + 1 + 1) (arr16 (uptoS (sumH s q G) (4 * p + v))) ∧ Below w.heap.size w wr) (fun i _ => s - (intOf i).toNat)
      case atStart => exact ⟨0, Nat.zero_le _, rfl, HB0.out, HB1.out, HB2.out, HBL.out⟩
      case round =>
        obtain ⟨v, hv, rfl, hi0, hi1, hi2, hil⟩ := hrel
        have HI0 := Lib.hid hi0
        have HI1 := Lib.hid hi1
        have HI2 := Lib.hid hi2
        have HIL := Lib.hid hil
        clear hi0 hi1 hi2 hil
        by_cases hvs : v < s
        · have cv := below_cell HIL.out (HCL.out v hvs)
          have hgw := HG.out p v hlt hvs
          rw [HWT.out] at hgw
          obtain ⟨x, hx⟩ : ∃ x, G p v = x := ⟨_, rfl⟩
          have cx : wr.cell? ⟨rb, roff + v, none⟩ = some (.int .u8 (x : Int)) := by rw [← hx]; exact cv
          rw [hx] at hgw
          obtain ⟨z, hz⟩ : ∃ z, x * wt = z := ⟨_, rfl⟩
          rw [hz] at hgw
          have hzc : (x : Int) * (wt : Int) = (z : Int) := by rw [← hz, Int.natCast_mul]
          have HZ : Hid (sumH s q G (4 * p + v) = z) := Lib.hid (by rw [sumH_at hlt hvs hs4, HWT.out, hx, hz])
          have hwu : IntKind.u8.wrap (wt : Int) = (wt : Int) := IntWalk.u8_in _ (by omega)
          have hwz : IntKind.u8.wrap ((x : Int) * (wt : Int)) = (z : Int) := by rw [hzc]; exact IntWalk.u8_in _ (by omega)
          have hvI : (v : Int) < 4 := by omega
          have hvsI : (v : Int) < (s : Int) := by omega
          have hK : 4 * p + v < 16 := by omega
          have cz := HI2.out.c (p * 4 + v) (arr16_at _ _ (by omega))
          have fz := HI2.out.free (p * 4 + v)
          clear cv hx hz hzc
          go_wp2
          go_roundw
          case rel => exact ⟨v + 1, by omega, by go_num, HI0.out.other (a := ⟨w.heap.size + 1 + 1, p * 4 + v, none⟩) (by show w.heap.size ≠ w.heap.size + 1 + 1; omega) _, HI1.out.other (a := ⟨w.heap.size + 1 + 1, p * 4 + v, none⟩) (by show w.heap.size + 1 ≠ w.heap.size + 1 + 1; omega) _, (by
            have h := HI2.out.set (p * 4 + v) (.int .u8 (z : Int))
            rw [arr16_set, show p * 4 + v = 4 * p + v by omega, ← HZ.out, uptoS_set] at h
            rw [← HZ.out, show p * 4 + v = 4 * p + v by omega]
            exact h), HIL.out.setCell (p := ⟨w.heap.size + 1 + 1, p * 4 + v, none⟩) (by show w.heap.size ≤ w.heap.size + 1 + 1; omega) _⟩
          case measure => simp [intOf]; omega
        · obtain rfl : s = v := by omega
          have e1 : uptoS (sumH s q G) (4 * p + s) = uptoS (sumH s q G) (4 * (p + 1)) := uptoS_skip (by omega) fun i h1 h2 => by
            unfold sumH
            rw [if_neg (by omega)]
          have HE := Lib.hid e1
          clear e1
          go_wp2
          go_roundw
          case rel => exact ⟨p + 1, by omega, by go_num, by rw [← HWT.out, show q - (p + 1) = q - 1 - p by omega], HI0.out, HI1.out, by have h := HI2.out; rw [HE.out] at h; exact h, HIL.out⟩
          case measure => simp [intOf]; omega
    · obtain rfl : p = q := by omega
      have HF : Hid (uptoS (sumH s p G) (4 * p) = uptoS (sumH s p G) 16) := Lib.hid (uptoS_skip (by omega) fun i h1 h2 => by unfold sumH; rw [if_neg (by omega)])
      have hbx := HB2.out
      rw [HF.out] at hbx
      have k0 : wr.cell? ⟨w.heap.size + 1 + 1, 0, none⟩ = some (.int .u8 ((uptoS (sumH s p G) 16 0 : Nat) : Int)) := hbx.c 0 (arr16_at _ _ (by omega))
      have k1 : wr.cell? ⟨w.heap.size + 1 + 1, 1, none⟩ = some (.int .u8 ((uptoS (sumH s p G) 16 1 : Nat) : Int)) := hbx.c 1 (arr16_at _ _ (by omega))
      have k2 : wr.cell? ⟨w.heap.size + 1 + 1, 2, none⟩ = some (.int .u8 ((uptoS (sumH s p G) 16 2 : Nat) : Int)) := hbx.c 2 (arr16_at _ _ (by omega))
      have k3 : wr.cell? ⟨w.heap.size + 1 + 1, 3, none⟩ = some (.int .u8 ((uptoS (sumH s p G) 16 3 : Nat) : Int)) := hbx.c 3 (arr16_at _ _ (by omega))
      have k4 : wr.cell? ⟨w.heap.size + 1 + 1, 4, none⟩ = some (.int .u8 ((uptoS (sumH s p G) 16 4 : Nat) : Int)) := hbx.c 4 (arr16_at _ _ (by omega))
      have k5 : wr.cell? ⟨w.heap.size + 1 + 1, 5, none⟩ = some (.int .u8 ((uptoS (sumH s p G) 16 5 : Nat) : Int)) := hbx.c 5 (arr16_at _ _ (by omega))
      have k6 : wr.cell? ⟨w.heap.size + 1 + 1, 6, none⟩ = some (.int .u8 ((uptoS (sumH s p G) 16 6 : Nat) : Int)) := hbx.c 6 (arr16_at _ _ (by omega))
      have k7 : wr.cell? ⟨w.heap.size + 1 + 1, 7, none⟩ = some (.int .u8 ((uptoS (sumH s p G) 16 7 : Nat) : Int)) := hbx.c 7 (arr16_at _ _ (by omega))
      have k8 : wr.cell? ⟨w.heap.size + 1 + 1, 8, none⟩ = some (.int .u8 ((uptoS (sumH s p G) 16 8 : Nat) : Int)) := hbx.c 8 (arr16_at _ _ (by omega))
      have k9 : wr.cell? ⟨w.heap.size + 1 + 1, 9, none⟩ = some (.int .u8 ((uptoS (sumH s p G) 16 9 : Nat) : Int)) := hbx.c 9 (arr16_at _ _ (by omega))
      have k10 : wr.cell? ⟨w.heap.size + 1 + 1, 10, none⟩ = some (.int .u8 ((uptoS (sumH s p G) 16 10 : Nat) : Int)) := hbx.c 10 (arr16_at _ _ (by omega))
      have k11 : wr.cell? ⟨w.heap.size + 1 + 1, 11, none⟩ = some (.int .u8 ((uptoS (sumH s p G) 16 11 : Nat) : Int)) := hbx.c 11 (arr16_at _ _ (by omega))
      have k12 : wr.cell? ⟨w.heap.size + 1 + 1, 12, none⟩ = some (.int .u8 ((uptoS (sumH s p G) 16 12 : Nat) : Int)) := hbx.c 12 (arr16_at _ _ (by omega))
      have k13 : wr.cell? ⟨w.heap.size + 1 + 1, 13, none⟩ = some (.int .u8 ((uptoS (sumH s p G) 16 13 : Nat) : Int)) := hbx.c 13 (arr16_at _ _ (by omega))
      have k14 : wr.cell? ⟨w.heap.size + 1 + 1, 14, none⟩ = some (.int .u8 ((uptoS (sumH s p G) 16 14 : Nat) : Int)) := hbx.c 14 (arr16_at _ _ (by omega))
      have k15 : wr.cell? ⟨w.heap.size + 1 + 1, 15, none⟩ = some (.int .u8 ((uptoS (sumH s p G) 16 15 : Nat) : Int)) := hbx.c 15 (arr16_at _ _ (by omega))
      have z0 := HB1.out.c 0 rfl
      have y0 := HB1.out.free 0
      have z1 := HB1.out.c 1 rfl
      have y1 := HB1.out.free 1
      have z2 := HB1.out.c 2 rfl
      have y2 := HB1.out.free 2
      have z3 := HB1.out.c 3 rfl
      have y3 := HB1.out.free 3
      have z4 := HB1.out.c 4 rfl
      have y4 := HB1.out.free 4
      have z5 := HB1.out.c 5 rfl
      have y5 := HB1.out.free 5
      have z6 := HB1.out.c 6 rfl
      have y6 := HB1.out.free 6
      have z7 := HB1.out.c 7 rfl
      have y7 := HB1.out.free 7
      have z8 := HB1.out.c 8 rfl
      have y8 := HB1.out.free 8
      have z9 := HB1.out.c 9 rfl
      have y9 := HB1.out.free 9
      have z10 := HB1.out.c 10 rfl
      have y10 := HB1.out.free 10
      have z11 := HB1.out.c 11 rfl
      have y11 := HB1.out.free 11
      have z12 := HB1.out.c 12 rfl
      have y12 := HB1.out.free 12
      have z13 := HB1.out.c 13 rfl
      have y13 := HB1.out.free 13
      have z14 := HB1.out.c 14 rfl
      have y14 := HB1.out.free 14
      have z15 := HB1.out.c 15 rfl
      have y15 := HB1.out.free 15
      clear hbx
      have HAE : Hid (arr16 (uptoS (sumH s p G) 16) = arr16 (sumH s p G)) := Lib.hid (by
        unfold arr16
        refine congrArg List.toArray (List.map_congr_left fun i hi => ?_)
        have : i < 16 := List.mem_range.1 hi
        simp [uptoS, this])
      generalize hA : uptoS (sumH s p G) 16 = A at *
      clear hA
      go_wp2
      clear k0 k1 k2 k3 k4 k5 k6 k7 k8 k9 k10 k11 k12 k13 k14 k15
      have HFB := Lib.hid (Box.a15 (A := A) (Box.a14 (A := A) (Box.a13 (A := A) (Box.a12 (A := A) (Box.a11 (A := A) (Box.a10 (A := A) (Box.a9 (A := A) (Box.a8 (A := A) (Box.a7 (A := A) (Box.a6 (A := A) (Box.a5 (A := A) (Box.a4 (A := A) (Box.a3 (A := A) (Box.a2 (A := A) (Box.a1 (A := A) (Box.a0 (A := A) HB1.out))))))))))))))))
      have HFL : Hid (Below w.heap.size w ((((((((((((((((wr.setCell ⟨w.heap.size + 1, 0, none⟩ (.int .u8 (A 0 : Int))).setCell ⟨w.heap.size + 1, 1, none⟩ (.int .u8 (A 1 : Int))).setCell ⟨w.heap.size + 1, 2, none⟩ (.int .u8 (A 2 : Int))).setCell ⟨w.heap.size + 1, 3, none⟩ (.int .u8 (A 3 : Int))).setCell ⟨w.heap.size + 1, 4, none⟩ (.int .u8 (A 4 : Int))).setCell ⟨w.heap.size + 1, 5, none⟩ (.int .u8 (A 5 : Int))).setCell ⟨w.heap.size + 1, 6, none⟩ (.int .u8 (A 6 : Int))).setCell ⟨w.heap.size + 1, 7, none⟩ (.int .u8 (A 7 : Int))).setCell ⟨w.heap.size + 1, 8, none⟩ (.int .u8 (A 8 : Int))).setCell ⟨w.heap.size + 1, 9, none⟩ (.int .u8 (A 9 : Int))).setCell ⟨w.heap.size + 1, 10, none⟩ (.int .u8 (A 10 : Int))).setCell ⟨w.heap.size + 1, 11, none⟩ (.int .u8 (A 11 : Int))).setCell ⟨w.heap.size + 1, 12, none⟩ (.int .u8 (A 12 : Int))).setCell ⟨w.heap.size + 1, 13, none⟩ (.int .u8 (A 13 : Int))).setCell ⟨w.heap.size + 1, 14, none⟩ (.int .u8 (A 14 : Int))).setCell ⟨w.heap.size + 1, 15, none⟩ (.int .u8 (A 15 : Int)))) := Lib.hid ((((((((((((((((HBL.out.setCell (p := ⟨w.heap.size + 1, 0, none⟩) (by show w.heap.size ≤ w.heap.size + 1; omega) _).setCell (p := ⟨w.heap.size + 1, 1, none⟩) (by show w.heap.size ≤ w.heap.size + 1; omega) _).setCell (p := ⟨w.heap.size + 1, 2, none⟩) (by show w.heap.size ≤ w.heap.size + 1; omega) _).setCell (p := ⟨w.heap.size + 1, 3, none⟩) (by show w.heap.size ≤ w.heap.size + 1; omega) _).setCell (p := ⟨w.heap.size + 1, 4, none⟩) (by show w.heap.size ≤ w.heap.size + 1; omega) _).setCell (p := ⟨w.heap.size + 1, 5, none⟩) (by show w.heap.size ≤ w.heap.size + 1; omega) _).setCell (p := ⟨w.heap.size + 1, 6, none⟩) (by show w.heap.size ≤ w.heap.size + 1; omega) _).setCell (p := ⟨w.heap.size + 1, 7, none⟩) (by show w.heap.size ≤ w.heap.size + 1; omega) _).setCell (p := ⟨w.heap.size + 1, 8, none⟩) (by show w.heap.size ≤ w.heap.size + 1; omega) _).setCell (p := ⟨w.heap.size + 1, 9, none⟩) (by show w.heap.size ≤ w.heap.size + 1; omega) _).setCell (p := ⟨w.heap.size + 1, 10, none⟩) (by show w.heap.size ≤ w.heap.size + 1; omega) _).setCell (p := ⟨w.heap.size + 1, 11, none⟩) (by show w.heap.size ≤ w.heap.size + 1; omega) _).setCell (p := ⟨w.heap.size + 1, 12, none⟩) (by show w.heap.size ≤ w.heap.size + 1; omega) _).setCell (p := ⟨w.heap.size + 1, 13, none⟩) (by show w.heap.size ≤ w.heap.size + 1; omega) _).setCell (p := ⟨w.heap.size + 1, 14, none⟩) (by show w.heap.size ≤ w.heap.size + 1; omega) _).setCell (p := ⟨w.heap.size + 1, 15, none⟩) (by show w.heap.size ≤ w.heap.size + 1; omega) _)
      obtain ⟨wf, hwf⟩ : ∃ wf, ((((((((((((((((wr.setCell ⟨w.heap.size + 1, 0, none⟩ (.int .u8 (A 0 : Int))).setCell ⟨w.heap.size + 1, 1, none⟩ (.int .u8 (A 1 : Int))).setCell ⟨w.heap.size + 1, 2, none⟩ (.int .u8 (A 2 : Int))).setCell ⟨w.heap.size + 1, 3, none⟩ (.int .u8 (A 3 : Int))).setCell ⟨w.heap.size + 1, 4, none⟩ (.int .u8 (A 4 : Int))).setCell ⟨w.heap.size + 1, 5, none⟩ (.int .u8 (A 5 : Int))).setCell ⟨w.heap.size + 1, 6, none⟩ (.int .u8 (A 6 : Int))).setCell ⟨w.heap.size + 1, 7, none⟩ (.int .u8 (A 7 : Int))).setCell ⟨w.heap.size + 1, 8, none⟩ (.int .u8 (A 8 : Int))).setCell ⟨w.heap.size + 1, 9, none⟩ (.int .u8 (A 9 : Int))).setCell ⟨w.heap.size + 1, 10, none⟩ (.int .u8 (A 10 : Int))).setCell ⟨w.heap.size + 1, 11, none⟩ (.int .u8 (A 11 : Int))).setCell ⟨w.heap.size + 1, 12, none⟩ (.int .u8 (A 12 : Int))).setCell ⟨w.heap.size + 1, 13, none⟩ (.int .u8 (A 13 : Int))).setCell ⟨w.heap.size + 1, 14, none⟩ (.int .u8 (A 14 : Int))).setCell ⟨w.heap.size + 1, 15, none⟩ (.int .u8 (A 15 : Int))) = wf := ⟨_, rfl⟩
      rw [hwf] at HFB HFL ⊢
      have f0 : wf.cell? ⟨w.heap.size + 1, 0, none⟩ = some (.int .u8 (A 0 : Int)) := HFB.out.c 0 rfl
      have f1 : wf.cell? ⟨w.heap.size + 1, 1, none⟩ = some (.int .u8 (A 1 : Int)) := HFB.out.c 1 rfl
      have f2 : wf.cell? ⟨w.heap.size + 1, 2, none⟩ = some (.int .u8 (A 2 : Int)) := HFB.out.c 2 rfl
      have f3 : wf.cell? ⟨w.heap.size + 1, 3, none⟩ = some (.int .u8 (A 3 : Int)) := HFB.out.c 3 rfl
      have f4 : wf.cell? ⟨w.heap.size + 1, 4, none⟩ = some (.int .u8 (A 4 : Int)) := HFB.out.c 4 rfl
      have f5 : wf.cell? ⟨w.heap.size + 1, 5, none⟩ = some (.int .u8 (A 5 : Int)) := HFB.out.c 5 rfl
      have f6 : wf.cell? ⟨w.heap.size + 1, 6, none⟩ = some (.int .u8 (A 6 : Int)) := HFB.out.c 6 rfl
      have f7 : wf.cell? ⟨w.heap.size + 1, 7, none⟩ = some (.int .u8 (A 7 : Int)) := HFB.out.c 7 rfl
      have f8 : wf.cell? ⟨w.heap.size + 1, 8, none⟩ = some (.int .u8 (A 8 : Int)) := HFB.out.c 8 rfl
      have f9 : wf.cell? ⟨w.heap.size + 1, 9, none⟩ = some (.int .u8 (A 9 : Int)) := HFB.out.c 9 rfl
      have f10 : wf.cell? ⟨w.heap.size + 1, 10, none⟩ = some (.int .u8 (A 10 : Int)) := HFB.out.c 10 rfl
      have f11 : wf.cell? ⟨w.heap.size + 1, 11, none⟩ = some (.int .u8 (A 11 : Int)) := HFB.out.c 11 rfl
      have f12 : wf.cell? ⟨w.heap.size + 1, 12, none⟩ = some (.int .u8 (A 12 : Int)) := HFB.out.c 12 rfl
      have f13 : wf.cell? ⟨w.heap.size + 1, 13, none⟩ = some (.int .u8 (A 13 : Int)) := HFB.out.c 13 rfl
      have f14 : wf.cell? ⟨w.heap.size + 1, 14, none⟩ = some (.int .u8 (A 14 : Int)) := HFB.out.c 14 rfl
      have f15 : wf.cell? ⟨w.heap.size + 1, 15, none⟩ = some (.int .u8 (A 15 : Int)) := HFB.out.c 15 rfl
      clear hwf
      refine bodyPost_ret (v := .agg (arr16 A)) (by simp [results, Try.results169, go_sem, arr16_lit, f0, f1, f2, f3, f4, f5, f6, f7, f8, f9, f10, f11, f12, f13, f14, f15]) rfl ⟨by rw [HAE.out], HFL.out⟩


end Go.Proofs.Ytoojgaaggdnpiaa

namespace Go.Proofs.Ytoojgaaggdnpiaa
open Go.RowKit

/-- The rows of the places: as much of a table for each. -/
def rowV (q g n : Nat) (o : Nat → Nat) (p : Nat) : Value := if p < q then .slice (some ⟨g, o p, none⟩) n n else .slice none 0 0

theorem index4 (r0 r1 r2 r3 : Value) (w : World) : ((Instr.index 171 (.agg #[r0, r1, r2, r3]) (.int .i64 0)).run Try.prog w = .ok r0 w ∧ (Instr.index 171 (.agg #[r0, r1, r2, r3]) (.int .i64 1)).run Try.prog w = .ok r1 w) ∧ (Instr.index 171 (.agg #[r0, r1, r2, r3]) (.int .i64 2)).run Try.prog w = .ok r2 w ∧ (Instr.index 171 (.agg #[r0, r1, r2, r3]) (.int .i64 3)).run Try.prog w = .ok r3 w := by
  refine ⟨⟨?_, ?_⟩, ?_, ?_⟩ <;> kernel_rfl

set_option linter.unusedSimpArgs false in
set_option maxHeartbeats 4000000 in
set_option maxRecDepth 100000 in
theorem cutC (s q wd n g : Nat) (o t : Nat → Nat) (w : World) (hn : wd * s = n) (hs1 : 1 ≤ s) (hs4 : s ≤ 4) (hwd : 1 ≤ wd) (hn64 : n ≤ 64) (ht : ∀ p, p < q → t p < s) (ht2 : ∀ p, t p ≤ 255) :
    Calls Try.prog 158 #[.agg #[rowV q g n o 0, rowV q g n o 1, rowV q g n o 2, rowV q g n o 3], .int .i64 (s : Int), .agg #[.int .u8 (t 0 : Int), .int .u8 (t 1 : Int), .int .u8 (t 2 : Int), .int .u8 (t 3 : Int)]] w fun e w' => e = .returned (.agg #[rowV q g wd (fun p => o p + t p * wd) 0, rowV q g wd (fun p => o p + t p * wd) 1, rowV q g wd (fun p => o p + t p * wd) 2, rowV q g wd (fun p => o p + t p * wd) 3]) ∧ Below w.heap.size w w' := by
  have HN := Lib.hid hn
  have HT := Lib.hid ht
  have HT2 := Lib.hid ht2
  obtain ⟨r0, hr0⟩ : ∃ r, rowV q g n o 0 = r := ⟨_, rfl⟩
  obtain ⟨r1, hr1⟩ : ∃ r, rowV q g n o 1 = r := ⟨_, rfl⟩
  obtain ⟨r2, hr2⟩ : ∃ r, rowV q g n o 2 = r := ⟨_, rfl⟩
  obtain ⟨r3, hr3⟩ : ∃ r, rowV q g n o 3 = r := ⟨_, rfl⟩
  rw [hr0, hr1, hr2, hr3]
  have HR0 := Lib.hid hr0
  have HR1 := Lib.hid hr1
  have HR2 := Lib.hid hr2
  have HR3 := Lib.hid hr3
  clear hr0 hr1 hr2 hr3 hn ht ht2
  go_enter Try.func158, Try.ntmps158
  go_wp2
  obtain ⟨c0, hc0⟩ : ∃ r, rowV q g wd (fun p => o p + t p * wd) 0 = r := ⟨_, rfl⟩
  obtain ⟨c1, hc1⟩ : ∃ r, rowV q g wd (fun p => o p + t p * wd) 1 = r := ⟨_, rfl⟩
  obtain ⟨c2, hc2⟩ : ∃ r, rowV q g wd (fun p => o p + t p * wd) 2 = r := ⟨_, rfl⟩
  obtain ⟨c3, hc3⟩ : ∃ r, rowV q g wd (fun p => o p + t p * wd) 3 = r := ⟨_, rfl⟩
  have HC0 := Lib.hid hc0
  have HC1 := Lib.hid hc1
  have HC2 := Lib.hid hc2
  have HC3 := Lib.hid hc3
  clear hc0 hc1 hc2 hc3
  obtain ⟨w3, hw3⟩ : ∃ w3, ((w.alloc (.cells #[r0, r1, r2, r3] 171)).alloc (.cells #[.int .u8 (t 0 : Int), .int .u8 (t 1 : Int), .int .u8 (t 2 : Int), .int .u8 (t 3 : Int)] 165)).alloc (.cells #[.slice none 0 0, .slice none 0 0, .slice none 0 0, .slice none 0 0] 171) = w3 := ⟨_, rfl⟩
  have S0 : Hid (Box 171 w3 w.heap.size #[r0, r1, r2, r3]) := Lib.hid (by rw [← hw3]; exact ((Box.new _ _ _).below ((Below.refl _ _).alloc (Nat.le_refl _) _)).below ((Below.refl _ _).alloc (Nat.le_refl _) _))
  have S1 : Hid (Box 165 w3 (w.heap.size + 1) #[.int .u8 (t 0 : Int), .int .u8 (t 1 : Int), .int .u8 (t 2 : Int), .int .u8 (t 3 : Int)]) := Lib.hid (by
    have h := Box.new 165 (w.alloc (.cells #[r0, r1, r2, r3] 171)) #[.int .u8 (t 0 : Int), .int .u8 (t 1 : Int), .int .u8 (t 2 : Int), .int .u8 (t 3 : Int)]
    rw [World.size_alloc] at h
    rw [← hw3]
    exact h.below ((Below.refl _ _).alloc (Nat.le_refl _) _))
  have S2 : Hid (Box 171 w3 (w.heap.size + 1 + 1) #[.slice none 0 0, .slice none 0 0, .slice none 0 0, .slice none 0 0]) := Lib.hid (by
    have h := Box.new 171 ((w.alloc (.cells #[r0, r1, r2, r3] 171)).alloc (.cells #[.int .u8 (t 0 : Int), .int .u8 (t 1 : Int), .int .u8 (t 2 : Int), .int .u8 (t 3 : Int)] 165)) #[.slice none 0 0, .slice none 0 0, .slice none 0 0, .slice none 0 0]
    rw [World.size_alloc, World.size_alloc] at h
    rw [← hw3]
    exact h)
  have S3 : Hid (Below w.heap.size w w3) := Lib.hid (by rw [← hw3]; exact (((Below.refl _ _).alloc (Nat.le_refl _) _).alloc (by simp) _).alloc (by simp; omega) _)
  rw [hw3]
  clear hw3
  go_loopw [12] (fun i wr => (i = .int .i64 0 ∧ Box 171 wr w.heap.size #[r0, r1, r2, r3] ∧ Box 165 wr (w.heap.size + 1) #[.int .u8 (t 0 : Int), .int .u8 (t 1 : Int), .int .u8 (t 2 : Int), .int .u8 (t 3 : Int)] ∧ Box 171 wr (w.heap.size + 1 + 1) #[.slice none 0 0, .slice none 0 0, .slice none 0 0, .slice none 0 0] ∧ Below w.heap.size w wr) ∨ (i = .int .i64 1 ∧ Box 171 wr w.heap.size #[c0, r1, r2, r3] ∧ Box 165 wr (w.heap.size + 1) #[.int .u8 (t 0 : Int), .int .u8 (t 1 : Int), .int .u8 (t 2 : Int), .int .u8 (t 3 : Int)] ∧ Box 171 wr (w.heap.size + 1 + 1) #[.slice none 0 0, .slice none 0 0, .slice none 0 0, .slice none 0 0] ∧ Below w.heap.size w wr) ∨ (i = .int .i64 2 ∧ Box 171 wr w.heap.size #[c0, c1, r2, r3] ∧ Box 165 wr (w.heap.size + 1) #[.int .u8 (t 0 : Int), .int .u8 (t 1 : Int), .int .u8 (t 2 : Int), .int .u8 (t 3 : Int)] ∧ Box 171 wr (w.heap.size + 1 + 1) #[.slice none 0 0, .slice none 0 0, .slice none 0 0, .slice none 0 0] ∧ Below w.heap.size w wr) ∨ (i = .int .i64 3 ∧ Box 171 wr w.heap.size #[c0, c1, c2, r3] ∧ Box 165 wr (w.heap.size + 1) #[.int .u8 (t 0 : Int), .int .u8 (t 1 : Int), .int .u8 (t 2 : Int), .int .u8 (t 3 : Int)] ∧ Box 171 wr (w.heap.size + 1 + 1) #[.slice none 0 0, .slice none 0 0, .slice none 0 0, .slice none 0 0] ∧ Below w.heap.size w wr) ∨ (i = .int .i64 4 ∧ Box 171 wr w.heap.size #[c0, c1, c2, c3] ∧ Box 165 wr (w.heap.size + 1) #[.int .u8 (t 0 : Int), .int .u8 (t 1 : Int), .int .u8 (t 2 : Int), .int .u8 (t 3 : Int)] ∧ Box 171 wr (w.heap.size + 1 + 1) #[.slice none 0 0, .slice none 0 0, .slice none 0 0, .slice none 0 0] ∧ Below w.heap.size w wr)) (fun i _ => 4 - (intOf i).toNat)
  case atStart => exact .inl ⟨rfl, S0.out, S1.out, S2.out, S3.out⟩
  case round =>
    rcases hrel with ⟨rfl, hb0, hb1, hb2, hbl⟩ | ⟨rfl, hb0, hb1, hb2, hbl⟩ | ⟨rfl, hb0, hb1, hb2, hbl⟩ | ⟨rfl, hb0, hb1, hb2, hbl⟩ | ⟨rfl, hb0, hb1, hb2, hbl⟩
    · by_cases hpq : 0 < q
      · have hR : r0 = .slice (some ⟨g, o 0, none⟩) n n := by rw [← HR0.out]; simp [rowV, hpq]
        have hC : c0 = .slice (some ⟨g, o 0 + t 0 * wd, none⟩) wd wd := by rw [← HC0.out]; simp [rowV, hpq]
        have HBI := Lib.hid hb0
        have HTI := Lib.hid hb1
        have HZI := Lib.hid hb2
        have HLI := Lib.hid hbl
        have ct := hb1.c 0 rfl
        have cb := hb0.c 0 rfl
        have fb := hb0.free 0
        have HT2p := HT2.out 0
        obtain ⟨x, hx⟩ : ∃ x, t 0 = x := ⟨_, rfl⟩
        have HX := Lib.hid hx
        have ct2 : wr.cell? ⟨w.heap.size + 1, 0, none⟩ = some (.int .u8 (x : Int)) := by rw [← hx]; exact ct
        rw [hx] at HT2p
        clear hb0 hb1 hb2 hbl ct
        clear hx
        have htp := HT.out 0 hpq
        rw [HX.out] at htp hC
        obtain ⟨lo, hlo⟩ : ∃ lo, x * wd = lo := ⟨_, rfl⟩
        have hlon : lo + wd ≤ n := by
          rw [← hlo, ← HN.out, ← Nat.succ_mul, Nat.mul_comm wd]
          exact Nat.mul_le_mul_right _ htp
        rw [hlo] at hC
        have hq1 : Int.tdiv (n : Int) (s : Int) = (wd : Int) := by rw [← HN.out, Int.natCast_mul, Int.mul_tdiv_cancel _ (by omega)]
        have hs0 : ¬ (s : Int) = 0 := by omega
        have hwd0 : ¬ wd = 0 := by omega
        have hm1 : IntKind.i64.wrap ((x : Int) * (wd : Int)) = (lo : Int) := by rw [← Int.natCast_mul, hlo]; exact IntWalk.i64_in _ (by omega)
        have hm2 : IntKind.i64.wrap ((lo : Int) + (wd : Int)) = ((lo + wd : Nat) : Int) := by rw [← Int.natCast_add]; exact IntWalk.i64_in _ (by omega)
        have hw1 : IntKind.i64.wrap (wd : Int) = (wd : Int) := IntWalk.i64_in _ (by omega)
        have hw2 : IntKind.i64.wrap (x : Int) = (x : Int) := IntWalk.i64_in _ (by omega)
        have h1 : (lo : Int) ≤ ((lo + wd : Nat) : Int) := by omega
        have h2 : ((lo + wd : Nat) : Int) ≤ (n : Int) := by omega
        subst hR
        subst hC
        have hix := (index4 (.slice (some ⟨g, o 0, none⟩) n n) r1 r2 r3 wr).1.1
        clear hlo hlon htp HT2p
        have HBN : Hid (Box 171 (wr.setCell ⟨w.heap.size, 0, none⟩ (.slice (some ⟨g, o 0 + lo, none⟩) wd wd)) w.heap.size #[.slice (some ⟨g, o 0 + lo, none⟩) wd wd, r1, r2, r3]) := Lib.hid (HBI.out.set 0 (.slice (some ⟨g, o 0 + lo, none⟩) wd wd))
        have HTN := Lib.hid (HTI.out.other (a := ⟨w.heap.size, 0, none⟩) (by show w.heap.size + 1 ≠ w.heap.size; omega) (.slice (some ⟨g, o 0 + lo, none⟩) wd wd))
        have HZN := Lib.hid (HZI.out.other (a := ⟨w.heap.size, 0, none⟩) (by show w.heap.size + 1 + 1 ≠ w.heap.size; omega) (.slice (some ⟨g, o 0 + lo, none⟩) wd wd))
        have HLN := Lib.hid (HLI.out.setCell (p := ⟨w.heap.size, 0, none⟩) (by show w.heap.size ≤ w.heap.size; omega) (.slice (some ⟨g, o 0 + lo, none⟩) wd wd))
        go_wp2
        go_roundw
        case rel => exact .inr (.inl ⟨by simp, HBN.out, HTN.out, HZN.out, HLN.out⟩)
        case measure => simp [intOf]
      · have hR : r0 = .slice none 0 0 := by rw [← HR0.out]; simp [rowV, hpq]
        have hC : c0 = .slice none 0 0 := by rw [← HC0.out]; simp [rowV, hpq]
        have HBI := Lib.hid hb0
        have HTI := Lib.hid hb1
        have HZI := Lib.hid hb2
        have HLI := Lib.hid hbl
        have ct := hb1.c 0 rfl
        have cb := hb0.c 0 rfl
        have fb := hb0.free 0
        have HT2p := HT2.out 0
        obtain ⟨x, hx⟩ : ∃ x, t 0 = x := ⟨_, rfl⟩
        have HX := Lib.hid hx
        have ct2 : wr.cell? ⟨w.heap.size + 1, 0, none⟩ = some (.int .u8 (x : Int)) := by rw [← hx]; exact ct
        rw [hx] at HT2p
        clear hb0 hb1 hb2 hbl ct
        clear hx
        have hs0 : ¬ (s : Int) = 0 := by omega
        have hw2 : IntKind.i64.wrap (x : Int) = (x : Int) := IntWalk.i64_in _ (by omega)
        have hz1 : Int.tdiv 0 (s : Int) = 0 := Int.zero_tdiv _
        subst hR
        subst hC
        have hix := (index4 (.slice none 0 0) r1 r2 r3 wr).1.1
        clear HT2p
        have HBN : Hid (Box 171 (wr.setCell ⟨w.heap.size, 0, none⟩ (.slice none 0 0)) w.heap.size #[.slice none 0 0, r1, r2, r3]) := Lib.hid (HBI.out.set 0 (.slice none 0 0))
        have HTN := Lib.hid (HTI.out.other (a := ⟨w.heap.size, 0, none⟩) (by show w.heap.size + 1 ≠ w.heap.size; omega) (.slice none 0 0))
        have HZN := Lib.hid (HZI.out.other (a := ⟨w.heap.size, 0, none⟩) (by show w.heap.size + 1 + 1 ≠ w.heap.size; omega) (.slice none 0 0))
        have HLN := Lib.hid (HLI.out.setCell (p := ⟨w.heap.size, 0, none⟩) (by show w.heap.size ≤ w.heap.size; omega) (.slice none 0 0))
        go_wp2
        go_roundw
        case rel => exact .inr (.inl ⟨by simp, HBN.out, HTN.out, HZN.out, HLN.out⟩)
        case measure => simp [intOf]
    · by_cases hpq : 1 < q
      · have hR : r1 = .slice (some ⟨g, o 1, none⟩) n n := by rw [← HR1.out]; simp [rowV, hpq]
        have hC : c1 = .slice (some ⟨g, o 1 + t 1 * wd, none⟩) wd wd := by rw [← HC1.out]; simp [rowV, hpq]
        have HBI := Lib.hid hb0
        have HTI := Lib.hid hb1
        have HZI := Lib.hid hb2
        have HLI := Lib.hid hbl
        have ct := hb1.c 1 rfl
        have cb := hb0.c 1 rfl
        have fb := hb0.free 1
        have HT2p := HT2.out 1
        obtain ⟨x, hx⟩ : ∃ x, t 1 = x := ⟨_, rfl⟩
        have HX := Lib.hid hx
        have ct2 : wr.cell? ⟨w.heap.size + 1, 1, none⟩ = some (.int .u8 (x : Int)) := by rw [← hx]; exact ct
        rw [hx] at HT2p
        clear hb0 hb1 hb2 hbl ct
        clear hx
        have htp := HT.out 1 hpq
        rw [HX.out] at htp hC
        obtain ⟨lo, hlo⟩ : ∃ lo, x * wd = lo := ⟨_, rfl⟩
        have hlon : lo + wd ≤ n := by
          rw [← hlo, ← HN.out, ← Nat.succ_mul, Nat.mul_comm wd]
          exact Nat.mul_le_mul_right _ htp
        rw [hlo] at hC
        have hq1 : Int.tdiv (n : Int) (s : Int) = (wd : Int) := by rw [← HN.out, Int.natCast_mul, Int.mul_tdiv_cancel _ (by omega)]
        have hs0 : ¬ (s : Int) = 0 := by omega
        have hwd0 : ¬ wd = 0 := by omega
        have hm1 : IntKind.i64.wrap ((x : Int) * (wd : Int)) = (lo : Int) := by rw [← Int.natCast_mul, hlo]; exact IntWalk.i64_in _ (by omega)
        have hm2 : IntKind.i64.wrap ((lo : Int) + (wd : Int)) = ((lo + wd : Nat) : Int) := by rw [← Int.natCast_add]; exact IntWalk.i64_in _ (by omega)
        have hw1 : IntKind.i64.wrap (wd : Int) = (wd : Int) := IntWalk.i64_in _ (by omega)
        have hw2 : IntKind.i64.wrap (x : Int) = (x : Int) := IntWalk.i64_in _ (by omega)
        have h1 : (lo : Int) ≤ ((lo + wd : Nat) : Int) := by omega
        have h2 : ((lo + wd : Nat) : Int) ≤ (n : Int) := by omega
        subst hR
        subst hC
        have hix := (index4 r0 (.slice (some ⟨g, o 1, none⟩) n n) r2 r3 wr).1.2
        clear hlo hlon htp HT2p
        have HBN : Hid (Box 171 (wr.setCell ⟨w.heap.size, 1, none⟩ (.slice (some ⟨g, o 1 + lo, none⟩) wd wd)) w.heap.size #[c0, .slice (some ⟨g, o 1 + lo, none⟩) wd wd, r2, r3]) := Lib.hid (HBI.out.set 1 (.slice (some ⟨g, o 1 + lo, none⟩) wd wd))
        have HTN := Lib.hid (HTI.out.other (a := ⟨w.heap.size, 1, none⟩) (by show w.heap.size + 1 ≠ w.heap.size; omega) (.slice (some ⟨g, o 1 + lo, none⟩) wd wd))
        have HZN := Lib.hid (HZI.out.other (a := ⟨w.heap.size, 1, none⟩) (by show w.heap.size + 1 + 1 ≠ w.heap.size; omega) (.slice (some ⟨g, o 1 + lo, none⟩) wd wd))
        have HLN := Lib.hid (HLI.out.setCell (p := ⟨w.heap.size, 1, none⟩) (by show w.heap.size ≤ w.heap.size; omega) (.slice (some ⟨g, o 1 + lo, none⟩) wd wd))
        go_wp2
        go_roundw
        case rel => exact .inr (.inr (.inl ⟨by simp, HBN.out, HTN.out, HZN.out, HLN.out⟩))
        case measure => simp [intOf]
      · have hR : r1 = .slice none 0 0 := by rw [← HR1.out]; simp [rowV, hpq]
        have hC : c1 = .slice none 0 0 := by rw [← HC1.out]; simp [rowV, hpq]
        have HBI := Lib.hid hb0
        have HTI := Lib.hid hb1
        have HZI := Lib.hid hb2
        have HLI := Lib.hid hbl
        have ct := hb1.c 1 rfl
        have cb := hb0.c 1 rfl
        have fb := hb0.free 1
        have HT2p := HT2.out 1
        obtain ⟨x, hx⟩ : ∃ x, t 1 = x := ⟨_, rfl⟩
        have HX := Lib.hid hx
        have ct2 : wr.cell? ⟨w.heap.size + 1, 1, none⟩ = some (.int .u8 (x : Int)) := by rw [← hx]; exact ct
        rw [hx] at HT2p
        clear hb0 hb1 hb2 hbl ct
        clear hx
        have hs0 : ¬ (s : Int) = 0 := by omega
        have hw2 : IntKind.i64.wrap (x : Int) = (x : Int) := IntWalk.i64_in _ (by omega)
        have hz1 : Int.tdiv 0 (s : Int) = 0 := Int.zero_tdiv _
        subst hR
        subst hC
        have hix := (index4 r0 (.slice none 0 0) r2 r3 wr).1.2
        clear HT2p
        have HBN : Hid (Box 171 (wr.setCell ⟨w.heap.size, 1, none⟩ (.slice none 0 0)) w.heap.size #[c0, .slice none 0 0, r2, r3]) := Lib.hid (HBI.out.set 1 (.slice none 0 0))
        have HTN := Lib.hid (HTI.out.other (a := ⟨w.heap.size, 1, none⟩) (by show w.heap.size + 1 ≠ w.heap.size; omega) (.slice none 0 0))
        have HZN := Lib.hid (HZI.out.other (a := ⟨w.heap.size, 1, none⟩) (by show w.heap.size + 1 + 1 ≠ w.heap.size; omega) (.slice none 0 0))
        have HLN := Lib.hid (HLI.out.setCell (p := ⟨w.heap.size, 1, none⟩) (by show w.heap.size ≤ w.heap.size; omega) (.slice none 0 0))
        go_wp2
        go_roundw
        case rel => exact .inr (.inr (.inl ⟨by simp, HBN.out, HTN.out, HZN.out, HLN.out⟩))
        case measure => simp [intOf]
    · by_cases hpq : 2 < q
      · have hR : r2 = .slice (some ⟨g, o 2, none⟩) n n := by rw [← HR2.out]; simp [rowV, hpq]
        have hC : c2 = .slice (some ⟨g, o 2 + t 2 * wd, none⟩) wd wd := by rw [← HC2.out]; simp [rowV, hpq]
        have HBI := Lib.hid hb0
        have HTI := Lib.hid hb1
        have HZI := Lib.hid hb2
        have HLI := Lib.hid hbl
        have ct := hb1.c 2 rfl
        have cb := hb0.c 2 rfl
        have fb := hb0.free 2
        have HT2p := HT2.out 2
        obtain ⟨x, hx⟩ : ∃ x, t 2 = x := ⟨_, rfl⟩
        have HX := Lib.hid hx
        have ct2 : wr.cell? ⟨w.heap.size + 1, 2, none⟩ = some (.int .u8 (x : Int)) := by rw [← hx]; exact ct
        rw [hx] at HT2p
        clear hb0 hb1 hb2 hbl ct
        clear hx
        have htp := HT.out 2 hpq
        rw [HX.out] at htp hC
        obtain ⟨lo, hlo⟩ : ∃ lo, x * wd = lo := ⟨_, rfl⟩
        have hlon : lo + wd ≤ n := by
          rw [← hlo, ← HN.out, ← Nat.succ_mul, Nat.mul_comm wd]
          exact Nat.mul_le_mul_right _ htp
        rw [hlo] at hC
        have hq1 : Int.tdiv (n : Int) (s : Int) = (wd : Int) := by rw [← HN.out, Int.natCast_mul, Int.mul_tdiv_cancel _ (by omega)]
        have hs0 : ¬ (s : Int) = 0 := by omega
        have hwd0 : ¬ wd = 0 := by omega
        have hm1 : IntKind.i64.wrap ((x : Int) * (wd : Int)) = (lo : Int) := by rw [← Int.natCast_mul, hlo]; exact IntWalk.i64_in _ (by omega)
        have hm2 : IntKind.i64.wrap ((lo : Int) + (wd : Int)) = ((lo + wd : Nat) : Int) := by rw [← Int.natCast_add]; exact IntWalk.i64_in _ (by omega)
        have hw1 : IntKind.i64.wrap (wd : Int) = (wd : Int) := IntWalk.i64_in _ (by omega)
        have hw2 : IntKind.i64.wrap (x : Int) = (x : Int) := IntWalk.i64_in _ (by omega)
        have h1 : (lo : Int) ≤ ((lo + wd : Nat) : Int) := by omega
        have h2 : ((lo + wd : Nat) : Int) ≤ (n : Int) := by omega
        subst hR
        subst hC
        have hix := (index4 r0 r1 (.slice (some ⟨g, o 2, none⟩) n n) r3 wr).2.1
        clear hlo hlon htp HT2p
        have HBN : Hid (Box 171 (wr.setCell ⟨w.heap.size, 2, none⟩ (.slice (some ⟨g, o 2 + lo, none⟩) wd wd)) w.heap.size #[c0, c1, .slice (some ⟨g, o 2 + lo, none⟩) wd wd, r3]) := Lib.hid (HBI.out.set 2 (.slice (some ⟨g, o 2 + lo, none⟩) wd wd))
        have HTN := Lib.hid (HTI.out.other (a := ⟨w.heap.size, 2, none⟩) (by show w.heap.size + 1 ≠ w.heap.size; omega) (.slice (some ⟨g, o 2 + lo, none⟩) wd wd))
        have HZN := Lib.hid (HZI.out.other (a := ⟨w.heap.size, 2, none⟩) (by show w.heap.size + 1 + 1 ≠ w.heap.size; omega) (.slice (some ⟨g, o 2 + lo, none⟩) wd wd))
        have HLN := Lib.hid (HLI.out.setCell (p := ⟨w.heap.size, 2, none⟩) (by show w.heap.size ≤ w.heap.size; omega) (.slice (some ⟨g, o 2 + lo, none⟩) wd wd))
        go_wp2
        go_roundw
        case rel => exact .inr (.inr (.inr (.inl ⟨by simp, HBN.out, HTN.out, HZN.out, HLN.out⟩)))
        case measure => simp [intOf]
      · have hR : r2 = .slice none 0 0 := by rw [← HR2.out]; simp [rowV, hpq]
        have hC : c2 = .slice none 0 0 := by rw [← HC2.out]; simp [rowV, hpq]
        have HBI := Lib.hid hb0
        have HTI := Lib.hid hb1
        have HZI := Lib.hid hb2
        have HLI := Lib.hid hbl
        have ct := hb1.c 2 rfl
        have cb := hb0.c 2 rfl
        have fb := hb0.free 2
        have HT2p := HT2.out 2
        obtain ⟨x, hx⟩ : ∃ x, t 2 = x := ⟨_, rfl⟩
        have HX := Lib.hid hx
        have ct2 : wr.cell? ⟨w.heap.size + 1, 2, none⟩ = some (.int .u8 (x : Int)) := by rw [← hx]; exact ct
        rw [hx] at HT2p
        clear hb0 hb1 hb2 hbl ct
        clear hx
        have hs0 : ¬ (s : Int) = 0 := by omega
        have hw2 : IntKind.i64.wrap (x : Int) = (x : Int) := IntWalk.i64_in _ (by omega)
        have hz1 : Int.tdiv 0 (s : Int) = 0 := Int.zero_tdiv _
        subst hR
        subst hC
        have hix := (index4 r0 r1 (.slice none 0 0) r3 wr).2.1
        clear HT2p
        have HBN : Hid (Box 171 (wr.setCell ⟨w.heap.size, 2, none⟩ (.slice none 0 0)) w.heap.size #[c0, c1, .slice none 0 0, r3]) := Lib.hid (HBI.out.set 2 (.slice none 0 0))
        have HTN := Lib.hid (HTI.out.other (a := ⟨w.heap.size, 2, none⟩) (by show w.heap.size + 1 ≠ w.heap.size; omega) (.slice none 0 0))
        have HZN := Lib.hid (HZI.out.other (a := ⟨w.heap.size, 2, none⟩) (by show w.heap.size + 1 + 1 ≠ w.heap.size; omega) (.slice none 0 0))
        have HLN := Lib.hid (HLI.out.setCell (p := ⟨w.heap.size, 2, none⟩) (by show w.heap.size ≤ w.heap.size; omega) (.slice none 0 0))
        go_wp2
        go_roundw
        case rel => exact .inr (.inr (.inr (.inl ⟨by simp, HBN.out, HTN.out, HZN.out, HLN.out⟩)))
        case measure => simp [intOf]
    · by_cases hpq : 3 < q
      · have hR : r3 = .slice (some ⟨g, o 3, none⟩) n n := by rw [← HR3.out]; simp [rowV, hpq]
        have hC : c3 = .slice (some ⟨g, o 3 + t 3 * wd, none⟩) wd wd := by rw [← HC3.out]; simp [rowV, hpq]
        have HBI := Lib.hid hb0
        have HTI := Lib.hid hb1
        have HZI := Lib.hid hb2
        have HLI := Lib.hid hbl
        have ct := hb1.c 3 rfl
        have cb := hb0.c 3 rfl
        have fb := hb0.free 3
        have HT2p := HT2.out 3
        obtain ⟨x, hx⟩ : ∃ x, t 3 = x := ⟨_, rfl⟩
        have HX := Lib.hid hx
        have ct2 : wr.cell? ⟨w.heap.size + 1, 3, none⟩ = some (.int .u8 (x : Int)) := by rw [← hx]; exact ct
        rw [hx] at HT2p
        clear hb0 hb1 hb2 hbl ct
        clear hx
        have htp := HT.out 3 hpq
        rw [HX.out] at htp hC
        obtain ⟨lo, hlo⟩ : ∃ lo, x * wd = lo := ⟨_, rfl⟩
        have hlon : lo + wd ≤ n := by
          rw [← hlo, ← HN.out, ← Nat.succ_mul, Nat.mul_comm wd]
          exact Nat.mul_le_mul_right _ htp
        rw [hlo] at hC
        have hq1 : Int.tdiv (n : Int) (s : Int) = (wd : Int) := by rw [← HN.out, Int.natCast_mul, Int.mul_tdiv_cancel _ (by omega)]
        have hs0 : ¬ (s : Int) = 0 := by omega
        have hwd0 : ¬ wd = 0 := by omega
        have hm1 : IntKind.i64.wrap ((x : Int) * (wd : Int)) = (lo : Int) := by rw [← Int.natCast_mul, hlo]; exact IntWalk.i64_in _ (by omega)
        have hm2 : IntKind.i64.wrap ((lo : Int) + (wd : Int)) = ((lo + wd : Nat) : Int) := by rw [← Int.natCast_add]; exact IntWalk.i64_in _ (by omega)
        have hw1 : IntKind.i64.wrap (wd : Int) = (wd : Int) := IntWalk.i64_in _ (by omega)
        have hw2 : IntKind.i64.wrap (x : Int) = (x : Int) := IntWalk.i64_in _ (by omega)
        have h1 : (lo : Int) ≤ ((lo + wd : Nat) : Int) := by omega
        have h2 : ((lo + wd : Nat) : Int) ≤ (n : Int) := by omega
        subst hR
        subst hC
        have hix := (index4 r0 r1 r2 (.slice (some ⟨g, o 3, none⟩) n n) wr).2.2
        clear hlo hlon htp HT2p
        have HBN : Hid (Box 171 (wr.setCell ⟨w.heap.size, 3, none⟩ (.slice (some ⟨g, o 3 + lo, none⟩) wd wd)) w.heap.size #[c0, c1, c2, .slice (some ⟨g, o 3 + lo, none⟩) wd wd]) := Lib.hid (HBI.out.set 3 (.slice (some ⟨g, o 3 + lo, none⟩) wd wd))
        have HTN := Lib.hid (HTI.out.other (a := ⟨w.heap.size, 3, none⟩) (by show w.heap.size + 1 ≠ w.heap.size; omega) (.slice (some ⟨g, o 3 + lo, none⟩) wd wd))
        have HZN := Lib.hid (HZI.out.other (a := ⟨w.heap.size, 3, none⟩) (by show w.heap.size + 1 + 1 ≠ w.heap.size; omega) (.slice (some ⟨g, o 3 + lo, none⟩) wd wd))
        have HLN := Lib.hid (HLI.out.setCell (p := ⟨w.heap.size, 3, none⟩) (by show w.heap.size ≤ w.heap.size; omega) (.slice (some ⟨g, o 3 + lo, none⟩) wd wd))
        go_wp2
        go_roundw
        case rel => exact .inr (.inr (.inr (.inr (⟨by simp, HBN.out, HTN.out, HZN.out, HLN.out⟩))))
        case measure => simp [intOf]
      · have hR : r3 = .slice none 0 0 := by rw [← HR3.out]; simp [rowV, hpq]
        have hC : c3 = .slice none 0 0 := by rw [← HC3.out]; simp [rowV, hpq]
        have HBI := Lib.hid hb0
        have HTI := Lib.hid hb1
        have HZI := Lib.hid hb2
        have HLI := Lib.hid hbl
        have ct := hb1.c 3 rfl
        have cb := hb0.c 3 rfl
        have fb := hb0.free 3
        have HT2p := HT2.out 3
        obtain ⟨x, hx⟩ : ∃ x, t 3 = x := ⟨_, rfl⟩
        have HX := Lib.hid hx
        have ct2 : wr.cell? ⟨w.heap.size + 1, 3, none⟩ = some (.int .u8 (x : Int)) := by rw [← hx]; exact ct
        rw [hx] at HT2p
        clear hb0 hb1 hb2 hbl ct
        clear hx
        have hs0 : ¬ (s : Int) = 0 := by omega
        have hw2 : IntKind.i64.wrap (x : Int) = (x : Int) := IntWalk.i64_in _ (by omega)
        have hz1 : Int.tdiv 0 (s : Int) = 0 := Int.zero_tdiv _
        subst hR
        subst hC
        have hix := (index4 r0 r1 r2 (.slice none 0 0) wr).2.2
        clear HT2p
        have HBN : Hid (Box 171 (wr.setCell ⟨w.heap.size, 3, none⟩ (.slice none 0 0)) w.heap.size #[c0, c1, c2, .slice none 0 0]) := Lib.hid (HBI.out.set 3 (.slice none 0 0))
        have HTN := Lib.hid (HTI.out.other (a := ⟨w.heap.size, 3, none⟩) (by show w.heap.size + 1 ≠ w.heap.size; omega) (.slice none 0 0))
        have HZN := Lib.hid (HZI.out.other (a := ⟨w.heap.size, 3, none⟩) (by show w.heap.size + 1 + 1 ≠ w.heap.size; omega) (.slice none 0 0))
        have HLN := Lib.hid (HLI.out.setCell (p := ⟨w.heap.size, 3, none⟩) (by show w.heap.size ≤ w.heap.size; omega) (.slice none 0 0))
        go_wp2
        go_roundw
        case rel => exact .inr (.inr (.inr (.inr (⟨by simp, HBN.out, HTN.out, HZN.out, HLN.out⟩))))
        case measure => simp [intOf]
    · obtain ⟨a0, n0, m0, hc0⟩ : ∃ a n c, c0 = .slice a n c := by rw [← HC0.out]; unfold rowV; split <;> exact ⟨_, _, _, rfl⟩
      subst hc0
      obtain ⟨a1, n1, m1, hc1⟩ : ∃ a n c, c1 = .slice a n c := by rw [← HC1.out]; unfold rowV; split <;> exact ⟨_, _, _, rfl⟩
      subst hc1
      obtain ⟨a2, n2, m2, hc2⟩ : ∃ a n c, c2 = .slice a n c := by rw [← HC2.out]; unfold rowV; split <;> exact ⟨_, _, _, rfl⟩
      subst hc2
      obtain ⟨a3, n3, m3, hc3⟩ : ∃ a n c, c3 = .slice a n c := by rw [← HC3.out]; unfold rowV; split <;> exact ⟨_, _, _, rfl⟩
      subst hc3
      have k0 := hb0.c 0 rfl
      have k1 := hb0.c 1 rfl
      have k2 := hb0.c 2 rfl
      have k3 := hb0.c 3 rfl
      have z0 := hb2.c 0 rfl
      have z1 := hb2.c 1 rfl
      have z2 := hb2.c 2 rfl
      have z3 := hb2.c 3 rfl
      have y0 := hb2.free 0
      have y1 := hb2.free 1
      have y2 := hb2.free 2
      have y3 := hb2.free 3
      have HFB := Lib.hid (((((hb2.set 0 (.slice a0 n0 m0)).set 1 (.slice a1 n1 m1)).set 2 (.slice a2 n2 m2)).set 3 (.slice a3 n3 m3)) : Box 171 ((((wr.setCell ⟨w.heap.size + 1 + 1, 0, none⟩ (.slice a0 n0 m0)).setCell ⟨w.heap.size + 1 + 1, 1, none⟩ (.slice a1 n1 m1)).setCell ⟨w.heap.size + 1 + 1, 2, none⟩ (.slice a2 n2 m2)).setCell ⟨w.heap.size + 1 + 1, 3, none⟩ (.slice a3 n3 m3)) (w.heap.size + 1 + 1) #[.slice a0 n0 m0, .slice a1 n1 m1, .slice a2 n2 m2, .slice a3 n3 m3])
      have HFL := Lib.hid ((((hbl.setCell (p := ⟨w.heap.size + 1 + 1, 0, none⟩) (by show w.heap.size ≤ w.heap.size + 1 + 1; omega) (.slice a0 n0 m0)).setCell (p := ⟨w.heap.size + 1 + 1, 1, none⟩) (by show w.heap.size ≤ w.heap.size + 1 + 1; omega) (.slice a1 n1 m1)).setCell (p := ⟨w.heap.size + 1 + 1, 2, none⟩) (by show w.heap.size ≤ w.heap.size + 1 + 1; omega) (.slice a2 n2 m2)).setCell (p := ⟨w.heap.size + 1 + 1, 3, none⟩) (by show w.heap.size ≤ w.heap.size + 1 + 1; omega) (.slice a3 n3 m3))
      clear hb0 hb1 hb2 hbl
      go_wp2
      obtain ⟨wf, hwf⟩ : ∃ wf, ((((wr.setCell ⟨w.heap.size + 1 + 1, 0, none⟩ (.slice a0 n0 m0)).setCell ⟨w.heap.size + 1 + 1, 1, none⟩ (.slice a1 n1 m1)).setCell ⟨w.heap.size + 1 + 1, 2, none⟩ (.slice a2 n2 m2)).setCell ⟨w.heap.size + 1 + 1, 3, none⟩ (.slice a3 n3 m3)) = wf := ⟨_, rfl⟩
      rw [hwf] at HFB HFL ⊢
      have f0 := HFB.out.c 0 rfl
      have f1 := HFB.out.c 1 rfl
      have f2 := HFB.out.c 2 rfl
      have f3 := HFB.out.c 3 rfl
      clear hwf
      refine bodyPost_ret (v := .agg #[.slice a0 n0 m0, .slice a1 n1 m1, .slice a2 n2 m2, .slice a3 n3 m3]) (by simp [results, Try.results158, go_sem, f0, f1, f2, f3]) rfl ⟨by rw [HC0.out, HC1.out, HC2.out, HC3.out], HFL.out⟩

end Go.Proofs.Ytoojgaaggdnpiaa

namespace Go.Proofs.Ytoojgaaggdnpiaa
open Go.RowKit

/-- The whole table for the first k places. -/
def rows4 (g n k : Nat) : Array Value := #[rowV k g n (fun _ => 0) 0, rowV k g n (fun _ => 0) 1, rowV k g n (fun _ => 0) 2, rowV k g n (fun _ => 0) 3]
theorem rows4_zero (g n : Nat) : rows4 g n 0 = #[.slice none 0 0, .slice none 0 0, .slice none 0 0, .slice none 0 0] := by simp [rows4, rowV]
theorem rows4_set (g n k : Nat) (h : k < 4) : (rows4 g n k).setIfInBounds k (.slice (some ⟨g, 0, none⟩) n n) = rows4 g n (k + 1) := by
  have : k = 0 ∨ k = 1 ∨ k = 2 ∨ k = 3 := by omega
  rcases this with rfl | rfl | rfl | rfl <;> simp [rows4, rowV, Array.setIfInBounds]
theorem rows4_at (g n k p : Nat) (h : p < 4) : ∃ v, (rows4 g n k)[p]? = some v := by
  have : p = 0 ∨ p = 1 ∨ p = 2 ∨ p = 3 := by omega
  rcases this with rfl | rfl | rfl | rfl <;> exact ⟨_, rfl⟩

set_option linter.unusedSimpArgs false in
set_option maxHeartbeats 4000000 in
set_option maxRecDepth 100000 in
theorem rowsForC (q n g : Nat) (s r : Int) (w : World) (hq : q ≤ 4) :
    Calls Try.prog 127 #[.agg #[.int .i64 s, .int .i64 r, .slice (some ⟨g, 0, none⟩) n n], .int .i64 (q : Int)] w fun e w' => e = .returned (.agg (rows4 g n q)) ∧ Below w.heap.size w w' := by
  go_enter Try.func127, Try.ntmps127
  go_wp2
  obtain ⟨w3, hw3⟩ : ∃ w3, ((w.alloc (.cells #[.int .i64 s, .int .i64 r, .slice (some ⟨g, 0, none⟩) n n] 173)).alloc (.cells #[.slice none 0 0, .slice none 0 0, .slice none 0 0, .slice none 0 0] 171)).alloc (.cells #[.slice none 0 0, .slice none 0 0, .slice none 0 0, .slice none 0 0] 171) = w3 := ⟨_, rfl⟩
  have S0 : Hid (Box 173 w3 w.heap.size #[.int .i64 s, .int .i64 r, .slice (some ⟨g, 0, none⟩) n n]) := Lib.hid (by rw [← hw3]; exact ((Box.new _ _ _).below ((Below.refl _ _).alloc (Nat.le_refl _) _)).below ((Below.refl _ _).alloc (Nat.le_refl _) _))
  have S1 : Hid (Box 171 w3 (w.heap.size + 1) #[.slice none 0 0, .slice none 0 0, .slice none 0 0, .slice none 0 0]) := Lib.hid (by
    have h := Box.new 171 (w.alloc (.cells #[.int .i64 s, .int .i64 r, .slice (some ⟨g, 0, none⟩) n n] 173)) #[.slice none 0 0, .slice none 0 0, .slice none 0 0, .slice none 0 0]
    rw [World.size_alloc] at h
    rw [← hw3]
    exact h.below ((Below.refl _ _).alloc (Nat.le_refl _) _))
  have S2 : Hid (Box 171 w3 (w.heap.size + 1 + 1) (rows4 g n 0)) := Lib.hid (by
    have h := Box.new 171 ((w.alloc (.cells #[.int .i64 s, .int .i64 r, .slice (some ⟨g, 0, none⟩) n n] 173)).alloc (.cells #[.slice none 0 0, .slice none 0 0, .slice none 0 0, .slice none 0 0] 171)) #[.slice none 0 0, .slice none 0 0, .slice none 0 0, .slice none 0 0]
    rw [World.size_alloc, World.size_alloc] at h
    rw [← hw3, rows4_zero]
    exact h)
  have S3 : Hid (Below w.heap.size w w3) := Lib.hid (by rw [← hw3]; exact (((Below.refl _ _).alloc (Nat.le_refl _) _).alloc (by simp) _).alloc (by simp; omega) _)
  rw [hw3]
  clear hw3
  go_loopw [8] (fun i wr => ∃ k : Nat, k ≤ q ∧ i = .int .i64 k ∧ Box 173 wr w.heap.size #[.int .i64 s, .int .i64 r, .slice (some ⟨g, 0, none⟩) n n] ∧ Box 171 wr (w.heap.size + 1) #[.slice none 0 0, .slice none 0 0, .slice none 0 0, .slice none 0 0] ∧ Box 171 wr (w.heap.size + 1 + 1) (rows4 g n k) ∧ Below w.heap.size w wr) (fun i _ => q - (intOf i).toNat)
  case atStart => exact ⟨0, Nat.zero_le _, rfl, S0.out, S1.out, S2.out, S3.out⟩
  case round =>
    obtain ⟨k, hk, rfl, hb0, hb1, hb2, hbl⟩ := hrel
    by_cases hlt : k < q
    · have HBI := Lib.hid hb0
      have HTI := Lib.hid hb1
      have HZI := Lib.hid hb2
      have HLI := Lib.hid hbl
      have ct := hb0.c 2 rfl
      obtain ⟨v, hv⟩ := rows4_at g n k k (by omega)
      have cz := hb2.c k hv
      have fz := hb2.free k
      have hk4 : (k : Int) < 4 := by omega
      have hkq : (k : Int) < (q : Int) := by omega
      clear hb0 hb1 hb2 hbl hv
      have HBN := Lib.hid (HBI.out.other (a := ⟨w.heap.size + 1 + 1, k, none⟩) (by show w.heap.size ≠ w.heap.size + 1 + 1; omega) (.slice (some ⟨g, 0, none⟩) n n))
      have HTN := Lib.hid (HTI.out.other (a := ⟨w.heap.size + 1 + 1, k, none⟩) (by show w.heap.size + 1 ≠ w.heap.size + 1 + 1; omega) (.slice (some ⟨g, 0, none⟩) n n))
      have HZN := Lib.hid (HZI.out.set k (.slice (some ⟨g, 0, none⟩) n n))
      have HLN := Lib.hid (HLI.out.setCell (p := ⟨w.heap.size + 1 + 1, k, none⟩) (by show w.heap.size ≤ w.heap.size + 1 + 1; omega) (.slice (some ⟨g, 0, none⟩) n n))
      rw [rows4_set _ _ _ (by omega)] at HZN
      go_wp2
      go_roundw
      case rel => exact ⟨k + 1, by omega, by go_num, HBN.out, HTN.out, HZN.out, HLN.out⟩
      case measure => simp [intOf]; omega
    · obtain rfl : k = q := by omega
      obtain ⟨c0, hc0⟩ : ∃ r, rowV k g n (fun _ => 0) 0 = r := ⟨_, rfl⟩
      obtain ⟨c1, hc1⟩ : ∃ r, rowV k g n (fun _ => 0) 1 = r := ⟨_, rfl⟩
      obtain ⟨c2, hc2⟩ : ∃ r, rowV k g n (fun _ => 0) 2 = r := ⟨_, rfl⟩
      obtain ⟨c3, hc3⟩ : ∃ r, rowV k g n (fun _ => 0) 3 = r := ⟨_, rfl⟩
      have hr4 : rows4 g n k = #[c0, c1, c2, c3] := by unfold rows4; rw [hc0, hc1, hc2, hc3]
      rw [hr4] at hb2
      have HR4 := Lib.hid hr4
      have HC0 := Lib.hid hc0
      have HC1 := Lib.hid hc1
      have HC2 := Lib.hid hc2
      have HC3 := Lib.hid hc3
      clear hc0 hc1 hc2 hc3 hr4
      obtain ⟨a0, n0, m0, hc0⟩ : ∃ a n c, c0 = .slice a n c := by rw [← HC0.out]; unfold rowV; split <;> exact ⟨_, _, _, rfl⟩
      subst hc0
      obtain ⟨a1, n1, m1, hc1⟩ : ∃ a n c, c1 = .slice a n c := by rw [← HC1.out]; unfold rowV; split <;> exact ⟨_, _, _, rfl⟩
      subst hc1
      obtain ⟨a2, n2, m2, hc2⟩ : ∃ a n c, c2 = .slice a n c := by rw [← HC2.out]; unfold rowV; split <;> exact ⟨_, _, _, rfl⟩
      subst hc2
      obtain ⟨a3, n3, m3, hc3⟩ : ∃ a n c, c3 = .slice a n c := by rw [← HC3.out]; unfold rowV; split <;> exact ⟨_, _, _, rfl⟩
      subst hc3
      have k0 := hb2.c 0 rfl
      have k1 := hb2.c 1 rfl
      have k2 := hb2.c 2 rfl
      have k3 := hb2.c 3 rfl
      have z0 := hb1.c 0 rfl
      have z1 := hb1.c 1 rfl
      have z2 := hb1.c 2 rfl
      have z3 := hb1.c 3 rfl
      have y0 := hb1.free 0
      have y1 := hb1.free 1
      have y2 := hb1.free 2
      have y3 := hb1.free 3
      have HFB := Lib.hid (((((hb1.set 0 (.slice a0 n0 m0)).set 1 (.slice a1 n1 m1)).set 2 (.slice a2 n2 m2)).set 3 (.slice a3 n3 m3)) : Box 171 ((((wr.setCell ⟨w.heap.size + 1, 0, none⟩ (.slice a0 n0 m0)).setCell ⟨w.heap.size + 1, 1, none⟩ (.slice a1 n1 m1)).setCell ⟨w.heap.size + 1, 2, none⟩ (.slice a2 n2 m2)).setCell ⟨w.heap.size + 1, 3, none⟩ (.slice a3 n3 m3)) (w.heap.size + 1) #[.slice a0 n0 m0, .slice a1 n1 m1, .slice a2 n2 m2, .slice a3 n3 m3])
      have HFL := Lib.hid ((((hbl.setCell (p := ⟨w.heap.size + 1, 0, none⟩) (by show w.heap.size ≤ w.heap.size + 1; omega) (.slice a0 n0 m0)).setCell (p := ⟨w.heap.size + 1, 1, none⟩) (by show w.heap.size ≤ w.heap.size + 1; omega) (.slice a1 n1 m1)).setCell (p := ⟨w.heap.size + 1, 2, none⟩) (by show w.heap.size ≤ w.heap.size + 1; omega) (.slice a2 n2 m2)).setCell (p := ⟨w.heap.size + 1, 3, none⟩) (by show w.heap.size ≤ w.heap.size + 1; omega) (.slice a3 n3 m3))
      clear hb0 hb1 hb2 hbl
      go_wp2
      obtain ⟨wf, hwf⟩ : ∃ wf, ((((wr.setCell ⟨w.heap.size + 1, 0, none⟩ (.slice a0 n0 m0)).setCell ⟨w.heap.size + 1, 1, none⟩ (.slice a1 n1 m1)).setCell ⟨w.heap.size + 1, 2, none⟩ (.slice a2 n2 m2)).setCell ⟨w.heap.size + 1, 3, none⟩ (.slice a3 n3 m3)) = wf := ⟨_, rfl⟩
      rw [hwf] at HFB HFL ⊢
      have f0 := HFB.out.c 0 rfl
      have f1 := HFB.out.c 1 rfl
      have f2 := HFB.out.c 2 rfl
      have f3 := HFB.out.c 3 rfl
      clear hwf
      refine bodyPost_ret (v := .agg #[.slice a0 n0 m0, .slice a1 n1 m1, .slice a2 n2 m2, .slice a3 n3 m3]) (by simp [results, Try.results127, go_sem, f0, f1, f2, f3]) rfl ⟨by first | rfl | rw [HR4.out], HFL.out⟩

end Go.Proofs.Ytoojgaaggdnpiaa

namespace Go.Proofs.Ytoojgaaggdnpiaa
open Go.RowKit
attribute [local go_sem] Oper.semAt_some

/-- Four bytes. -/
def small4 (t : Nat → Nat) : Array Value := #[.int .u8 (t 0 : Int), .int .u8 (t 1 : Int), .int .u8 (t 2 : Int), .int .u8 (t 3 : Int)]
/-- The digits that have come up, the others 0. -/
def digP (size ar num : Nat) (pre : List Nat) (i : Nat) : Nat := if i ∈ pre.map (· % ar) then digN size ar num i else 0
theorem digP_nil (size ar num i : Nat) : digP size ar num [] i = 0 := by simp [digP]
theorem digP_all (size ar num i : Nat) : digP size ar num (List.range ar) i = if i < ar then digN size ar num i else 0 := by
  unfold digP
  by_cases h : i < ar
  · rw [if_pos h, if_pos]
    exact List.mem_map.2 ⟨i, List.mem_range.2 h, Nat.mod_eq_of_lt h⟩
  · rw [if_neg h, if_neg]
    rintro h'
    obtain ⟨j, hj, rfl⟩ := List.mem_map.1 h'
    have := List.mem_range.1 hj
    exact h (Nat.mod_lt _ (by omega))
theorem small4_set (size ar num : Nat) (pre : List Nat) (j : Nat) (h0 : 0 < ar) (h4 : ar ≤ 4) : (small4 (digP size ar num pre)).setIfInBounds (j % ar) (.int .u8 (digN size ar num (j % ar) : Int)) = small4 (digP size ar num (pre ++ [j])) := by
  have hlt := Nat.mod_lt j h0
  have he : ∀ i, digP size ar num (pre ++ [j]) i = if i = j % ar then digN size ar num i else digP size ar num pre i := fun i => by
    unfold digP
    simp only [List.map_append, List.map_cons, List.map_nil, List.mem_append, List.mem_singleton]
    by_cases h1 : i = j % ar
    · simp [h1]
    · simp [h1]
  unfold small4
  simp only [he]
  obtain h | h | h | h : j % ar = 0 ∨ j % ar = 1 ∨ j % ar = 2 ∨ j % ar = 3 := by omega
  all_goals rw [h]; simp [Array.setIfInBounds]
theorem small4_at (t : Nat → Nat) (k : Nat) (h : k < 4) : (small4 t)[k]? = some (.int .u8 (t k : Int)) := by
  obtain h | h | h | h : k = 0 ∨ k = 1 ∨ k = 2 ∨ k = 3 := by omega
  all_goals subst h; rfl

/-- What a loop over a tuple's places keeps: the array in its box. -/
def SmI (size ar num : Nat) (w : World) (pre : List Nat) (W : World) : Prop :=
  (Box 165 W w.heap.size #[.int .u8 0, .int .u8 0, .int .u8 0, .int .u8 0] ∧ Box 165 W (w.heap.size + 1) (small4 (digP size ar num pre))) ∧ Below w.heap.size w W

theorem smI_own (size ar num : Nat) (w : World) (B : Nat) (hB : w.heap.size ≤ B) : OwnFrom B (SmI size ar num w) := by
  refine OwnFrom.and (Own.from ?_ _) (ownFrom_below (Nat.le_refl _) hB)
  rintro pre X Y row ⟨hb, hr⟩ hg hrow
  refine ⟨hb.same (hg.block _ hb.lt fun e => ?_), hr.same (hg.block _ hr.lt fun e => ?_)⟩
  · obtain ⟨o, ho, hc⟩ := hrow _ e.symm
    rw [show X.heap[_]? = _ from hb] at ho; cases ho; cases hc
  · obtain ⟨o, ho, hc⟩ := hrow _ e.symm
    rw [show X.heap[_]? = _ from hr] at ho; cases ho; cases hc

set_option maxRecDepth 100000 in
set_option maxHeartbeats 4000000 in
theorem smallTupleOf_in (n : Nat) (hn : 3 ≤ n) (size ar num : Nat) (h1 : 1 ≤ size) (h2 : size ≤ 4) (h3 : 1 ≤ ar) (h4 : ar ≤ 4) (hnum : num < 256) (w : World) :
    CallsIn Fence.wide n Try.prog 123 #[.int .i64 size, .int .i64 ar, .int .i64 num] w fun e w' => e = .returned (.agg (small4 (fun i => if i < ar then digN size ar num i else 0))) ∧ Below w.heap.size w w' := by
  have hn1 : 1 ≤ n := by omega
  refine callsIn_of_wp_marks Try.func123 rfl trivial ?_ rfl
  simp only [Try.ntmps123, List.size_toArray, List.length_cons, List.length_nil, Nat.reduceAdd, Nat.reduceSub, Array.replicate_succ, Array.replicate_zero, List.push_toArray, List.append_toArray, List.nil_append, List.cons_append]
  gi_wp2_with (refine ⟨trivial, ?_⟩; gi_at_call 140; refine (callsIn_wide.2 (placesOf_in size ar num _)).mono ?_; rintro e w' ⟨rfl, rfl⟩)
  obtain ⟨W0, hW0⟩ : ∃ W0, (w.alloc (.cells #[.int .u8 0, .int .u8 0, .int .u8 0, .int .u8 0] 165)).alloc (.cells #[.int .u8 0, .int .u8 0, .int .u8 0, .int .u8 0] 165) = W0 := ⟨_, rfl⟩
  rw [hW0]
  have hsz : W0.heap.size = w.heap.size + 2 := by rw [← hW0]; simp
  have hI0 : SmI size ar num w [] W0 := by
    rw [← hW0]
    refine ⟨⟨?_, ?_⟩, ((Below.refl _ _).alloc (Nat.le_refl _) _).alloc (by simp) _⟩
    · exact (Box.new _ _ _).below ((Below.refl _ _).alloc (Nat.le_refl _) _)
    · have := Box.new 165 (w.alloc (.cells #[.int .u8 0, .int .u8 0, .int .u8 0, .int .u8 0] 165)) #[.int .u8 0, .int .u8 0, .int .u8 0, .int .u8 0]
      rw [World.size_alloc] at this
      simpa [small4, digP_nil] using this
  have hd0 := (Boxed.new W0 2 (.int .i64 size)).cell
  have hd1 := (Boxed.new (W0.alloc (.cells #[.int .i64 size] 2)) 2 (.int .i64 ar)).cell
  have hd2 := (Boxed.new ((W0.alloc (.cells #[.int .i64 size] 2)).alloc (.cells #[.int .i64 ar] 2)) 2 (.int .i64 num)).cell
  simp only [World.size_alloc, hsz] at hd0 hd1 hd2
  have hL : (((W0.alloc (.cells #[.int .i64 size] 2)).alloc (.cells #[.int .i64 ar] 2)).alloc (.cells #[.int .i64 num] 2)).heap.size = w.heap.size + 5 := by simp [hsz]
  refine wpIn_rangeFunc_ownG rfl hn1 (gf := 163) (lb := #[.pointer (some ⟨w.heap.size + 1 + 1, 0, none⟩), .pointer (some ⟨w.heap.size + 1 + 1 + 1, 0, none⟩), .pointer (some ⟨w.heap.size + 1 + 1 + 2, 0, none⟩)]) rfl trivial (enters_of Try.func163 (by kernel_rfl) rfl)
    (places_stops (n - 1) (by omega) (w.heap.size + 1 + 1) size ar num h1 h2 h4 hnum _ ?c0 ?c1 ?c2) (fun h k => h.trans k) ?hb (Below.refl _ _) (fun _ => rfl)
    (SmI size ar num w) (fun _ _ _ => False) (smI_own size ar num w _ (by rw [hL]; omega)) (fun _ _ _ _ _ hs _ _ => hs) ?i0 ?a1 ?assign ?body ?done ?stop
  case c0 => exact below_cell (((Below.refl _ _).alloc (Nat.le_refl _) _).alloc (by simp) _) hd0
  case c1 => exact below_cell ((Below.refl _ _).alloc (Nat.le_refl _) _) hd1
  case c2 => exact hd2
  case hb =>
    intro W l o o' hl _ _ _
    rw [hL] at hl
    exact ⟨by simp, fun k _ h2 => World.putObj_heap_other (fun e => by omega)⟩
  case i0 =>
    have hO := smI_own size ar num w (w.heap.size + 2) (by omega)
    exact hO.alloc _ (hO.alloc _ (hO.alloc _ hI0))
  case assign =>
    intro l x W K hK
    gi_wp2
    exact hK
  case body =>
    rintro l pre x W ⟨⟨hb, hr⟩, hB⟩ hlen
    have hxlt : x % ar < ar := Nat.mod_lt x (by omega)
    have cr := hr.c (x % ar) (small4_at _ _ (by omega))
    have fr := hr.free (x % ar)
    have hst := hr.set (x % ar) (.int .u8 (digN size ar num (x % ar) : Int))
    rw [small4_set size ar num pre x (by omega) h4] at hst
    have hdl : digN size ar num (x % ar) < 4 := Nat.lt_of_lt_of_le (Nat.mod_lt _ h1) h2
    generalize digN size ar num (x % ar) = d at *
    have hwr : IntKind.u8.wrap (d : Int) = (d : Int) := by
      obtain h | h | h | h : d = 0 ∨ d = 1 ∨ d = 2 ∨ d = 3 := by omega
      all_goals subst h; rfl
    have HB := Lib.hid hb
    have HR := Lib.hid hst
    have HW := Lib.hid hB
    have hj : (x : Int) % (ar : Int) < (ar : Int) := by omega
    have hj4 : (x : Int) % (ar : Int) < 4 := by omega
    clear hb hr hB hst
    gi_wp2
    refine ⟨(KeepsOthers.setCell _ _ _).from _, ⟨by simp [World.setCell], fun k hk1 _ => Below.heap_setCell _ _ _ _ (by show k ≠ w.heap.size + 1; omega)⟩, ⟨⟨HB.out.other (by show w.heap.size ≠ w.heap.size + 1; omega) _, HR.out⟩, HW.out.setCell (by show w.heap.size ≤ w.heap.size + 1; omega) _⟩⟩
  case done =>
    rintro D xs W hD rfl ⟨⟨hb, hr⟩, hB⟩ hK
    rw [hL] at hD
    have e4 : small4 (digP size ar num (List.range ar)) = small4 (fun i => if i < ar then digN size ar num i else 0) := by unfold small4; simp only [digP_all]
    rw [e4] at hr
    generalize hF : (fun i => if i < ar then digN size ar num i else 0) = F at *
    have c0 : W.cell? ⟨w.heap.size + 1, 0, none⟩ = some (.int .u8 (F 0 : Int)) := hr.c 0 rfl
    have c1 : W.cell? ⟨w.heap.size + 1, 1, none⟩ = some (.int .u8 (F 1 : Int)) := hr.c 1 rfl
    have c2 : W.cell? ⟨w.heap.size + 1, 2, none⟩ = some (.int .u8 (F 2 : Int)) := hr.c 2 rfl
    have c3 : W.cell? ⟨w.heap.size + 1, 3, none⟩ = some (.int .u8 (F 3 : Int)) := hr.c 3 rfl
    have z0 : W.cell? ⟨w.heap.size, 0, none⟩ = some (.int .u8 0) := hb.c 0 rfl
    have z1 : W.cell? ⟨w.heap.size, 1, none⟩ = some (.int .u8 0) := hb.c 1 rfl
    have z2 : W.cell? ⟨w.heap.size, 2, none⟩ = some (.int .u8 0) := hb.c 2 rfl
    have z3 : W.cell? ⟨w.heap.size, 3, none⟩ = some (.int .u8 0) := hb.c 3 rfl
    have y0 := hb.free 0
    have y1 := hb.free 1
    have y2 := hb.free 2
    have y3 := hb.free 3
    have HW := Lib.hid hB
    have HB := Lib.hid hb
    have HF := Lib.hid hF
    clear hb hr hB e4 hF
    gi_wp2
    obtain ⟨W4, hW4⟩ : ∃ W4, ((((W.setCell ⟨w.heap.size, 0, none⟩ (.int .u8 (F 0 : Int))).setCell ⟨w.heap.size, 1, none⟩ (.int .u8 (F 1 : Int))).setCell ⟨w.heap.size, 2, none⟩ (.int .u8 (F 2 : Int))).setCell ⟨w.heap.size, 3, none⟩ (.int .u8 (F 3 : Int))) = W4 := ⟨_, rfl⟩
    have HFB : Box 165 W4 w.heap.size #[.int .u8 (F 0 : Int), .int .u8 (F 1 : Int), .int .u8 (F 2 : Int), .int .u8 (F 3 : Int)] := by
      rw [← hW4]
      exact (((HB.out.set 0 (.int .u8 (F 0 : Int))).set 1 (.int .u8 (F 1 : Int))).set 2 (.int .u8 (F 2 : Int))).set 3 (.int .u8 (F 3 : Int))
    have HFL : Below w.heap.size w W4 := by
      rw [← hW4]
      exact (((HW.out.setCell (p := ⟨w.heap.size, 0, none⟩) (Nat.le_refl _) _).setCell (p := ⟨w.heap.size, 1, none⟩) (Nat.le_refl _) _).setCell (p := ⟨w.heap.size, 2, none⟩) (Nat.le_refl _) _).setCell (p := ⟨w.heap.size, 3, none⟩) (Nat.le_refl _) _
    have hK4 : W4.heap[D]? = some (Obj.deferred (some [])) := by
      rw [← hW4]
      have hne : ∀ o : Nat, D ≠ (Addr.mk w.heap.size o none).block := fun o => by show D ≠ w.heap.size; omega
      rw [Below.heap_setCell _ _ _ _ (hne 3), Below.heap_setCell _ _ _ _ (hne 2), Below.heap_setCell _ _ _ _ (hne 1), Below.heap_setCell _ _ _ _ (hne 0)]
      exact hK
    rw [hW4]
    clear hW4
    refine ⟨by simp, .inl ⟨_, _, rfl, run_takeDeferred hK4, ?_⟩⟩
    have hFP : Box 165 (W4.putObj D (Obj.deferred none)) w.heap.size #[.int .u8 (F 0 : Int), .int .u8 (F 1 : Int), .int .u8 (F 2 : Int), .int .u8 (F 3 : Int)] := HFB.same (World.putObj_heap_other (fun e => by omega))
    have f0 : (W4.putObj D (Obj.deferred none)).cell? ⟨w.heap.size, 0, none⟩ = some (.int .u8 (F 0 : Int)) := hFP.c 0 rfl
    have f1 : (W4.putObj D (Obj.deferred none)).cell? ⟨w.heap.size, 1, none⟩ = some (.int .u8 (F 1 : Int)) := hFP.c 1 rfl
    have f2 : (W4.putObj D (Obj.deferred none)).cell? ⟨w.heap.size, 2, none⟩ = some (.int .u8 (F 2 : Int)) := hFP.c 2 rfl
    have f3 : (W4.putObj D (Obj.deferred none)).cell? ⟨w.heap.size, 3, none⟩ = some (.int .u8 (F 3 : Int)) := hFP.c 3 rfl
    refine ⟨.agg #[.int .u8 (F 0 : Int), .int .u8 (F 1 : Int), .int .u8 (F 2 : Int), .int .u8 (F 3 : Int)], by simp [results, Try.results123, go_sem, f0, f1, f2, f3], by have := HF.out; subst this; rfl, HFL.trans (belowK_b (w := w) (Nat.le_refl _) W4 D _ _ (by omega) hK4 rfl rfl)⟩
  case stop =>
    rintro D c pre W _ _ h _
    exact h.elim

theorem smallTupleOf (size ar num : Nat) (h1 : 1 ≤ size) (h2 : size ≤ 4) (h3 : 1 ≤ ar) (h4 : ar ≤ 4) (hnum : num < 256) (w : World) :
    Calls Try.prog 123 #[.int .i64 size, .int .i64 ar, .int .i64 num] w fun e w' => e = .returned (.agg (small4 (fun i => if i < ar then digN size ar num i else 0))) ∧ Below w.heap.size w w' :=
  (callsIn_wide (n := 3)).1 (smallTupleOf_in 3 (Nat.le_refl _) size ar num h1 h2 h3 h4 hnum w)

end Go.Proofs.Ytoojgaaggdnpiaa

namespace Go.Proofs.Ytoojgaaggdnpiaa
open Go.RowKit

/-- A list of numbers of its own. -/
def OwnI (w : World) (B : Nat) (v : Value) (is : List Nat) : Prop := w.ownsRow B 3 1 v is.length (is.map fun (i : Nat) => .int .i64 (i : Int))
/-- A list of small tuples. -/
def SmAt (w : World) (v : Value) (n : Nat) (T : Nat → Nat → Nat) : Prop :=
  ∃ a c, v = .slice a n c ∧ (0 < n → ∃ b off, a = some ⟨b, off, none⟩ ∧ ∀ i, i < n → ∀ p, p < 4 → w.cell? ⟨b, off + i * 4 + p, none⟩ = some (.int .u8 (T i p : Int)))
theorem SmAt.below {w w' : World} {v : Value} {n : Nat} {T : Nat → Nat → Nat} (h : SmAt w v n T) (hb : Below w.heap.size w w') : SmAt w' v n T := by
  obtain ⟨a, c, rfl, h⟩ := h
  refine ⟨a, c, rfl, fun h0 => ?_⟩
  obtain ⟨b, off, rfl, hc⟩ := h h0
  exact ⟨b, off, rfl, fun i hi p hp => below_cell hb (hc i hi p hp)⟩
/-- Nothing but the block rb and the block a has turned. -/
def RestO (rb : Nat) (a : Option Nat) (w w' : World) : Prop := Only (fun k => k = rb ∨ some k = a) w w'
theorem RestO.ofBelow {rb : Nat} {a : Option Nat} {w w' : World} (h : Below w.heap.size w w') : RestO rb a w w' := ⟨h.os, h.tape, h.output, h.size, fun k hk _ => h.block k hk⟩
theorem RestO.grown {rb : Nat} {a : Option Nat} {w w1 w2 : World} (h : RestO rb a w w1) (hg : w1.grownBy w2 a) : RestO rb a w w2 := Only.trans h ((Only.of_grownBy hg).mono fun _ hk => .inr hk)
theorem RestO.set {rb : Nat} {a : Option Nat} {w w1 : World} (h : RestO rb a w w1) (p : Addr) (v : Value) (hp : p.block = rb ∨ some p.block = a) : RestO rb a w (w1.setCell p v) := Only.setCell h hp v
theorem RestO.size {rb : Nat} {a : Option Nat} {w w1 : World} (h : RestO rb a w w1) : w.heap.size ≤ w1.heap.size := Only.size h
theorem RestO.at {rb : Nat} {a : Option Nat} {w w1 : World} (h : RestO rb a w w1) (k : Nat) (hk : k < w.heap.size) (h1 : k ≠ rb) (h2 : some k ≠ a) : w1.heap[k]? = w.heap[k]? := Only.block h k hk fun e => e.elim h1 h2
theorem OwnI.below {w w' : World} {B : Nat} {v : Value} {is : List Nat} (h : OwnI w B v is) (hb : Below w.heap.size w w') : OwnI w' B v is := ownsRow_below h hb
theorem OwnI.set {w : World} {B : Nat} {v : Value} {is : List Nat} (h : OwnI w B v is) (p : Addr) (u : Value) (hp : v.ownBlock ≠ some p.block) : OwnI (w.setCell p u) B v is :=
  ownsRow_same h fun _ hg => Below.heap_setCell _ _ _ _ (fun e => hp (e ▸ hg))
/-- The number of the tuple that is made with the i-th one as the last. -/
def numI (s q : Nat) (G T : Nat → Nat → Nat) (i : Nat) : Nat := sumH s q G (T i 0) + sumH s q G (4 + T i 1) + sumH s q G (8 + T i 2) + sumH s q G (12 + T i 3)
theorem info_I : (Try.prog.info? 3).map (fun i => (i.zero, i.size, i.bytes)) = some (some (.int .i64 0), 1, 8) := by kernel_rfl
theorem bitsV_lit (S : Nat → Bool) : bitsV S = .agg #[.int .u64 (word S 0), .int .u64 (word S 1), .int .u64 (word S 2), .int .u64 (word S 3)] := rfl

set_option linter.unusedSimpArgs false in
set_option maxHeartbeats 4000000 in
set_option maxRecDepth 100000 in
theorem findLastC (sb s q n : Nat) (S : Nat → Bool) (ta : Option Addr) (tc : Nat) (T : Nat → Nat → Nat) (la : Option Addr) (lc : Nat) (is : List Nat) (mv : Int) (R : Nat → Value) (G : Nat → Nat → Nat) (w : World)
    (hb : Box 102 w sb #[.int .i64 (s : Int), .int .i64 (q : Int), .int .u64 (word S 0), .int .u64 (word S 1), .int .u64 (word S 2), .int .u64 (word S 3), .slice ta n tc, .slice la is.length lc, .int .i64 mv]) (ht : SmAt w (.slice ta n tc) n T) (hl : OwnI w 0 (.slice la is.length lc) is) (hne : (Value.slice la is.length lc).ownBlock ≠ some sb) (hR : ∀ p, p < q → SlAt w (R p) s (fun v => .int .u8 (G p v : Int)))
    (hs1 : 1 ≤ s) (hs4 : s ≤ 4) (hq1 : 1 ≤ q) (hq4 : q ≤ 4) (hG : ∀ p v, p < q → v < s → G p v * s ^ (q - 1 - p) ≤ 255) (hT : ∀ i p, i < n → T i p < 4) (hN : ∀ i, i < n → numI s q G T i ≤ 255) (hil : is.length ≤ 1000) (hn : n ≤ 256) :
    Calls Try.prog 157 #[.pointer (some ⟨sb, 0, none⟩), .agg #[R 0, R 1, R 2, R 3]] w fun e w' => ∃ b, e = .returned (.bool b) ∧
      ((b = false ∧ (∀ i, i < n → S (numI s q G T i) = true) ∧ Below w.heap.size w w') ∨
       (b = true ∧ ∃ i g c, i < n ∧ S (numI s q G T i) = false ∧ (∀ j, j < i → S (numI s q G T j) = true) ∧ Box 102 w' sb #[.int .i64 (s : Int), .int .i64 (q : Int), .int .u64 (word S 0), .int .u64 (word S 1), .int .u64 (word S 2), .int .u64 (word S 3), .slice ta n tc, .slice (some ⟨g, 0, none⟩) (is.length + 1) c, .int .i64 (numI s q G T i : Nat)] ∧ OwnI w' 0 (.slice (some ⟨g, 0, none⟩) (is.length + 1) c) (is ++ [i]) ∧ g ≠ sb ∧ ((Value.slice la is.length lc).ownBlock = some g ∨ w.heap.size ≤ g) ∧ RestO sb (Value.slice la is.length lc).ownBlock w w')) := by
  obtain ⟨i0, hi, hz0, hz1, hz2⟩ := info_parts info_I
  have HBX := Lib.hid hb
  have HTS := Lib.hid ht
  have HL := Lib.hid hl
  have HNE := Lib.hid hne
  have HR := Lib.hid hR
  have HG := Lib.hid hG
  have HT := Lib.hid hT
  have HN := Lib.hid hN
  have d0 := hb.c 0 rfl
  have d1 := hb.c 1 rfl
  have hsb := hb.lt
  have HSB := Lib.hid hsb
  clear hb ht hl hne hR hG hT hN
  go_enter Try.func157, Try.ntmps157
  go_upto_region 1 with fail
  go_cut [5] from 9 to 18 (fun v5 wz => ∃ zb, v5 = .pointer (some ⟨zb, 0, none⟩) ∧ Box 217 wz zb (arr16 (sumH s q G)) ∧ Below w.heap.size w wz)
  case first =>
    have r0 : (w.alloc (.cells #[R 0, R 1, R 2, R 3] 171)).cell? ⟨w.heap.size, 0, none⟩ = some (R 0) := (Box.new _ _ _).c 0 rfl
    have r1 : (w.alloc (.cells #[R 0, R 1, R 2, R 3] 171)).cell? ⟨w.heap.size, 1, none⟩ = some (R 1) := (Box.new _ _ _).c 1 rfl
    have r2 : (w.alloc (.cells #[R 0, R 1, R 2, R 3] 171)).cell? ⟨w.heap.size, 2, none⟩ = some (R 2) := (Box.new _ _ _).c 2 rfl
    have r3 : (w.alloc (.cells #[R 0, R 1, R 2, R 3] 171)).cell? ⟨w.heap.size, 3, none⟩ = some (R 3) := (Box.new _ _ _).c 3 rfl
    have hw1 : Below w.heap.size w (w.alloc (.cells #[R 0, R 1, R 2, R 3] 171)) := (Below.refl _ _).alloc (Nat.le_refl _) _
    have e0 := below_cell hw1 d0
    have e1 := below_cell hw1 d1
    refine wp_region_noPanic ?_
    refine wp_region_late (S := (fun w' => w'.cell? ⟨w.heap.size, 0, none⟩ = some (R 0) ∧ w'.cell? ⟨w.heap.size, 1, none⟩ = some (R 1) ∧ w'.cell? ⟨w.heap.size, 2, none⟩ = some (R 2) ∧ w'.cell? ⟨w.heap.size, 3, none⟩ = some (R 3) ∧ w'.cell? ⟨sb, 0, none⟩ = some (.int .i64 (s : Int)) ∧ w'.cell? ⟨sb, 1, none⟩ = some (.int .i64 (q : Int)) ∧ Below w.heap.size w w')) [11] (by kernel_rfl) ?_ (fun hHeld => ?_)
    · exact ⟨r0, r1, r2, r3, e0, e1, hw1.drew⟩
    refine wpAnyL_take (i := 0) (v := ?_) (some 9) rfl rfl (by kernel_rfl) (by kernel_rfl) (by kernel_rfl) (by kernel_rfl) (by kernel_rfl) (fun _ _ _ h => h) (Or.inl ⟨by rfl, ?_⟩) (by assumption) ?_
    rotate_left
    · intro wS hSw
      try dsimp only at hSw
      go_simp
      try with_reducible rfl
    try simp only [Act.put, List.setIfInBounds_toArray, List.set_cons_zero, List.set_cons_succ]
    refine wpAnyL_free (i := 1) (v := ?_) (some 10) rfl rfl (by kernel_rfl) (by kernel_rfl) (by kernel_rfl) (by decide) (fun _ _ _ h => h) (Or.inl ⟨by rfl, ?_⟩) (fun h0 => by assumption) ?_
    rotate_left
    · intro wS
      go_simp
      try with_reducible rfl
    try simp only [Act.put, List.setIfInBounds_toArray, List.set_cons_zero, List.set_cons_succ]
    refine wpAnyL_free (i := 2) (v := ?_) (some 11) rfl rfl (by kernel_rfl) (by kernel_rfl) (by kernel_rfl) (by decide) (fun _ _ _ h => h) (Or.inl ⟨by rfl, ?_⟩) (fun h0 => by assumption) ?_
    rotate_left
    · intro wS
      go_simp
      try with_reducible rfl
    try simp only [Act.put, List.setIfInBounds_toArray, List.set_cons_zero, List.set_cons_succ]
    refine wpAnyL_free (i := 3) (v := ?_) (some 12) rfl rfl (by kernel_rfl) (by kernel_rfl) (by kernel_rfl) (by decide) (fun _ _ _ h => h) (Or.inl ⟨by rfl, ?_⟩) (fun h0 => by assumption) ?_
    rotate_left
    · intro wS
      go_simp
      try with_reducible rfl
    try simp only [Act.put, List.setIfInBounds_toArray, List.set_cons_zero, List.set_cons_succ]
    refine wpAnyL_take (i := 4) (v := ?_) (some 13) rfl rfl (by kernel_rfl) (by kernel_rfl) (by kernel_rfl) (by kernel_rfl) (by kernel_rfl) (fun _ _ _ h => h) (Or.inl ⟨by rfl, ?_⟩) (by assumption) ?_
    rotate_left
    · intro wS hSw
      try dsimp only at hSw
      go_simp
      try with_reducible rfl
    try simp only [Act.put, List.setIfInBounds_toArray, List.set_cons_zero, List.set_cons_succ]
    refine wpAnyL_free (i := 5) (v := ?_) (some 14) rfl rfl (by kernel_rfl) (by kernel_rfl) (by kernel_rfl) (by decide) (fun _ _ _ h => h) (Or.inl ⟨by rfl, ?_⟩) (fun h0 => by assumption) ?_
    rotate_left
    · intro wS
      go_simp
      try with_reducible rfl
    try simp only [Act.put, List.setIfInBounds_toArray, List.set_cons_zero, List.set_cons_succ]
    refine wpAnyL_free (i := 6) (v := ?_) (some 15) rfl rfl (by kernel_rfl) (by kernel_rfl) (by kernel_rfl) (by decide) (fun _ _ _ h => h) (Or.inl ⟨by rfl, ?_⟩) (fun h0 => by assumption) ?_
    rotate_left
    · intro wS
      go_simp
      try with_reducible rfl
    try simp only [Act.put, List.setIfInBounds_toArray, List.set_cons_zero, List.set_cons_succ]
    refine wpAnyL_free (i := 7) (v := ?_) (some 16) rfl rfl (by kernel_rfl) (by kernel_rfl) (by kernel_rfl) (by decide) (fun _ _ _ h => h) (Or.inl ⟨by rfl, ?_⟩) (fun h0 => by assumption) ?_
    rotate_left
    · intro wS
      go_simp
      try with_reducible rfl
    try simp only [Act.put, List.setIfInBounds_toArray, List.set_cons_zero, List.set_cons_succ]
    refine wpAnyL_take (i := 8) (v := ?_) (some 17) rfl rfl (by kernel_rfl) (by kernel_rfl) (by kernel_rfl) (by kernel_rfl) (by kernel_rfl) (fun _ _ _ h => h) (Or.inl ⟨by rfl, ?_⟩) (by assumption) ?_
    rotate_left
    · intro wS hSw
      try dsimp only at hSw
      go_simp
      try with_reducible rfl
    try simp only [Act.put, List.setIfInBounds_toArray, List.set_cons_zero, List.set_cons_succ]
    refine wpAnyL_ready (rs := [9, 10]) (by kernel_rfl) (by simp) ?_
    refine AllReadyL.cons rfl (fun K hK => ?_) ?_
    · skip
      go_simp; go_at_call 169; refine (sumsC s q R G _ (fun p hp => (HR.out p hp).below hHeld.2.2.2.2.2.2) hs1 hs4 hq1 hq4 HG.out).mono ?_; rintro e w3 ⟨rfl, hb3⟩
      rw [arr16_lit]
      have HB3 := Lib.hid (hHeld.2.2.2.2.2.2.trans (hb3.mono hHeld.2.2.2.2.2.2.size))
      refine hK.out _ _ ?_ (fun hHeld => ?_)
      · exact ⟨below_cell hb3 hHeld.1, below_cell hb3 hHeld.2.1, below_cell hb3 hHeld.2.2.1, below_cell hb3 hHeld.2.2.2.1, below_cell hb3 hHeld.2.2.2.2.1, below_cell hb3 hHeld.2.2.2.2.2.1, hHeld.2.2.2.2.2.2.trans (hb3.mono hHeld.2.2.2.2.2.2.size)⟩
      clear hK K
      try simp only [Act.put, List.setIfInBounds_toArray, List.set_cons_zero, List.set_cons_succ]
      refine wpAnyL_ready (rs := [10]) (by kernel_rfl) (by simp) ?_
      refine AllReadyL.cons rfl (fun K hK => ?_) AllReadyL.nil
      go_simp
      refine hK.out _ _ ?_ (fun hHeld => ?_)
      · exact ⟨below_cell ((Below.refl _ _).alloc (Nat.le_refl _) _) hHeld.1, below_cell ((Below.refl _ _).alloc (Nat.le_refl _) _) hHeld.2.1, below_cell ((Below.refl _ _).alloc (Nat.le_refl _) _) hHeld.2.2.1, below_cell ((Below.refl _ _).alloc (Nat.le_refl _) _) hHeld.2.2.2.1, below_cell ((Below.refl _ _).alloc (Nat.le_refl _) _) hHeld.2.2.2.2.1, below_cell ((Below.refl _ _).alloc (Nat.le_refl _) _) hHeld.2.2.2.2.2.1, hHeld.2.2.2.2.2.2.trans ((((Below.refl _ _).alloc (Nat.le_refl _) _)).mono hHeld.2.2.2.2.2.2.size)⟩
      clear hK K
      try simp only [Act.put, List.setIfInBounds_toArray, List.set_cons_zero, List.set_cons_succ]
      refine wpAnyL_ready (rs := [11]) (by kernel_rfl) (by simp) ?_
      refine AllReadyL.last rfl (by kernel_rfl) (fun K hK => ?_) AllReadyL.nil
      obtain ⟨w5, hw5⟩ : ∃ w5, w3.alloc (.cells #[.int .u8 0, .int .u8 0, .int .u8 0, .int .u8 0, .int .u8 0, .int .u8 0, .int .u8 0, .int .u8 0, .int .u8 0, .int .u8 0, .int .u8 0, .int .u8 0, .int .u8 0, .int .u8 0, .int .u8 0, .int .u8 0] 217) = w5 := ⟨_, rfl⟩
      have HZ : Hid (Box 217 w5 w3.heap.size #[.int .u8 0, .int .u8 0, .int .u8 0, .int .u8 0, .int .u8 0, .int .u8 0, .int .u8 0, .int .u8 0, .int .u8 0, .int .u8 0, .int .u8 0, .int .u8 0, .int .u8 0, .int .u8 0, .int .u8 0, .int .u8 0]) := Lib.hid (by rw [← hw5]; exact Box.new _ _ _)
      have HB5 : Hid (Below w.heap.size w w5) := Lib.hid (by rw [← hw5]; exact HB3.out.alloc HB3.out.size _)
      have HSZ : Hid (w.heap.size ≤ w3.heap.size) := Lib.hid HB3.out.size
      obtain ⟨zb, hzb⟩ : ∃ zb, w3.heap.size = zb := ⟨_, rfl⟩
      simp only [hzb] at HZ HSZ ⊢
      rw [hw5]
      clear hw5 hzb
      have z0 : w5.cell? ⟨zb, 0, none⟩ = some (.int .u8 0) := HZ.out.c 0 rfl
      have y0 := HZ.out.free 0
      have z1 : w5.cell? ⟨zb, 1, none⟩ = some (.int .u8 0) := HZ.out.c 1 rfl
      have y1 := HZ.out.free 1
      have z2 : w5.cell? ⟨zb, 2, none⟩ = some (.int .u8 0) := HZ.out.c 2 rfl
      have y2 := HZ.out.free 2
      have z3 : w5.cell? ⟨zb, 3, none⟩ = some (.int .u8 0) := HZ.out.c 3 rfl
      have y3 := HZ.out.free 3
      have z4 : w5.cell? ⟨zb, 4, none⟩ = some (.int .u8 0) := HZ.out.c 4 rfl
      have y4 := HZ.out.free 4
      have z5 : w5.cell? ⟨zb, 5, none⟩ = some (.int .u8 0) := HZ.out.c 5 rfl
      have y5 := HZ.out.free 5
      have z6 : w5.cell? ⟨zb, 6, none⟩ = some (.int .u8 0) := HZ.out.c 6 rfl
      have y6 := HZ.out.free 6
      have z7 : w5.cell? ⟨zb, 7, none⟩ = some (.int .u8 0) := HZ.out.c 7 rfl
      have y7 := HZ.out.free 7
      have z8 : w5.cell? ⟨zb, 8, none⟩ = some (.int .u8 0) := HZ.out.c 8 rfl
      have y8 := HZ.out.free 8
      have z9 : w5.cell? ⟨zb, 9, none⟩ = some (.int .u8 0) := HZ.out.c 9 rfl
      have y9 := HZ.out.free 9
      have z10 : w5.cell? ⟨zb, 10, none⟩ = some (.int .u8 0) := HZ.out.c 10 rfl
      have y10 := HZ.out.free 10
      have z11 : w5.cell? ⟨zb, 11, none⟩ = some (.int .u8 0) := HZ.out.c 11 rfl
      have y11 := HZ.out.free 11
      have z12 : w5.cell? ⟨zb, 12, none⟩ = some (.int .u8 0) := HZ.out.c 12 rfl
      have y12 := HZ.out.free 12
      have z13 : w5.cell? ⟨zb, 13, none⟩ = some (.int .u8 0) := HZ.out.c 13 rfl
      have y13 := HZ.out.free 13
      have z14 : w5.cell? ⟨zb, 14, none⟩ = some (.int .u8 0) := HZ.out.c 14 rfl
      have y14 := HZ.out.free 14
      have z15 : w5.cell? ⟨zb, 15, none⟩ = some (.int .u8 0) := HZ.out.c 15 rfl
      have y15 := HZ.out.free 15
      go_simp
      refine hK.out _ _ ?_
      clear hK K
      try simp only [Act.put, List.setIfInBounds_toArray, List.set_cons_zero, List.set_cons_succ]
      refine wpAnyL_done (by kernel_rfl) ?_ _
      refine NoPanic.normal ?_
      have HFZ := Lib.hid (Box.a15 (A := sumH s q G) (Box.a14 (A := sumH s q G) (Box.a13 (A := sumH s q G) (Box.a12 (A := sumH s q G) (Box.a11 (A := sumH s q G) (Box.a10 (A := sumH s q G) (Box.a9 (A := sumH s q G) (Box.a8 (A := sumH s q G) (Box.a7 (A := sumH s q G) (Box.a6 (A := sumH s q G) (Box.a5 (A := sumH s q G) (Box.a4 (A := sumH s q G) (Box.a3 (A := sumH s q G) (Box.a2 (A := sumH s q G) (Box.a1 (A := sumH s q G) (Box.a0 (A := sumH s q G) HZ.out))))))))))))))))
      rw [← arr16_lit] at HFZ
      have HFB := Lib.hid ((((((((((((((((HB5.out.setCell (p := ⟨zb, 0, none⟩) HSZ.out (.int .u8 (sumH s q G 0 : Int))).setCell (p := ⟨zb, 1, none⟩) HSZ.out (.int .u8 (sumH s q G 1 : Int))).setCell (p := ⟨zb, 2, none⟩) HSZ.out (.int .u8 (sumH s q G 2 : Int))).setCell (p := ⟨zb, 3, none⟩) HSZ.out (.int .u8 (sumH s q G 3 : Int))).setCell (p := ⟨zb, 4, none⟩) HSZ.out (.int .u8 (sumH s q G 4 : Int))).setCell (p := ⟨zb, 5, none⟩) HSZ.out (.int .u8 (sumH s q G 5 : Int))).setCell (p := ⟨zb, 6, none⟩) HSZ.out (.int .u8 (sumH s q G 6 : Int))).setCell (p := ⟨zb, 7, none⟩) HSZ.out (.int .u8 (sumH s q G 7 : Int))).setCell (p := ⟨zb, 8, none⟩) HSZ.out (.int .u8 (sumH s q G 8 : Int))).setCell (p := ⟨zb, 9, none⟩) HSZ.out (.int .u8 (sumH s q G 9 : Int))).setCell (p := ⟨zb, 10, none⟩) HSZ.out (.int .u8 (sumH s q G 10 : Int))).setCell (p := ⟨zb, 11, none⟩) HSZ.out (.int .u8 (sumH s q G 11 : Int))).setCell (p := ⟨zb, 12, none⟩) HSZ.out (.int .u8 (sumH s q G 12 : Int))).setCell (p := ⟨zb, 13, none⟩) HSZ.out (.int .u8 (sumH s q G 13 : Int))).setCell (p := ⟨zb, 14, none⟩) HSZ.out (.int .u8 (sumH s q G 14 : Int))).setCell (p := ⟨zb, 15, none⟩) HSZ.out (.int .u8 (sumH s q G 15 : Int)))
      clear z0 y0 z1 y1 z2 y2 z3 y3 z4 y4 z5 y5 z6 y6 z7 y7 z8 y8 z9 y9 z10 y10 z11 y11 z12 y12 z13 y13 z14 y14 z15 y15
      go_wp2_with fail
      go_meet
      exact ⟨zb, rfl, HFZ.out, HFB.out⟩
    refine AllReadyL.cons rfl (fun K hK => ?_) AllReadyL.nil
    go_simp
    refine hK.out _ _ ?_ (fun hHeld => ?_)
    · exact ⟨below_cell ((Below.refl _ _).alloc (Nat.le_refl _) _) hHeld.1, below_cell ((Below.refl _ _).alloc (Nat.le_refl _) _) hHeld.2.1, below_cell ((Below.refl _ _).alloc (Nat.le_refl _) _) hHeld.2.2.1, below_cell ((Below.refl _ _).alloc (Nat.le_refl _) _) hHeld.2.2.2.1, below_cell ((Below.refl _ _).alloc (Nat.le_refl _) _) hHeld.2.2.2.2.1, below_cell ((Below.refl _ _).alloc (Nat.le_refl _) _) hHeld.2.2.2.2.2.1, hHeld.2.2.2.2.2.2.trans ((((Below.refl _ _).alloc (Nat.le_refl _) _)).mono hHeld.2.2.2.2.2.2.size)⟩
    clear hK K
    try simp only [Act.put, List.setIfInBounds_toArray, List.set_cons_zero, List.set_cons_succ]
    refine wpAnyL_ready (rs := [9]) (by kernel_rfl) (by simp) ?_
    refine AllReadyL.cons rfl (fun K hK => ?_) AllReadyL.nil
    go_simp; go_at_call 169; refine (sumsC s q R G _ (fun p hp => (HR.out p hp).below hHeld.2.2.2.2.2.2) hs1 hs4 hq1 hq4 HG.out).mono ?_; rintro e w3 ⟨rfl, hb3⟩
    rw [arr16_lit]
    have HB3 := Lib.hid (hHeld.2.2.2.2.2.2.trans (hb3.mono hHeld.2.2.2.2.2.2.size))
    refine hK.out _ _ ?_ (fun hHeld => ?_)
    · exact ⟨below_cell hb3 hHeld.1, below_cell hb3 hHeld.2.1, below_cell hb3 hHeld.2.2.1, below_cell hb3 hHeld.2.2.2.1, below_cell hb3 hHeld.2.2.2.2.1, below_cell hb3 hHeld.2.2.2.2.2.1, hHeld.2.2.2.2.2.2.trans (hb3.mono hHeld.2.2.2.2.2.2.size)⟩
    clear hK K
    try simp only [Act.put, List.setIfInBounds_toArray, List.set_cons_zero, List.set_cons_succ]
    refine wpAnyL_ready (rs := [11]) (by kernel_rfl) (by simp) ?_
    refine AllReadyL.last rfl (by kernel_rfl) (fun K hK => ?_) AllReadyL.nil
    have HZ0 := (Box.new 217 (w.alloc (.cells #[R 0, R 1, R 2, R 3] 171)).drew #[.int .u8 0, .int .u8 0, .int .u8 0, .int .u8 0, .int .u8 0, .int .u8 0, .int .u8 0, .int .u8 0, .int .u8 0, .int .u8 0, .int .u8 0, .int .u8 0, .int .u8 0, .int .u8 0, .int .u8 0, .int .u8 0]).below hb3
    obtain ⟨w5, hw5⟩ : ∃ w5, w3 = w5 := ⟨_, rfl⟩
    have HB5 : Hid (Below w.heap.size w w5) := Lib.hid (by rw [← hw5]; exact HB3.out)
    obtain ⟨zb, hzb⟩ : ∃ zb, (w.alloc (.cells #[R 0, R 1, R 2, R 3] 171)).drew.heap.size = zb := ⟨_, rfl⟩
    have HZ : Hid (Box 217 w5 zb #[.int .u8 0, .int .u8 0, .int .u8 0, .int .u8 0, .int .u8 0, .int .u8 0, .int .u8 0, .int .u8 0, .int .u8 0, .int .u8 0, .int .u8 0, .int .u8 0, .int .u8 0, .int .u8 0, .int .u8 0, .int .u8 0]) := Lib.hid (by rw [← hw5, ← hzb]; exact HZ0)
    have hzb2 : w.heap.size + 1 = zb := by rw [← hzb]; simp
    have HSZ : Hid (w.heap.size ≤ zb) := Lib.hid (by omega)
    rw [hw5]
    try simp only [World.size_alloc, World.drew_heap]
    rw [hzb2]
    clear hw5 hzb hzb2 HZ0 hb3
    have z0 : w5.cell? ⟨zb, 0, none⟩ = some (.int .u8 0) := HZ.out.c 0 rfl
    have y0 := HZ.out.free 0
    have z1 : w5.cell? ⟨zb, 1, none⟩ = some (.int .u8 0) := HZ.out.c 1 rfl
    have y1 := HZ.out.free 1
    have z2 : w5.cell? ⟨zb, 2, none⟩ = some (.int .u8 0) := HZ.out.c 2 rfl
    have y2 := HZ.out.free 2
    have z3 : w5.cell? ⟨zb, 3, none⟩ = some (.int .u8 0) := HZ.out.c 3 rfl
    have y3 := HZ.out.free 3
    have z4 : w5.cell? ⟨zb, 4, none⟩ = some (.int .u8 0) := HZ.out.c 4 rfl
    have y4 := HZ.out.free 4
    have z5 : w5.cell? ⟨zb, 5, none⟩ = some (.int .u8 0) := HZ.out.c 5 rfl
    have y5 := HZ.out.free 5
    have z6 : w5.cell? ⟨zb, 6, none⟩ = some (.int .u8 0) := HZ.out.c 6 rfl
    have y6 := HZ.out.free 6
    have z7 : w5.cell? ⟨zb, 7, none⟩ = some (.int .u8 0) := HZ.out.c 7 rfl
    have y7 := HZ.out.free 7
    have z8 : w5.cell? ⟨zb, 8, none⟩ = some (.int .u8 0) := HZ.out.c 8 rfl
    have y8 := HZ.out.free 8
    have z9 : w5.cell? ⟨zb, 9, none⟩ = some (.int .u8 0) := HZ.out.c 9 rfl
    have y9 := HZ.out.free 9
    have z10 : w5.cell? ⟨zb, 10, none⟩ = some (.int .u8 0) := HZ.out.c 10 rfl
    have y10 := HZ.out.free 10
    have z11 : w5.cell? ⟨zb, 11, none⟩ = some (.int .u8 0) := HZ.out.c 11 rfl
    have y11 := HZ.out.free 11
    have z12 : w5.cell? ⟨zb, 12, none⟩ = some (.int .u8 0) := HZ.out.c 12 rfl
    have y12 := HZ.out.free 12
    have z13 : w5.cell? ⟨zb, 13, none⟩ = some (.int .u8 0) := HZ.out.c 13 rfl
    have y13 := HZ.out.free 13
    have z14 : w5.cell? ⟨zb, 14, none⟩ = some (.int .u8 0) := HZ.out.c 14 rfl
    have y14 := HZ.out.free 14
    have z15 : w5.cell? ⟨zb, 15, none⟩ = some (.int .u8 0) := HZ.out.c 15 rfl
    have y15 := HZ.out.free 15
    go_simp
    refine hK.out _ _ ?_
    clear hK K
    try simp only [Act.put, List.setIfInBounds_toArray, List.set_cons_zero, List.set_cons_succ]
    refine wpAnyL_done (by kernel_rfl) ?_ _
    refine NoPanic.normal ?_
    have HFZ := Lib.hid (Box.a15 (A := sumH s q G) (Box.a14 (A := sumH s q G) (Box.a13 (A := sumH s q G) (Box.a12 (A := sumH s q G) (Box.a11 (A := sumH s q G) (Box.a10 (A := sumH s q G) (Box.a9 (A := sumH s q G) (Box.a8 (A := sumH s q G) (Box.a7 (A := sumH s q G) (Box.a6 (A := sumH s q G) (Box.a5 (A := sumH s q G) (Box.a4 (A := sumH s q G) (Box.a3 (A := sumH s q G) (Box.a2 (A := sumH s q G) (Box.a1 (A := sumH s q G) (Box.a0 (A := sumH s q G) HZ.out))))))))))))))))
    rw [← arr16_lit] at HFZ
    have HFB := Lib.hid ((((((((((((((((HB5.out.setCell (p := ⟨zb, 0, none⟩) HSZ.out (.int .u8 (sumH s q G 0 : Int))).setCell (p := ⟨zb, 1, none⟩) HSZ.out (.int .u8 (sumH s q G 1 : Int))).setCell (p := ⟨zb, 2, none⟩) HSZ.out (.int .u8 (sumH s q G 2 : Int))).setCell (p := ⟨zb, 3, none⟩) HSZ.out (.int .u8 (sumH s q G 3 : Int))).setCell (p := ⟨zb, 4, none⟩) HSZ.out (.int .u8 (sumH s q G 4 : Int))).setCell (p := ⟨zb, 5, none⟩) HSZ.out (.int .u8 (sumH s q G 5 : Int))).setCell (p := ⟨zb, 6, none⟩) HSZ.out (.int .u8 (sumH s q G 6 : Int))).setCell (p := ⟨zb, 7, none⟩) HSZ.out (.int .u8 (sumH s q G 7 : Int))).setCell (p := ⟨zb, 8, none⟩) HSZ.out (.int .u8 (sumH s q G 8 : Int))).setCell (p := ⟨zb, 9, none⟩) HSZ.out (.int .u8 (sumH s q G 9 : Int))).setCell (p := ⟨zb, 10, none⟩) HSZ.out (.int .u8 (sumH s q G 10 : Int))).setCell (p := ⟨zb, 11, none⟩) HSZ.out (.int .u8 (sumH s q G 11 : Int))).setCell (p := ⟨zb, 12, none⟩) HSZ.out (.int .u8 (sumH s q G 12 : Int))).setCell (p := ⟨zb, 13, none⟩) HSZ.out (.int .u8 (sumH s q G 13 : Int))).setCell (p := ⟨zb, 14, none⟩) HSZ.out (.int .u8 (sumH s q G 14 : Int))).setCell (p := ⟨zb, 15, none⟩) HSZ.out (.int .u8 (sumH s q G 15 : Int)))
    clear z0 y0 z1 y1 z2 y2 z3 y3 z4 y4 z5 y5 z6 y6 z7 y7 z8 y8 z9 y9 z10 y10 z11 y11 z12 y12 z13 y13 z14 y14 z15 y15
    go_wp2_with fail
    go_meet
    exact ⟨zb, rfl, HFZ.out, HFB.out⟩
  case rest =>
    obtain ⟨zb, rfl, hz, hbw⟩ := hcut
    have HZ := Lib.hid hz
    have HBW := Lib.hid hbw
    have d6 := below_cell hbw (HBX.out.c 6 rfl)
    clear d0 d1 hz hbw
    go_wp2
    obtain ⟨ta', tc', htv, hts⟩ := HTS.out
    simp only [Value.slice.injEq] at htv
    obtain ⟨rfl, -, rfl⟩ := htv
    have HTC := Lib.hid hts
    clear hts
    go_loopw [24] (fun i wr => ∃ k : Nat, k ≤ n ∧ i = .int .i64 k ∧ (∀ j, j < k → S (numI s q G T j) = true) ∧ Below w.heap.size w wr ∧ Box 217 wr zb (arr16 (sumH s q G))) (fun i _ => n - (intOf i).toNat)
    case atStart => exact ⟨0, Nat.zero_le _, rfl, fun j hj => absurd hj (Nat.not_lt_zero _), HBW.out, HZ.out⟩
    case round =>
      obtain ⟨k, hk, rfl, hall, hbl, hzr⟩ := hrel
      have HALL := Lib.hid hall
      have HBL := Lib.hid hbl
      have HZR := Lib.hid hzr
      by_cases hlt : k < n
      · obtain ⟨tb, tf, rfl, htc⟩ := HTC.out (by omega)
        have e0 : wr.cell? ⟨tb, tf + k * 4, none⟩ = some (.int .u8 (T k 0 : Int)) := below_cell hbl (htc k hlt 0 (by omega))
        have e1 := below_cell hbl (htc k hlt 1 (by omega))
        have e2 := below_cell hbl (htc k hlt 2 (by omega))
        have e3 := below_cell hbl (htc k hlt 3 (by omega))
        have hkn : (k : Int) < (n : Int) := by omega
        have HT0 := HT.out k 0 hlt
        have HT1 := HT.out k 1 hlt
        have HT2 := HT.out k 2 hlt
        have HT3 := HT.out k 3 hlt
        have HNK := HN.out k hlt
        have HKS := Lib.hid (rfl : numI s q G T k = numI s q G T k)
        clear hall hbl hzr htc
        go_wp2_with fail
        have hal := (Below.refl wr.heap.size wr).alloc (Nat.le_refl _) (.cells (small4 (T k)) 165)
        have HAL := Lib.hid hal
        have HZ2 := Lib.hid (HZR.out.below hal)
        refine (numberC zb 0 (T k 0) (T k 1) (T k 2) (T k 3) (sumH s q G (T k 0)) (sumH s q G (4 + T k 1)) (sumH s q G (8 + T k 2)) (sumH s q G (12 + T k 3)) (numI s q G T k) _ (by rw [Nat.zero_add]; exact HZ2.out.c _ (arr16_at _ _ (by omega))) (by rw [Nat.zero_add]; exact HZ2.out.c _ (arr16_at _ _ (by omega))) (by rw [Nat.zero_add]; exact HZ2.out.c _ (arr16_at _ _ (by omega))) (by rw [Nat.zero_add]; exact HZ2.out.c _ (arr16_at _ _ (by omega))) HT0 HT1 HT2 HT3 rfl HNK).mono ?_
        rintro e w6 ⟨rfl, hb6⟩
        have HB6 := Lib.hid (HBL.out.trans ((HAL.out.trans (hb6.mono HAL.out.size)).mono HBL.out.size))
        have HBX6 := Lib.hid (HBX.out.below HB6.out)
        have HZ6 := Lib.hid (HZ2.out.below hb6)
        have f2 : w6.cell? ⟨sb, 2, none⟩ = some (.int .u64 (word S 0)) := HBX6.out.c 2 rfl
        have f3 : w6.cell? ⟨sb, 3, none⟩ = some (.int .u64 (word S 1)) := HBX6.out.c 3 rfl
        have f4 : w6.cell? ⟨sb, 4, none⟩ = some (.int .u64 (word S 2)) := HBX6.out.c 4 rfl
        have f5 : w6.cell? ⟨sb, 5, none⟩ = some (.int .u64 (word S 3)) := HBX6.out.c 5 rfl
        clear hal hb6 e0 e1 e2 e3
        obtain ⟨m, hm⟩ : ∃ m, numI s q G T k = m := ⟨_, rfl⟩
        have HM := Lib.hid hm
        rw [hm] at HNK ⊢
        clear hm HKS
        go_wp2_with fail
        have hh := hasBit S m (by omega) w6
        rw [bitsV_lit] at hh
        refine hh.mono ?_
        rintro e w7 ⟨rfl, hb7⟩
        clear hh f2 f3 f4 f5
        have HB7 := Lib.hid (HB6.out.trans (hb7.mono HB6.out.size))
        have HZ7 := Lib.hid (HZ6.out.below hb7)
        clear hb7
        cases hS : S m with
        | true =>
          have HS := Lib.hid hS
          clear hS
          go_wp2
          go_roundw
          case rel =>
            refine ⟨k + 1, by omega, by go_num, fun j hj => ?_, HB7.out, HZ7.out⟩
            by_cases hjk : j = k
            · subst hjk; rw [HM.out]; exact HS.out
            · exact HALL.out j (by omega)
          case measure => simp [intOf]; omega
        | false =>
          have HS := Lib.hid hS
          have hbx7 := HBX.out.below HB7.out
          have HX7 := Lib.hid hbx7
          have f7 : w7.cell? ⟨sb, 7, none⟩ = some (.slice la is.length lc) := hbx7.c 7 rfl
          have HC7 := Lib.hid (cell_one_new w7 (.int .i64 (k : Int)) 3)
          have HL7 := Lib.hid (HL.out.below HB7.out)
          have hs7 := HX7.out.lt
          clear hS hbx7
          go_wp2_with (at_builtin; refine wpList_append_lies _ rfl _ _ 100 rfl 0 3 i0 (.int .i64 0) 1 8 Try.underlying100 hi hz0 hz1 hz2 rfl (by decide) (.slice la is.length lc) is.length _ rfl (World.ownsRow.alloc HL7.out _) ⟨w7.heap.size, 0, none⟩ 1 1 [.int .i64 (k : Int)] rfl rfl HC7.out (by simp [Value.oneCell']) (by omega) (by unfold maxLen; omega) (by omega) (Nat.zero_le _) _ rfl ?_; intro g cap w8 hown hgrow hat hlt8; have HO8 := Lib.hid hown; have HG8 := Lib.hid hgrow; have HA8 := Lib.hid hat; have HX8 := Lib.hid ((HX7.out.below ((Below.refl _ _).alloc (Nat.le_refl _) _)).same (hgrow.block sb (by simp; omega) (fun e => HNE.out e.symm))); have g7 : w8.cell? ⟨sb, 7, none⟩ = some (.slice la is.length lc) := HX8.out.c 7 rfl; have g8 : w8.cell? ⟨sb, 8, none⟩ = some (.int .i64 mv) := HX8.out.c 8 rfl; have y7 := HX8.out.free 7; have y8 := HX8.out.free 8; clear hown hgrow hat)
          have hgsb : g ≠ sb := by
            rintro rfl
            rcases HA8.out with e | e
            · exact HNE.out e
            · simp at e; omega
          go_ret
          refine ⟨true, rfl, .inr ⟨rfl, k, g, cap, hlt, ?_, HALL.out, ?_, ?_, hgsb, ?_, ?_⟩⟩
          · rw [HM.out]; exact HS.out
          · rw [HM.out]; exact (HX8.out.set 7 _).set 8 _
          · refine OwnI.set (OwnI.set ?_ _ _ ?_) _ _ ?_
            · unfold OwnI
              rw [List.length_append, List.map_append]
              exact HO8.out
            · simpa [Value.ownBlock] using hgsb
            · simpa [Value.ownBlock] using hgsb
          · rcases HA8.out with e | e
            · exact .inl e
            · exact .inr (by have := HB7.out.size; simp at e; omega)
          · exact (((RestO.ofBelow (HB7.out.trans (((Below.refl _ _).alloc (Nat.le_refl _) _).mono HB7.out.size))).grown HG8.out).set ⟨sb, 7, none⟩ _ (.inl rfl)).set ⟨sb, 8, none⟩ _ (.inl rfl)
      · obtain rfl : k = n := by omega
        clear hall hbl hzr
        go_wp2
        go_ret
        exact ⟨false, rfl, .inl ⟨rfl, HALL.out, HBL.out⟩⟩

end Go.Proofs.Ytoojgaaggdnpiaa

namespace Go.Proofs.Ytoojgaaggdnpiaa
open Go.RowKit

/-- The number of the tuple that is made of the lists with a number, behind what has been chosen. -/
def numM (s q : Nat) (tab : Nat → Nat) (T : Nat → Nat → Nat) (n : Nat) : Nat → (Nat → Nat) → Nat → Nat
  | 0, _, _ => 0
  | 1, o, j => numI s q (fun p v => tab (o p + v)) T j
  | m + 2, o, j => numM s q tab T n (m + 1) (fun p => o p + T (j / n ^ (m + 1)) p * s ^ (m + 1)) (j % n ^ (m + 1))
theorem numM_succ {s q : Nat} {tab : Nat → Nat} {T : Nat → Nat → Nat} {n m : Nat} (hm : 1 ≤ m) (o : Nat → Nat) {i j : Nat} (hj : j < n ^ m) :
    numM s q tab T n (m + 1) o (i * n ^ m + j) = numM s q tab T n m (fun p => o p + T i p * s ^ m) j := by
  obtain ⟨m, rfl⟩ : ∃ k, m = k + 1 := ⟨m - 1, by omega⟩
  have hp : 0 < n ^ (m + 1) := by omega
  have h1 : (i * n ^ (m + 1) + j) / n ^ (m + 1) = i := by rw [Nat.mul_comm, Nat.mul_add_div hp, Nat.div_eq_of_lt hj, Nat.add_zero]
  have h2 : (i * n ^ (m + 1) + j) % n ^ (m + 1) = j := by rw [Nat.mul_comm, Nat.mul_add_mod, Nat.mod_eq_of_lt hj]
  show numM s q tab T n (m + 1) (fun p => o p + T ((i * n ^ (m + 1) + j) / n ^ (m + 1)) p * s ^ (m + 1)) ((i * n ^ (m + 1) + j) % n ^ (m + 1)) = _
  rw [h1, h2]
theorem sumH_le {s q : Nat} {G : Nat → Nat → Nat} (p t : Nat) (hs4 : s ≤ 4) (ht : t < 4) (hG : ∀ p v, p < q → v < s → G p v < s) : sumH s q G (4 * p + t) ≤ if p < q then (s - 1) * s ^ (q - 1 - p) else 0 := by
  unfold sumH
  have h1 : (4 * p + t) / 4 = p := by omega
  have h2 : (4 * p + t) % 4 = t := by omega
  rw [h1, h2]
  by_cases hp : p < q
  · rw [if_pos hp]
    by_cases hv : t < s
    · rw [if_pos ⟨hp, hv⟩]
      exact Nat.mul_le_mul_right _ (by have := hG p t hp hv; omega)
    · rw [if_neg (fun h => hv h.2)]; exact Nat.zero_le _
  · rw [if_neg hp, if_neg (fun h => hp h.1)]; exact Nat.le_refl _
theorem numI_le {s q : Nat} {G T : Nat → Nat → Nat} {i : Nat} (hs1 : 1 ≤ s) (hs4 : s ≤ 4) (hq1 : 1 ≤ q) (hq4 : q ≤ 4) (hT : ∀ p, T i p < 4) (hG : ∀ p v, p < q → v < s → G p v < s) : numI s q G T i ≤ 255 := by
  have h0 := sumH_le (q := q) 0 (T i 0) hs4 (hT 0) hG
  have h1 := sumH_le (q := q) 1 (T i 1) hs4 (hT 1) hG
  have h2 := sumH_le (q := q) 2 (T i 2) hs4 (hT 2) hG
  have h3 := sumH_le (q := q) 3 (T i 3) hs4 (hT 3) hG
  simp only [Nat.mul_zero, Nat.zero_add, Nat.mul_one] at h0 h1 h2 h3
  unfold numI
  have e8 : 4 * 2 = 8 := rfl
  have e12 : 4 * 3 = 12 := rfl
  rw [e8] at h2
  rw [e12] at h3
  have : (if 0 < q then (s - 1) * s ^ (q - 1 - 0) else 0) + (if 1 < q then (s - 1) * s ^ (q - 1 - 1) else 0) + (if 2 < q then (s - 1) * s ^ (q - 1 - 2) else 0) + (if 3 < q then (s - 1) * s ^ (q - 1 - 3) else 0) ≤ 255 := by
    obtain rfl | rfl | rfl | rfl : s = 1 ∨ s = 2 ∨ s = 3 ∨ s = 4 := by omega
    all_goals obtain rfl | rfl | rfl | rfl : q = 1 ∨ q = 2 ∨ q = 3 ∨ q = 4 := by omega
    all_goals decide
  omega
theorem cellsum_le {s q p x : Nat} (hs4 : s ≤ 4) (hq4 : q ≤ 4) (hx : x < s) : x * s ^ (q - 1 - p) ≤ 255 := by
  have h1 : s ^ (q - 1 - p) ≤ 4 ^ 3 := Nat.le_trans (Nat.pow_le_pow_left hs4 _) (Nat.pow_le_pow_right (by decide) (by omega))
  have h2 : x * s ^ (q - 1 - p) ≤ 3 * 4 ^ 3 := Nat.mul_le_mul (by omega) h1
  omega
theorem RestO.trans2 {rb : Nat} {a a' : Option Nat} {w w1 w2 : World} (h : RestO rb a w w1) (k : RestO rb a' w1 w2) (ha : ∀ x, a' = some x → a = some x ∨ w.heap.size ≤ x) : RestO rb a w w2 := by
  have k' : RestO rb a w w2 := ⟨(Only.os k).trans (Only.os h), (Only.tape k).trans (Only.tape h), (Only.output k).trans (Only.output h), Nat.le_trans h.size k.size, fun i h1 h2 => (k.at i (Nat.lt_of_lt_of_le h1 h.size) (fun e => h2 (.inl e)) (fun e => by
    rcases ha i e.symm with e' | e'
    · exact h2 (.inr e'.symm)
    · omega)).trans (h.at i h1 (fun e => h2 (.inl e)) (fun e => h2 (.inr e)))⟩
  exact k'

/-- What a search has: its box, the tuples, the list so far (its own), the table of the operation. -/
structure FP (w : World) (sb s q n : Nat) (S : Nat → Bool) (ta : Option Addr) (tc tk : Nat) (T : Nat → Nat → Nat) (g M : Nat) (tab : Nat → Nat) (la : Option Addr) (lc : Nat) (is : List Nat) (mv : Int) : Prop where
  box : Box 102 w sb #[.int .i64 (s : Int), .int .i64 (q : Int), .int .u64 (word S 0), .int .u64 (word S 1), .int .u64 (word S 2), .int .u64 (word S 3), .slice ta n tc, .slice la is.length lc, .int .i64 mv]
  top : 0 < n → ta = some ⟨tk, 0, none⟩
  sm : ∀ i, i < n → ∀ p, p < 4 → w.cell? ⟨tk, i * 4 + p, none⟩ = some (.int .u8 (T i p : Int))
  own : OwnI w 0 (.slice la is.length lc) is
  ap : ∀ x, (Value.slice la is.length lc).ownBlock = some x → x ≠ sb ∧ x ≠ g ∧ (0 < n → x ≠ tk)
  tab : ∀ j, j < M → w.cell? ⟨g, j, none⟩ = some (.int .u8 (tab j : Int))
  gs : g ≠ sb ∧ tk ≠ sb
theorem FP.below {w w' : World} {sb s q n : Nat} {S : Nat → Bool} {ta : Option Addr} {tc tk : Nat} {T : Nat → Nat → Nat} {g M : Nat} {tab : Nat → Nat} {la : Option Addr} {lc : Nat} {is : List Nat} {mv : Int} (h : FP w sb s q n S ta tc tk T g M tab la lc is mv) (hb : Below w.heap.size w w') : FP w' sb s q n S ta tc tk T g M tab la lc is mv :=
  ⟨h.box.below hb, h.top, fun i hi p hp => below_cell hb (h.sm i hi p hp), h.own.below hb, h.ap, fun j hj => below_cell hb (h.tab j hj), h.gs⟩
theorem FP.rest {w w' : World} {sb s q n : Nat} {S : Nat → Bool} {ta : Option Addr} {tc tk : Nat} {T : Nat → Nat → Nat} {g M : Nat} {tab : Nat → Nat} {la la' : Option Addr} {lc lc' : Nat} {is is' : List Nat} {mv mv' : Int} (h : FP w sb s q n S ta tc tk T g M tab la lc is mv) (hM : 0 < M) (hr : RestO sb (Value.slice la is.length lc).ownBlock w w')
    (hb : Box 102 w' sb #[.int .i64 (s : Int), .int .i64 (q : Int), .int .u64 (word S 0), .int .u64 (word S 1), .int .u64 (word S 2), .int .u64 (word S 3), .slice ta n tc, .slice la' is'.length lc', .int .i64 mv']) (ho : OwnI w' 0 (.slice la' is'.length lc') is') (ha : ∀ x, (Value.slice la' is'.length lc').ownBlock = some x → (Value.slice la is.length lc).ownBlock = some x ∨ w.heap.size ≤ x) : FP w' sb s q n S ta tc tk T g M tab la' lc' is' mv' := by
  have ht : 0 < n → tk < w.heap.size := fun hn => cell_block_lt (h.sm 0 hn 0 (by omega))
  have hg := cell_block_lt (h.tab 0 hM)
  have kt : 0 < n → w'.heap[tk]? = w.heap[tk]? := fun hn => hr.at tk (ht hn) h.gs.2 (fun e => (h.ap tk e.symm).2.2 hn rfl)
  have kg : w'.heap[g]? = w.heap[g]? := hr.at g hg h.gs.1 (fun e => (h.ap g e.symm).2.1 rfl)
  refine ⟨hb, h.top, fun i hi p hp => (World.cell?_of_block (kt (by omega))).trans (h.sm i hi p hp), ho, fun x hx => ?_, fun j hj => (World.cell?_of_block kg).trans (h.tab j hj), h.gs⟩
  rcases ha x hx with e | e
  · exact h.ap x e
  · exact ⟨fun he => by have := h.box.lt; omega, fun he => by simp only at hg; omega, fun hn he => by have := ht hn; omega⟩
/-- A list of its own without its last number. -/
theorem OwnI.cut {w : World} {B g c : Nat} {is : List Nat} {k : Nat} (h : OwnI w B (.slice (some ⟨g, 0, none⟩) (is.length + 1) c) (is ++ [k])) : OwnI w B (.slice (some ⟨g, 0, none⟩) is.length c) is := by
  unfold OwnI at h ⊢
  refine ⟨by simp, ?_⟩
  rcases h.2 with ⟨h1, _⟩ | ⟨g', cap, cur, hv, hB, hg, h1, h2, h3, h4⟩
  · simp at h1
  · simp only [Value.slice.injEq, Option.some.injEq, Addr.mk.injEq] at hv
    obtain ⟨⟨rfl, -⟩, -, rfl⟩ := hv
    refine .inr ⟨g, c, cur, rfl, hB, hg, by simp at h1; omega, h2, h3, ?_⟩
    have : cur.toList.take (is.length * 1) = (cur.toList.take ((is ++ [k]).length * 1)).take is.length := by rw [List.take_take]; congr 1; simp
    rw [this, h4, List.map_append, List.take_left' (by simp)]

theorem FP.cut {w : World} {sb s q n : Nat} {S : Nat → Bool} {ta : Option Addr} {tc tk : Nat} {T : Nat → Nat → Nat} {g M : Nat} {tab : Nat → Nat} {g8 lc : Nat} {is : List Nat} {k : Nat} {mv : Int} (h : FP w sb s q n S ta tc tk T g M tab (some ⟨g8, 0, none⟩) lc (is ++ [k]) mv) :
    FP (w.setCell ⟨sb, 7, none⟩ (.slice (some ⟨g8, 0, none⟩) is.length lc)) sb s q n S ta tc tk T g M tab (some ⟨g8, 0, none⟩) lc is mv := by
  have hle : (is ++ [k]).length = is.length + 1 := by simp
  have ho := h.own
  rw [hle] at ho
  have hg8 : g8 ≠ sb := (h.ap g8 (by simp [Value.ownBlock])).1
  refine ⟨h.box.set 7 _, h.top, fun i hi p hp => (World.cell?_of_block (Below.heap_setCell _ _ _ _ (by show tk ≠ sb; exact h.gs.2))).trans (h.sm i hi p hp), OwnI.set ho.cut _ _ (by simpa [Value.ownBlock] using hg8), fun x hx => h.ap x (by simpa [Value.ownBlock] using hx), fun j hj => (World.cell?_of_block (Below.heap_setCell _ _ _ _ (by show g ≠ sb; exact h.gs.1))).trans (h.tab j hj), h.gs⟩

set_option linter.unusedSimpArgs false in
set_option maxHeartbeats 4000000 in
set_option maxRecDepth 100000 in
theorem findC (sb s q n : Nat) (S : Nat → Bool) (ta : Option Addr) (tc tk : Nat) (T : Nat → Nat → Nat) (g M : Nat) (tab : Nat → Nat)
    (hs1 : 1 ≤ s) (hs4 : s ≤ 4) (hq1 : 1 ≤ q) (hq4 : q ≤ 4) (hn256 : n ≤ 256) (hT : ∀ i p, i < n → T i p < 4) (hTs : ∀ i p, i < n → p < q → T i p < s) (htab : ∀ j, j < M → tab j < s) :
    ∀ m, 1 ≤ m → m ≤ 3 → ∀ (o : Nat → Nat) (la : Option Addr) (lc : Nat) (is : List Nat) (mv : Int) (w : World), (∀ p, p < q → o p + s ^ m ≤ M) → FP w sb s q n S ta tc tk T g M tab la lc is mv → is.length + m ≤ 3 →
    Calls Try.prog 125 #[.pointer (some ⟨sb, 0, none⟩), .agg #[rowV q g (s ^ m) o 0, rowV q g (s ^ m) o 1, rowV q g (s ^ m) o 2, rowV q g (s ^ m) o 3], .int .i64 (m : Int)] w fun e w' => ∃ b, e = .returned (.bool b) ∧
      ∃ la' lc' is' mv', FP w' sb s q n S ta tc tk T g M tab la' lc' is' mv' ∧ (∀ x, (Value.slice la' is'.length lc').ownBlock = some x → (Value.slice la is.length lc).ownBlock = some x ∨ w.heap.size ≤ x) ∧ RestO sb (Value.slice la is.length lc).ownBlock w w' ∧
        ((b = false ∧ FirstJ (fun j => S (numM s q tab T n m o j) = false) (n ^ m) none ∧ is' = is) ∨ (b = true ∧ ∃ j : Nat, FirstJ (fun j => S (numM s q tab T n m o j) = false) (n ^ m) (some j) ∧ is' = is ++ digL n m j ∧ mv' = (numM s q tab T n m o j : Nat))) := by
  intro m
  induction m with
  | zero => intro h; omega
  | succ m ih =>
    intro _ hm3 o la lc is mv w ho hf hil
    rcases Nat.eq_zero_or_pos m with rfl | hm1
    · have hpw : s ^ (0 + 1) = s := by simp
      rw [hpw] at ho ⊢
      have HF := Lib.hid hf
      have HO := Lib.hid ho
      have HR : ∀ p, p < q → SlAt (w.alloc (.cells #[rowV q g s o 0, rowV q g s o 1, rowV q g s o 2, rowV q g s o 3] 171)) (rowV q g s o p) s (fun v => .int .u8 (tab (o p + v) : Int)) := fun p hp => by
        unfold rowV
        rw [if_pos hp]
        exact ⟨some ⟨g, o p, none⟩, s, rfl, by omega, fun _ => ⟨g, o p, rfl, fun v hv => below_cell ((Below.refl _ _).alloc (Nat.le_refl _) _) (hf.tab _ (by have := ho p hp; omega))⟩⟩
      have HG : ∀ p v, p < q → v < s → tab (o p + v) < s := fun p v hp hv => htab _ (by have := ho p hp; omega)
      go_enter Try.func125, Try.ntmps125
      have b0 := (Box.new 171 w #[rowV q g s o 0, rowV q g s o 1, rowV q g s o 2, rowV q g s o 3])
      have r0 : (w.alloc (.cells #[rowV q g s o 0, rowV q g s o 1, rowV q g s o 2, rowV q g s o 3] 171)).cell? ⟨w.heap.size, 0, none⟩ = some (rowV q g s o 0) := b0.c 0 rfl
      have r1 : (w.alloc (.cells #[rowV q g s o 0, rowV q g s o 1, rowV q g s o 2, rowV q g s o 3] 171)).cell? ⟨w.heap.size, 1, none⟩ = some (rowV q g s o 1) := b0.c 1 rfl
      have r2 : (w.alloc (.cells #[rowV q g s o 0, rowV q g s o 1, rowV q g s o 2, rowV q g s o 3] 171)).cell? ⟨w.heap.size, 2, none⟩ = some (rowV q g s o 2) := b0.c 2 rfl
      have r3 : (w.alloc (.cells #[rowV q g s o 0, rowV q g s o 1, rowV q g s o 2, rowV q g s o 3] 171)).cell? ⟨w.heap.size, 3, none⟩ = some (rowV q g s o 3) := b0.c 3 rfl
      have hb1 : Below w.heap.size w (w.alloc (.cells #[rowV q g s o 0, rowV q g s o 1, rowV q g s o 2, rowV q g s o 3] 171)) := (Below.refl _ _).alloc (Nat.le_refl _) _
      have HB1 := Lib.hid hb1
      have HF1 := Lib.hid (hf.below hb1)
      clear hf ho hb1 b0
      go_wp2_with fail
      refine (findLastC sb s q n S ta tc T la lc is mv (rowV q g s o) (fun p v => tab (o p + v)) _ HF1.out.box ⟨_, _, rfl, fun h0 => ⟨tk, 0, HF1.out.top h0, fun i hi p hp => by rw [Nat.zero_add]; exact HF1.out.sm i hi p hp⟩⟩ HF1.out.own (fun e => (HF1.out.ap sb e).1 rfl) HR hs1 hs4 hq1 hq4 (fun p v hp hv => cellsum_le hs4 hq4 (HG p v hp hv)) hT (fun i hi => numI_le hs1 hs4 hq1 hq4 (fun p => hT i p hi) HG) (by omega) hn256).mono ?_
      rintro e w2 ⟨b, rfl, hq⟩
      go_wp2
      go_ret
      refine ⟨b, rfl, ?_⟩
      have hM : 0 < M := by have := HO.out 0 (by omega); omega
      rcases hq with ⟨rfl, hall, hb2⟩ | ⟨rfl, i, g5, c5, hi, hS, hall, hbx, hown, hgs, hat, hrs⟩
      · refine ⟨la, lc, is, mv, HF1.out.below hb2, fun x hx => .inl hx, RestO.ofBelow (HB1.out.trans (hb2.mono HB1.out.size)), .inl ⟨rfl, fun j hj h0 => ?_, rfl⟩⟩
        have h0' : S (numI s q (fun p v => tab (o p + v)) T j) = false := h0
        rw [hall j (by simpa using hj)] at h0'
        cases h0'
      · have hle : (is ++ [i]).length = is.length + 1 := by simp
        refine ⟨some ⟨g5, 0, none⟩, c5, is ++ [i], _, HF1.out.rest hM hrs (by rw [hle]; exact hbx) (by rw [hle]; exact hown) ?_, ?_, ?_, .inr ⟨rfl, i, ⟨by simpa using hi, hS, fun j hj h0 => ?_⟩, ?_, rfl⟩⟩
        · rintro x hx
          obtain rfl : g5 = x := by simpa [Value.ownBlock] using hx
          exact hat
        · rintro x hx
          obtain rfl : g5 = x := by simpa [Value.ownBlock] using hx
          rcases hat with e | e
          · exact .inl e
          · exact .inr (by have := HB1.out.size; omega)
        · exact (RestO.ofBelow HB1.out).trans2 hrs fun x hx => .inl hx
        · have h0' : S (numI s q (fun p v => tab (o p + v)) T j) = false := h0
          rw [hall j hj] at h0'
          cases h0'
        · simp [digL, Nat.mod_eq_of_lt hi]
    obtain ⟨i0, hi, hz0, hz1, hz2⟩ := info_parts info_I
    obtain ⟨W, hW⟩ : ∃ W, s ^ m = W := ⟨_, rfl⟩
    obtain ⟨N, hN⟩ : ∃ N, s ^ (m + 1) = N := ⟨_, rfl⟩
    have HWN : Hid (W * s = N) := Lib.hid (by rw [← hW, ← hN, Nat.pow_succ])
    have HW1 : Hid (1 ≤ W) := Lib.hid (by rw [← hW]; exact Nat.pow_pos hs1)
    have HN64 : Hid (N ≤ 64) := Lib.hid (by rw [← hN]; exact Nat.le_trans (Nat.pow_le_pow_left hs4 _) (Nat.le_trans (Nat.pow_le_pow_right (by decide) hm3) (by decide)))
    have HWE := Lib.hid hW
    have HO : Hid (∀ k p, k < n → p < q → o p + T k p * W + W ≤ M) := Lib.hid fun k p hk hp => by
      have h1 := ho p hp
      have h2 := hTs k p hk hp
      rw [hN, ← HWN.out] at h1
      have h3 : (T k p + 1) * W ≤ s * W := Nat.mul_le_mul_right _ h2
      rw [Nat.succ_mul, Nat.mul_comm s W] at h3
      omega
    have ih2 := ih hm1 (by omega)
    rw [hW] at ih2
    clear ih
    rw [hN] at ho ⊢
    have hM : 0 < M := by have h1 := ho 0 (by omega); have h2 := HW1.out; have h3 := HWN.out; have h4 : W * 1 ≤ W * s := Nat.mul_le_mul_left _ hs1; omega
    have HF := Lib.hid hf
    have HHO := Lib.hid ho
    have hb1 : Below w.heap.size w (w.alloc (.cells #[rowV q g N o 0, rowV q g N o 1, rowV q g N o 2, rowV q g N o 3] 171)) := (Below.refl _ _).alloc (Nat.le_refl _) _
    have d6 : (w.alloc (.cells #[rowV q g N o 0, rowV q g N o 1, rowV q g N o 2, rowV q g N o 3] 171)).cell? ⟨sb, 6, none⟩ = some (.slice ta n tc) := below_cell hb1 (hf.box.c 6 rfl)
    obtain ⟨mm, hmm⟩ : ∃ mm : Int, ((m + 1 : Nat) : Int) = mm := ⟨_, rfl⟩
    rw [hmm]
    have hm0 : (mm == 1) = false := beq_eq_false_iff_ne.2 (by omega)
    have hmw : IntKind.i64.wrap (mm - 1) = (m : Int) := by rw [show mm - 1 = (m : Int) by omega]; exact IntWalk.i64_in _ (by omega)
    clear hmm
    go_enter Try.func125, Try.ntmps125
    have HLT := Lib.hid (World.ownsRow.lt hf.own)
    have HSB := Lib.hid hf.box.lt
    clear hf ho hN hW
    go_wp2
    obtain ⟨w1, hw1⟩ : ∃ w1, w.alloc (.cells #[rowV q g N o 0, rowV q g N o 1, rowV q g N o 2, rowV q g N o 3] 171) = w1 := ⟨_, rfl⟩
    have HB1 : Hid (Below w.heap.size w w1) := Lib.hid (by rw [← hw1]; exact hb1)
    have HR1 : Hid (Box 171 w1 w.heap.size #[rowV q g N o 0, rowV q g N o 1, rowV q g N o 2, rowV q g N o 3]) := Lib.hid (by rw [← hw1]; exact Box.new _ _ _)
    have HF1 := Lib.hid (HF.out.below HB1.out)
    have HSZ1 : Hid (w.heap.size < w1.heap.size) := Lib.hid HR1.out.lt
    rw [hw1]
    clear hw1 hb1 d6 hm0
    go_loopw [19] (fun i wr => ∃ (k : Nat) (la' : Option Addr) (lc' : Nat) (mv' : Int), k ≤ n ∧ i = .int .i64 k ∧ FP wr sb s q n S ta tc tk T g M tab la' lc' is mv' ∧ Box 171 wr w.heap.size #[rowV q g N o 0, rowV q g N o 1, rowV q g N o 2, rowV q g N o 3] ∧ (∀ x, (Value.slice la' is.length lc').ownBlock = some x → (Value.slice la is.length lc).ownBlock = some x ∨ w.heap.size < x) ∧ RestO sb (Value.slice la is.length lc).ownBlock w wr ∧ ∀ i, i < k → ∀ j, j < n ^ m → ¬ S (numM s q tab T n (m + 1) o (i * n ^ m + j)) = false) (fun i _ => n - (intOf i).toNat)
    case atStart => exact ⟨0, la, lc, mv, Nat.zero_le _, rfl, HF1.out, HR1.out, fun x hx => .inl hx, RestO.ofBelow HB1.out, fun i hi => absurd hi (Nat.not_lt_zero _)⟩
    case round =>
      obtain ⟨k, la', lc', mv', hk, rfl, hf, hrb, hat, hrs, hall⟩ := hrel
      have HFK := Lib.hid hf
      have HRB := Lib.hid hrb
      have HAT := Lib.hid hat
      have HRS := Lib.hid hrs
      have HALL := Lib.hid hall
      by_cases hlt : k < n
      · obtain rfl := hf.top (by omega)
        have e0 : wr.cell? ⟨tk, k * 4, none⟩ = some (.int .u8 (T k 0 : Int)) := hf.sm k hlt 0 (by omega)
        have e1 := hf.sm k hlt 1 (by omega)
        have e2 := hf.sm k hlt 2 (by omega)
        have e3 := hf.sm k hlt 3 (by omega)
        have hkn : (k : Int) < (n : Int) := by omega
        have HTs : Hid (∀ p, p < q → T k p < s) := Lib.hid fun p hp => hTs k p hlt hp
        have HT255 : Hid (∀ p, T k p ≤ 255) := Lib.hid fun p => Nat.le_trans (Nat.le_of_lt (hT k p hlt)) (by decide)
        have HLK := Lib.hid (hf.own.below ((Below.refl _ _).alloc (Nat.le_refl _) (.cells (small4 (T k)) 165)))
        have HC7 := Lib.hid (cell_one_new (wr.alloc (.cells (small4 (T k)) 165)) (.int .i64 (k : Int)) 3)
        have f7 : (wr.alloc (.cells (small4 (T k)) 165)).cell? ⟨sb, 7, none⟩ = some (.slice la' is.length lc') := below_cell ((Below.refl _ _).alloc (Nat.le_refl _) _) (hf.box.c 7 rfl)
        clear hf hrb hat hrs hall
        unfold small4 at f7
        go_wp2_with (at_builtin; refine wpList_append_lies _ rfl _ _ 100 rfl 0 3 i0 (.int .i64 0) 1 8 Try.underlying100 hi hz0 hz1 hz2 rfl (by decide) (.slice la' is.length lc') is.length _ rfl (World.ownsRow.alloc HLK.out _) ⟨wr.heap.size + 1, 0, none⟩ 1 1 [.int .i64 (k : Int)] rfl rfl (by have h := HC7.out; rw [World.size_alloc] at h; exact h) (by simp [Value.oneCell']) (by omega) (by unfold maxLen; omega) (by omega) (Nat.zero_le _) _ rfl ?_; intro g5 c5 w5 hown hgrow hg5 hlt5; have HO5 := Lib.hid hown; have HG5 := Lib.hid hgrow; have HA5 := Lib.hid hg5; have HX5 := Lib.hid ((HFK.out.box.below (((Below.refl _ _).alloc (Nat.le_refl _) (.cells (small4 (T k)) 165)).alloc (by simp) (.cells #[.int .i64 (k : Int)] 3))).same (hgrow.block sb (by have := HFK.out.box.lt; simp; omega) (fun e => (HFK.out.ap sb e.symm).1 rfl))); have g7 : w5.cell? ⟨sb, 7, none⟩ = some (.slice la' is.length lc') := HX5.out.c 7 rfl; have y7 := HX5.out.free 7; clear hown hgrow hg5 hlt5)
        obtain ⟨w6, hw6⟩ : ∃ w6, w5.setCell ⟨sb, 7, none⟩ (.slice (some ⟨g5, 0, none⟩) (is.length + 1) c5) = w6 := ⟨_, rfl⟩
        have hle : (is ++ [k]).length = is.length + 1 := by simp
        have hg5 : (Value.slice la' is.length lc').ownBlock = some g5 ∨ wr.heap.size + 1 + 1 = g5 := HA5.out.imp id fun e => by rw [e]; simp
        have hgsb : g5 ≠ sb := by
          rcases hg5 with e | e
          · exact (HFK.out.ap g5 e).1
          · have := HFK.out.box.lt; omega
        have HRS6 : Hid (RestO sb (Value.slice la' is.length lc').ownBlock wr w6) := Lib.hid (by
          rw [← hw6]
          exact ((RestO.ofBelow (((Below.refl _ _).alloc (Nat.le_refl _) _).alloc (by simp) _)).grown HG5.out).set ⟨sb, 7, none⟩ _ (.inl rfl))
        have HF6 : Hid (FP w6 sb s q n S (some ⟨tk, 0, none⟩) tc tk T g M tab (some ⟨g5, 0, none⟩) c5 (is ++ [k]) mv') := Lib.hid (HFK.out.rest hM HRS6.out (by rw [← hw6, hle]; exact HX5.out.set 7 _) (by
          rw [← hw6]
          refine OwnI.set ?_ _ _ (by simpa [Value.ownBlock] using hgsb)
          unfold OwnI
          rw [List.length_append, List.map_append]
          exact HO5.out) (by
          intro x hx
          obtain rfl : g5 = x := by simpa [Value.ownBlock] using hx
          exact hg5.imp id (by omega)))
        have hwz : ∀ x, (Value.slice la' is.length lc').ownBlock = some x → x ≠ w.heap.size := fun x hx => by
          rcases HAT.out x hx with e | e
          · have := (HLT.out x e).2; omega
          · omega
        have hbr : Box 171 w6 w.heap.size #[rowV q g N o 0, rowV q g N o 1, rowV q g N o 2, rowV q g N o 3] := HRB.out.same (HRS6.out.at _ HRB.out.lt (by have := HSB.out; omega) (fun e => hwz _ e.symm rfl))
        obtain ⟨zt, hzt⟩ : ∃ zt, wr.heap.size = zt := ⟨_, rfl⟩
        have hbt : Box 165 w6 zt #[.int .u8 (T k 0 : Int), .int .u8 (T k 1 : Int), .int .u8 (T k 2 : Int), .int .u8 (T k 3 : Int)] := by
          have hne : zt ≠ g5 := by
            rcases hg5 with e | e
            · intro h
              have := (World.ownsRow.lt HFK.out.own g5 e).2
              omega
            · omega
          rw [← hw6, ← hzt]
          have h0 : Box 165 (wr.alloc (.cells (small4 (T k)) 165)) wr.heap.size #[.int .u8 (T k 0 : Int), .int .u8 (T k 1 : Int), .int .u8 (T k 2 : Int), .int .u8 (T k 3 : Int)] := Box.new _ _ _
          refine Box.other ?_ (by show wr.heap.size ≠ sb; have := HFK.out.box.lt; omega) _
          refine (h0.below ((Below.refl _ _).alloc (Nat.le_refl _) _)).same (HG5.out.block _ (by simp; omega) (fun e => ?_))
          have := (World.ownsRow.lt HFK.out.own _ e.symm).2
          omega
        rw [hw6]
        simp only [hzt]
        have x0 : w6.cell? ⟨w.heap.size, 0, none⟩ = some (rowV q g N o 0) := hbr.c 0 rfl
        have x1 : w6.cell? ⟨w.heap.size, 1, none⟩ = some (rowV q g N o 1) := hbr.c 1 rfl
        have x2 : w6.cell? ⟨w.heap.size, 2, none⟩ = some (rowV q g N o 2) := hbr.c 2 rfl
        have x3 : w6.cell? ⟨w.heap.size, 3, none⟩ = some (rowV q g N o 3) := hbr.c 3 rfl
        have x4 : w6.cell? ⟨sb, 0, none⟩ = some (.int .i64 (s : Int)) := HF6.out.box.c 0 rfl
        have x5 : w6.cell? ⟨zt, 0, none⟩ = some (.int .u8 (T k 0 : Int)) := hbt.c 0 rfl
        have x6 : w6.cell? ⟨zt, 1, none⟩ = some (.int .u8 (T k 1 : Int)) := hbt.c 1 rfl
        have x7 : w6.cell? ⟨zt, 2, none⟩ = some (.int .u8 (T k 2 : Int)) := hbt.c 2 rfl
        have x8 : w6.cell? ⟨zt, 3, none⟩ = some (.int .u8 (T k 3 : Int)) := hbt.c 3 rfl
        have HBR6 := Lib.hid hbr
        have HG5B : Hid (∀ x, (Value.slice (some ⟨g5, 0, none⟩) (is ++ [k]).length c5).ownBlock = some x → (Value.slice la' is.length lc').ownBlock = some x ∨ wr.heap.size ≤ x) := Lib.hid fun x hx => by
          obtain rfl : g5 = x := by simpa [Value.ownBlock] using hx
          exact hg5.imp id (by omega)
        have HO7 : Hid (∀ p, p < q → o p + T k p * W + W ≤ M) := Lib.hid fun p hp => HO.out k p hlt hp
        clear hw6 hg5 hwz hbr hbt f7 g7 y7 e0 e1 e2 e3 hgsb
        refine wp_region_noPanic ?_
        refine wp_region_late (S := (fun w' => w'.cell? ⟨w.heap.size, 0, none⟩ = some (rowV q g N o 0) ∧ w'.cell? ⟨w.heap.size, 1, none⟩ = some (rowV q g N o 1) ∧ w'.cell? ⟨w.heap.size, 2, none⟩ = some (rowV q g N o 2) ∧ w'.cell? ⟨w.heap.size, 3, none⟩ = some (rowV q g N o 3) ∧ w'.cell? ⟨sb, 0, none⟩ = some (.int .i64 (s : Int)) ∧ w'.cell? ⟨zt, 0, none⟩ = some (.int .u8 (T k 0 : Int)) ∧ w'.cell? ⟨zt, 1, none⟩ = some (.int .u8 (T k 1 : Int)) ∧ w'.cell? ⟨zt, 2, none⟩ = some (.int .u8 (T k 2 : Int)) ∧ w'.cell? ⟨zt, 3, none⟩ = some (.int .u8 (T k 3 : Int)) ∧ Below w6.heap.size w6 w')) [10] (by kernel_rfl) ?_ (fun hHeld => ?_)
        · exact ⟨x0, x1, x2, x3, x4, x5, x6, x7, x8, (Below.refl _ _).drew⟩
        refine wpAnyL_free (i := 0) (v := ?_) (some 34) rfl rfl (by kernel_rfl) (by kernel_rfl) (by kernel_rfl) (by decide) (fun _ _ _ h => h) (Or.inl ⟨by rfl, ?_⟩) (fun h0 => by assumption) ?_
        rotate_left
        · intro wS
          go_simp
          try with_reducible rfl
        try simp only [Act.put, List.setIfInBounds_toArray, List.set_cons_zero, List.set_cons_succ]
        refine wpAnyL_take (i := 1) (v := ?_) (some 35) rfl rfl (by kernel_rfl) (by kernel_rfl) (by kernel_rfl) (by kernel_rfl) (by kernel_rfl) (fun _ _ _ h => h) (Or.inl ⟨by rfl, ?_⟩) (by assumption) ?_
        rotate_left
        · intro wS hSw
          try dsimp only at hSw
          go_simp
          try with_reducible rfl
        try simp only [Act.put, List.setIfInBounds_toArray, List.set_cons_zero, List.set_cons_succ]
        refine wpAnyL_free (i := 2) (v := ?_) (some 36) rfl rfl (by kernel_rfl) (by kernel_rfl) (by kernel_rfl) (by decide) (fun _ _ _ h => h) (Or.inl ⟨by rfl, ?_⟩) (fun h0 => by assumption) ?_
        rotate_left
        · intro wS
          go_simp
          try with_reducible rfl
        try simp only [Act.put, List.setIfInBounds_toArray, List.set_cons_zero, List.set_cons_succ]
        refine wpAnyL_free (i := 3) (v := ?_) (some 37) rfl rfl (by kernel_rfl) (by kernel_rfl) (by kernel_rfl) (by decide) (fun _ _ _ h => h) (Or.inl ⟨by rfl, ?_⟩) (fun h0 => by assumption) ?_
        rotate_left
        · intro wS
          go_simp
          try with_reducible rfl
        try simp only [Act.put, List.setIfInBounds_toArray, List.set_cons_zero, List.set_cons_succ]
        refine wpAnyL_free (i := 4) (v := ?_) (some 38) rfl rfl (by kernel_rfl) (by kernel_rfl) (by kernel_rfl) (by decide) (fun _ _ _ h => h) (Or.inl ⟨by rfl, ?_⟩) (fun h0 => by assumption) ?_
        rotate_left
        · intro wS
          go_simp
          try with_reducible rfl
        try simp only [Act.put, List.setIfInBounds_toArray, List.set_cons_zero, List.set_cons_succ]
        refine wpAnyL_take (i := 5) (v := ?_) (some 39) rfl rfl (by kernel_rfl) (by kernel_rfl) (by kernel_rfl) (by kernel_rfl) (by kernel_rfl) (fun _ _ _ h => h) (Or.inl ⟨by rfl, ?_⟩) (by assumption) ?_
        rotate_left
        · intro wS hSw
          try dsimp only at hSw
          go_simp
          try with_reducible rfl
        try simp only [Act.put, List.setIfInBounds_toArray, List.set_cons_zero, List.set_cons_succ]
        refine wpAnyL_take (i := 6) (v := ?_) (some 40) rfl rfl (by kernel_rfl) (by kernel_rfl) (by kernel_rfl) (by kernel_rfl) (by kernel_rfl) (fun _ _ _ h => h) (Or.inl ⟨by rfl, ?_⟩) (by assumption) ?_
        rotate_left
        · intro wS hSw
          try dsimp only at hSw
          go_simp
          try with_reducible rfl
        try simp only [Act.put, List.setIfInBounds_toArray, List.set_cons_zero, List.set_cons_succ]
        refine wpAnyL_free (i := 8) (v := ?_) (some 42) rfl rfl (by kernel_rfl) (by kernel_rfl) (by kernel_rfl) (by decide) (fun _ _ _ h => h) (Or.inl ⟨by rfl, ?_⟩) (fun h0 => by assumption) ?_
        rotate_left
        · intro wS
          go_simp
          try with_reducible rfl
        try simp only [Act.put, List.setIfInBounds_toArray, List.set_cons_zero, List.set_cons_succ]
        refine wpAnyL_free (i := 9) (v := ?_) (some 43) rfl rfl (by kernel_rfl) (by kernel_rfl) (by kernel_rfl) (by decide) (fun _ _ _ h => h) (Or.inl ⟨by rfl, ?_⟩) (fun h0 => by assumption) ?_
        rotate_left
        · intro wS
          go_simp
          try with_reducible rfl
        try simp only [Act.put, List.setIfInBounds_toArray, List.set_cons_zero, List.set_cons_succ]
        refine wpAnyL_ready (rs := [7]) (by kernel_rfl) (by simp) ?_
        refine AllReadyL.cons rfl (fun K hK => ?_) AllReadyL.nil
        go_simp; go_at_call 158; refine (cutC s q W N g o (T k) _ HWN.out hs1 hs4 HW1.out HN64.out HTs.out HT255.out).mono ?_; rintro e w7 ⟨rfl, hb7⟩
        refine hK.out _ _ ?_ (fun hHeld => ?_)
        · exact ⟨below_cell hb7 hHeld.1, below_cell hb7 hHeld.2.1, below_cell hb7 hHeld.2.2.1, below_cell hb7 hHeld.2.2.2.1, below_cell hb7 hHeld.2.2.2.2.1, below_cell hb7 hHeld.2.2.2.2.2.1, below_cell hb7 hHeld.2.2.2.2.2.2.1, below_cell hb7 hHeld.2.2.2.2.2.2.2.1, below_cell hb7 hHeld.2.2.2.2.2.2.2.2.1, hHeld.2.2.2.2.2.2.2.2.2.trans (hb7.mono hHeld.2.2.2.2.2.2.2.2.2.size)⟩
        clear hK K
        try simp only [Act.put, List.setIfInBounds_toArray, List.set_cons_zero, List.set_cons_succ]
        refine wpAnyL_ready (rs := [10]) (by kernel_rfl) (by simp) ?_
        refine AllReadyL.last rfl (by kernel_rfl) (fun K hK => ?_) AllReadyL.nil
        have HB7 := Lib.hid hHeld.2.2.2.2.2.2.2.2.2
        go_simp; go_at_call 125; refine (ih2 (fun p => o p + T k p * W) (some ⟨g5, 0, none⟩) c5 (is ++ [k]) mv' w7 HO7.out (HF6.out.below HB7.out) (by rw [hle]; omega)).mono ?_; rintro e w8 ⟨b, rfl, la8, lc8, is8, mv8, hf8, hat8, hrs8, hq8⟩
        have HF8 := Lib.hid hf8
        have HAT8 := Lib.hid hat8
        have HRS8 := Lib.hid hrs8
        clear hf8 hat8 hrs8
        refine hK.out _ _ ?_
        clear hK K
        try simp only [Act.put, List.setIfInBounds_toArray, List.set_cons_zero, List.set_cons_succ]
        refine wpAnyL_done (by kernel_rfl) ?_ _
        refine NoPanic.normal ?_
        have HRS78 : Hid (RestO sb (Value.slice la is.length lc).ownBlock w w8) := Lib.hid (HRS.out.trans2 (HRS6.out.trans2 ((RestO.ofBelow HB7.out).trans2 HRS8.out fun x hx => .inl hx) HG5B.out) fun x hx => (HAT.out x hx).imp id Nat.le_of_lt)
        have HOWN : Hid (∀ x, (Value.slice la8 is8.length lc8).ownBlock = some x → (Value.slice la is.length lc).ownBlock = some x ∨ w.heap.size < x) := Lib.hid fun x hx => by
          have h1 := HRB.out.lt
          have h2 := HRS6.out.size
          have h3 := HB7.out.size
          rcases HAT8.out x hx with e | e
          · rcases HG5B.out x e with e' | e'
            · exact HAT.out x e'
            · exact .inr (by omega)
          · exact .inr (by omega)
        have HRB8 : Hid (Box 171 w8 w.heap.size #[rowV q g N o 0, rowV q g N o 1, rowV q g N o 2, rowV q g N o 3]) := Lib.hid ((HBR6.out.below HB7.out).same (HRS8.out.at _ (HBR6.out.below HB7.out).lt (by have := HSB.out; omega) (fun e => by
          rcases HG5B.out _ e.symm with e' | e'
          · rcases HAT.out _ e' with e2 | e2
            · have := (HLT.out _ e2).2; omega
            · omega
          · have := HRB.out.lt; omega)))
        clear hHeld
        rcases hq8 with ⟨rfl, hfj, rfl⟩ | ⟨rfl, j, hfj, rfl, rfl⟩
        · have HFJ := Lib.hid hfj
          clear hfj
          obtain ⟨g8, rfl⟩ : ∃ g8, la8 = some ⟨g8, 0, none⟩ := by
            rcases HF8.out.own.2 with ⟨h1, h2⟩ | ⟨g8, cap, cur, hv, _⟩
            · simp at h2
            · simp only [Value.slice.injEq] at hv
              exact ⟨g8, hv.1⟩
          have hcap : (is.length : Int) ≤ (lc8 : Int) := by
            rcases HF8.out.own.2 with ⟨h1, h2⟩ | ⟨g8', cap, cur, hv, _, _, h3, _⟩
            · simp at h2
            · simp only [Value.slice.injEq] at hv
              obtain ⟨_, _, rfl⟩ := hv
              simp at h3
              omega
          have hil0 : (0 : Int) ≤ (is.length : Int) := by omega
          have hilw : IntKind.i64.wrap (is.length : Int) = (is.length : Int) := IntWalk.i64_in _ (by omega)
          have q7 : w8.cell? ⟨sb, 7, none⟩ = some (.slice (some ⟨g8, 0, none⟩) (is.length + 1) lc8) := by
            have h := HF8.out.box.c 7 rfl
            rw [← hle]
            exact h
          have q8 := HF8.out.box.free 7
          go_wp2_with fail
          refine wp_region_noPanic ?_
          refine wp_region_late (S := (fun w' => w'.cell? ⟨sb, 7, none⟩ = some (.slice (some ⟨g8, 0, none⟩) (is.length + 1) lc8))) [14] (by kernel_rfl) ?_ (fun hHeld => ?_)
          · exact q7
          refine wpAnyL_free (i := 0) (v := ?_) (some 45) rfl rfl (by kernel_rfl) (by kernel_rfl) (by kernel_rfl) (by decide) (fun _ _ _ h => h) (Or.inl ⟨by rfl, ?_⟩) (fun h0 => by assumption) ?_
          rotate_left
          · intro wS
            go_simp
            try with_reducible rfl
          try simp only [Act.put, List.setIfInBounds_toArray, List.set_cons_zero, List.set_cons_succ]
          refine wpAnyL_free (i := 1) (v := ?_) (some 46) rfl rfl (by kernel_rfl) (by kernel_rfl) (by kernel_rfl) (by decide) (fun _ _ _ h => h) (Or.inl ⟨by rfl, ?_⟩) (fun h0 => by assumption) ?_
          rotate_left
          · intro wS
            go_simp
            try with_reducible rfl
          try simp only [Act.put, List.setIfInBounds_toArray, List.set_cons_zero, List.set_cons_succ]
          refine wpAnyL_free (i := 2) (v := ?_) (some 47) rfl rfl (by kernel_rfl) (by kernel_rfl) (by kernel_rfl) (by decide) (fun _ _ _ h => h) (Or.inl ⟨by rfl, ?_⟩) (fun h0 => by assumption) ?_
          rotate_left
          · intro wS
            go_simp
            try with_reducible rfl
          try simp only [Act.put, List.setIfInBounds_toArray, List.set_cons_zero, List.set_cons_succ]
          refine wpAnyL_free (i := 3) (v := ?_) (some 48) rfl rfl (by kernel_rfl) (by kernel_rfl) (by kernel_rfl) (by decide) (fun _ _ _ h => h) (Or.inl ⟨by rfl, ?_⟩) (fun h0 => by assumption) ?_
          rotate_left
          · intro wS
            go_simp
            try with_reducible rfl
          try simp only [Act.put, List.setIfInBounds_toArray, List.set_cons_zero, List.set_cons_succ]
          refine wpAnyL_take (i := 4) (v := ?_) (some 49) rfl rfl (by kernel_rfl) (by kernel_rfl) (by kernel_rfl) (by kernel_rfl) (by kernel_rfl) (fun _ _ _ h => h) (Or.inl ⟨by rfl, ?_⟩) (by assumption) ?_
          rotate_left
          · intro wS hSw
            try dsimp only at hSw
            go_simp
            try with_reducible rfl
          try simp only [Act.put, List.setIfInBounds_toArray, List.set_cons_zero, List.set_cons_succ]
          refine wpAnyL_free (i := 5) (v := ?_) (some 50) rfl rfl (by kernel_rfl) (by kernel_rfl) (by kernel_rfl) (by decide) (fun _ _ _ h => h) (Or.inl ⟨by rfl, ?_⟩) (fun h0 => by assumption) ?_
          rotate_left
          · intro wS
            go_simp
            try with_reducible rfl
          try simp only [Act.put, List.setIfInBounds_toArray, List.set_cons_zero, List.set_cons_succ]
          refine wpAnyL_free (i := 6) (v := ?_) (some 51) rfl rfl (by kernel_rfl) (by kernel_rfl) (by kernel_rfl) (by decide) (fun _ _ _ h => h) (Or.inl ⟨by rfl, ?_⟩) (fun h0 => by assumption) ?_
          rotate_left
          · intro wS
            go_simp
            try with_reducible rfl
          try simp only [Act.put, List.setIfInBounds_toArray, List.set_cons_zero, List.set_cons_succ]
          refine wpAnyL_free (i := 7) (v := ?_) (some 52) rfl rfl (by kernel_rfl) (by kernel_rfl) (by kernel_rfl) (by decide) (fun _ _ _ h => h) (Or.inl ⟨by rfl, ?_⟩) (fun h0 => by assumption) ?_
          rotate_left
          · intro wS
            go_simp
            try with_reducible rfl
          try simp only [Act.put, List.setIfInBounds_toArray, List.set_cons_zero, List.set_cons_succ]
          refine wpAnyL_take (i := 8) (v := ?_) (some 53) rfl rfl (by kernel_rfl) (by kernel_rfl) (by kernel_rfl) (by kernel_rfl) (by kernel_rfl) (fun _ _ _ h => h) (Or.inl ⟨by rfl, ?_⟩) (by assumption) ?_
          rotate_left
          · intro wS hSw
            try dsimp only at hSw
            go_simp
            try with_reducible rfl
          try simp only [Act.put, List.setIfInBounds_toArray, List.set_cons_zero, List.set_cons_succ]
          refine wpAnyL_free (i := 9) (v := ?_) (some 54) rfl rfl (by kernel_rfl) (by kernel_rfl) (by kernel_rfl) (by decide) (fun _ _ _ h => h) (Or.inl ⟨by rfl, ?_⟩) (fun h0 => by assumption) ?_
          rotate_left
          · intro wS
            go_simp
            try with_reducible rfl
          try simp only [Act.put, List.setIfInBounds_toArray, List.set_cons_zero, List.set_cons_succ]
          refine wpAnyL_free (i := 10) (v := ?_) (some 55) rfl rfl (by kernel_rfl) (by kernel_rfl) (by kernel_rfl) (by decide) (fun _ _ _ h => h) (Or.inl ⟨by rfl, ?_⟩) (fun h0 => by assumption) ?_
          rotate_left
          · intro wS
            go_simp
            try with_reducible rfl
          try simp only [Act.put, List.setIfInBounds_toArray, List.set_cons_zero, List.set_cons_succ]
          refine wpAnyL_free (i := 11) (v := ?_) (some 56) rfl rfl (by kernel_rfl) (by kernel_rfl) (by kernel_rfl) (by decide) (fun _ _ _ h => h) (Or.inl ⟨by rfl, ?_⟩) (fun h0 => by assumption) ?_
          rotate_left
          · intro wS
            go_simp
            try with_reducible rfl
          try simp only [Act.put, List.setIfInBounds_toArray, List.set_cons_zero, List.set_cons_succ]
          refine wpAnyL_free (i := 12) (v := ?_) (some 57) rfl rfl (by kernel_rfl) (by kernel_rfl) (by kernel_rfl) (by decide) (fun _ _ _ h => h) (Or.inl ⟨by rfl, ?_⟩) (fun h0 => by assumption) ?_
          rotate_left
          · intro wS
            go_simp
            try with_reducible rfl
          try simp only [Act.put, List.setIfInBounds_toArray, List.set_cons_zero, List.set_cons_succ]
          refine wpAnyL_free (i := 13) (v := ?_) (some 58) rfl rfl (by kernel_rfl) (by kernel_rfl) (by kernel_rfl) (by decide) (fun _ _ _ h => h) (Or.inl ⟨by rfl, ?_⟩) (fun h0 => by assumption) ?_
          rotate_left
          · intro wS
            go_simp
            try with_reducible rfl
          try simp only [Act.put, List.setIfInBounds_toArray, List.set_cons_zero, List.set_cons_succ]
          refine wpAnyL_ready (rs := [14]) (by kernel_rfl) (by simp) ?_
          refine AllReadyL.last rfl (by kernel_rfl) (fun K hK => ?_) AllReadyL.nil
          go_simp
          refine hK.out _ _ ?_
          clear hK K
          try simp only [Act.put, List.setIfInBounds_toArray, List.set_cons_zero, List.set_cons_succ]
          refine wpAnyL_done (by kernel_rfl) ?_ _
          refine NoPanic.normal ?_
          clear hHeld
          have HFC := Lib.hid (HF8.out.cut.below ((QW.refl _).drew.below _))
          go_wp2
          go_roundw
          case rel =>
            refine ⟨k + 1, some ⟨g8, 0, none⟩, lc8, mv8, by omega, by go_num, HFC.out, HRB8.out.other (by have := HSB.out; show w.heap.size ≠ sb; omega) _, HOWN.out, Only.drew (HRS78.out.set ⟨sb, 7, none⟩ _ (.inl rfl)), fun i hi j hj => ?_⟩
            by_cases hik : i = k
            · subst hik
              rw [numM_succ hm1 o hj, HWE.out]
              exact HFJ.out j hj
            · exact HALL.out i (by omega) j hj
          case measure => simp [intOf]; omega
        · have HFJ := Lib.hid hfj
          clear hfj
          go_wp2
          go_ret
          refine ⟨true, rfl, la8, lc8, _, _, HF8.out, fun x hx => (HOWN.out x hx).imp id Nat.le_of_lt, HRS78.out, .inr ⟨rfl, k * n ^ m + j, ?_, ?_, ?_⟩⟩
          · rw [Nat.pow_succ, Nat.mul_comm]
            refine FirstJ.found hlt HALL.out (FirstJ.congr (fun i hi => ?_) HFJ.out)
            show _ ↔ S (numM s q tab T n (m + 1) o (k * n ^ m + i)) = false
            rw [numM_succ hm1 o hi, HWE.out]
          · rw [digL_succ hlt HFJ.out.1, List.append_assoc]
            rfl
          · rw [numM_succ hm1 o HFJ.out.1, HWE.out]

      · obtain rfl : k = n := by omega
        clear hf hrb hat hrs hall
        go_wp2
        go_ret
        exact ⟨false, rfl, la', lc', is, mv', HFK.out, fun x hx => (HAT.out x hx).imp id Nat.le_of_lt, HRS.out, .inl ⟨rfl, by
          rcases Nat.eq_zero_or_pos k with rfl | hn
          · intro j hj; simp at hj
          · rw [Nat.pow_succ, Nat.mul_comm]; exact FirstJ.none_of (Nat.pow_pos hn) HALL.out, rfl⟩⟩

end Go.Proofs.Ytoojgaaggdnpiaa

namespace Go.Proofs.Ytoojgaaggdnpiaa
open Go.RowKit

/-- The values of the i-th tuple. -/
def tupV (rs : List (List Int)) (i p : Nat) : Nat := (intN (rowN rs i) p).toNat
/-- The table's values. -/
def tabV (tab : List Int) (j : Nat) : Nat := (intN tab j).toNat
theorem intN_far {xs : List Int} {j : Nat} (h : xs.length ≤ j) : intN xs j = 0 := by simp [intN, List.getD, List.getElem?_eq_none h]
theorem tup_any {s q : Nat} {x : List Int} (hs : 1 ≤ s) (h : TupP s q x) (p : Nat) : 0 ≤ intN x p ∧ intN x p < s := by
  by_cases hp : p < x.length
  · exact h.2 p hp
  · rw [intN_far (by omega)]; omega
theorem sumH_sumV {s q : Nat} {tab : List Int} {pre : List (List Int)} {p t : Nat} (ht : t < 4) (h0 : ∀ k, 0 ≤ intN tab k) : (sumH s q (fun p v => tabV tab (cpre s pre p * s + v)) (4 * p + t) : Int) = sumV s q tab pre p t := by
  unfold sumH sumV
  have h1 : (4 * p + t) / 4 = p := by omega
  have h2 : (4 * p + t) % 4 = t := by omega
  rw [h1, h2]
  by_cases h : p < q ∧ t < s
  · rw [if_pos h, if_pos h]
    simp [tabV, Int.toNat_of_nonneg (h0 _)]
  · rw [if_neg h, if_neg h]; rfl
theorem numI_code {s q : Nat} {tab : List Int} {pre rs : List (List Int)} {i : Nat} (h1 : 1 ≤ s) (hs4 : s ≤ 4) (h3 : 1 ≤ q) (h4 : q ≤ 4) (hr : ∀ x, x ∈ pre → TupP s q x) (hl : TupP s q (rowN rs i)) (ht : ∀ k, 0 ≤ intN tab k) :
    numI s q (fun p v => tabV tab (cpre s pre p * s + v)) (tupV rs) i = codeN s (madeN s tab (pre ++ [rowN rs i]) q) := by
  have hb : ∀ p, tupV rs i p < 4 := fun p => by have := tup_any h1 hl p; unfold tupV; omega
  have e := num_sum h1 h3 h4 hr hl ht
  have k0 := sumH_sumV (s := s) (q := q) (tab := tab) (pre := pre) (p := 0) (hb 0) ht
  have k1 := sumH_sumV (s := s) (q := q) (tab := tab) (pre := pre) (p := 1) (hb 1) ht
  have k2 := sumH_sumV (s := s) (q := q) (tab := tab) (pre := pre) (p := 2) (hb 2) ht
  have k3 := sumH_sumV (s := s) (q := q) (tab := tab) (pre := pre) (p := 3) (hb 3) ht
  simp only [Nat.mul_zero, Nat.zero_add, Nat.mul_one, show 4 * 2 = 8 from rfl, show 4 * 3 = 12 from rfl] at k0 k1 k2 k3
  unfold numI
  have e' : ((sumH s q (fun p v => tabV tab (cpre s pre p * s + v)) (tupV rs i 0) + sumH s q (fun p v => tabV tab (cpre s pre p * s + v)) (4 + tupV rs i 1) + sumH s q (fun p v => tabV tab (cpre s pre p * s + v)) (8 + tupV rs i 2) + sumH s q (fun p v => tabV tab (cpre s pre p * s + v)) (12 + tupV rs i 3) : Nat) : Int) = (codeN s (madeN s tab (pre ++ [rowN rs i]) q) : Nat) := by
    rw [← e, Int.natCast_add, Int.natCast_add, Int.natCast_add, k0, k1, k2, k3]
    rfl
  exact Int.ofNat.inj e'
theorem numM_code {s q : Nat} {tab : List Int} {rs : List (List Int)} (h1 : 1 ≤ s) (hs4 : s ≤ 4) (h3 : 1 ≤ q) (h4 : q ≤ 4) (hrs : ∀ i, i < rs.length → TupP s q (rowN rs i)) (ht : ∀ k, 0 ≤ intN tab k) :
    ∀ m, 1 ≤ m → ∀ (pre : List (List Int)) (j : Nat), (∀ x, x ∈ pre → TupP s q x) → j < rs.length ^ m →
      numM s q (tabV tab) (tupV rs) rs.length m (fun p => cpre s pre p * s ^ m) j = codeN s (madeN s tab (pre ++ pickN rs (digL rs.length m j)) q) := by
  intro m
  induction m with
  | zero => intro h; omega
  | succ m ih =>
    intro _ pre j hpre hj
    rcases Nat.eq_zero_or_pos m with rfl | hm
    · have hj' : j < rs.length := by simpa using hj
      have e : pickN rs (digL rs.length (0 + 1) j) = [rowN rs j] := by simp [pickN, digL, Nat.mod_eq_of_lt hj']
      rw [e, ← numI_code h1 hs4 h3 h4 hpre (hrs j hj') ht]
      show numI s q (fun p v => tabV tab (cpre s pre p * s ^ (0 + 1) + v)) (tupV rs) j = _
      simp
    · have hn : 0 < rs.length ^ m := by
        rcases Nat.eq_zero_or_pos (rs.length ^ m) with h0 | h0
        · rw [Nat.pow_succ, h0, Nat.zero_mul] at hj; omega
        · exact h0
      obtain ⟨i, r, hi, hr, rfl⟩ := lt_split (n := rs.length) (M := rs.length ^ m) hn (by rw [Nat.mul_comm, ← Nat.pow_succ]; exact hj)
      rw [numM_succ hm _ hr, digL_succ hi hr]
      have hx := hrs i hi
      have ho : (fun p => cpre s pre p * s ^ (m + 1) + tupV rs i p * s ^ m) = (fun p => cpre s (pre ++ [rowN rs i]) p * s ^ m) := by
        funext p
        rw [cpre_snoc h1 (fun y hy => tup_any h1 (hpre y hy) p) (tup_any h1 hx p).1, Nat.pow_succ, Nat.add_mul, Nat.mul_assoc, Nat.mul_comm (s ^ m) s]
        rfl
      rw [ho, ih hm (pre ++ [rowN rs i]) r (fun x hxm => by
        rcases List.mem_append.1 hxm with h | h
        · exact hpre x h
        · rw [List.mem_singleton.1 h]; exact hx) hr]
      congr 2
      simp [pickN, List.append_assoc]
theorem numM_num {s ar q : Nat} {tab : List Int} {rs : List (List Int)} (ho : OpOk s ar tab) (hk : RelOk s q rs) {j : Nat} (hj : j < rs.length ^ ar) :
    numM s q (tabV tab) (tupV rs) rs.length ar (fun _ => 0) j = codeN s (madeN s tab (pickN rs (digL rs.length ar j)) q) := by
  have hs := hk.1
  have hq := hk.2.1
  have har := ho.2.1
  have h := numM_code (s := s) (q := q) (tab := tab) (rs := rs) (by have := hs.1; omega) (by have := hs.2; omega) (by have := hq.1; omega) (by have := hq.2; omega) hk.rows (fun k => by
    by_cases hk : k < tab.length
    · exact (ho.2.2.2 k hk).1
    · rw [intN_far (by omega)]; exact Int.le_refl _) ar (by have := har.1; omega) [] j (by simp) hj
  have e : (fun p => cpre s [] p * s ^ ar) = (fun _ => 0) := by funext p; simp [cpre_nil]
  rw [e, List.nil_append] at h
  exact h
theorem numM_brk {s ar q : Nat} {tab : List Int} {rs : List (List Int)} (ho : OpOk s ar tab) (hk : RelOk s q rs) {j : Nat} (hj : j < rs.length ^ ar) :
    setOf s rs (numM s q (tabV tab) (tupV rs) rs.length ar (fun _ => 0) j) = false ↔ BrkAt s ar q tab rs j := by
  unfold BrkAt
  rw [numM_num ho hk hj]

end Go.Proofs.Ytoojgaaggdnpiaa

namespace Go.Proofs.Ytoojgaaggdnpiaa
open Go.RowKit

/-- The cells of small tuples. -/
def flatT (T : Nat → Nat → Nat) (k : Nat) : List Value := (List.range k).flatMap fun i => [.int .u8 (T i 0 : Int), .int .u8 (T i 1 : Int), .int .u8 (T i 2 : Int), .int .u8 (T i 3 : Int)]
theorem flatT_succ (T : Nat → Nat → Nat) (k : Nat) : flatT T (k + 1) = flatT T k ++ [.int .u8 (T k 0 : Int), .int .u8 (T k 1 : Int), .int .u8 (T k 2 : Int), .int .u8 (T k 3 : Int)] := by simp [flatT, List.range_succ]
theorem flatT_len (T : Nat → Nat → Nat) (k : Nat) : (flatT T k).length = k * 4 := by
  induction k with
  | zero => rfl
  | succ k ih => rw [flatT_succ, List.length_append, ih]; simp; omega
theorem flatT_at (T : Nat → Nat → Nat) {k i p : Nat} (hi : i < k) (hp : p < 4) : (flatT T k)[i * 4 + p]? = some (.int .u8 (T i p : Int)) := by
  induction k with
  | zero => omega
  | succ k ih =>
    rw [flatT_succ]
    by_cases h : i < k
    · rw [List.getElem?_append_left (by rw [flatT_len]; omega)]; exact ih h
    · obtain rfl : i = k := by omega
      rw [List.getElem?_append_right (by rw [flatT_len]; omega), flatT_len, show i * 4 + p - i * 4 = p by omega]
      obtain rfl | rfl | rfl | rfl : p = 0 ∨ p = 1 ∨ p = 2 ∨ p = 3 := by omega
      all_goals rfl
theorem OwnI.raise {w : World} {B : Nat} {v : Value} {is : List Nat} (h : OwnI w 0 v is) (hB : ∀ x, v.ownBlock = some x → B ≤ x) : OwnI w B v is := by
  refine ⟨h.1, ?_⟩
  rcases h.2 with hn | ⟨g, cap, cur, rfl, _, rest⟩
  · exact .inl hn
  · exact .inr ⟨g, cap, cur, rfl, hB g rfl, rest⟩
theorem info_S : (Try.prog.info? 165).map (fun i => (i.zero, i.size, i.bytes)) = some (some (.agg #[.int .u8 0, .int .u8 0, .int .u8 0, .int .u8 0]), 4, 4) := by kernel_rfl
theorem tupV_digs {s q : Nat} {rs : List (List Int)} {i : Nat} (h1 : 1 ≤ s) (h2 : s ≤ 4) (h3 : 1 ≤ q) (h4 : q ≤ 4) (h : TupP s q (rowN rs i)) (p : Nat) : (if p < q then digN s q (codeN s (rowN rs i)) p else 0) = tupV rs i p := by
  have hl : (rowN rs i).length = q := by have := h.1; omega
  by_cases hp : p < q
  · rw [if_pos hp]
    have e := digs_at s q (codeN s (rowN rs i)) p hp
    rw [digs_of_code h1 h2 h3 h4 h] at e
    unfold tupV
    rw [e]; rfl
  · rw [if_neg hp]
    unfold tupV
    rw [intN_far (by omega)]; rfl

set_option maxHeartbeats 4000000 in
theorem Box.set9 {w : World} {b : Nat} (h : Box 102 w b #[.int .i64 0, .int .i64 0, .int .u64 0, .int .u64 0, .int .u64 0, .int .u64 0, .slice none 0 0, .slice none 0 0, .int .i64 0]) (v0 v1 v2 v3 v4 v5 v6 v7 v8 : Value) : Box 102 (((((((((w.setCell ⟨b, 0, none⟩ v0).setCell ⟨b, 1, none⟩ v1).setCell ⟨b, 2, none⟩ v2).setCell ⟨b, 3, none⟩ v3).setCell ⟨b, 4, none⟩ v4).setCell ⟨b, 5, none⟩ v5).setCell ⟨b, 6, none⟩ v6).setCell ⟨b, 7, none⟩ v7).setCell ⟨b, 8, none⟩ v8) b #[v0, v1, v2, v3, v4, v5, v6, v7, v8] := by
  have e0 : Box 102 (w.setCell ⟨b, 0, none⟩ v0) b #[v0, .int .i64 0, .int .u64 0, .int .u64 0, .int .u64 0, .int .u64 0, .slice none 0 0, .slice none 0 0, .int .i64 0] := h.set 0 v0
  have e1 : Box 102 ((w.setCell ⟨b, 0, none⟩ v0).setCell ⟨b, 1, none⟩ v1) b #[v0, v1, .int .u64 0, .int .u64 0, .int .u64 0, .int .u64 0, .slice none 0 0, .slice none 0 0, .int .i64 0] := e0.set 1 v1
  have e2 : Box 102 (((w.setCell ⟨b, 0, none⟩ v0).setCell ⟨b, 1, none⟩ v1).setCell ⟨b, 2, none⟩ v2) b #[v0, v1, v2, .int .u64 0, .int .u64 0, .int .u64 0, .slice none 0 0, .slice none 0 0, .int .i64 0] := e1.set 2 v2
  have e3 : Box 102 ((((w.setCell ⟨b, 0, none⟩ v0).setCell ⟨b, 1, none⟩ v1).setCell ⟨b, 2, none⟩ v2).setCell ⟨b, 3, none⟩ v3) b #[v0, v1, v2, v3, .int .u64 0, .int .u64 0, .slice none 0 0, .slice none 0 0, .int .i64 0] := e2.set 3 v3
  have e4 : Box 102 (((((w.setCell ⟨b, 0, none⟩ v0).setCell ⟨b, 1, none⟩ v1).setCell ⟨b, 2, none⟩ v2).setCell ⟨b, 3, none⟩ v3).setCell ⟨b, 4, none⟩ v4) b #[v0, v1, v2, v3, v4, .int .u64 0, .slice none 0 0, .slice none 0 0, .int .i64 0] := e3.set 4 v4
  have e5 : Box 102 ((((((w.setCell ⟨b, 0, none⟩ v0).setCell ⟨b, 1, none⟩ v1).setCell ⟨b, 2, none⟩ v2).setCell ⟨b, 3, none⟩ v3).setCell ⟨b, 4, none⟩ v4).setCell ⟨b, 5, none⟩ v5) b #[v0, v1, v2, v3, v4, v5, .slice none 0 0, .slice none 0 0, .int .i64 0] := e4.set 5 v5
  have e6 : Box 102 (((((((w.setCell ⟨b, 0, none⟩ v0).setCell ⟨b, 1, none⟩ v1).setCell ⟨b, 2, none⟩ v2).setCell ⟨b, 3, none⟩ v3).setCell ⟨b, 4, none⟩ v4).setCell ⟨b, 5, none⟩ v5).setCell ⟨b, 6, none⟩ v6) b #[v0, v1, v2, v3, v4, v5, v6, .slice none 0 0, .int .i64 0] := e5.set 6 v6
  have e7 : Box 102 ((((((((w.setCell ⟨b, 0, none⟩ v0).setCell ⟨b, 1, none⟩ v1).setCell ⟨b, 2, none⟩ v2).setCell ⟨b, 3, none⟩ v3).setCell ⟨b, 4, none⟩ v4).setCell ⟨b, 5, none⟩ v5).setCell ⟨b, 6, none⟩ v6).setCell ⟨b, 7, none⟩ v7) b #[v0, v1, v2, v3, v4, v5, v6, v7, .int .i64 0] := e6.set 7 v7
  have e8 : Box 102 (((((((((w.setCell ⟨b, 0, none⟩ v0).setCell ⟨b, 1, none⟩ v1).setCell ⟨b, 2, none⟩ v2).setCell ⟨b, 3, none⟩ v3).setCell ⟨b, 4, none⟩ v4).setCell ⟨b, 5, none⟩ v5).setCell ⟨b, 6, none⟩ v6).setCell ⟨b, 7, none⟩ v7).setCell ⟨b, 8, none⟩ v8) b #[v0, v1, v2, v3, v4, v5, v6, v7, v8] := e7.set 8 v8
  exact e8

theorem smallTupV {s q i m : Nat} {rs : List (List Int)} (h1 : 1 ≤ s) (h2 : s ≤ 4) (h3 : 1 ≤ q) (h4 : q ≤ 4) (h : TupP s q (rowN rs i)) (hm : codeN s (rowN rs i) = m) (hm2 : m < 256) (w : World) :
    Calls Try.prog 123 #[.int .i64 (s : Int), .int .i64 (q : Int), .int .i64 (m : Int)] w fun e w' => e = .returned (.agg #[.int .u8 (tupV rs i 0 : Int), .int .u8 (tupV rs i 1 : Int), .int .u8 (tupV rs i 2 : Int), .int .u8 (tupV rs i 3 : Int)]) ∧ Below w.heap.size w w' := by
  have e : small4 (fun p => if p < q then digN s q m p else 0) = small4 (tupV rs i) := by
    congr 1
    funext p
    rw [← hm]
    exact tupV_digs h1 h2 h3 h4 h p
  have k := smallTupleOf s q m h1 h2 h3 h4 hm2 w
  rw [e] at k
  exact k

theorem rowsForL (q n g : Nat) (s r : Int) (w : World) (hq : q ≤ 4) :
    Calls Try.prog 127 #[.agg #[.int .i64 s, .int .i64 r, .slice (some ⟨g, 0, none⟩) n n], .int .i64 (q : Int)] w fun e w' => e = .returned (.agg #[rowV q g n (fun _ => 0) 0, rowV q g n (fun _ => 0) 1, rowV q g n (fun _ => 0) 2, rowV q g n (fun _ => 0) 3]) ∧ Below w.heap.size w w' := rowsForC q n g s r w hq

/-- What firstBreak finds. -/
def FindIs (s ar q : Nat) (tab : List Int) (rs : List (List Int)) (b : Bool) (is : List Nat) (mv : Int) : Prop :=
  (b = false ∧ FirstJ (BrkAt s ar q tab rs) (rs.length ^ ar) none) ∨ (b = true ∧ ∃ j, FirstJ (BrkAt s ar q tab rs) (rs.length ^ ar) (some j) ∧ is = digL rs.length ar j ∧ mv = (codeN s (madeN s tab (pickN rs (digL rs.length ar j)) q) : Nat))

set_option linter.unusedSimpArgs false in
set_option maxHeartbeats 4000000 in
set_option maxRecDepth 100000 in
theorem firstBreakC (s ar q : Nat) (fa : Option Addr) (fn fc : Nat) (tab : List Int) (ra : Option Addr) (rn rc : Nat) (rs : List (List Int)) (w : World) (hf : RowAt w (.slice fa fn fc) tab) (ho : OpOk s ar tab) (hr : GridAt w (.slice ra rn rc) rs) (hk : RelOk s q rs) :
    Calls Try.prog 73 #[.int .i64 (s : Int), .agg #[.int .i64 (ar : Int), .slice fa fn fc], .agg #[.int .i64 (q : Int), .slice ra rn rc]] w fun e w' => ∃ b ta tc la lc is mv, e = .returned (.tuple #[.agg #[.int .i64 (s : Int), .int .i64 (q : Int), .int .u64 (word (setOf s rs) 0), .int .u64 (word (setOf s rs) 1), .int .u64 (word (setOf s rs) 2), .int .u64 (word (setOf s rs) 3), .slice ta rs.length tc, .slice la is.length lc, .int .i64 mv], .bool b]) ∧ Below w.heap.size w w' ∧ OwnI w' w.heap.size (.slice la is.length lc) is ∧ FindIs s ar q tab rs b is mv := by
  obtain ⟨i0, hi, hz0, hz1, hz2⟩ := info_parts info_S
  obtain ⟨S, hS⟩ : ∃ S, setOf s rs = S := ⟨_, rfl⟩
  have HSS := Lib.hid hS
  have HB0 : Hid (Below w.heap.size w (((w.alloc (.cells #[.int .i64 (ar : Int), .slice fa fn fc] 32)).alloc (.cells #[.int .i64 (q : Int), .slice ra rn rc] 34)).alloc (.cells #[.int .i64 0, .int .i64 0, .int .u64 0, .int .u64 0, .int .u64 0, .int .u64 0, .slice none 0 0, .slice none 0 0, .int .i64 0] 102))) := Lib.hid ((((Below.refl _ _).alloc (Nat.le_refl _) _).alloc (by simp) _).alloc (by simp; omega) _)
  have b0 : Box 32 (((w.alloc (.cells #[.int .i64 (ar : Int), .slice fa fn fc] 32)).alloc (.cells #[.int .i64 (q : Int), .slice ra rn rc] 34)).alloc (.cells #[.int .i64 0, .int .i64 0, .int .u64 0, .int .u64 0, .int .u64 0, .int .u64 0, .slice none 0 0, .slice none 0 0, .int .i64 0] 102)) w.heap.size #[.int .i64 (ar : Int), .slice fa fn fc] := ((Box.new _ _ _).below ((Below.refl _ _).alloc (Nat.le_refl _) _)).below ((Below.refl _ _).alloc (Nat.le_refl _) _)
  have b1 : Box 34 (((w.alloc (.cells #[.int .i64 (ar : Int), .slice fa fn fc] 32)).alloc (.cells #[.int .i64 (q : Int), .slice ra rn rc] 34)).alloc (.cells #[.int .i64 0, .int .i64 0, .int .u64 0, .int .u64 0, .int .u64 0, .int .u64 0, .slice none 0 0, .slice none 0 0, .int .i64 0] 102)) (w.heap.size + 1) #[.int .i64 (q : Int), .slice ra rn rc] := by
    have h := Box.new 34 (w.alloc (.cells #[.int .i64 (ar : Int), .slice fa fn fc] 32)) #[.int .i64 (q : Int), .slice ra rn rc]
    rw [World.size_alloc] at h
    exact h.below ((Below.refl _ _).alloc (Nat.le_refl _) _)
  have b2 : Box 102 (((w.alloc (.cells #[.int .i64 (ar : Int), .slice fa fn fc] 32)).alloc (.cells #[.int .i64 (q : Int), .slice ra rn rc] 34)).alloc (.cells #[.int .i64 0, .int .i64 0, .int .u64 0, .int .u64 0, .int .u64 0, .int .u64 0, .slice none 0 0, .slice none 0 0, .int .i64 0] 102)) (w.heap.size + 1 + 1) #[.int .i64 0, .int .i64 0, .int .u64 0, .int .u64 0, .int .u64 0, .int .u64 0, .slice none 0 0, .slice none 0 0, .int .i64 0] := by
    have h := Box.new 102 ((w.alloc (.cells #[.int .i64 (ar : Int), .slice fa fn fc] 32)).alloc (.cells #[.int .i64 (q : Int), .slice ra rn rc] 34)) #[.int .i64 0, .int .i64 0, .int .u64 0, .int .u64 0, .int .u64 0, .int .u64 0, .slice none 0 0, .slice none 0 0, .int .i64 0]
    rw [World.size_alloc, World.size_alloc] at h
    exact h
  have hs1 : (((w.alloc (.cells #[.int .i64 (ar : Int), .slice fa fn fc] 32)).alloc (.cells #[.int .i64 (q : Int), .slice ra rn rc] 34)).alloc (.cells #[.int .i64 0, .int .i64 0, .int .u64 0, .int .u64 0, .int .u64 0, .int .u64 0, .slice none 0 0, .slice none 0 0, .int .i64 0] 102)).heap.size = w.heap.size + 3 := by simp
  have HGR0 := Lib.hid (hr.below HB0.out)
  have HFR0 := Lib.hid (hf.below HB0.out)
  have HRK := Lib.hid hk
  have HOK := Lib.hid ho
  have HTU : Hid (∀ i, i < rs.length → TupP s q (rowN rs i)) := Lib.hid hk.rows
  have hs14 := hk.1
  have hq14 := hk.2.1
  have ha13 := ho.2.1
  have HN256 := Lib.hid hk.few
  rw [hS]
  clear hf ho hr hk
  go_enter Try.func73, Try.ntmps73
  go_upto_region 1 with fail
  obtain ⟨w1, hw1⟩ : ∃ w1, (((w.alloc (.cells #[.int .i64 (ar : Int), .slice fa fn fc] 32)).alloc (.cells #[.int .i64 (q : Int), .slice ra rn rc] 34)).alloc (.cells #[.int .i64 0, .int .i64 0, .int .u64 0, .int .u64 0, .int .u64 0, .int .u64 0, .slice none 0 0, .slice none 0 0, .int .i64 0] 102)) = w1 := ⟨_, rfl⟩
  rw [hw1] at HB0 HGR0 HFR0 b0 b1 b2 hs1
  simp only [hw1]
  have HGR := HGR0
  have d0 : w1.cell? ⟨w.heap.size + 1, 0, none⟩ = some (.int .i64 (q : Int)) := b1.c 0 rfl
  have d1 : w1.cell? ⟨w.heap.size + 1, 1, none⟩ = some (.slice ra rn rc) := b1.c 1 rfl
  have B0 := Lib.hid b0
  have B1 := Lib.hid b1
  have B2 := Lib.hid b2
  have HS1 := Lib.hid hs1
  clear b0 b1 b2 hw1 hs1
  go_cut [8] from 12 to 18 (fun v8 wz => ∃ sb, v8 = .pointer (some ⟨sb, 0, none⟩) ∧ Box 102 wz sb #[.int .i64 (s : Int), .int .i64 (q : Int), .int .u64 (word S 0), .int .u64 (word S 1), .int .u64 (word S 2), .int .u64 (word S 3), .slice none 0 0, .slice none 0 0, .int .i64 0] ∧ Below w1.heap.size w1 wz ∧ w1.heap.size ≤ sb)
  case first =>
    refine wp_region_noPanic ?_
    refine wp_region_late (S := (fun w' => w'.cell? ⟨w.heap.size + 1, 0, none⟩ = some (.int .i64 (q : Int)) ∧ w'.cell? ⟨w.heap.size + 1, 1, none⟩ = some (.slice ra rn rc) ∧ Below w1.heap.size w1 w')) [8] (by kernel_rfl) ?_ (fun hHeld => ?_)
    · exact ⟨d0, d1, (Below.refl _ _).drew⟩
    refine wpAnyL_free (i := 0) (v := ?_) (some 12) rfl rfl (by kernel_rfl) (by kernel_rfl) (by kernel_rfl) (by decide) (fun _ _ _ h => h) (Or.inl ⟨by rfl, ?_⟩) (fun h0 => by assumption) ?_
    rotate_left
    · intro wS
      go_simp
      try with_reducible rfl
    try simp only [Act.put, List.setIfInBounds_toArray, List.set_cons_zero, List.set_cons_succ]
    refine wpAnyL_free (i := 1) (v := ?_) (some 13) rfl rfl (by kernel_rfl) (by kernel_rfl) (by kernel_rfl) (by decide) (fun _ _ _ h => h) (Or.inl ⟨by rfl, ?_⟩) (fun h0 => by assumption) ?_
    rotate_left
    · intro wS
      go_simp
      try with_reducible rfl
    try simp only [Act.put, List.setIfInBounds_toArray, List.set_cons_zero, List.set_cons_succ]
    refine wpAnyL_take (i := 2) (v := ?_) (some 14) rfl rfl (by kernel_rfl) (by kernel_rfl) (by kernel_rfl) (by kernel_rfl) (by kernel_rfl) (fun _ _ _ h => h) (Or.inl ⟨by rfl, ?_⟩) (by assumption) ?_
    rotate_left
    · intro wS hSw
      try dsimp only at hSw
      go_simp
      try with_reducible rfl
    try simp only [Act.put, List.setIfInBounds_toArray, List.set_cons_zero, List.set_cons_succ]
    refine wpAnyL_free (i := 3) (v := ?_) (some 15) rfl rfl (by kernel_rfl) (by kernel_rfl) (by kernel_rfl) (by decide) (fun _ _ _ h => h) (Or.inl ⟨by rfl, ?_⟩) (fun h0 => by assumption) ?_
    rotate_left
    · intro wS
      go_simp
      try with_reducible rfl
    try simp only [Act.put, List.setIfInBounds_toArray, List.set_cons_zero, List.set_cons_succ]
    refine wpAnyL_take (i := 4) (v := ?_) (some 16) rfl rfl (by kernel_rfl) (by kernel_rfl) (by kernel_rfl) (by kernel_rfl) (by kernel_rfl) (fun _ _ _ h => h) (Or.inl ⟨by rfl, ?_⟩) (by assumption) ?_
    rotate_left
    · intro wS hSw
      try dsimp only at hSw
      go_simp
      try with_reducible rfl
    try simp only [Act.put, List.setIfInBounds_toArray, List.set_cons_zero, List.set_cons_succ]
    refine wpAnyL_ready (rs := [5, 7]) (by kernel_rfl) (by simp) ?_
    refine AllReadyL.cons rfl (fun K hK => ?_) ?_
    · skip
      go_simp; go_at_call 122; refine (bitsOf4 (s : Int) q ra rn rc rs _ (HGR.out.below hHeld.2.2) HRK.out).mono ?_; rintro e w3 ⟨rfl, hb3⟩
      rw [hS]
      have HB3 := Lib.hid (hHeld.2.2.trans (hb3.mono hHeld.2.2.size))
      refine hK.out _ _ ?_ (fun hHeld => ?_)
      · exact ⟨below_cell hb3 hHeld.1, below_cell hb3 hHeld.2.1, hHeld.2.2.trans (hb3.mono hHeld.2.2.size)⟩
      clear hK K
      try simp only [Act.put, List.setIfInBounds_toArray, List.set_cons_zero, List.set_cons_succ]
      refine wpAnyL_free (i := 6) (v := ?_) (some 18) rfl rfl (by kernel_rfl) (by kernel_rfl) (by kernel_rfl) (by decide) (fun _ _ _ h => h) (Or.inl ⟨by rfl, ?_⟩) (fun h0 => by assumption) ?_
      rotate_left
      · intro wS
        go_simp
        try with_reducible rfl
      try simp only [Act.put, List.setIfInBounds_toArray, List.set_cons_zero, List.set_cons_succ]
      refine wpAnyL_ready (rs := [7]) (by kernel_rfl) (by simp) ?_
      refine AllReadyL.cons rfl (fun K hK => ?_) AllReadyL.nil
      go_simp
      refine hK.out _ _ ?_ (fun hHeld => ?_)
      · exact ⟨below_cell ((Below.refl _ _).alloc (Nat.le_refl _) _) hHeld.1, below_cell ((Below.refl _ _).alloc (Nat.le_refl _) _) hHeld.2.1, hHeld.2.2.trans (((Below.refl _ _).alloc (Nat.le_refl _) _).mono hHeld.2.2.size)⟩
      clear hK K
      try simp only [Act.put, List.setIfInBounds_toArray, List.set_cons_zero, List.set_cons_succ]
      refine wpAnyL_ready (rs := [8]) (by kernel_rfl) (by simp) ?_
      refine AllReadyL.last rfl (by kernel_rfl) (fun K hK => ?_) AllReadyL.nil
      obtain ⟨w5, hw5⟩ : ∃ w5, w3.alloc (.cells #[.int .i64 0, .int .i64 0, .int .u64 0, .int .u64 0, .int .u64 0, .int .u64 0, .slice none 0 0, .slice none 0 0, .int .i64 0] 102) = w5 := ⟨_, rfl⟩
      have HZ : Hid (Box 102 w5 w3.heap.size #[.int .i64 0, .int .i64 0, .int .u64 0, .int .u64 0, .int .u64 0, .int .u64 0, .slice none 0 0, .slice none 0 0, .int .i64 0]) := Lib.hid (by rw [← hw5]; exact Box.new _ _ _)
      have HB5 : Hid (Below w1.heap.size w1 w5) := Lib.hid (by rw [← hw5]; exact HB3.out.alloc HB3.out.size _)
      have HSZ : Hid (w1.heap.size ≤ w3.heap.size) := Lib.hid HB3.out.size
      obtain ⟨sb, hsb⟩ : ∃ sb, w3.heap.size = sb := ⟨_, rfl⟩
      simp only [hsb] at HZ HSZ ⊢
      rw [hw5]
      clear hw5 hsb
      have z0 : w5.cell? ⟨sb, 0, none⟩ = some (.int .i64 0) := HZ.out.c 0 rfl
      have y0 := HZ.out.free 0
      have z1 : w5.cell? ⟨sb, 1, none⟩ = some (.int .i64 0) := HZ.out.c 1 rfl
      have y1 := HZ.out.free 1
      have z2 : w5.cell? ⟨sb, 2, none⟩ = some (.int .u64 0) := HZ.out.c 2 rfl
      have y2 := HZ.out.free 2
      have z3 : w5.cell? ⟨sb, 3, none⟩ = some (.int .u64 0) := HZ.out.c 3 rfl
      have y3 := HZ.out.free 3
      have z4 : w5.cell? ⟨sb, 4, none⟩ = some (.int .u64 0) := HZ.out.c 4 rfl
      have y4 := HZ.out.free 4
      have z5 : w5.cell? ⟨sb, 5, none⟩ = some (.int .u64 0) := HZ.out.c 5 rfl
      have y5 := HZ.out.free 5
      have z6 : w5.cell? ⟨sb, 6, none⟩ = some (.slice none 0 0) := HZ.out.c 6 rfl
      have y6 := HZ.out.free 6
      have z7 : w5.cell? ⟨sb, 7, none⟩ = some (.slice none 0 0) := HZ.out.c 7 rfl
      have y7 := HZ.out.free 7
      have z8 : w5.cell? ⟨sb, 8, none⟩ = some (.int .i64 0) := HZ.out.c 8 rfl
      have y8 := HZ.out.free 8
      go_simp
      refine hK.out _ _ ?_
      clear hK K
      try simp only [Act.put, List.setIfInBounds_toArray, List.set_cons_zero, List.set_cons_succ]
      refine wpAnyL_done (by kernel_rfl) ?_ _
      refine NoPanic.normal ?_
      have HFZ := Lib.hid (Box.set9 HZ.out (.int .i64 (s : Int)) (.int .i64 (q : Int)) (.int .u64 (word S 0)) (.int .u64 (word S 1)) (.int .u64 (word S 2)) (.int .u64 (word S 3)) (.slice none 0 0) (.slice none 0 0) (.int .i64 0))
      have HFB := Lib.hid (((((((((HB5.out.setCell (p := ⟨sb, 0, none⟩) HSZ.out (.int .i64 (s : Int))).setCell (p := ⟨sb, 1, none⟩) HSZ.out (.int .i64 (q : Int))).setCell (p := ⟨sb, 2, none⟩) HSZ.out (.int .u64 (word S 0))).setCell (p := ⟨sb, 3, none⟩) HSZ.out (.int .u64 (word S 1))).setCell (p := ⟨sb, 4, none⟩) HSZ.out (.int .u64 (word S 2))).setCell (p := ⟨sb, 5, none⟩) HSZ.out (.int .u64 (word S 3))).setCell (p := ⟨sb, 6, none⟩) HSZ.out (.slice none 0 0)).setCell (p := ⟨sb, 7, none⟩) HSZ.out (.slice none 0 0)).setCell (p := ⟨sb, 8, none⟩) HSZ.out (.int .i64 0))
      clear z0 y0 z1 y1 z2 y2 z3 y3 z4 y4 z5 y5 z6 y6 z7 y7 z8 y8
      go_wp2_with fail
      go_meet
      exact ⟨sb, rfl, HFZ.out, HFB.out, HSZ.out⟩
    refine AllReadyL.cons rfl (fun K hK => ?_) AllReadyL.nil
    go_simp
    refine hK.out _ _ ?_ (fun hHeld => ?_)
    · exact ⟨below_cell ((Below.refl _ _).alloc (Nat.le_refl _) _) hHeld.1, below_cell ((Below.refl _ _).alloc (Nat.le_refl _) _) hHeld.2.1, hHeld.2.2.trans (((Below.refl _ _).alloc (Nat.le_refl _) _).mono hHeld.2.2.size)⟩
    clear hK K
    try simp only [Act.put, List.setIfInBounds_toArray, List.set_cons_zero, List.set_cons_succ]
    refine wpAnyL_ready (rs := [5]) (by kernel_rfl) (by simp) ?_
    refine AllReadyL.cons rfl (fun K hK => ?_) AllReadyL.nil
    go_simp; go_at_call 122; refine (bitsOf4 (s : Int) q ra rn rc rs _ (HGR.out.below hHeld.2.2) HRK.out).mono ?_; rintro e w3 ⟨rfl, hb3⟩
    rw [hS]
    have HB3 := Lib.hid (hHeld.2.2.trans (hb3.mono hHeld.2.2.size))
    refine hK.out _ _ ?_ (fun hHeld => ?_)
    · exact ⟨below_cell hb3 hHeld.1, below_cell hb3 hHeld.2.1, hHeld.2.2.trans (hb3.mono hHeld.2.2.size)⟩
    clear hK K
    try simp only [Act.put, List.setIfInBounds_toArray, List.set_cons_zero, List.set_cons_succ]
    refine wpAnyL_free (i := 6) (v := ?_) (some 18) rfl rfl (by kernel_rfl) (by kernel_rfl) (by kernel_rfl) (by decide) (fun _ _ _ h => h) (Or.inl ⟨by rfl, ?_⟩) (fun h0 => by assumption) ?_
    rotate_left
    · intro wS
      go_simp
      try with_reducible rfl
    try simp only [Act.put, List.setIfInBounds_toArray, List.set_cons_zero, List.set_cons_succ]
    refine wpAnyL_ready (rs := [8]) (by kernel_rfl) (by simp) ?_
    refine AllReadyL.last rfl (by kernel_rfl) (fun K hK => ?_) AllReadyL.nil
    have HZ0 := (Box.new 102 w1.drew #[.int .i64 0, .int .i64 0, .int .u64 0, .int .u64 0, .int .u64 0, .int .u64 0, .slice none 0 0, .slice none 0 0, .int .i64 0]).below hb3
    obtain ⟨w5, hw5⟩ : ∃ w5, w3 = w5 := ⟨_, rfl⟩
    have HB5 : Hid (Below w1.heap.size w1 w5) := Lib.hid (by rw [← hw5]; exact HB3.out)
    have HZ : Hid (Box 102 w5 w1.heap.size #[.int .i64 0, .int .i64 0, .int .u64 0, .int .u64 0, .int .u64 0, .int .u64 0, .slice none 0 0, .slice none 0 0, .int .i64 0]) := Lib.hid (by rw [← hw5]; exact HZ0)
    have HSZ : Hid (w1.heap.size ≤ w1.heap.size) := Lib.hid (Nat.le_refl _)
    rw [hw5]
    clear hw5 HZ0 hb3
    have z0 : w5.cell? ⟨w1.heap.size, 0, none⟩ = some (.int .i64 0) := HZ.out.c 0 rfl
    have y0 := HZ.out.free 0
    have z1 : w5.cell? ⟨w1.heap.size, 1, none⟩ = some (.int .i64 0) := HZ.out.c 1 rfl
    have y1 := HZ.out.free 1
    have z2 : w5.cell? ⟨w1.heap.size, 2, none⟩ = some (.int .u64 0) := HZ.out.c 2 rfl
    have y2 := HZ.out.free 2
    have z3 : w5.cell? ⟨w1.heap.size, 3, none⟩ = some (.int .u64 0) := HZ.out.c 3 rfl
    have y3 := HZ.out.free 3
    have z4 : w5.cell? ⟨w1.heap.size, 4, none⟩ = some (.int .u64 0) := HZ.out.c 4 rfl
    have y4 := HZ.out.free 4
    have z5 : w5.cell? ⟨w1.heap.size, 5, none⟩ = some (.int .u64 0) := HZ.out.c 5 rfl
    have y5 := HZ.out.free 5
    have z6 : w5.cell? ⟨w1.heap.size, 6, none⟩ = some (.slice none 0 0) := HZ.out.c 6 rfl
    have y6 := HZ.out.free 6
    have z7 : w5.cell? ⟨w1.heap.size, 7, none⟩ = some (.slice none 0 0) := HZ.out.c 7 rfl
    have y7 := HZ.out.free 7
    have z8 : w5.cell? ⟨w1.heap.size, 8, none⟩ = some (.int .i64 0) := HZ.out.c 8 rfl
    have y8 := HZ.out.free 8
    go_simp
    refine hK.out _ _ ?_
    clear hK K
    try simp only [Act.put, List.setIfInBounds_toArray, List.set_cons_zero, List.set_cons_succ]
    refine wpAnyL_done (by kernel_rfl) ?_ _
    refine NoPanic.normal ?_
    have HFZ := Lib.hid (Box.set9 HZ.out (.int .i64 (s : Int)) (.int .i64 (q : Int)) (.int .u64 (word S 0)) (.int .u64 (word S 1)) (.int .u64 (word S 2)) (.int .u64 (word S 3)) (.slice none 0 0) (.slice none 0 0) (.int .i64 0))
    have HFB := Lib.hid (((((((((HB5.out.setCell (p := ⟨w1.heap.size, 0, none⟩) HSZ.out (.int .i64 (s : Int))).setCell (p := ⟨w1.heap.size, 1, none⟩) HSZ.out (.int .i64 (q : Int))).setCell (p := ⟨w1.heap.size, 2, none⟩) HSZ.out (.int .u64 (word S 0))).setCell (p := ⟨w1.heap.size, 3, none⟩) HSZ.out (.int .u64 (word S 1))).setCell (p := ⟨w1.heap.size, 4, none⟩) HSZ.out (.int .u64 (word S 2))).setCell (p := ⟨w1.heap.size, 5, none⟩) HSZ.out (.int .u64 (word S 3))).setCell (p := ⟨w1.heap.size, 6, none⟩) HSZ.out (.slice none 0 0)).setCell (p := ⟨w1.heap.size, 7, none⟩) HSZ.out (.slice none 0 0)).setCell (p := ⟨w1.heap.size, 8, none⟩) HSZ.out (.int .i64 0))
    clear z0 y0 z1 y1 z2 y2 z3 y3 z4 y4 z5 y5 z6 y6 z7 y7 z8 y8
    go_wp2_with fail
    go_meet
    exact ⟨w1.heap.size, rfl, HFZ.out, HFB.out, HSZ.out⟩
  case rest =>
    obtain ⟨sb, rfl, hbx, hbw, hsz⟩ := hcut
    have d1' := below_cell hbw d1
    have HBX := Lib.hid hbx
    have HBW := Lib.hid hbw
    have HSZ := Lib.hid hsz
    have hsbl := hbx.lt
    obtain ⟨V, ⟨ra', rc', hv, hnn, hc⟩, hV⟩ := HGR.out
    simp only [Value.slice.injEq] at hv
    obtain ⟨rfl, rfl, rfl⟩ := hv
    have HC := Lib.hid hc
    have HV := Lib.hid hV
    clear d0 d1 hbx hbw hsz hc hV
    go_wp2
    go_loopw [22] (fun i wr => ∃ (k : Nat) (ta : Option Addr) (tc : Nat), k ≤ rs.length ∧ i = .int .i64 k ∧ Box 102 wr sb #[.int .i64 (s : Int), .int .i64 (q : Int), .int .u64 (word S 0), .int .u64 (word S 1), .int .u64 (word S 2), .int .u64 (word S 3), .slice ta k tc, .slice none 0 0, .int .i64 0] ∧ wr.ownsRow (sb + 1) 165 4 (.slice ta k tc) k (flatT (tupV rs) k) ∧ Below w1.heap.size w1 wr ∧ sb + 1 ≤ wr.heap.size) (fun i _ => rs.length - (intOf i).toNat)
    case atStart => exact ⟨0, none, 0, Nat.zero_le _, rfl, HBX.out, ⟨by simp [flatT], .inl ⟨rfl, rfl⟩⟩, HBW.out, hsbl⟩
    case round =>
      obtain ⟨k, ta, tc, hk, rfl, hbx, hown, hbl, hsl⟩ := hrel
      have HBK := Lib.hid hbx
      have HOW := Lib.hid hown
      have HBL := Lib.hid hbl
      have HN := HN256.out
      by_cases hlt : k < rs.length
      · obtain ⟨rb, rf, rfl, hcc⟩ := HC.out (by omega)
        have ev := below_cell hbl (hcc k hlt)
        have HRW := Lib.hid ((HV.out k hlt).below hbl)
        have f6 : wr.cell? ⟨sb, 6, none⟩ = some (.slice ta k tc) := hbx.c 6 rfl
        have fq : wr.cell? ⟨w.heap.size + 1, 0, none⟩ = some (.int .i64 (q : Int)) := (B1.out.below hbl).c 0 rfl
        obtain ⟨m, hm⟩ : ∃ m, codeN s (rowN rs k) = m := ⟨_, rfl⟩
        have hm256 : m < 256 := by rw [← hm]; exact codeN_lt (HTU.out k hlt) hs14 hq14
        have HM := Lib.hid hm
        have HTK := Lib.hid (HTU.out k hlt)
        have hkn : (k : Int) < (rs.length : Int) := by omega
        clear hbx hown hbl hcc hm
        go_wp2
        refine wp_region_noPanic ?_
        refine wp_region_late (S := (fun w' => w'.cell? ⟨sb, 6, none⟩ = some (.slice ta k tc) ∧ w'.cell? ⟨w.heap.size + 1, 0, none⟩ = some (.int .i64 (q : Int)) ∧ Below wr.heap.size wr w')) [10, 12] (by kernel_rfl) ?_ (fun hHeld => ?_)
        · exact ⟨f6, fq, (QW.refl _).drew.below _⟩
        refine wpAnyL_free (i := 0) (v := ?_) (some 26) rfl rfl (by kernel_rfl) (by kernel_rfl) (by kernel_rfl) (by decide) (fun _ _ _ h => h) (Or.inl ⟨by rfl, ?_⟩) (fun h0 => by assumption) ?_
        rotate_left
        · intro wS
          go_simp
          try with_reducible rfl
        try simp only [Act.put, List.setIfInBounds_toArray, List.set_cons_zero, List.set_cons_succ]
        refine wpAnyL_take (i := 1) (v := ?_) (some 27) rfl rfl (by kernel_rfl) (by kernel_rfl) (by kernel_rfl) (by kernel_rfl) (by kernel_rfl) (fun _ _ _ h => h) (Or.inl ⟨by rfl, ?_⟩) (by assumption) ?_
        rotate_left
        · intro wS hSw
          try dsimp only at hSw
          go_simp
          try with_reducible rfl
        try simp only [Act.put, List.setIfInBounds_toArray, List.set_cons_zero, List.set_cons_succ]
        refine wpAnyL_free (i := 2) (v := ?_) (some 28) rfl rfl (by kernel_rfl) (by kernel_rfl) (by kernel_rfl) (by decide) (fun _ _ _ h => h) (Or.inl ⟨by rfl, ?_⟩) (fun h0 => by assumption) ?_
        rotate_left
        · intro wS
          go_simp
          try with_reducible rfl
        try simp only [Act.put, List.setIfInBounds_toArray, List.set_cons_zero, List.set_cons_succ]
        refine wpAnyL_free (i := 3) (v := ?_) (some 29) rfl rfl (by kernel_rfl) (by kernel_rfl) (by kernel_rfl) (by decide) (fun _ _ _ h => h) (Or.inl ⟨by rfl, ?_⟩) (fun h0 => by assumption) ?_
        rotate_left
        · intro wS
          go_simp
          try with_reducible rfl
        try simp only [Act.put, List.setIfInBounds_toArray, List.set_cons_zero, List.set_cons_succ]
        refine wpAnyL_take (i := 4) (v := ?_) (some 30) rfl rfl (by kernel_rfl) (by kernel_rfl) (by kernel_rfl) (by kernel_rfl) (by kernel_rfl) (fun _ _ _ h => h) (Or.inl ⟨by rfl, ?_⟩) (by assumption) ?_
        rotate_left
        · intro wS hSw
          try dsimp only at hSw
          go_simp
          try with_reducible rfl
        try simp only [Act.put, List.setIfInBounds_toArray, List.set_cons_zero, List.set_cons_succ]
        refine wpAnyL_free (i := 5) (v := ?_) (some 31) rfl rfl (by kernel_rfl) (by kernel_rfl) (by kernel_rfl) (by decide) (fun _ _ _ h => h) (Or.inl ⟨by rfl, ?_⟩) (fun h0 => by assumption) ?_
        rotate_left
        · intro wS
          go_simp
          try with_reducible rfl
        try simp only [Act.put, List.setIfInBounds_toArray, List.set_cons_zero, List.set_cons_succ]
        refine wpAnyL_free (i := 6) (v := ?_) (some 32) rfl rfl (by kernel_rfl) (by kernel_rfl) (by kernel_rfl) (by decide) (fun _ _ _ h => h) (Or.inl ⟨by rfl, ?_⟩) (fun h0 => by assumption) ?_
        rotate_left
        · intro wS
          go_simp
          try with_reducible rfl
        try simp only [Act.put, List.setIfInBounds_toArray, List.set_cons_zero, List.set_cons_succ]
        refine wpAnyL_ready (rs := [7]) (by kernel_rfl) (by simp) ?_
        refine AllReadyL.cons rfl (fun K hK => ?_) AllReadyL.nil
        go_simp; go_at_call 124; refine (numberOfN _ (rowN rs k) q (s : Int) m _ (HRW.out.below hHeld.2.2) hs14 hq14 HTK.out HM.out).mono ?_; rintro e w3 ⟨rfl, rfl⟩
        refine hK.out _ _ ?_ (fun hHeld => ?_)
        · exact hHeld
        clear hK K
        try simp only [Act.put, List.setIfInBounds_toArray, List.set_cons_zero, List.set_cons_succ]
        refine wpAnyL_ready (rs := [8]) (by kernel_rfl) (by simp) ?_
        refine AllReadyL.cons rfl (fun K hK => ?_) AllReadyL.nil
        go_simp; go_at_call 123; refine (smallTupV (by have := hs14.1; omega) (by have := hs14.2; omega) (by have := hq14.1; omega) (by have := hq14.2; omega) HTK.out HM.out hm256 _).mono ?_; rintro e w4 ⟨rfl, hb4⟩
        refine hK.out _ _ ?_ (fun hHeld => ?_)
        · exact ⟨below_cell hb4 hHeld.1, below_cell hb4 hHeld.2.1, hHeld.2.2.trans (hb4.mono hHeld.2.2.size)⟩
        clear hK K
        try simp only [Act.put, List.setIfInBounds_toArray, List.set_cons_zero, List.set_cons_succ]
        refine wpAnyL_ready (rs := [9]) (by kernel_rfl) (by simp) ?_
        refine AllReadyL.cons rfl (fun K hK => ?_) AllReadyL.nil
        go_simp
        refine hK.out _ _ ?_ (fun hHeld => ?_)
        · exact ⟨below_cell ((Below.refl _ _).alloc (Nat.le_refl _) _) hHeld.1, below_cell ((Below.refl _ _).alloc (Nat.le_refl _) _) hHeld.2.1, hHeld.2.2.trans (((Below.refl _ _).alloc (Nat.le_refl _) _).mono hHeld.2.2.size)⟩
        clear hK K
        try simp only [Act.put, List.setIfInBounds_toArray, List.set_cons_zero, List.set_cons_succ]
        refine wpAnyL_ready (rs := [10]) (by kernel_rfl) (by simp) ?_
        refine AllReadyL.last rfl (by kernel_rfl) (fun K hK => ?_) AllReadyL.nil
        have HAL := Lib.hid hHeld.2.2
        refine step_append_lies _ (by rfl) _ _ 99 (by rfl) (sb + 1) 165 i0 (.agg #[.int .u8 0, .int .u8 0, .int .u8 0, .int .u8 0]) 4 4 Try.underlying99 hi hz0 hz1 hz2 (by rfl) (by decide) (.slice ta k tc) k _ (by rfl) (ownsRow_below HOW.out HAL.out) _ 1 1 [.int .u8 (tupV rs k 0 : Int), .int .u8 (tupV rs k 1 : Int), .int .u8 (tupV rs k 2 : Int), .int .u8 (tupV rs k 3 : Int)] (by rfl) (by rfl) (fun j u hu => World.news_of_block (heap_alloc_new _ _) j u (by simpa using hu)) (by simp [Value.oneCell']) (by omega) (by unfold maxLen; omega) (by omega) (Nat.le_trans hsl HAL.out.size) _ rfl ?_; intro g5 cap5 w6 hown5 hgrow5 hat5 hlt5
        have HBX5 := Lib.hid ((HBK.out.below HAL.out).grown hgrow5 (fun e' => by have := (HOW.out.lt sb e').1; omega))
        have HW5 := Lib.hid ((HBL.out.trans (HAL.out.mono HBL.out.size)).grown hgrow5 (by have := HAL.out.size; have := HBL.out.size; omega) (fun g hg => by have := (HOW.out.lt g hg).1; have := HSZ.out; omega))
        have HO5 := Lib.hid hown5
        have HS5 := Lib.hid (Nat.le_trans HAL.out.size hgrow5.size)
        have k6 : w6.cell? ⟨sb, 6, none⟩ = some (.slice ta k tc) := HBX5.out.c 6 rfl
        have kf := HBX5.out.free 6
        clear hown5 hgrow5 hat5 hlt5 HAL
        refine hK.out _ _ ?_
        clear hK K
        try simp only [Act.put, List.setIfInBounds_toArray, List.set_cons_zero, List.set_cons_succ]
        refine wpAnyL_free (i := 11) (v := ?_) (some 37) rfl rfl (by kernel_rfl) (by kernel_rfl) (by kernel_rfl) (by decide) (fun _ _ _ h => h) (Or.inl ⟨by rfl, ?_⟩) (fun h0 => absurd h0 (by decide)) ?_
        rotate_left
        · intro wS
          go_simp
          try with_reducible rfl
        try simp only [Act.put, List.setIfInBounds_toArray, List.set_cons_zero, List.set_cons_succ]
        refine wpAnyL_ready (rs := [12]) (by kernel_rfl) (by simp) ?_
        refine AllReadyL.last rfl (by kernel_rfl) (fun K hK => ?_) AllReadyL.nil
        go_simp
        refine hK.out _ _ ?_
        clear hK K
        try simp only [Act.put, List.setIfInBounds_toArray, List.set_cons_zero, List.set_cons_succ]
        refine wpAnyL_done (by kernel_rfl) ?_ _
        refine NoPanic.normal ?_
        clear hHeld
        have HBX6 := Lib.hid (HBX5.out.set 6 (.slice (some ⟨g5, 0, none⟩) (k + 1) cap5))
        go_wp2
        go_roundw
        case rel =>
          refine ⟨k + 1, some ⟨g5, 0, none⟩, cap5, by omega, by go_num, HBX6.out, ?_, HW5.out.setCell (p := ⟨sb, 6, none⟩) HSZ.out _, by have := HS5.out; simp [World.setCell]; omega⟩
          rw [flatT_succ]
          exact ownsRow_same HO5.out fun g hg => Below.heap_setCell _ _ _ _ (fun e => by have := (HO5.out.lt g hg).1; simp at e; omega)
        case measure => simp [intOf]; omega
      · obtain rfl : k = rs.length := by omega
        have e0 : wr.cell? ⟨w.heap.size, 0, none⟩ = some (.int .i64 (ar : Int)) := (B0.out.below hbl).c 0 rfl
        have e1 : wr.cell? ⟨w.heap.size, 1, none⟩ = some (.slice fa fn fc) := (B0.out.below hbl).c 1 rfl
        have e2 : wr.cell? ⟨w.heap.size + 1, 0, none⟩ = some (.int .i64 (q : Int)) := (B1.out.below hbl).c 0 rfl
        clear hbx hown hbl
        go_wp2
        refine wp_region_noPanic ?_
        refine wp_region_late (S := (fun w' => w'.cell? ⟨w.heap.size, 0, none⟩ = some (.int .i64 (ar : Int)) ∧ w'.cell? ⟨w.heap.size, 1, none⟩ = some (.slice fa fn fc) ∧ w'.cell? ⟨w.heap.size + 1, 0, none⟩ = some (.int .i64 (q : Int)) ∧ Below wr.heap.size wr w')) [8] (by kernel_rfl) ?_ (fun hHeld => ?_)
        · exact ⟨e0, e1, e2, (QW.refl _).drew.below _⟩
        refine wpAnyL_free (i := 0) (v := ?_) (some 39) rfl rfl (by kernel_rfl) (by kernel_rfl) (by kernel_rfl) (by decide) (fun _ _ _ h => h) (Or.inl ⟨by rfl, ?_⟩) (fun h0 => by assumption) ?_
        rotate_left
        · intro wS
          go_simp
          try with_reducible rfl
        try simp only [Act.put, List.setIfInBounds_toArray, List.set_cons_zero, List.set_cons_succ]
        refine wpAnyL_take (i := 1) (v := ?_) (some 40) rfl rfl (by kernel_rfl) (by kernel_rfl) (by kernel_rfl) (by kernel_rfl) (by kernel_rfl) (fun _ _ _ h => h) (Or.inl ⟨by rfl, ?_⟩) (by assumption) ?_
        rotate_left
        · intro wS hSw
          try dsimp only at hSw
          go_simp
          try with_reducible rfl
        try simp only [Act.put, List.setIfInBounds_toArray, List.set_cons_zero, List.set_cons_succ]
        refine wpAnyL_free (i := 3) (v := ?_) (some 42) rfl rfl (by kernel_rfl) (by kernel_rfl) (by kernel_rfl) (by decide) (fun _ _ _ h => h) (Or.inl ⟨by rfl, ?_⟩) (fun h0 => by assumption) ?_
        rotate_left
        · intro wS
          go_simp
          try with_reducible rfl
        try simp only [Act.put, List.setIfInBounds_toArray, List.set_cons_zero, List.set_cons_succ]
        refine wpAnyL_take (i := 4) (v := ?_) (some 43) rfl rfl (by kernel_rfl) (by kernel_rfl) (by kernel_rfl) (by kernel_rfl) (by kernel_rfl) (fun _ _ _ h => h) (Or.inl ⟨by rfl, ?_⟩) (by assumption) ?_
        rotate_left
        · intro wS hSw
          try dsimp only at hSw
          go_simp
          try with_reducible rfl
        try simp only [Act.put, List.setIfInBounds_toArray, List.set_cons_zero, List.set_cons_succ]
        refine wpAnyL_free (i := 6) (v := ?_) (some 45) rfl rfl (by kernel_rfl) (by kernel_rfl) (by kernel_rfl) (by decide) (fun _ _ _ h => h) (Or.inl ⟨by rfl, ?_⟩) (fun h0 => by assumption) ?_
        rotate_left
        · intro wS
          go_simp
          try with_reducible rfl
        try simp only [Act.put, List.setIfInBounds_toArray, List.set_cons_zero, List.set_cons_succ]
        refine wpAnyL_take (i := 7) (v := ?_) (some 46) rfl rfl (by kernel_rfl) (by kernel_rfl) (by kernel_rfl) (by kernel_rfl) (by kernel_rfl) (fun _ _ _ h => h) (Or.inl ⟨by rfl, ?_⟩) (by assumption) ?_
        rotate_left
        · intro wS hSw
          try dsimp only at hSw
          go_simp
          try with_reducible rfl
        try simp only [Act.put, List.setIfInBounds_toArray, List.set_cons_zero, List.set_cons_succ]
        refine wpAnyL_ready (rs := [2]) (by kernel_rfl) (by simp) ?_
        refine AllReadyL.cons rfl (fun K hK => ?_) AllReadyL.nil
        go_simp; go_at_call 126; refine (tableOf s ar fa fn fc tab _ ((HFR0.out.below HBL.out).below hHeld.2.2.2) HOK.out).mono ?_; rintro e w3 ⟨gb, FT, rfl, htb, hFT, hgb, hb3⟩
        have HTB := Lib.hid htb
        have HFT := Lib.hid hFT
        have HGB := Lib.hid (Nat.le_trans hHeld.2.2.2.size hgb)
        clear htb hFT hgb
        refine hK.out _ _ ?_ (fun hHeld => ?_)
        · exact ⟨below_cell hb3 hHeld.1, below_cell hb3 hHeld.2.1, below_cell hb3 hHeld.2.2.1, hHeld.2.2.2.trans (hb3.mono hHeld.2.2.2.size)⟩
        clear hK K
        try simp only [Act.put, List.setIfInBounds_toArray, List.set_cons_zero, List.set_cons_succ]
        refine wpAnyL_ready (rs := [5]) (by kernel_rfl) (by simp) ?_
        refine AllReadyL.cons rfl (fun K hK => ?_) AllReadyL.nil
        go_simp; go_at_call 127; refine (rowsForL q tab.length gb s ar _ (by have := hq14.2; omega)).mono ?_; rintro e w4 ⟨rfl, hb4⟩
        have HT4 := Lib.hid (HTB.out.below hb4)
        refine hK.out _ _ ?_ (fun hHeld => ?_)
        · exact ⟨below_cell hb4 hHeld.1, below_cell hb4 hHeld.2.1, below_cell hb4 hHeld.2.2.1, hHeld.2.2.2.trans (hb4.mono hHeld.2.2.2.size)⟩
        clear hK K
        try simp only [Act.put, List.setIfInBounds_toArray, List.set_cons_zero, List.set_cons_succ]
        refine wpAnyL_ready (rs := [8]) (by kernel_rfl) (by simp) ?_
        refine AllReadyL.last rfl (by kernel_rfl) (fun K hK => ?_) AllReadyL.nil
        have HB4 := Lib.hid hHeld.2.2.2
        have hlen : tab.length = s ^ ar := by
          have := HOK.out.2.2.1
          rw [Int.toNat_natCast, Int.toNat_natCast] at this
          exact Int.ofNat.inj this
        have hpow : s ^ ar ≤ 64 := Nat.le_trans (Nat.pow_le_pow_left (show s ≤ 4 by have := hs14.2; omega) _) (Nat.le_trans (Nat.pow_le_pow_right (by decide) (show ar ≤ 3 by have := ha13.2; omega)) (by decide))
        obtain ⟨tk, htk⟩ : ∃ tk, 0 < rs.length → ta = some ⟨tk, 0, none⟩ ∧ sb + 1 ≤ tk ∧ tk < wr.heap.size ∧ ∀ i, i < rs.length → ∀ p, p < 4 → wr.cell? ⟨tk, i * 4 + p, none⟩ = some (.int .u8 (tupV rs i p : Int)) := by
          rcases HOW.out.2 with ⟨_, h0⟩ | ⟨tk, cap, cur, hv, hB, hg, _, _, _, h4⟩
          · exact ⟨0, fun h => by omega⟩
          · simp only [Value.slice.injEq] at hv
            refine ⟨tk, fun _ => ⟨hv.1, hB, (Array.getElem?_eq_some_iff.1 hg).1, fun i hi p hp => ?_⟩⟩
            rw [cell_of_row wr tk (i * 4 + p) cur _ (0, 0) hg]
            have := flatT_at (tupV rs) hi hp
            rw [← h4, List.getElem?_take, if_pos (by omega)] at this
            simpa using this
        have hsbw : sb < wr.heap.size := HBK.out.lt
        have HFP : Hid (FP w4 sb s q rs.length S ta tc (if 0 < rs.length then tk else sb + 1) (tupV rs) gb (s ^ ar) (tabV tab) none 0 [] 0) := Lib.hid ⟨HBK.out.below HB4.out, fun h => by rw [if_pos h]; exact (htk h).1, fun i hi p hp => by rw [if_pos (by omega)]; exact below_cell HB4.out ((htk (by omega)).2.2.2 i hi p hp), ⟨by simp, .inl ⟨rfl, rfl⟩⟩, fun x hx => by simp [Value.ownBlock] at hx, fun j hj => by
            have h := HT4.out.c j (by omega)
            rw [HFT.out j (by omega)] at h
            rw [h]
            unfold tabV
            rw [Int.toNat_of_nonneg (HOK.out.2.2.2 j (by omega)).1], ⟨by have := HGB.out; omega, by
              split
              · rename_i h; have := (htk h).2.1; omega
              · omega⟩⟩
        have hfind := findC sb s q rs.length S ta tc (if 0 < rs.length then tk else sb + 1) (tupV rs) gb (s ^ ar) (tabV tab) (by have := hs14.1; omega) (by have := hs14.2; omega) (by have := hq14.1; omega) (by have := hq14.2; omega) HN256.out (fun i p hi => by have := tup_any (by have := hs14.1; omega) (HTU.out i hi) p; have := hs14.2; unfold tupV; omega) (fun i p hi _ => by have := tup_any (by have := hs14.1; omega) (HTU.out i hi) p; unfold tupV; omega) (fun j hj => by have := HOK.out.2.2.2 j (by omega); unfold tabV; omega) ar (by have := ha13.1; omega) (by have := ha13.2; omega) (fun _ => 0) none 0 [] 0 w4 (fun p _ => by omega) HFP.out (by have := ha13.2; simp; omega)
        rw [← hlen] at hfind
        clear hlen hpow
        go_simp
        go_at_call 125
        refine hfind.mono ?_
        rintro e w8 ⟨b, rfl, la', lc', is', mv', hf8, hat8, hrs8, hq8⟩
        have HF8 := Lib.hid hf8
        have HAT8 := Lib.hid hat8
        have HRS8 := Lib.hid hrs8
        have HQ8 := Lib.hid hq8
        clear hf8 hat8 hrs8 hq8 hfind
        refine hK.out _ _ ?_
        clear hK K
        try simp only [Act.put, List.setIfInBounds_toArray, List.set_cons_zero, List.set_cons_succ]
        refine wpAnyL_free (i := 9) (v := ?_) (some 11) rfl rfl (by kernel_rfl) (by kernel_rfl) (by kernel_rfl) (by decide) (fun _ _ _ h => h) (Or.inl ⟨by rfl, ?_⟩) (fun h0 => absurd h0 (by decide)) ?_
        rotate_left
        · intro wS
          go_simp
          try with_reducible rfl
        try simp only [Act.put, List.setIfInBounds_toArray, List.set_cons_zero, List.set_cons_succ]
        refine wpAnyL_done (by kernel_rfl) ?_ _
        refine NoPanic.normal ?_
        clear hHeld
        have b8 := HF8.out.box
        have g0 : w8.cell? ⟨sb, 0, none⟩ = some (.int .i64 (s : Int)) := b8.c 0 rfl
        have g1 : w8.cell? ⟨sb, 1, none⟩ = some (.int .i64 (q : Int)) := b8.c 1 rfl
        have g2 : w8.cell? ⟨sb, 2, none⟩ = some (.int .u64 (word S 0)) := b8.c 2 rfl
        have g3 : w8.cell? ⟨sb, 3, none⟩ = some (.int .u64 (word S 1)) := b8.c 3 rfl
        have g4 : w8.cell? ⟨sb, 4, none⟩ = some (.int .u64 (word S 2)) := b8.c 4 rfl
        have g5 : w8.cell? ⟨sb, 5, none⟩ = some (.int .u64 (word S 3)) := b8.c 5 rfl
        have g6 : w8.cell? ⟨sb, 6, none⟩ = some (.slice ta rs.length tc) := b8.c 6 rfl
        have g7 : w8.cell? ⟨sb, 7, none⟩ = some (.slice la' is'.length lc') := b8.c 7 rfl
        have g8 : w8.cell? ⟨sb, 8, none⟩ = some (.int .i64 mv') := b8.c 8 rfl
        have HB14 : Hid (Below w1.heap.size w1 w4) := Lib.hid (HBL.out.trans (HB4.out.mono HBL.out.size))
        have r8 : Box 102 w8 (w.heap.size + 1 + 1) #[.int .i64 0, .int .i64 0, .int .u64 0, .int .u64 0, .int .u64 0, .int .u64 0, .slice none 0 0, .slice none 0 0, .int .i64 0] := (B2.out.below HB14.out).same (HRS8.out.at _ (B2.out.below HB14.out).lt (by have := HSZ.out; have := HS1.out; omega) (by simp [Value.ownBlock]))
        have R8 := Lib.hid r8
        have z0 : w8.cell? ⟨w.heap.size + 1 + 1, 0, none⟩ = some (.int .i64 0) := r8.c 0 rfl
        have z1 : w8.cell? ⟨w.heap.size + 1 + 1, 1, none⟩ = some (.int .i64 0) := r8.c 1 rfl
        have z2 : w8.cell? ⟨w.heap.size + 1 + 1, 2, none⟩ = some (.int .u64 0) := r8.c 2 rfl
        have z3 : w8.cell? ⟨w.heap.size + 1 + 1, 3, none⟩ = some (.int .u64 0) := r8.c 3 rfl
        have z4 : w8.cell? ⟨w.heap.size + 1 + 1, 4, none⟩ = some (.int .u64 0) := r8.c 4 rfl
        have z5 : w8.cell? ⟨w.heap.size + 1 + 1, 5, none⟩ = some (.int .u64 0) := r8.c 5 rfl
        have z6 : w8.cell? ⟨w.heap.size + 1 + 1, 6, none⟩ = some (.slice none 0 0) := r8.c 6 rfl
        have z7 : w8.cell? ⟨w.heap.size + 1 + 1, 7, none⟩ = some (.slice none 0 0) := r8.c 7 rfl
        have z8 : w8.cell? ⟨w.heap.size + 1 + 1, 8, none⟩ = some (.int .i64 0) := r8.c 8 rfl
        have y0 := r8.free 0
        have y1 := r8.free 1
        have y2 := r8.free 2
        have y3 := r8.free 3
        have y4 := r8.free 4
        have y5 := r8.free 5
        have y6 := r8.free 6
        have y7 := r8.free 7
        have y8 := r8.free 8
        have HB8 : Hid (Below w.heap.size w w8) := Lib.hid ((HB0.out.trans (HB14.out.mono HB0.out.size)).trans (Only.below HRS8.out (by have := HB14.out.size; have := HB0.out.size; omega) (fun k hk => by
          rcases hk with rfl | hk
          · have := HSZ.out; have := HS1.out; omega
          · simp [Value.ownBlock] at hk)))
        clear b8 r8 e0 e1 e2
        go_wp2
        have HFB := Box.set9 R8.out (.int .i64 (s : Int)) (.int .i64 (q : Int)) (.int .u64 (word S 0)) (.int .u64 (word S 1)) (.int .u64 (word S 2)) (.int .u64 (word S 3)) (.slice ta rs.length tc) (.slice la' is'.length lc') (.int .i64 mv')
        have HFL : Below w.heap.size w (((((((((w8.setCell ⟨w.heap.size + 1 + 1, 0, none⟩ (.int .i64 (s : Int))).setCell ⟨w.heap.size + 1 + 1, 1, none⟩ (.int .i64 (q : Int))).setCell ⟨w.heap.size + 1 + 1, 2, none⟩ (.int .u64 (word S 0))).setCell ⟨w.heap.size + 1 + 1, 3, none⟩ (.int .u64 (word S 1))).setCell ⟨w.heap.size + 1 + 1, 4, none⟩ (.int .u64 (word S 2))).setCell ⟨w.heap.size + 1 + 1, 5, none⟩ (.int .u64 (word S 3))).setCell ⟨w.heap.size + 1 + 1, 6, none⟩ (.slice ta rs.length tc)).setCell ⟨w.heap.size + 1 + 1, 7, none⟩ (.slice la' is'.length lc')).setCell ⟨w.heap.size + 1 + 1, 8, none⟩ ((.int .i64 mv'))) := (((((((((HB8.out.setCell (p := ⟨w.heap.size + 1 + 1, 0, none⟩) (by show w.heap.size ≤ w.heap.size + 1 + 1; omega) (.int .i64 (s : Int))).setCell (p := ⟨w.heap.size + 1 + 1, 1, none⟩) (by show w.heap.size ≤ w.heap.size + 1 + 1; omega) (.int .i64 (q : Int))).setCell (p := ⟨w.heap.size + 1 + 1, 2, none⟩) (by show w.heap.size ≤ w.heap.size + 1 + 1; omega) (.int .u64 (word S 0))).setCell (p := ⟨w.heap.size + 1 + 1, 3, none⟩) (by show w.heap.size ≤ w.heap.size + 1 + 1; omega) (.int .u64 (word S 1))).setCell (p := ⟨w.heap.size + 1 + 1, 4, none⟩) (by show w.heap.size ≤ w.heap.size + 1 + 1; omega) (.int .u64 (word S 2))).setCell (p := ⟨w.heap.size + 1 + 1, 5, none⟩) (by show w.heap.size ≤ w.heap.size + 1 + 1; omega) (.int .u64 (word S 3))).setCell (p := ⟨w.heap.size + 1 + 1, 6, none⟩) (by show w.heap.size ≤ w.heap.size + 1 + 1; omega) (.slice ta rs.length tc)).setCell (p := ⟨w.heap.size + 1 + 1, 7, none⟩) (by show w.heap.size ≤ w.heap.size + 1 + 1; omega) (.slice la' is'.length lc')).setCell (p := ⟨w.heap.size + 1 + 1, 8, none⟩) (by show w.heap.size ≤ w.heap.size + 1 + 1; omega) ((.int .i64 mv')))
        have HFO : OwnI (((((((((w8.setCell ⟨w.heap.size + 1 + 1, 0, none⟩ (.int .i64 (s : Int))).setCell ⟨w.heap.size + 1 + 1, 1, none⟩ (.int .i64 (q : Int))).setCell ⟨w.heap.size + 1 + 1, 2, none⟩ (.int .u64 (word S 0))).setCell ⟨w.heap.size + 1 + 1, 3, none⟩ (.int .u64 (word S 1))).setCell ⟨w.heap.size + 1 + 1, 4, none⟩ (.int .u64 (word S 2))).setCell ⟨w.heap.size + 1 + 1, 5, none⟩ (.int .u64 (word S 3))).setCell ⟨w.heap.size + 1 + 1, 6, none⟩ (.slice ta rs.length tc)).setCell ⟨w.heap.size + 1 + 1, 7, none⟩ (.slice la' is'.length lc')).setCell ⟨w.heap.size + 1 + 1, 8, none⟩ ((.int .i64 mv'))) 0 (.slice la' is'.length lc') is' := by
          have hne : ∀ o : Nat, (Value.slice la' is'.length lc').ownBlock ≠ some (Addr.mk (w.heap.size + 1 + 1) o none).block := fun o e => by
            rcases HAT8.out _ e with h | h
            · simp [Value.ownBlock] at h
            · have := HB14.out.size; have := HS1.out; simp at h; omega
          exact (OwnI.set (OwnI.set (OwnI.set (OwnI.set (OwnI.set (OwnI.set (OwnI.set (OwnI.set (OwnI.set HF8.out.own _ _ (hne 0)) _ _ (hne 1)) _ _ (hne 2)) _ _ (hne 3)) _ _ (hne 4)) _ _ (hne 5)) _ _ (hne 6)) _ _ (hne 7)) _ _ (hne 8))
        obtain ⟨wf, hwf⟩ : ∃ wf, (((((((((w8.setCell ⟨w.heap.size + 1 + 1, 0, none⟩ (.int .i64 (s : Int))).setCell ⟨w.heap.size + 1 + 1, 1, none⟩ (.int .i64 (q : Int))).setCell ⟨w.heap.size + 1 + 1, 2, none⟩ (.int .u64 (word S 0))).setCell ⟨w.heap.size + 1 + 1, 3, none⟩ (.int .u64 (word S 1))).setCell ⟨w.heap.size + 1 + 1, 4, none⟩ (.int .u64 (word S 2))).setCell ⟨w.heap.size + 1 + 1, 5, none⟩ (.int .u64 (word S 3))).setCell ⟨w.heap.size + 1 + 1, 6, none⟩ (.slice ta rs.length tc)).setCell ⟨w.heap.size + 1 + 1, 7, none⟩ (.slice la' is'.length lc')).setCell ⟨w.heap.size + 1 + 1, 8, none⟩ ((.int .i64 mv'))) = wf := ⟨_, rfl⟩
        rw [hwf] at HFB HFL HFO ⊢
        clear hwf
        have f0 : wf.cell? ⟨w.heap.size + 1 + 1, 0, none⟩ = some (.int .i64 (s : Int)) := HFB.c 0 rfl
        have f1 : wf.cell? ⟨w.heap.size + 1 + 1, 1, none⟩ = some (.int .i64 (q : Int)) := HFB.c 1 rfl
        have f2 : wf.cell? ⟨w.heap.size + 1 + 1, 2, none⟩ = some (.int .u64 (word S 0)) := HFB.c 2 rfl
        have f3 : wf.cell? ⟨w.heap.size + 1 + 1, 3, none⟩ = some (.int .u64 (word S 1)) := HFB.c 3 rfl
        have f4 : wf.cell? ⟨w.heap.size + 1 + 1, 4, none⟩ = some (.int .u64 (word S 2)) := HFB.c 4 rfl
        have f5 : wf.cell? ⟨w.heap.size + 1 + 1, 5, none⟩ = some (.int .u64 (word S 3)) := HFB.c 5 rfl
        have f6 : wf.cell? ⟨w.heap.size + 1 + 1, 6, none⟩ = some (.slice ta rs.length tc) := HFB.c 6 rfl
        have f7 : wf.cell? ⟨w.heap.size + 1 + 1, 7, none⟩ = some (.slice la' is'.length lc') := HFB.c 7 rfl
        have f8 : wf.cell? ⟨w.heap.size + 1 + 1, 8, none⟩ = some ((.int .i64 mv')) := HFB.c 8 rfl
        refine bodyPost_ret (v := .tuple #[.agg #[.int .i64 (s : Int), .int .i64 (q : Int), .int .u64 (word S 0), .int .u64 (word S 1), .int .u64 (word S 2), .int .u64 (word S 3), .slice ta rs.length tc, .slice la' is'.length lc', .int .i64 mv'], .bool b]) (by simp [results, Try.results73, go_sem, f0, f1, f2, f3, f4, f5, f6, f7, f8]) rfl ⟨b, ta, tc, la', lc', is', mv', rfl, HFL, HFO.raise (fun x hx => ?_), ?_⟩
        · rcases HAT8.out x hx with h | h
          · simp [Value.ownBlock] at h
          · have := HB14.out.size; have := HS1.out; omega
        · have hst := HSS.out
          rcases HQ8.out with ⟨rfl, hfj, _⟩ | ⟨rfl, j, hfj, his, hmv⟩
          · refine .inl ⟨rfl, FirstJ.congr (fun i hi => ?_) hfj⟩
            rw [← hst]
            exact numM_brk HOK.out HRK.out hi
          · refine .inr ⟨rfl, j, FirstJ.congr (fun i hi => ?_) hfj, by simpa using his, ?_⟩
            · rw [← hst]
              exact numM_brk HOK.out HRK.out hi
            · rw [hmv, numM_num HOK.out HRK.out hfj.1]

end Go.Proofs.Ytoojgaaggdnpiaa
