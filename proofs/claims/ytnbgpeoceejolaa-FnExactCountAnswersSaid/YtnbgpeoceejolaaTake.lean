/-
  Rows in one array in the program: takeAway, divided, modulusOf.
-/
import Derived.Test.YtnbgpeoceejolaaElim
namespace Go.Proofs.Ytnbgpeoceejolaa
open Go.RowKit

/-- The modulus of a prime as a value. -/
def modV (p : Int) : Value := if p = 2 then .iface 247 (.agg #[]) else .iface 248 (.agg #[])

theorem as22 (w : World) : (Instr.typeAssert (.iface 247 (.agg #[])) 112 247 true).run Try.prog w = .ok (.tuple #[.agg #[], .bool true]) w := by kernel_rfl
theorem as32 (w : World) : (Instr.typeAssert (.iface 248 (.agg #[])) 112 247 true).run Try.prog w = .ok (.tuple #[.agg #[], .bool false]) w := by kernel_rfl
theorem as33 (w : World) : (Instr.typeAssert (.iface 248 (.agg #[])) 112 248 true).run Try.prog w = .ok (.tuple #[.agg #[], .bool true]) w := by kernel_rfl

set_option linter.unusedSimpArgs false in
set_option maxHeartbeats 4000000 in
set_option maxRecDepth 100000 in
theorem modulusOfC (p : Int) (w : World) (hp : p = 2 ∨ p = 3) : Calls Try.prog 136 #[.int .i64 p] w fun e w' => e = .returned (modV p) ∧ w = w' := by
  rcases hp with rfl | rfl
  · go_enter Try.func136, Try.ntmps136
    go_wp2
    go_ret
    exact ⟨rfl, rfl⟩
  · go_enter Try.func136, Try.ntmps136
    go_wp2
    go_ret
    exact ⟨rfl, rfl⟩

/-- The cells of a block are the numbers of a function. -/
def Flat (w : World) (g N : Nat) (F : Nat → Int) : Prop := (∀ o, o < N → w.cell? ⟨g, o, none⟩ = some (.int .i64 (F o))) ∧ ∀ o, w.frozen? ⟨g, o, none⟩ = false
theorem Flat.set {w : World} {g N : Nat} {F : Nat → Int} (h : Flat w g N F) (o : Nat) (ho : o < N) (x : Int) : Flat (w.setCell ⟨g, o, none⟩ (.int .i64 x)) g N (fun q => if q = o then x else F q) := by
  refine ⟨fun q hq => ?_, fun q => by simpa using h.2 q⟩
  show _ = some (Value.int .i64 (if q = o then x else F q))
  by_cases hqo : q = o
  · subst hqo
    rw [if_pos rfl]
    exact World.cell?_setCell_same _ _ _ (h.1 q hq)
  · rw [if_neg hqo]
    exact (World.cell?_setCell_other _ _ _ _ (by intro e; simp only [Addr.mk.injEq] at e; omega)).trans (h.1 q hq)
theorem Flat.same {w w' : World} {g N : Nat} {F : Nat → Int} (h : Flat w g N F) (hs : w'.heap[g]? = w.heap[g]?) : Flat w' g N F :=
  ⟨fun o ho => (World.cell?_of_block hs).trans (h.1 o ho), fun o => (World.frozen?_of_block hs).trans (h.2 o)⟩
/-- A row less another one, k of its numbers. -/
def takeF (p t : Int) (F : Nat → Int) (fo ro k : Nat) : Nat → Int := fun o => if fo ≤ o ∧ o < fo + k then (F o - t * F (ro + (o - fo))) % p else F o
theorem takeF_zero (p t : Int) (F : Nat → Int) (fo ro : Nat) : takeF p t F fo ro 0 = F := by
  funext o
  unfold takeF
  rw [if_neg (by omega)]
theorem takeF_new {p t : Int} {F : Nat → Int} {fo ro k : Nat} : takeF p t F fo ro k (fo + k) = F (fo + k) := by
  unfold takeF
  rw [if_neg (by omega)]
theorem takeF_far {p t : Int} {F : Nat → Int} {fo ro k l : Nat} (h : fo + l ≤ ro ∨ ro + l ≤ fo) (hk : k < l) : takeF p t F fo ro k (ro + k) = F (ro + k) := by
  unfold takeF
  rw [if_neg (by omega)]
theorem takeF_set (p t : Int) (F : Nat → Int) (fo ro k : Nat) : (fun q => if q = fo + k then (F (fo + k) - t * F (ro + k)) % p else takeF p t F fo ro k q) = takeF p t F fo ro (k + 1) := by
  funext q
  by_cases h : q = fo + k
  · subst h
    rw [if_pos rfl]
    unfold takeF
    rw [if_pos (by omega), show fo + k - fo = k by omega]
  · rw [if_neg h]
    unfold takeF
    have e : (fo ≤ q ∧ q < fo + (k + 1)) ↔ (fo ≤ q ∧ q < fo + k) := by omega
    simp only [e]

set_option linter.unusedSimpArgs false in
set_option maxHeartbeats 4000000 in
set_option maxRecDepth 100000 in
theorem takeAway2 (g N fo ro l c1 c2 : Nat) (t : Int) (F : Nat → Int) (w : World) (h : Flat w g N F) (hl : ∀ o, 0 ≤ F o ∧ F o < 2) (htl : 0 ≤ t ∧ t < 2) (hfo : fo + l ≤ N) (hro : ro + l ≤ N) (hdis : fo + l ≤ ro ∨ ro + l ≤ fo) (hN : N ≤ 1000) :
    Calls Try.prog 146 #[modV 2, .slice (some ⟨g, fo, none⟩) l c1, .slice (some ⟨g, ro, none⟩) l c2, .int .i64 t] w fun e w' => e = .returned (.tuple #[]) ∧ Flat w' g N (takeF 2 t F fo ro l) ∧ Only (fun q => q = g) w w' := by
  have HF0 := Lib.hid h
  have HL := Lib.hid hl
  have hm : modV 2 = .iface 247 (.agg #[]) := rfl
  rw [hm]
  clear h hl hm
  go_enter Try.func146, Try.ntmps146
  have q1 := as22 w
  go_wp2
  clear q1
  go_loopw [18] (fun i wr => ∃ k : Nat, k ≤ l ∧ i = .int .i64 k ∧ Flat wr g N (takeF 2 t F fo ro k) ∧ Only (fun q => q = g) w wr) (fun i _ => l - (intOf i).toNat)
  case atStart => exact ⟨0, Nat.zero_le _, rfl, by rw [takeF_zero]; exact HF0.out, Only.refl _ _⟩
  case round =>
    obtain ⟨k, hk, rfl, hfl, hbl⟩ := hrel
    have HF := Lib.hid hfl
    have HB := Lib.hid hbl
    by_cases hlt : k < l
    · have hkl : (k : Int) < (l : Int) := by omega
      have ex := hfl.1 (fo + k) (by omega)
      have ey := hfl.1 (ro + k) (by omega)
      rw [takeF_new] at ex
      rw [takeF_far hdis hlt] at ey
      have fz := hfl.2 (fo + k)
      have bx := HL.out (fo + k)
      have by_ := HL.out (ro + k)
      clear hfl hbl
      obtain ⟨x, hx⟩ : ∃ x, F (fo + k) = x := ⟨_, rfl⟩
      obtain ⟨y, hy⟩ : ∃ y, F (ro + k) = y := ⟨_, rfl⟩
      rw [hx] at ex bx
      rw [hy] at ey by_
      have HZ : Hid (F (fo + k) - t * F (ro + k) = x - t * y) := Lib.hid (by rw [hx, hy])
      clear hx hy
      have hbz : bits BinOp.xor IntKind.i64 x (bits BinOp.and IntKind.i64 y t) = (x - t * y) % 2 := by
        have hz : (x = 0 ∨ x = 1) ∧ (y = 0 ∨ y = 1) ∧ (t = 0 ∨ t = 1) := by omega
        obtain ⟨hx, hy, ht⟩ := hz
        rcases hx with rfl | rfl <;> rcases hy with rfl | rfl <;> rcases ht with rfl | rfl <;> rfl
      obtain ⟨z, hze⟩ : ∃ z, (x - t * y) % 2 = z := ⟨_, rfl⟩
      have HF2 := Lib.hid (HF.out.set (fo + k) (by omega) ((F (fo + k) - t * F (ro + k)) % 2))
      have HB2 := Lib.hid (Only.setCell HB.out (p := ⟨g, fo + k, none⟩) rfl (.int .i64 ((F (fo + k) - t * F (ro + k)) % 2)))
      have HZZ := Lib.hid HZ.out
      rw [HZ.out, hze] at HF2 HB2
      rw [hze] at hbz
      have HZ2 := Lib.hid hze
      have HTF : Hid ((fun q => if q = fo + k then z else takeF 2 t F fo ro k q) = takeF 2 t F fo ro (k + 1)) := Lib.hid (by rw [← HZ2.out, ← HZZ.out]; exact takeF_set _ _ _ _ _ _)
      clear bx by_ hze
      go_wp2
      go_roundw
      case rel => exact ⟨k + 1, by omega, by go_num, by have h := HF2.out; rw [HTF.out] at h; exact h, HB2.out⟩
      case measure => simp [intOf]; omega
    · obtain rfl : k = l := by omega
      clear hfl hbl
      go_wp2
      go_end0
      exact ⟨rfl, HF.out, HB.out⟩

set_option linter.unusedSimpArgs false in
set_option maxHeartbeats 4000000 in
set_option maxRecDepth 100000 in
theorem takeAway3 (g N fo ro l c1 c2 : Nat) (t : Int) (F : Nat → Int) (w : World) (h : Flat w g N F) (hl : ∀ o, 0 ≤ F o ∧ F o < 3) (htl : 0 ≤ t ∧ t < 3) (hfo : fo + l ≤ N) (hro : ro + l ≤ N) (hdis : fo + l ≤ ro ∨ ro + l ≤ fo) (hN : N ≤ 1000) :
    Calls Try.prog 146 #[modV 3, .slice (some ⟨g, fo, none⟩) l c1, .slice (some ⟨g, ro, none⟩) l c2, .int .i64 t] w fun e w' => e = .returned (.tuple #[]) ∧ Flat w' g N (takeF 3 t F fo ro l) ∧ Only (fun q => q = g) w w' := by
  have HF0 := Lib.hid h
  have HL := Lib.hid hl
  have hm : modV 3 = .iface 248 (.agg #[]) := rfl
  rw [hm]
  clear h hl hm
  go_enter Try.func146, Try.ntmps146
  have q1 := as32 w
  have q2 := as33 w
  go_wp2
  clear q1 q2
  go_loopw [38] (fun i wr => ∃ k : Nat, k ≤ l ∧ i = .int .i64 k ∧ Flat wr g N (takeF 3 t F fo ro k) ∧ Only (fun q => q = g) w wr) (fun i _ => l - (intOf i).toNat)
  case atStart => exact ⟨0, Nat.zero_le _, rfl, by rw [takeF_zero]; exact HF0.out, Only.refl _ _⟩
  case round =>
    obtain ⟨k, hk, rfl, hfl, hbl⟩ := hrel
    have HF := Lib.hid hfl
    have HB := Lib.hid hbl
    by_cases hlt : k < l
    · have hkl : (k : Int) < (l : Int) := by omega
      have ex := hfl.1 (fo + k) (by omega)
      have ey := hfl.1 (ro + k) (by omega)
      rw [takeF_new] at ex
      rw [takeF_far hdis hlt] at ey
      have fz := hfl.2 (fo + k)
      have bx := HL.out (fo + k)
      have by_ := HL.out (ro + k)
      clear hfl hbl
      obtain ⟨x, hx⟩ : ∃ x, F (fo + k) = x := ⟨_, rfl⟩
      obtain ⟨y, hy⟩ : ∃ y, F (ro + k) = y := ⟨_, rfl⟩
      rw [hx] at ex bx
      rw [hy] at ey by_
      have HZ : Hid (F (fo + k) - t * F (ro + k) = x - t * y) := Lib.hid (by rw [hx, hy])
      clear hx hy
      have hyt := prodT (t := t) (y := y) ⟨htl.1, by omega⟩ ⟨by_.1, by omega⟩
      have hz : (x + 2 * (t * y)) % 3 = (x - t * y) % 3 := by omega
      obtain ⟨z, hze⟩ : ∃ z, (x - t * y) % 3 = z := ⟨_, rfl⟩
      have HF2 := Lib.hid (HF.out.set (fo + k) (by omega) ((F (fo + k) - t * F (ro + k)) % 3))
      have HB2 := Lib.hid (Only.setCell HB.out (p := ⟨g, fo + k, none⟩) rfl (.int .i64 ((F (fo + k) - t * F (ro + k)) % 3)))
      have HZZ := Lib.hid HZ.out
      rw [HZ.out] at HF2 HB2
      have hw1 : IntKind.i64.wrap (2 * t) = 2 * t := IntWalk.i64_in _ (by omega)
      have e2 : 2 * t * y = 2 * (t * y) := Int.mul_assoc _ _ _
      have hw2 : IntKind.i64.wrap (2 * t * y) = 2 * (t * y) := by rw [e2]; exact IntWalk.i64_in _ (by omega)
      obtain ⟨ty, hty⟩ : ∃ ty, t * y = ty := ⟨_, rfl⟩
      rw [hty] at hyt hz hw2 hze
      have hw3 : IntKind.i64.wrap (x + 2 * ty) = x + 2 * ty := IntWalk.i64_in _ (by omega)
      have hm : Int.tmod (x + 2 * ty) 3 = z := by rw [Int.tmod_eq_emod_of_nonneg (by omega), hz]; exact hze
      have hw4 : IntKind.i64.wrap z = z := IntWalk.i64_in _ (by omega)
      have HZ2 : Hid ((x - t * y) % 3 = z) := Lib.hid (by rw [hty]; exact hze)
      rw [HZ2.out] at HF2 HB2
      have HTF : Hid ((fun q => if q = fo + k then z else takeF 3 t F fo ro k q) = takeF 3 t F fo ro (k + 1)) := Lib.hid (by rw [← HZ2.out, ← HZZ.out]; exact takeF_set _ _ _ _ _ _)
      clear bx by_ e2 hz hze hty hyt
      go_wp2
      go_roundw
      case rel => exact ⟨k + 1, by omega, by go_num, by have h := HF2.out; rw [HTF.out] at h; exact h, HB2.out⟩
      case measure => simp [intOf]; omega
    · obtain rfl : k = l := by omega
      clear hfl hbl
      go_wp2
      go_end0
      exact ⟨rfl, HF.out, HB.out⟩

end Go.Proofs.Ytnbgpeoceejolaa
