/-  Rows in one array in the program: takeAway, divided, modulusOf. divided of the program. The rows of an elimination of the program in memory: they lie in one array, and a slice of slices tells where. (*elimination).clear of the program. (*elimination).swap of the program. The search for a row with a number other than 0. (*elimination).reduce of the program. The array of an elimination of the program as a whole block: so many numbers of a function, and how rows are laid into it. The closure in eliminationOf that lays a row of a system into the array. rowsBy of the program, with the closure of eliminationOf. eliminationOf of the program. contradiction and hasAnswers of the program. divided of the program at a row in a block of its own. -/
import Derived.Test.YtnbgpeoceejolaaGElimM
import Derived.Test.YtnbgpeoceejolaaTab
import Derived.WalkMore
import Derived.ScopeJumps
import Derived.Laws.CopyOwn
namespace Go.Proofs.Ytnbgpeoceejolaa
open Go.RowKit

/-- The modulus of a prime as a value. -/
def modV (p : Int) : Value := if p = 2 then .iface 247 (.agg #[]) else .iface 248 (.agg #[])

theorem as22 (w : World) : (Instr.typeAssert (.iface 247 (.agg #[])) 112 247 true).run Try.prog w = .ok (.tuple #[.agg #[], .bool true]) w := by kernel_rfl
theorem as32 (w : World) : (Instr.typeAssert (.iface 248 (.agg #[])) 112 247 true).run Try.prog w = .ok (.tuple #[.agg #[], .bool false]) w := by kernel_rfl
theorem as33 (w : World) : (Instr.typeAssert (.iface 248 (.agg #[])) 112 248 true).run Try.prog w = .ok (.tuple #[.agg #[], .bool true]) w := by kernel_rfl

set_option linter.unusedSimpArgs false in
set_option maxHeartbeats 4000000 in
set_option maxRecDepth 100000 in
theorem modulusOfC (p : Int) (w : World) (hp : p = 2 ∨ p = 3) : Calls Try.prog 136 #[.int .i64 p] w fun e w' => e = .returned (modV p) ∧ w = w' := by
  rcases hp with rfl | rfl
  · go_enter Try.func136, Try.ntmps136
    go_wp2
    go_ret
    exact ⟨rfl, rfl⟩
  · go_enter Try.func136, Try.ntmps136
    go_wp2
    go_ret
    exact ⟨rfl, rfl⟩

/-- The cells of a block are the numbers of a function. -/
def Flat (w : World) (g N : Nat) (F : Nat → Int) : Prop := (∀ o, o < N → w.cell? ⟨g, o, none⟩ = some (.int .i64 (F o))) ∧ ∀ o, w.frozen? ⟨g, o, none⟩ = false
theorem Flat.set {w : World} {g N : Nat} {F : Nat → Int} (h : Flat w g N F) (o : Nat) (ho : o < N) (x : Int) : Flat (w.setCell ⟨g, o, none⟩ (.int .i64 x)) g N (fun q => if q = o then x else F q) := by
  refine ⟨fun q hq => ?_, fun q => by simpa using h.2 q⟩
  show _ = some (Value.int .i64 (if q = o then x else F q))
  by_cases hqo : q = o
  · subst hqo
    rw [if_pos rfl]
    exact World.cell?_setCell_same _ _ _ (h.1 q hq)
  · rw [if_neg hqo]
    exact (World.cell?_setCell_other _ _ _ _ (by intro e; simp only [Addr.mk.injEq] at e; omega)).trans (h.1 q hq)
theorem Flat.same {w w' : World} {g N : Nat} {F : Nat → Int} (h : Flat w g N F) (hs : w'.heap[g]? = w.heap[g]?) : Flat w' g N F :=
  ⟨fun o ho => (World.cell?_of_block hs).trans (h.1 o ho), fun o => (World.frozen?_of_block hs).trans (h.2 o)⟩
/-- A row less another one, k of its numbers. -/
def takeF (p t : Int) (F : Nat → Int) (fo ro k : Nat) : Nat → Int := fun o => if fo ≤ o ∧ o < fo + k then (F o - t * F (ro + (o - fo))) % p else F o
theorem takeF_zero (p t : Int) (F : Nat → Int) (fo ro : Nat) : takeF p t F fo ro 0 = F := by
  funext o
  unfold takeF
  rw [if_neg (by omega)]
theorem takeF_new {p t : Int} {F : Nat → Int} {fo ro k : Nat} : takeF p t F fo ro k (fo + k) = F (fo + k) := by
  unfold takeF
  rw [if_neg (by omega)]
theorem takeF_far {p t : Int} {F : Nat → Int} {fo ro k l : Nat} (h : fo + l ≤ ro ∨ ro + l ≤ fo) (hk : k < l) : takeF p t F fo ro k (ro + k) = F (ro + k) := by
  unfold takeF
  rw [if_neg (by omega)]
theorem takeF_set (p t : Int) (F : Nat → Int) (fo ro k : Nat) : (fun q => if q = fo + k then (F (fo + k) - t * F (ro + k)) % p else takeF p t F fo ro k q) = takeF p t F fo ro (k + 1) := by
  funext q
  by_cases h : q = fo + k
  · subst h
    rw [if_pos rfl]
    unfold takeF
    rw [if_pos (by omega), show fo + k - fo = k by omega]
  · rw [if_neg h]
    unfold takeF
    have e : (fo ≤ q ∧ q < fo + (k + 1)) ↔ (fo ≤ q ∧ q < fo + k) := by omega
    simp only [e]

set_option linter.unusedSimpArgs false in
set_option maxHeartbeats 4000000 in
set_option maxRecDepth 100000 in
theorem takeAway2 (g N fo ro l c1 c2 : Nat) (t : Int) (F : Nat → Int) (w : World) (h : Flat w g N F) (hl : ∀ o, 0 ≤ F o ∧ F o < 2) (htl : 0 ≤ t ∧ t < 2) (hfo : fo + l ≤ N) (hro : ro + l ≤ N) (hdis : fo + l ≤ ro ∨ ro + l ≤ fo) (hN : N ≤ 1000) :
    Calls Try.prog 146 #[modV 2, .slice (some ⟨g, fo, none⟩) l c1, .slice (some ⟨g, ro, none⟩) l c2, .int .i64 t] w fun e w' => e = .returned (.tuple #[]) ∧ Flat w' g N (takeF 2 t F fo ro l) ∧ Only (fun q => q = g) w w' := by
  have HF0 := Lib.hid h
  have HL := Lib.hid hl
  have hm : modV 2 = .iface 247 (.agg #[]) := rfl
  rw [hm]
  clear h hl hm
  go_enter Try.func146, Try.ntmps146
  have q1 := as22 w
  go_wp2
  clear q1
  go_loopw [18] (fun i wr => ∃ k : Nat, k ≤ l ∧ i = .int .i64 k ∧ Flat wr g N (takeF 2 t F fo ro k) ∧ Only (fun q => q = g) w wr) (fun i _ => l - (intOf i).toNat)
  case atStart => exact ⟨0, Nat.zero_le _, rfl, by rw [takeF_zero]; exact HF0.out, Only.refl _ _⟩
  case round =>
    obtain ⟨k, hk, rfl, hfl, hbl⟩ := hrel
    have HF := Lib.hid hfl
    have HB := Lib.hid hbl
    by_cases hlt : k < l
    · have hkl : (k : Int) < (l : Int) := by omega
      have ex := hfl.1 (fo + k) (by omega)
      have ey := hfl.1 (ro + k) (by omega)
      rw [takeF_new] at ex
      rw [takeF_far hdis hlt] at ey
      have fz := hfl.2 (fo + k)
      have bx := HL.out (fo + k)
      have by_ := HL.out (ro + k)
      clear hfl hbl
      obtain ⟨x, hx⟩ : ∃ x, F (fo + k) = x := ⟨_, rfl⟩
      obtain ⟨y, hy⟩ : ∃ y, F (ro + k) = y := ⟨_, rfl⟩
      rw [hx] at ex bx
      rw [hy] at ey by_
      have HZ : Hid (F (fo + k) - t * F (ro + k) = x - t * y) := Lib.hid (by rw [hx, hy])
      clear hx hy
      have hbz : bits BinOp.xor IntKind.i64 x (bits BinOp.and IntKind.i64 y t) = (x - t * y) % 2 := by
        have hz : (x = 0 ∨ x = 1) ∧ (y = 0 ∨ y = 1) ∧ (t = 0 ∨ t = 1) := by omega
        obtain ⟨hx, hy, ht⟩ := hz
        rcases hx with rfl | rfl <;> rcases hy with rfl | rfl <;> rcases ht with rfl | rfl <;> rfl
      obtain ⟨z, hze⟩ : ∃ z, (x - t * y) % 2 = z := ⟨_, rfl⟩
      have HF2 := Lib.hid (HF.out.set (fo + k) (by omega) ((F (fo + k) - t * F (ro + k)) % 2))
      have HB2 := Lib.hid (Only.setCell HB.out (p := ⟨g, fo + k, none⟩) rfl (.int .i64 ((F (fo + k) - t * F (ro + k)) % 2)))
      have HZZ := Lib.hid HZ.out
      rw [HZ.out, hze] at HF2 HB2
      rw [hze] at hbz
      have HZ2 := Lib.hid hze
      have HTF : Hid ((fun q => if q = fo + k then z else takeF 2 t F fo ro k q) = takeF 2 t F fo ro (k + 1)) := Lib.hid (by rw [← HZ2.out, ← HZZ.out]; exact takeF_set _ _ _ _ _ _)
      clear bx by_ hze
      go_wp2
      go_roundw
      case rel => exact ⟨k + 1, by omega, by go_num, by have h := HF2.out; rw [HTF.out] at h; exact h, HB2.out⟩
      case measure => simp [intOf]; omega
    · obtain rfl : k = l := by omega
      clear hfl hbl
      go_wp2
      go_end0
      exact ⟨rfl, HF.out, HB.out⟩

set_option linter.unusedSimpArgs false in
set_option maxHeartbeats 4000000 in
set_option maxRecDepth 100000 in
theorem takeAway3 (g N fo ro l c1 c2 : Nat) (t : Int) (F : Nat → Int) (w : World) (h : Flat w g N F) (hl : ∀ o, 0 ≤ F o ∧ F o < 3) (htl : 0 ≤ t ∧ t < 3) (hfo : fo + l ≤ N) (hro : ro + l ≤ N) (hdis : fo + l ≤ ro ∨ ro + l ≤ fo) (hN : N ≤ 1000) :
    Calls Try.prog 146 #[modV 3, .slice (some ⟨g, fo, none⟩) l c1, .slice (some ⟨g, ro, none⟩) l c2, .int .i64 t] w fun e w' => e = .returned (.tuple #[]) ∧ Flat w' g N (takeF 3 t F fo ro l) ∧ Only (fun q => q = g) w w' := by
  have HF0 := Lib.hid h
  have HL := Lib.hid hl
  have hm : modV 3 = .iface 248 (.agg #[]) := rfl
  rw [hm]
  clear h hl hm
  go_enter Try.func146, Try.ntmps146
  have q1 := as32 w
  have q2 := as33 w
  go_wp2
  clear q1 q2
  go_loopw [38] (fun i wr => ∃ k : Nat, k ≤ l ∧ i = .int .i64 k ∧ Flat wr g N (takeF 3 t F fo ro k) ∧ Only (fun q => q = g) w wr) (fun i _ => l - (intOf i).toNat)
  case atStart => exact ⟨0, Nat.zero_le _, rfl, by rw [takeF_zero]; exact HF0.out, Only.refl _ _⟩
  case round =>
    obtain ⟨k, hk, rfl, hfl, hbl⟩ := hrel
    have HF := Lib.hid hfl
    have HB := Lib.hid hbl
    by_cases hlt : k < l
    · have hkl : (k : Int) < (l : Int) := by omega
      have ex := hfl.1 (fo + k) (by omega)
      have ey := hfl.1 (ro + k) (by omega)
      rw [takeF_new] at ex
      rw [takeF_far hdis hlt] at ey
      have fz := hfl.2 (fo + k)
      have bx := HL.out (fo + k)
      have by_ := HL.out (ro + k)
      clear hfl hbl
      obtain ⟨x, hx⟩ : ∃ x, F (fo + k) = x := ⟨_, rfl⟩
      obtain ⟨y, hy⟩ : ∃ y, F (ro + k) = y := ⟨_, rfl⟩
      rw [hx] at ex bx
      rw [hy] at ey by_
      have HZ : Hid (F (fo + k) - t * F (ro + k) = x - t * y) := Lib.hid (by rw [hx, hy])
      clear hx hy
      have hyt := prodT (t := t) (y := y) ⟨htl.1, by omega⟩ ⟨by_.1, by omega⟩
      have hz : (x + 2 * (t * y)) % 3 = (x - t * y) % 3 := by omega
      obtain ⟨z, hze⟩ : ∃ z, (x - t * y) % 3 = z := ⟨_, rfl⟩
      have HF2 := Lib.hid (HF.out.set (fo + k) (by omega) ((F (fo + k) - t * F (ro + k)) % 3))
      have HB2 := Lib.hid (Only.setCell HB.out (p := ⟨g, fo + k, none⟩) rfl (.int .i64 ((F (fo + k) - t * F (ro + k)) % 3)))
      have HZZ := Lib.hid HZ.out
      rw [HZ.out] at HF2 HB2
      have hw1 : IntKind.i64.wrap (2 * t) = 2 * t := IntWalk.i64_in _ (by omega)
      have e2 : 2 * t * y = 2 * (t * y) := Int.mul_assoc _ _ _
      have hw2 : IntKind.i64.wrap (2 * t * y) = 2 * (t * y) := by rw [e2]; exact IntWalk.i64_in _ (by omega)
      obtain ⟨ty, hty⟩ : ∃ ty, t * y = ty := ⟨_, rfl⟩
      rw [hty] at hyt hz hw2 hze
      have hw3 : IntKind.i64.wrap (x + 2 * ty) = x + 2 * ty := IntWalk.i64_in _ (by omega)
      have hm : Int.tmod (x + 2 * ty) 3 = z := by rw [Int.tmod_eq_emod_of_nonneg (by omega), hz]; exact hze
      have hw4 : IntKind.i64.wrap z = z := IntWalk.i64_in _ (by omega)
      have HZ2 : Hid ((x - t * y) % 3 = z) := Lib.hid (by rw [hty]; exact hze)
      rw [HZ2.out] at HF2 HB2
      have HTF : Hid ((fun q => if q = fo + k then z else takeF 3 t F fo ro k q) = takeF 3 t F fo ro (k + 1)) := Lib.hid (by rw [← HZ2.out, ← HZZ.out]; exact takeF_set _ _ _ _ _ _)
      clear bx by_ e2 hz hze hty hyt
      go_wp2
      go_roundw
      case rel => exact ⟨k + 1, by omega, by go_num, by have h := HF2.out; rw [HTF.out] at h; exact h, HB2.out⟩
      case measure => simp [intOf]; omega
    · obtain rfl : k = l := by omega
      clear hfl hbl
      go_wp2
      go_end0
      exact ⟨rfl, HF.out, HB.out⟩

end Go.Proofs.Ytnbgpeoceejolaa

namespace Go.Proofs.Ytnbgpeoceejolaa
open Go.RowKit

theorem _root_.Go.RowKit.Below.only {w w' : World} {S : Nat → Prop} (h : Below w.heap.size w w') : Only S w w' := ⟨h.os, h.tape, h.output, h.size, fun k hk _ => h.block k hk⟩
/-- A row times a number, k of its numbers. -/
def scaleF (p t : Int) (F : Nat → Int) (fo k : Nat) : Nat → Int := fun o => if fo ≤ o ∧ o < fo + k then F o * t % p else F o
theorem scaleF_zero (p t : Int) (F : Nat → Int) (fo : Nat) : scaleF p t F fo 0 = F := by
  funext o
  unfold scaleF
  rw [if_neg (by omega)]
theorem scaleF_new {p t : Int} {F : Nat → Int} {fo k : Nat} : scaleF p t F fo k (fo + k) = F (fo + k) := by
  unfold scaleF
  rw [if_neg (by omega)]
theorem scaleF_set (p t : Int) (F : Nat → Int) (fo k : Nat) : (fun q => if q = fo + k then F (fo + k) * t % p else scaleF p t F fo k q) = scaleF p t F fo (k + 1) := by
  funext q
  by_cases h : q = fo + k
  · subst h
    rw [if_pos rfl]
    unfold scaleF
    rw [if_pos (by omega)]
  · rw [if_neg h]
    unfold scaleF
    have e : (fo ≤ q ∧ q < fo + (k + 1)) ↔ (fo ≤ q ∧ q < fo + k) := by omega
    simp only [e]

set_option linter.unusedSimpArgs false in
set_option maxHeartbeats 4000000 in
set_option maxRecDepth 100000 in
theorem prime2 (w : World) : Calls Try.prog 253 #[.agg #[]] w fun e w' => e = .returned (.int .i64 2) ∧ Below w.heap.size w w' := by
  go_enter Try.func253, Try.ntmps253
  go_wp2
  go_ret
  exact ⟨rfl, (Below.refl _ _).alloc (Nat.le_refl _) _⟩
theorem method_prime2 (n : Nat) (w : World) : (method (n + 1) 247 (.agg #[]) "loop.example/g01085/impl.prime").run Try.prog w = .ok (253, .agg #[]) w := by kernel_rfl

set_option linter.unusedSimpArgs false in
set_option maxHeartbeats 4000000 in
set_option maxRecDepth 100000 in
theorem divided2 (g N fo l c1 : Nat) (t : Int) (F : Nat → Int) (w : World) (h : Flat w g N F) (hg : g < w.heap.size) (hl : ∀ o, 0 ≤ F o ∧ F o < 2) (htl : 0 ≤ t ∧ t < 2) (hfo : fo + l ≤ N) (hN : N ≤ 1000) :
    Calls Try.prog 86 #[modV 2, .slice (some ⟨g, fo, none⟩) l c1, .int .i64 t] w fun e w' => e = .returned (.tuple #[]) ∧ Flat w' g N (scaleF 2 t F fo l) ∧ Only (fun q => q = g) w w' := by
  have HF0 := Lib.hid h
  have HL := Lib.hid hl
  have HG := Lib.hid hg
  have hm : modV 2 = .iface 247 (.agg #[]) := rfl
  have hmp := method_prime2
  rw [hm]
  clear h hl hm hg
  go_enter Try.func86, Try.ntmps86
  go_wp2
  go_loopw [9] (fun i wr => ∃ k : Nat, k ≤ l ∧ i = .int .i64 k ∧ Flat wr g N (scaleF 2 t F fo k) ∧ Only (fun q => q = g) w wr) (fun i _ => l - (intOf i).toNat)
  case atStart => exact ⟨0, Nat.zero_le _, rfl, by rw [scaleF_zero]; exact HF0.out, Only.refl _ _⟩
  case round =>
    obtain ⟨k, hk, rfl, hfl, hbl⟩ := hrel
    have HF := Lib.hid hfl
    have HB := Lib.hid hbl
    have HGL : Hid (g < wr.heap.size) := Lib.hid (Nat.lt_of_lt_of_le HG.out hbl.size)
    by_cases hlt : k < l
    · have hkl : (k : Int) < (l : Int) := by omega
      have ex := hfl.1 (fo + k) (by omega)
      rw [scaleF_new] at ex
      have bx := HL.out (fo + k)
      obtain ⟨x, hx⟩ : ∃ x, F (fo + k) = x := ⟨_, rfl⟩
      rw [hx] at ex bx
      have hxt := prodT (t := t) (y := x) ⟨htl.1, by omega⟩ ⟨bx.1, by omega⟩
      rw [Int.mul_comm] at hxt
      obtain ⟨z, hz⟩ : ∃ z, x * t % 2 = z := ⟨_, rfl⟩
      have HTF : Hid ((fun q => if q = fo + k then z else scaleF 2 t F fo k q) = scaleF 2 t F fo (k + 1)) := Lib.hid (by rw [← hz, ← hx]; exact scaleF_set _ _ _ _ _)
      have hw1 : IntKind.i64.wrap (x * t) = x * t := IntWalk.i64_in _ (by omega)
      have hm1 : Int.tmod (x * t) 2 = z := by rw [Int.tmod_eq_emod_of_nonneg hxt.1]; exact hz
      have hz3 : 0 ≤ z ∧ z < 2 := by rw [← hz]; exact ⟨Int.emod_nonneg _ (by omega), Int.emod_lt_of_pos _ (by omega)⟩
      have hw2 : IntKind.i64.wrap z = z := IntWalk.i64_in _ (by omega)
      clear hfl hbl bx hx hxt hz
      go_wp2
      refine wp_region_noPanic ?_
      refine wp_region_late (S := (fun w' => w'.cell? ⟨g, fo + k, none⟩ = some (.int .i64 x) ∧ Below wr.heap.size wr w')) [12] (by kernel_rfl) ?_ (fun hHeld => ?_)
      · exact ⟨ex, (QW.refl _).drew.below _⟩
      refine wpAnyL_free (i := 0) (v := ?_) (some 12) rfl rfl (by kernel_rfl) (by kernel_rfl) (by kernel_rfl) (by decide) (fun _ _ _ h => h) (Or.inl ⟨by rfl, ?_⟩) (fun h0 => by assumption) ?_
      rotate_left
      · intro wS
        go_simp
        try with_reducible rfl
      try simp only [Act.put, List.setIfInBounds_toArray, List.set_cons_zero, List.set_cons_succ]
      refine wpAnyL_free (i := 1) (v := ?_) (some 13) rfl rfl (by kernel_rfl) (by kernel_rfl) (by kernel_rfl) (by decide) (fun _ _ _ h => h) (Or.inl ⟨by rfl, ?_⟩) (fun h0 => by assumption) ?_
      rotate_left
      · intro wS
        go_simp
        try with_reducible rfl
      try simp only [Act.put, List.setIfInBounds_toArray, List.set_cons_zero, List.set_cons_succ]
      refine wpAnyL_free (i := 2) (v := ?_) (some 14) rfl rfl (by kernel_rfl) (by kernel_rfl) (by kernel_rfl) (by decide) (fun _ _ _ h => h) (Or.inl ⟨by rfl, ?_⟩) (fun h0 => by assumption) ?_
      rotate_left
      · intro wS
        go_simp
        try with_reducible rfl
      try simp only [Act.put, List.setIfInBounds_toArray, List.set_cons_zero, List.set_cons_succ]
      refine wpAnyL_free (i := 3) (v := ?_) (some 15) rfl rfl (by kernel_rfl) (by kernel_rfl) (by kernel_rfl) (by decide) (fun _ _ _ h => h) (Or.inl ⟨by rfl, ?_⟩) (fun h0 => by assumption) ?_
      rotate_left
      · intro wS
        go_simp
        try with_reducible rfl
      try simp only [Act.put, List.setIfInBounds_toArray, List.set_cons_zero, List.set_cons_succ]
      refine wpAnyL_free (i := 4) (v := ?_) (some 16) rfl rfl (by kernel_rfl) (by kernel_rfl) (by kernel_rfl) (by decide) (fun _ _ _ h => h) (Or.inl ⟨by rfl, ?_⟩) (fun h0 => by assumption) ?_
      rotate_left
      · intro wS
        go_simp
        try with_reducible rfl
      try simp only [Act.put, List.setIfInBounds_toArray, List.set_cons_zero, List.set_cons_succ]
      refine wpAnyL_take (i := 5) (v := ?_) (some 17) rfl rfl (by kernel_rfl) (by kernel_rfl) (by kernel_rfl) (by kernel_rfl) (by kernel_rfl) (fun _ _ _ h => h) (Or.inl ⟨by rfl, ?_⟩) (by assumption) ?_
      rotate_left
      · intro wS hSw
        try dsimp only at hSw
        go_simp
        try with_reducible rfl
      try simp only [Act.put, List.setIfInBounds_toArray, List.set_cons_zero, List.set_cons_succ]
      refine wpAnyL_free (i := 6) (v := ?_) (some 18) rfl rfl (by kernel_rfl) (by kernel_rfl) (by kernel_rfl) (by decide) (fun _ _ _ h => h) (Or.inl ⟨by rfl, ?_⟩) (fun h0 => by assumption) ?_
      rotate_left
      · intro wS
        go_simp
        try with_reducible rfl
      try simp only [Act.put, List.setIfInBounds_toArray, List.set_cons_zero, List.set_cons_succ]
      refine wpAnyL_free (i := 7) (v := ?_) (some 19) rfl rfl (by kernel_rfl) (by kernel_rfl) (by kernel_rfl) (by decide) (fun _ _ _ h => h) (Or.inl ⟨by rfl, ?_⟩) (fun h0 => by assumption) ?_
      rotate_left
      · intro wS
        go_simp
        try with_reducible rfl
      try simp only [Act.put, List.setIfInBounds_toArray, List.set_cons_zero, List.set_cons_succ]
      refine wpAnyL_free (i := 8) (v := ?_) (some 20) rfl rfl (by kernel_rfl) (by kernel_rfl) (by kernel_rfl) (by decide) (fun _ _ _ h => h) (Or.inl ⟨by rfl, ?_⟩) (fun h0 => by assumption) ?_
      rotate_left
      · intro wS
        go_simp
        try with_reducible rfl
      try simp only [Act.put, List.setIfInBounds_toArray, List.set_cons_zero, List.set_cons_succ]
      refine wpAnyL_ready (rs := [9]) (by kernel_rfl) (by simp) ?_
      refine AllReadyL.cons rfl (fun K hK => ?_) AllReadyL.nil
      go_simp; go_at_call 253; refine (prime2 _).mono ?_; rintro e w5 ⟨rfl, hb5⟩
      refine hK.out _ _ ?_ (fun hHeld => ?_)
      · exact ⟨below_cell hb5 hHeld.1, hHeld.2.trans (hb5.mono hHeld.2.size)⟩
      clear hK K
      try simp only [Act.put, List.setIfInBounds_toArray, List.set_cons_zero, List.set_cons_succ]
      refine wpAnyL_free (i := 10) (v := ?_) (some 22) rfl rfl (by kernel_rfl) (by kernel_rfl) (by kernel_rfl) (by decide) (fun _ _ _ h => h) (Or.inl ⟨by rfl, ?_⟩) (fun h0 => by assumption) ?_
      rotate_left
      · intro wS
        go_simp
        try with_reducible rfl
      try simp only [Act.put, List.setIfInBounds_toArray, List.set_cons_zero, List.set_cons_succ]
      refine wpAnyL_free (i := 11) (v := ?_) (some 23) rfl rfl (by kernel_rfl) (by kernel_rfl) (by kernel_rfl) (by decide) (fun _ _ _ h => h) (Or.inl ⟨by rfl, ?_⟩) (fun h0 => by assumption) ?_
      rotate_left
      · intro wS
        go_simp
        try with_reducible rfl
      try simp only [Act.put, List.setIfInBounds_toArray, List.set_cons_zero, List.set_cons_succ]
      refine wpAnyL_ready (rs := [12]) (by kernel_rfl) (by simp) ?_
      refine AllReadyL.last rfl (by kernel_rfl) (fun K hK => ?_) AllReadyL.nil
      have HB5 := Lib.hid hHeld.2
      have hfl5 := HF.out.same (HB5.out.block g HGL.out)
      have ex5 : w5.cell? ⟨g, fo + k, none⟩ = some (.int .i64 x) := hHeld.1
      have fz5 := hfl5.2 (fo + k)
      have HF5 := Lib.hid hfl5
      clear hfl5
      go_simp
      refine hK.out _ _ ?_
      clear hK K
      try simp only [Act.put, List.setIfInBounds_toArray, List.set_cons_zero, List.set_cons_succ]
      refine wpAnyL_done (by kernel_rfl) ?_ _
      refine NoPanic.normal ?_
      have HF2 := Lib.hid (HF5.out.set (fo + k) (by omega) z)
      have HB2 := Lib.hid (Only.setCell (HB.out.trans (HB5.out.only)) (p := ⟨g, fo + k, none⟩) rfl (.int .i64 z))
      clear hHeld ex5 fz5
      go_wp2
      go_roundw
      case rel => exact ⟨k + 1, by omega, by go_num, by have h := HF2.out; rw [HTF.out] at h; exact h, HB2.out⟩
      case measure => simp [intOf]; omega
    · obtain rfl : k = l := by omega
      clear hfl hbl
      go_wp2
      go_end0
      exact ⟨rfl, HF.out, HB.out⟩

set_option linter.unusedSimpArgs false in
set_option maxHeartbeats 4000000 in
set_option maxRecDepth 100000 in
theorem prime3 (w : World) : Calls Try.prog 254 #[.agg #[]] w fun e w' => e = .returned (.int .i64 3) ∧ Below w.heap.size w w' := by
  go_enter Try.func254, Try.ntmps254
  go_wp2
  go_ret
  exact ⟨rfl, (Below.refl _ _).alloc (Nat.le_refl _) _⟩
theorem method_prime3 (n : Nat) (w : World) : (method (n + 1) 248 (.agg #[]) "loop.example/g01085/impl.prime").run Try.prog w = .ok (254, .agg #[]) w := by kernel_rfl

set_option linter.unusedSimpArgs false in
set_option maxHeartbeats 4000000 in
set_option maxRecDepth 100000 in
theorem divided3 (g N fo l c1 : Nat) (t : Int) (F : Nat → Int) (w : World) (h : Flat w g N F) (hg : g < w.heap.size) (hl : ∀ o, 0 ≤ F o ∧ F o < 3) (htl : 0 ≤ t ∧ t < 3) (hfo : fo + l ≤ N) (hN : N ≤ 1000) :
    Calls Try.prog 86 #[modV 3, .slice (some ⟨g, fo, none⟩) l c1, .int .i64 t] w fun e w' => e = .returned (.tuple #[]) ∧ Flat w' g N (scaleF 3 t F fo l) ∧ Only (fun q => q = g) w w' := by
  have HF0 := Lib.hid h
  have HL := Lib.hid hl
  have HG := Lib.hid hg
  have hm : modV 3 = .iface 248 (.agg #[]) := rfl
  have hmp := method_prime3
  rw [hm]
  clear h hl hm hg
  go_enter Try.func86, Try.ntmps86
  go_wp2
  go_loopw [9] (fun i wr => ∃ k : Nat, k ≤ l ∧ i = .int .i64 k ∧ Flat wr g N (scaleF 3 t F fo k) ∧ Only (fun q => q = g) w wr) (fun i _ => l - (intOf i).toNat)
  case atStart => exact ⟨0, Nat.zero_le _, rfl, by rw [scaleF_zero]; exact HF0.out, Only.refl _ _⟩
  case round =>
    obtain ⟨k, hk, rfl, hfl, hbl⟩ := hrel
    have HF := Lib.hid hfl
    have HB := Lib.hid hbl
    have HGL : Hid (g < wr.heap.size) := Lib.hid (Nat.lt_of_lt_of_le HG.out hbl.size)
    by_cases hlt : k < l
    · have hkl : (k : Int) < (l : Int) := by omega
      have ex := hfl.1 (fo + k) (by omega)
      rw [scaleF_new] at ex
      have bx := HL.out (fo + k)
      obtain ⟨x, hx⟩ : ∃ x, F (fo + k) = x := ⟨_, rfl⟩
      rw [hx] at ex bx
      have hxt := prodT (t := t) (y := x) ⟨htl.1, by omega⟩ ⟨bx.1, by omega⟩
      rw [Int.mul_comm] at hxt
      obtain ⟨z, hz⟩ : ∃ z, x * t % 3 = z := ⟨_, rfl⟩
      have HTF : Hid ((fun q => if q = fo + k then z else scaleF 3 t F fo k q) = scaleF 3 t F fo (k + 1)) := Lib.hid (by rw [← hz, ← hx]; exact scaleF_set _ _ _ _ _)
      have hw1 : IntKind.i64.wrap (x * t) = x * t := IntWalk.i64_in _ (by omega)
      have hm1 : Int.tmod (x * t) 3 = z := by rw [Int.tmod_eq_emod_of_nonneg hxt.1]; exact hz
      have hz3 : 0 ≤ z ∧ z < 3 := by rw [← hz]; exact ⟨Int.emod_nonneg _ (by omega), Int.emod_lt_of_pos _ (by omega)⟩
      have hw2 : IntKind.i64.wrap z = z := IntWalk.i64_in _ (by omega)
      clear hfl hbl bx hx hxt hz
      go_wp2
      refine wp_region_noPanic ?_
      refine wp_region_late (S := (fun w' => w'.cell? ⟨g, fo + k, none⟩ = some (.int .i64 x) ∧ Below wr.heap.size wr w')) [12] (by kernel_rfl) ?_ (fun hHeld => ?_)
      · exact ⟨ex, (QW.refl _).drew.below _⟩
      refine wpAnyL_free (i := 0) (v := ?_) (some 12) rfl rfl (by kernel_rfl) (by kernel_rfl) (by kernel_rfl) (by decide) (fun _ _ _ h => h) (Or.inl ⟨by rfl, ?_⟩) (fun h0 => by assumption) ?_
      rotate_left
      · intro wS
        go_simp
        try with_reducible rfl
      try simp only [Act.put, List.setIfInBounds_toArray, List.set_cons_zero, List.set_cons_succ]
      refine wpAnyL_free (i := 1) (v := ?_) (some 13) rfl rfl (by kernel_rfl) (by kernel_rfl) (by kernel_rfl) (by decide) (fun _ _ _ h => h) (Or.inl ⟨by rfl, ?_⟩) (fun h0 => by assumption) ?_
      rotate_left
      · intro wS
        go_simp
        try with_reducible rfl
      try simp only [Act.put, List.setIfInBounds_toArray, List.set_cons_zero, List.set_cons_succ]
      refine wpAnyL_free (i := 2) (v := ?_) (some 14) rfl rfl (by kernel_rfl) (by kernel_rfl) (by kernel_rfl) (by decide) (fun _ _ _ h => h) (Or.inl ⟨by rfl, ?_⟩) (fun h0 => by assumption) ?_
      rotate_left
      · intro wS
        go_simp
        try with_reducible rfl
      try simp only [Act.put, List.setIfInBounds_toArray, List.set_cons_zero, List.set_cons_succ]
      refine wpAnyL_free (i := 3) (v := ?_) (some 15) rfl rfl (by kernel_rfl) (by kernel_rfl) (by kernel_rfl) (by decide) (fun _ _ _ h => h) (Or.inl ⟨by rfl, ?_⟩) (fun h0 => by assumption) ?_
      rotate_left
      · intro wS
        go_simp
        try with_reducible rfl
      try simp only [Act.put, List.setIfInBounds_toArray, List.set_cons_zero, List.set_cons_succ]
      refine wpAnyL_free (i := 4) (v := ?_) (some 16) rfl rfl (by kernel_rfl) (by kernel_rfl) (by kernel_rfl) (by decide) (fun _ _ _ h => h) (Or.inl ⟨by rfl, ?_⟩) (fun h0 => by assumption) ?_
      rotate_left
      · intro wS
        go_simp
        try with_reducible rfl
      try simp only [Act.put, List.setIfInBounds_toArray, List.set_cons_zero, List.set_cons_succ]
      refine wpAnyL_take (i := 5) (v := ?_) (some 17) rfl rfl (by kernel_rfl) (by kernel_rfl) (by kernel_rfl) (by kernel_rfl) (by kernel_rfl) (fun _ _ _ h => h) (Or.inl ⟨by rfl, ?_⟩) (by assumption) ?_
      rotate_left
      · intro wS hSw
        try dsimp only at hSw
        go_simp
        try with_reducible rfl
      try simp only [Act.put, List.setIfInBounds_toArray, List.set_cons_zero, List.set_cons_succ]
      refine wpAnyL_free (i := 6) (v := ?_) (some 18) rfl rfl (by kernel_rfl) (by kernel_rfl) (by kernel_rfl) (by decide) (fun _ _ _ h => h) (Or.inl ⟨by rfl, ?_⟩) (fun h0 => by assumption) ?_
      rotate_left
      · intro wS
        go_simp
        try with_reducible rfl
      try simp only [Act.put, List.setIfInBounds_toArray, List.set_cons_zero, List.set_cons_succ]
      refine wpAnyL_free (i := 7) (v := ?_) (some 19) rfl rfl (by kernel_rfl) (by kernel_rfl) (by kernel_rfl) (by decide) (fun _ _ _ h => h) (Or.inl ⟨by rfl, ?_⟩) (fun h0 => by assumption) ?_
      rotate_left
      · intro wS
        go_simp
        try with_reducible rfl
      try simp only [Act.put, List.setIfInBounds_toArray, List.set_cons_zero, List.set_cons_succ]
      refine wpAnyL_free (i := 8) (v := ?_) (some 20) rfl rfl (by kernel_rfl) (by kernel_rfl) (by kernel_rfl) (by decide) (fun _ _ _ h => h) (Or.inl ⟨by rfl, ?_⟩) (fun h0 => by assumption) ?_
      rotate_left
      · intro wS
        go_simp
        try with_reducible rfl
      try simp only [Act.put, List.setIfInBounds_toArray, List.set_cons_zero, List.set_cons_succ]
      refine wpAnyL_ready (rs := [9]) (by kernel_rfl) (by simp) ?_
      refine AllReadyL.cons rfl (fun K hK => ?_) AllReadyL.nil
      go_simp; go_at_call 254; refine (prime3 _).mono ?_; rintro e w5 ⟨rfl, hb5⟩
      refine hK.out _ _ ?_ (fun hHeld => ?_)
      · exact ⟨below_cell hb5 hHeld.1, hHeld.2.trans (hb5.mono hHeld.2.size)⟩
      clear hK K
      try simp only [Act.put, List.setIfInBounds_toArray, List.set_cons_zero, List.set_cons_succ]
      refine wpAnyL_free (i := 10) (v := ?_) (some 22) rfl rfl (by kernel_rfl) (by kernel_rfl) (by kernel_rfl) (by decide) (fun _ _ _ h => h) (Or.inl ⟨by rfl, ?_⟩) (fun h0 => by assumption) ?_
      rotate_left
      · intro wS
        go_simp
        try with_reducible rfl
      try simp only [Act.put, List.setIfInBounds_toArray, List.set_cons_zero, List.set_cons_succ]
      refine wpAnyL_free (i := 11) (v := ?_) (some 23) rfl rfl (by kernel_rfl) (by kernel_rfl) (by kernel_rfl) (by decide) (fun _ _ _ h => h) (Or.inl ⟨by rfl, ?_⟩) (fun h0 => by assumption) ?_
      rotate_left
      · intro wS
        go_simp
        try with_reducible rfl
      try simp only [Act.put, List.setIfInBounds_toArray, List.set_cons_zero, List.set_cons_succ]
      refine wpAnyL_ready (rs := [12]) (by kernel_rfl) (by simp) ?_
      refine AllReadyL.last rfl (by kernel_rfl) (fun K hK => ?_) AllReadyL.nil
      have HB5 := Lib.hid hHeld.2
      have hfl5 := HF.out.same (HB5.out.block g HGL.out)
      have ex5 : w5.cell? ⟨g, fo + k, none⟩ = some (.int .i64 x) := hHeld.1
      have fz5 := hfl5.2 (fo + k)
      have HF5 := Lib.hid hfl5
      clear hfl5
      go_simp
      refine hK.out _ _ ?_
      clear hK K
      try simp only [Act.put, List.setIfInBounds_toArray, List.set_cons_zero, List.set_cons_succ]
      refine wpAnyL_done (by kernel_rfl) ?_ _
      refine NoPanic.normal ?_
      have HF2 := Lib.hid (HF5.out.set (fo + k) (by omega) z)
      have HB2 := Lib.hid (Only.setCell (HB.out.trans (HB5.out.only)) (p := ⟨g, fo + k, none⟩) rfl (.int .i64 z))
      clear hHeld ex5 fz5
      go_wp2
      go_roundw
      case rel => exact ⟨k + 1, by omega, by go_num, by have h := HF2.out; rw [HTF.out] at h; exact h, HB2.out⟩
      case measure => simp [intOf]; omega
    · obtain rfl : k = l := by omega
      clear hfl hbl
      go_wp2
      go_end0
      exact ⟨rfl, HF.out, HB.out⟩

end Go.Proofs.Ytnbgpeoceejolaa

namespace Go.Proofs.Ytnbgpeoceejolaa
open Go.RowKit

/-- The row at the s i-th place of the array. -/
def rowAtF (F : Nat → Int) (s : Nat → Nat) (l i : Nat) : List Int := (List.range l).map fun j => F (s i * l + j)
theorem rowAtF_len (F : Nat → Int) (s : Nat → Nat) (l i : Nat) : (rowAtF F s l i).length = l := by simp [rowAtF]
theorem rowAtF_at {F : Nat → Int} {s : Nat → Nat} {l i j : Nat} (h : j < l) : intN (rowAtF F s l i) j = F (s i * l + j) := by
  rw [intN_at _ _ (by rw [rowAtF_len]; exact h)]
  simp [rowAtF]
/-- Different rows lie apart. -/
theorem far_rows {a b l : Nat} (h : a ≠ b) : a * l + l ≤ b * l ∨ b * l + l ≤ a * l := by
  rcases Nat.lt_or_gt_of_ne h with h | h
  · exact .inl (by have := Nat.mul_le_mul_right l (show a + 1 ≤ b from h); rw [Nat.succ_mul] at this; exact this)
  · exact .inr (by have := Nat.mul_le_mul_right l (show b + 1 ≤ a from h); rw [Nat.succ_mul] at this; exact this)
theorem rowAtF_take {p t : Int} {F : Nat → Int} {s : Nat → Nat} {l i d k : Nat} (hki : k ≠ i → s k ≠ s i) : rowAtF (takeF p t F (s i * l) (s d * l) l) s l k = if k = i then rowSub p t (rowAtF F s l i) (rowAtF F s l d) else rowAtF F s l k := by
  apply list_ext_intN
  · split
    · rw [rowAtF_len, rowSub_len, rowAtF_len]
    · rw [rowAtF_len, rowAtF_len]
  · intro j hj
    rw [rowAtF_len] at hj
    rw [rowAtF_at hj]
    by_cases h : k = i
    · subst h
      rw [if_pos rfl, rowSub_at (by rw [rowAtF_len]; exact hj), rowAtF_at hj, rowAtF_at hj]
      unfold takeF
      rw [if_pos (by omega), show s k * l + j - s k * l = j by omega]
    · rw [if_neg h, rowAtF_at hj]
      unfold takeF
      have := far_rows (l := l) (hki h)
      rw [if_neg (by omega)]
theorem rowAtF_scale {p t : Int} {F : Nat → Int} {s : Nat → Nat} {l i k : Nat} (hki : k ≠ i → s k ≠ s i) : rowAtF (scaleF p t F (s i * l) l) s l k = if k = i then rowScale p t (rowAtF F s l i) else rowAtF F s l k := by
  apply list_ext_intN
  · split
    · rw [rowAtF_len, rowScale_len, rowAtF_len]
    · rw [rowAtF_len, rowAtF_len]
  · intro j hj
    rw [rowAtF_len] at hj
    rw [rowAtF_at hj]
    by_cases h : k = i
    · subst h
      rw [if_pos rfl, rowScale_at (by rw [rowAtF_len]; exact hj), rowAtF_at hj]
      unfold scaleF
      rw [if_pos (by omega)]
    · rw [if_neg h, rowAtF_at hj]
      unfold scaleF
      have := far_rows (l := l) (hki h)
      rw [if_neg (by omega)]
/-- All numbers are some modulo p. -/
def LowF (p : Int) (F : Nat → Int) : Prop := ∀ o, 0 ≤ F o ∧ F o < p
theorem LowF.take {p t : Int} {F : Nat → Int} {fo ro k : Nat} (h : LowF p F) (hp : 0 < p) : LowF p (takeF p t F fo ro k) := fun o => by
  unfold takeF
  split
  · exact ⟨Int.emod_nonneg _ (by omega), Int.emod_lt_of_pos _ hp⟩
  · exact h o
theorem LowF.scale {p t : Int} {F : Nat → Int} {fo k : Nat} (h : LowF p F) (hp : 0 < p) : LowF p (scaleF p t F fo k) := fun o => by
  unfold scaleF
  split
  · exact ⟨Int.emod_nonneg _ (by omega), Int.emod_lt_of_pos _ hp⟩
  · exact h o

/-- n rows of the length l in the array g, in the order s. -/
structure PRows (w : World) (rb g N n l : Nat) (s : Nat → Nat) (p : Int) (F : Nat → Int) : Prop where
  at_ : ∀ i, i < n → w.cell? ⟨rb, i, none⟩ = some (.slice (some ⟨g, s i * l, none⟩) l l)
  frz : ∀ o, w.frozen? ⟨rb, o, none⟩ = false
  flat : Flat w g N F
  low : LowF p F
  lt : ∀ i, i < n → s i < n
  inj : ∀ i j, i < n → j < n → i ≠ j → s i ≠ s j
  ne : rb ≠ g
  fit : n * l ≤ N
  inn : g < w.heap.size
theorem PRows.fits {w : World} {rb g N n l : Nat} {s : Nat → Nat} {p : Int} {F : Nat → Int} (h : PRows w rb g N n l s p F) {i : Nat} (hi : i < n) : s i * l + l ≤ N := by
  have h1 := h.lt i hi
  have h2 := Nat.mul_le_mul_right l (show s i + 1 ≤ n from h1)
  rw [Nat.succ_mul] at h2
  exact Nat.le_trans h2 h.fit
theorem PRows.turn {w w' : World} {rb g N n l : Nat} {s : Nat → Nat} {p : Int} {F F' : Nat → Int} (h : PRows w rb g N n l s p F) (hr : 0 < n → rb < w.heap.size) (ho : Only (fun q => q = g) w w') (hf : Flat w' g N F') (hl : LowF p F') (hfz : ∀ o, w'.frozen? ⟨rb, o, none⟩ = false) : PRows w' rb g N n l s p F' :=
  ⟨fun i hi => (World.cell?_of_block (ho.block rb (hr (by omega)) h.ne)).trans (h.at_ i hi), hfz, hf, hl, h.lt, h.inj, h.ne, h.fit, Nat.lt_of_lt_of_le h.inn ho.size⟩

end Go.Proofs.Ytnbgpeoceejolaa

namespace Go.Proofs.Ytnbgpeoceejolaa
open Go.RowKit

theorem Flat.drewN_ {w : World} {g N : Nat} {F : Nat → Int} (h : Flat w g N F) (m : Nat) : Flat (w.drewN m) g N F := h
theorem PRows.drewN_ {w : World} {rb g N n l : Nat} {s : Nat → Nat} {p : Int} {F : Nat → Int} (h : PRows w rb g N n l s p F) (m : Nat) : PRows (w.drewN m) rb g N n l s p F := ⟨h.at_, h.frz, h.flat, h.low, h.lt, h.inj, h.ne, h.fit, h.inn⟩
theorem dividedP (p : Int) (g N fo l c1 : Nat) (t : Int) (F : Nat → Int) (w : World) (hp : PrimeP p) (h : Flat w g N F) (hg : g < w.heap.size) (hl : LowF p F) (htl : 0 ≤ t ∧ t < p) (hfo : fo + l ≤ N) (hN : N ≤ 1000) :
    Calls Try.prog 86 #[modV p, .slice (some ⟨g, fo, none⟩) l c1, .int .i64 t] w fun e w' => e = .returned (.tuple #[]) ∧ Flat w' g N (scaleF p t F fo l) ∧ Only (fun q => q = g) w w' := by
  rcases hp with rfl | rfl
  · exact divided2 g N fo l c1 t F w h hg hl htl hfo hN
  · exact divided3 g N fo l c1 t F w h hg hl htl hfo hN
theorem takeAwayP (p : Int) (g N fo ro l c1 c2 : Nat) (t : Int) (F : Nat → Int) (w : World) (hp : PrimeP p) (h : Flat w g N F) (hl : LowF p F) (htl : 0 ≤ t ∧ t < p) (hfo : fo + l ≤ N) (hro : ro + l ≤ N) (hdis : fo + l ≤ ro ∨ ro + l ≤ fo) (hN : N ≤ 1000) :
    Calls Try.prog 146 #[modV p, .slice (some ⟨g, fo, none⟩) l c1, .slice (some ⟨g, ro, none⟩) l c2, .int .i64 t] w fun e w' => e = .returned (.tuple #[]) ∧ Flat w' g N (takeF p t F fo ro l) ∧ Only (fun q => q = g) w w' := by
  rcases hp with rfl | rfl
  · exact takeAway2 g N fo ro l c1 c2 t F w h hl htl hfo hro hdis hN
  · exact takeAway3 g N fo ro l c1 c2 t F w h hl htl hfo hro hdis hN

set_option linter.unusedSimpArgs false in
set_option maxHeartbeats 4000000 in
set_option maxRecDepth 100000 in
theorem clearC (eb u rb rc n d c g N l : Nat) (s : Nat → Nat) (p : Int) (Fd : Nat → Int) (w : World) (hb : Box 114 w eb #[modV p, .int .i64 (u : Int), .slice (some ⟨rb, 0, none⟩) n rc, .int .i64 (d : Int)]) (h : PRows w rb g N n l s p Fd) (hp : PrimeP p) (heg : eb ≠ g) (hd : d < n) (hc : c < l) (hN : N ≤ 1000) (hn : n ≤ 1000) (hrb : rb < w.heap.size) :
    Calls Try.prog 188 #[.pointer (some ⟨eb, 0, none⟩), .int .i64 (c : Int)] w fun e w' => ∃ F', e = .returned (.tuple #[]) ∧ PRows w' rb g N n l s p F' ∧ (∀ i, i < n → rowAtF F' s l i = clearK p (rowAtF Fd s l) d c n i) ∧ Only (fun q => q = g) w w' := by
  have HBX0 := Lib.hid hb
  have HPR0 := Lib.hid h
  have HP := Lib.hid hp
  have heb := hb.lt
  have e2 := hb.c 2 rfl
  have e3 := hb.c 3 rfl
  have ed := h.at_ d hd
  have hdn : (d : Int) < (n : Int) := by omega
  have hcl : (c : Int) < (l : Int) := by omega
  clear hb h hp
  go_enter Try.func188, Try.ntmps188
  go_wp2_with fail
  refine wp_region_noPanic ?_
  refine wp_region_late (S := (fun w' => w'.cell? ⟨eb, 2, none⟩ = some (.slice (some ⟨rb, 0, none⟩) n rc) ∧ w'.cell? ⟨eb, 3, none⟩ = some (.int .i64 (d : Int)) ∧ w'.cell? ⟨rb, d, none⟩ = some (.slice (some ⟨g, s d * l, none⟩) l l))) [10] (by kernel_rfl) ?_ (fun hHeld => ?_)
  · exact ⟨e2, e3, ed⟩
  refine wpAnyL_free (i := 0) (v := ?_) (some 7) rfl rfl (by kernel_rfl) (by kernel_rfl) (by kernel_rfl) (by decide) (fun _ _ _ h => h) (Or.inl ⟨by rfl, ?_⟩) (fun h0 => by assumption) ?_
  rotate_left
  · intro wS
    go_simp
    try with_reducible rfl
  try simp only [Act.put, List.setIfInBounds_toArray, List.set_cons_zero, List.set_cons_succ]
  refine wpAnyL_free (i := 1) (v := ?_) (some 8) rfl rfl (by kernel_rfl) (by kernel_rfl) (by kernel_rfl) (by decide) (fun _ _ _ h => h) (Or.inl ⟨by rfl, ?_⟩) (fun h0 => by assumption) ?_
  rotate_left
  · intro wS
    go_simp
    try with_reducible rfl
  try simp only [Act.put, List.setIfInBounds_toArray, List.set_cons_zero, List.set_cons_succ]
  refine wpAnyL_free (i := 2) (v := ?_) (some 9) rfl rfl (by kernel_rfl) (by kernel_rfl) (by kernel_rfl) (by decide) (fun _ _ _ h => h) (Or.inl ⟨by rfl, ?_⟩) (fun h0 => by assumption) ?_
  rotate_left
  · intro wS
    go_simp
    try with_reducible rfl
  try simp only [Act.put, List.setIfInBounds_toArray, List.set_cons_zero, List.set_cons_succ]
  refine wpAnyL_take (i := 3) (v := ?_) (some 10) rfl rfl (by kernel_rfl) (by kernel_rfl) (by kernel_rfl) (by kernel_rfl) (by kernel_rfl) (fun _ _ _ h => h) (Or.inl ⟨by rfl, ?_⟩) (by assumption) ?_
  rotate_left
  · intro wS hSw
    try dsimp only at hSw
    go_simp
    try with_reducible rfl
  try simp only [Act.put, List.setIfInBounds_toArray, List.set_cons_zero, List.set_cons_succ]
  refine wpAnyL_free (i := 4) (v := ?_) (some 11) rfl rfl (by kernel_rfl) (by kernel_rfl) (by kernel_rfl) (by decide) (fun _ _ _ h => h) (Or.inl ⟨by rfl, ?_⟩) (fun h0 => by assumption) ?_
  rotate_left
  · intro wS
    go_simp
    try with_reducible rfl
  try simp only [Act.put, List.setIfInBounds_toArray, List.set_cons_zero, List.set_cons_succ]
  refine wpAnyL_free (i := 5) (v := ?_) (some 12) rfl rfl (by kernel_rfl) (by kernel_rfl) (by kernel_rfl) (by decide) (fun _ _ _ h => h) (Or.inl ⟨by rfl, ?_⟩) (fun h0 => by assumption) ?_
  rotate_left
  · intro wS
    go_simp
    try with_reducible rfl
  try simp only [Act.put, List.setIfInBounds_toArray, List.set_cons_zero, List.set_cons_succ]
  refine wpAnyL_free (i := 6) (v := ?_) (some 13) rfl rfl (by kernel_rfl) (by kernel_rfl) (by kernel_rfl) (by decide) (fun _ _ _ h => h) (Or.inl ⟨by rfl, ?_⟩) (fun h0 => by assumption) ?_
  rotate_left
  · intro wS
    go_simp
    try with_reducible rfl
  try simp only [Act.put, List.setIfInBounds_toArray, List.set_cons_zero, List.set_cons_succ]
  refine wpAnyL_take (i := 7) (v := ?_) (some 14) rfl rfl (by kernel_rfl) (by kernel_rfl) (by kernel_rfl) (by kernel_rfl) (by kernel_rfl) (fun _ _ _ h => h) (Or.inl ⟨by rfl, ?_⟩) (by assumption) ?_
  rotate_left
  · intro wS hSw
    try dsimp only at hSw
    go_simp
    try with_reducible rfl
  try simp only [Act.put, List.setIfInBounds_toArray, List.set_cons_zero, List.set_cons_succ]
  refine wpAnyL_free (i := 8) (v := ?_) (some 15) rfl rfl (by kernel_rfl) (by kernel_rfl) (by kernel_rfl) (by decide) (fun _ _ _ h => h) (Or.inl ⟨by rfl, ?_⟩) (fun h0 => by assumption) ?_
  rotate_left
  · intro wS
    go_simp
    try with_reducible rfl
  try simp only [Act.put, List.setIfInBounds_toArray, List.set_cons_zero, List.set_cons_succ]
  refine wpAnyL_take (i := 9) (v := ?_) (some 16) rfl rfl (by kernel_rfl) (by kernel_rfl) (by kernel_rfl) (by kernel_rfl) (by kernel_rfl) (fun _ _ _ h => h) (Or.inl ⟨by rfl, ?_⟩) (by assumption) ?_
  rotate_left
  · intro wS hSw
    try dsimp only at hSw
    go_simp
    try with_reducible rfl
  try simp only [Act.put, List.setIfInBounds_toArray, List.set_cons_zero, List.set_cons_succ]
  refine wpAnyL_ready (rs := [10]) (by kernel_rfl) (by simp) ?_
  refine AllReadyL.last rfl (by kernel_rfl) (fun K hK => ?_) AllReadyL.nil
  go_simp
  refine hK.out _ _ ?_
  clear hK K
  try simp only [Act.put, List.setIfInBounds_toArray, List.set_cons_zero, List.set_cons_succ]
  refine wpAnyL_done (by kernel_rfl) ?_ _
  refine NoPanic.normal ?_
  clear hHeld
  obtain ⟨w1, hw1⟩ : ∃ w1, w.drew = w1 := ⟨_, rfl⟩
  have HPR : Hid (PRows w1 rb g N n l s p Fd) := Lib.hid (by rw [← hw1]; exact HPR0.out.drewN_ 1)
  have HBX : Hid (Box 114 w1 eb #[modV p, .int .i64 (u : Int), .slice (some ⟨rb, 0, none⟩) n rc, .int .i64 (d : Int)]) := Lib.hid (by rw [← hw1]; exact HBX0.out)
  have HO1 : Hid (Only (fun q => q = g) w w1) := Lib.hid (by rw [← hw1]; exact (Only.refl _ _).drew)
  have hrb1 : rb < w1.heap.size := by rw [← hw1]; exact hrb
  have heb1 : eb < w1.heap.size := by rw [← hw1]; exact heb
  rw [show w.drew = w1 from hw1]
  clear hw1 e2 e3 ed
  have x0 := HBX.out.c 0 rfl
  have x1 := HPR.out.flat.1 (s d * l + c) (by have := HPR.out.fits hd; omega)
  obtain ⟨x, hx⟩ : ∃ x, Fd (s d * l + c) = x := ⟨_, rfl⟩
  have hxl := HPR.out.low (s d * l + c)
  rw [hx] at x1 hxl
  have HX := Lib.hid hxl
  have HXE := Lib.hid hx
  have HFL := Lib.hid HPR.out.flat
  have HIN := Lib.hid HPR.out.inn
  have HLW := Lib.hid HPR.out.low
  clear hx hxl
  go_wp2_with fail
  refine wp_region_noPanic ?_
  refine wp_region_late (S := (fun w' => w'.cell? ⟨eb, 0, none⟩ = some (modV p) ∧ w'.cell? ⟨g, s d * l + c, none⟩ = some (.int .i64 x))) [9] (by kernel_rfl) ?_ (fun hHeld => ?_)
  · exact ⟨x0, x1⟩
  refine wpAnyL_free (i := 0) (v := ?_) (some 17) rfl rfl (by kernel_rfl) (by kernel_rfl) (by kernel_rfl) (by decide) (fun _ _ _ h => h) (Or.inl ⟨by rfl, ?_⟩) (fun h0 => by assumption) ?_
  rotate_left
  · intro wS
    go_simp
    try with_reducible rfl
  try simp only [Act.put, List.setIfInBounds_toArray, List.set_cons_zero, List.set_cons_succ]
  refine wpAnyL_free (i := 1) (v := ?_) (some 18) rfl rfl (by kernel_rfl) (by kernel_rfl) (by kernel_rfl) (by decide) (fun _ _ _ h => h) (Or.inl ⟨by rfl, ?_⟩) (fun h0 => by assumption) ?_
  rotate_left
  · intro wS
    go_simp
    try with_reducible rfl
  try simp only [Act.put, List.setIfInBounds_toArray, List.set_cons_zero, List.set_cons_succ]
  refine wpAnyL_free (i := 2) (v := ?_) (some 19) rfl rfl (by kernel_rfl) (by kernel_rfl) (by kernel_rfl) (by decide) (fun _ _ _ h => h) (Or.inl ⟨by rfl, ?_⟩) (fun h0 => by assumption) ?_
  rotate_left
  · intro wS
    go_simp
    try with_reducible rfl
  try simp only [Act.put, List.setIfInBounds_toArray, List.set_cons_zero, List.set_cons_succ]
  refine wpAnyL_take (i := 3) (v := ?_) (some 20) rfl rfl (by kernel_rfl) (by kernel_rfl) (by kernel_rfl) (by kernel_rfl) (by kernel_rfl) (fun _ _ _ h => h) (Or.inl ⟨by rfl, ?_⟩) (by assumption) ?_
  rotate_left
  · intro wS hSw
    try dsimp only at hSw
    go_simp
    try with_reducible rfl
  try simp only [Act.put, List.setIfInBounds_toArray, List.set_cons_zero, List.set_cons_succ]
  refine wpAnyL_free (i := 4) (v := ?_) (some 21) rfl rfl (by kernel_rfl) (by kernel_rfl) (by kernel_rfl) (by decide) (fun _ _ _ h => h) (Or.inl ⟨by rfl, ?_⟩) (fun h0 => by assumption) ?_
  rotate_left
  · intro wS
    go_simp
    try with_reducible rfl
  try simp only [Act.put, List.setIfInBounds_toArray, List.set_cons_zero, List.set_cons_succ]
  refine wpAnyL_free (i := 5) (v := ?_) (some 22) rfl rfl (by kernel_rfl) (by kernel_rfl) (by kernel_rfl) (by decide) (fun _ _ _ h => h) (Or.inl ⟨by rfl, ?_⟩) (fun h0 => by assumption) ?_
  rotate_left
  · intro wS
    go_simp
    try with_reducible rfl
  try simp only [Act.put, List.setIfInBounds_toArray, List.set_cons_zero, List.set_cons_succ]
  refine wpAnyL_free (i := 6) (v := ?_) (some 23) rfl rfl (by kernel_rfl) (by kernel_rfl) (by kernel_rfl) (by decide) (fun _ _ _ h => h) (Or.inl ⟨by rfl, ?_⟩) (fun h0 => by assumption) ?_
  rotate_left
  · intro wS
    go_simp
    try with_reducible rfl
  try simp only [Act.put, List.setIfInBounds_toArray, List.set_cons_zero, List.set_cons_succ]
  refine wpAnyL_free (i := 7) (v := ?_) (some 24) rfl rfl (by kernel_rfl) (by kernel_rfl) (by kernel_rfl) (by decide) (fun _ _ _ h => h) (Or.inl ⟨by rfl, ?_⟩) (fun h0 => by assumption) ?_
  rotate_left
  · intro wS
    go_simp
    try with_reducible rfl
  try simp only [Act.put, List.setIfInBounds_toArray, List.set_cons_zero, List.set_cons_succ]
  refine wpAnyL_take (i := 8) (v := ?_) (some 25) rfl rfl (by kernel_rfl) (by kernel_rfl) (by kernel_rfl) (by kernel_rfl) (by kernel_rfl) (fun _ _ _ h => h) (Or.inl ⟨by rfl, ?_⟩) (by assumption) ?_
  rotate_left
  · intro wS hSw
    try dsimp only at hSw
    go_simp
    try with_reducible rfl
  try simp only [Act.put, List.setIfInBounds_toArray, List.set_cons_zero, List.set_cons_succ]
  refine wpAnyL_ready (rs := [9]) (by kernel_rfl) (by simp) ?_
  refine AllReadyL.last rfl (by kernel_rfl) (fun K hK => ?_) AllReadyL.nil
  go_simp; go_at_call 86; refine (dividedP p g N (s d * l) l l x Fd _ HP.out (HFL.out.drewN_ 1) HIN.out HLW.out HX.out (HPR.out.fits hd) hN).mono ?_; rintro e w4 ⟨rfl, hf4, ho4⟩
  refine hK.out _ _ ?_
  clear hK K
  try simp only [Act.put, List.setIfInBounds_toArray, List.set_cons_zero, List.set_cons_succ]
  refine wpAnyL_done (by kernel_rfl) ?_ _
  refine NoPanic.normal ?_
  clear hHeld
  have HOD : Only (fun q => q = g) w1 w4 := ⟨ho4.os, ho4.tape, ho4.output, ho4.size, ho4.block⟩
  have HPP : Hid (0 < p) := Lib.hid (by rcases HP.out with h | h <;> omega)
  have HP4 := Lib.hid (HPR.out.turn (fun _ => hrb1) HOD hf4 (HLW.out.scale HPP.out) (fun o => (World.frozen?_of_block (HOD.block rb hrb1 HPR.out.ne)).trans (HPR.out.frz o)))
  have HB4 := Lib.hid (HBX.out.same (HOD.block eb heb1 heg))
  have HO4 := Lib.hid (HO1.out.trans HOD)
  have HR4 : Hid (∀ k, k < n → rowAtF (scaleF p x Fd (s d * l) l) s l k = clearK p (rowAtF Fd s l) d c 0 k) := Lib.hid (fun k hk => by
    rw [rowAtF_scale (fun h => HPR.out.inj k d hk hd h)]
    have e3 : x = intN (rowAtF Fd s l d) c := by rw [← HXE.out, rowAtF_at hc]
    unfold clearK
    rw [e3]
    by_cases hkd : k = d
    · simp [hkd]
    · simp [hkd])
  have HRB4 : Hid (rb < w4.heap.size) := Lib.hid (Nat.lt_of_lt_of_le hrb1 HOD.size)
  have HEB4 : Hid (eb < w4.heap.size) := Lib.hid (Nat.lt_of_lt_of_le heb1 HOD.size)
  obtain ⟨Fs, hFs⟩ : ∃ Fs, scaleF p x Fd (s d * l) l = Fs := ⟨_, rfl⟩
  rw [hFs] at HP4 HR4
  have y2 : w4.cell? ⟨eb, 2, none⟩ = some (.slice (some ⟨rb, 0, none⟩) n rc) := HB4.out.c 2 rfl
  clear hf4 ho4 HOD hFs x0 x1 hrb1 heb1
  go_wp2
  go_loopw [32] (fun v wr => ∃ (i : Nat) (Fk : Nat → Int), i ≤ n ∧ v = .int .i64 i ∧ PRows wr rb g N n l s p Fk ∧ (∀ k, k < n → rowAtF Fk s l k = clearK p (rowAtF Fd s l) d c i k) ∧ Only (fun q => q = g) w wr) (fun v _ => n - (intOf v).toNat)
  case atStart => exact ⟨0, Fs, Nat.zero_le _, rfl, HP4.out, HR4.out, HO4.out⟩
  case round =>
    obtain ⟨i, Fk, hin, rfl, hpk, hrk, hok⟩ := hrel
    have HPK := Lib.hid hpk
    have HRK := Lib.hid hrk
    have HOK := Lib.hid hok
    have HBK : Hid (Box 114 wr eb #[modV p, .int .i64 (u : Int), .slice (some ⟨rb, 0, none⟩) n rc, .int .i64 (d : Int)]) := Lib.hid (HBX0.out.same (hok.block eb HBX0.out.lt heg))
    have HRB : Hid (rb < wr.heap.size) := Lib.hid (Nat.lt_of_lt_of_le hrb hok.size)
    clear hpk hrk hok
    by_cases hil : i < n
    · have hii : (i : Int) < (n : Int) := by omega
      have a0 := HPK.out.at_ i hil
      have b3 : wr.cell? ⟨eb, 3, none⟩ = some (.int .i64 (d : Int)) := HBK.out.c 3 rfl
      by_cases hid : i = d
      · have hidb : ((i : Int) != (d : Int)) = false := by rw [hid]; simp
        have HCK : Hid (clearK p (rowAtF Fd s l) d c (i + 1) = clearK p (rowAtF Fd s l) d c i) := Lib.hid (by rw [hid]; exact clearK_skip _ _ _ _)
        clear hid
        go_wp2
        go_roundw
        case rel => exact ⟨i + 1, Fk, by omega, by go_num, HPK.out, by rw [HCK.out]; exact HRK.out, HOK.out⟩
        case measure => simp [intOf]; omega
      · have hidb : ((i : Int) != (d : Int)) = true := bne_iff_ne.2 (by omega)
        have HID := Lib.hid hid
        have HNE : Hid (s i ≠ s d) := Lib.hid (HPK.out.inj i d hil hd hid)
        have a1 := HPK.out.flat.1 (s i * l + c) (by have := HPK.out.fits hil; omega)
        obtain ⟨t, ht⟩ : ∃ t, Fk (s i * l + c) = t := ⟨_, rfl⟩
        have htb := HPK.out.low (s i * l + c)
        rw [ht] at a1 htb
        have HTB := Lib.hid htb
        have HTE := Lib.hid ht
        have b0 : wr.cell? ⟨eb, 0, none⟩ = some (modV p) := HBK.out.c 0 rfl
        have HOW : Hid (∀ {w5 : World}, Only (fun q => q = g) (wr.drewN 1) w5 → Only (fun q => q = g) wr w5) := Lib.hid (fun h => ⟨h.os, h.tape, h.output, h.size, h.block⟩)
        clear hid ht htb
        go_wp2_with fail
        refine wp_region_noPanic ?_
        refine wp_region_late (S := (fun w' => w'.cell? ⟨eb, 0, none⟩ = some (modV p) ∧ w'.cell? ⟨g, s i * l + c, none⟩ = some (.int .i64 t))) [10] (by kernel_rfl) ?_ (fun hHeld => ?_)
        · exact ⟨b0, a1⟩
        refine wpAnyL_free (i := 0) (v := ?_) (some 43) rfl rfl (by kernel_rfl) (by kernel_rfl) (by kernel_rfl) (by decide) (fun _ _ _ h => h) (Or.inl ⟨by rfl, ?_⟩) (fun h0 => by assumption) ?_
        rotate_left
        · intro wS
          go_simp
          try with_reducible rfl
        try simp only [Act.put, List.setIfInBounds_toArray, List.set_cons_zero, List.set_cons_succ]
        refine wpAnyL_free (i := 1) (v := ?_) (some 44) rfl rfl (by kernel_rfl) (by kernel_rfl) (by kernel_rfl) (by decide) (fun _ _ _ h => h) (Or.inl ⟨by rfl, ?_⟩) (fun h0 => by assumption) ?_
        rotate_left
        · intro wS
          go_simp
          try with_reducible rfl
        try simp only [Act.put, List.setIfInBounds_toArray, List.set_cons_zero, List.set_cons_succ]
        refine wpAnyL_free (i := 2) (v := ?_) (some 45) rfl rfl (by kernel_rfl) (by kernel_rfl) (by kernel_rfl) (by decide) (fun _ _ _ h => h) (Or.inl ⟨by rfl, ?_⟩) (fun h0 => by assumption) ?_
        rotate_left
        · intro wS
          go_simp
          try with_reducible rfl
        try simp only [Act.put, List.setIfInBounds_toArray, List.set_cons_zero, List.set_cons_succ]
        refine wpAnyL_take (i := 3) (v := ?_) (some 46) rfl rfl (by kernel_rfl) (by kernel_rfl) (by kernel_rfl) (by kernel_rfl) (by kernel_rfl) (fun _ _ _ h => h) (Or.inl ⟨by rfl, ?_⟩) (by assumption) ?_
        rotate_left
        · intro wS hSw
          try dsimp only at hSw
          go_simp
          try with_reducible rfl
        try simp only [Act.put, List.setIfInBounds_toArray, List.set_cons_zero, List.set_cons_succ]
        refine wpAnyL_free (i := 4) (v := ?_) (some 47) rfl rfl (by kernel_rfl) (by kernel_rfl) (by kernel_rfl) (by decide) (fun _ _ _ h => h) (Or.inl ⟨by rfl, ?_⟩) (fun h0 => by assumption) ?_
        rotate_left
        · intro wS
          go_simp
          try with_reducible rfl
        try simp only [Act.put, List.setIfInBounds_toArray, List.set_cons_zero, List.set_cons_succ]
        refine wpAnyL_free (i := 5) (v := ?_) (some 48) rfl rfl (by kernel_rfl) (by kernel_rfl) (by kernel_rfl) (by decide) (fun _ _ _ h => h) (Or.inl ⟨by rfl, ?_⟩) (fun h0 => by assumption) ?_
        rotate_left
        · intro wS
          go_simp
          try with_reducible rfl
        try simp only [Act.put, List.setIfInBounds_toArray, List.set_cons_zero, List.set_cons_succ]
        refine wpAnyL_free (i := 6) (v := ?_) (some 49) rfl rfl (by kernel_rfl) (by kernel_rfl) (by kernel_rfl) (by decide) (fun _ _ _ h => h) (Or.inl ⟨by rfl, ?_⟩) (fun h0 => by assumption) ?_
        rotate_left
        · intro wS
          go_simp
          try with_reducible rfl
        try simp only [Act.put, List.setIfInBounds_toArray, List.set_cons_zero, List.set_cons_succ]
        refine wpAnyL_free (i := 7) (v := ?_) (some 50) rfl rfl (by kernel_rfl) (by kernel_rfl) (by kernel_rfl) (by decide) (fun _ _ _ h => h) (Or.inl ⟨by rfl, ?_⟩) (fun h0 => by assumption) ?_
        rotate_left
        · intro wS
          go_simp
          try with_reducible rfl
        try simp only [Act.put, List.setIfInBounds_toArray, List.set_cons_zero, List.set_cons_succ]
        refine wpAnyL_free (i := 8) (v := ?_) (some 51) rfl rfl (by kernel_rfl) (by kernel_rfl) (by kernel_rfl) (by decide) (fun _ _ _ h => h) (Or.inl ⟨by rfl, ?_⟩) (fun h0 => by assumption) ?_
        rotate_left
        · intro wS
          go_simp
          try with_reducible rfl
        try simp only [Act.put, List.setIfInBounds_toArray, List.set_cons_zero, List.set_cons_succ]
        refine wpAnyL_take (i := 9) (v := ?_) (some 52) rfl rfl (by kernel_rfl) (by kernel_rfl) (by kernel_rfl) (by kernel_rfl) (by kernel_rfl) (fun _ _ _ h => h) (Or.inl ⟨by rfl, ?_⟩) (by assumption) ?_
        rotate_left
        · intro wS hSw
          try dsimp only at hSw
          go_simp
          try with_reducible rfl
        try simp only [Act.put, List.setIfInBounds_toArray, List.set_cons_zero, List.set_cons_succ]
        refine wpAnyL_ready (rs := [10]) (by kernel_rfl) (by simp) ?_
        refine AllReadyL.last rfl (by kernel_rfl) (fun K hK => ?_) AllReadyL.nil
        go_simp; go_at_call 146; refine (takeAwayP p g N (s i * l) (s d * l) l l l t Fk _ HP.out (HPK.out.flat.drewN_ 1) HPK.out.low HTB.out (HPK.out.fits hil) (HPK.out.fits hd) (far_rows HNE.out) hN).mono ?_; rintro e w5 ⟨rfl, hf5, ho5⟩
        refine hK.out _ _ ?_
        clear hK K
        try simp only [Act.put, List.setIfInBounds_toArray, List.set_cons_zero, List.set_cons_succ]
        refine wpAnyL_done (by kernel_rfl) ?_ _
        refine NoPanic.normal ?_
        clear hHeld
        have HP6 := Lib.hid (HPK.out.turn (fun _ => HRB.out) (HOW.out ho5) hf5 (HPK.out.low.take HPP.out) (fun o => (World.frozen?_of_block ((HOW.out ho5).block rb HRB.out HPK.out.ne)).trans (HPK.out.frz o)))
        have HO6 := Lib.hid (HOK.out.trans (HOW.out ho5))
        have HR6 : Hid (∀ k, k < n → rowAtF (takeF p t Fk (s i * l) (s d * l) l) s l k = clearK p (rowAtF Fd s l) d c (i + 1) k) := Lib.hid (fun k hk => by
          rw [rowAtF_take (fun h => HPK.out.inj k i hk hil h), ← clearK_succ HID.out]
          have e1 : rowAtF Fk s l i = rowAtF Fd s l i := by rw [HRK.out i hil]; unfold clearK; rw [if_neg HID.out, if_neg (Nat.lt_irrefl _)]
          have e2 : rowAtF Fk s l d = rowScale p (intN (rowAtF Fd s l d) c) (rowAtF Fd s l d) := by rw [HRK.out d hd]; unfold clearK; rw [if_pos rfl]
          have e3 : t = intN (rowAtF Fd s l i) c := by rw [← HTE.out, ← e1, rowAtF_at hc]
          show (if k = i then _ else _) = (if k = i then _ else _)
          rw [e1, e2, e3, HRK.out k hk])
        clear hf5 ho5
        go_wp2
        go_roundw
        case rel => exact ⟨i + 1, _, by omega, by go_num, HP6.out, HR6.out, HO6.out⟩
        case measure => simp [intOf]; omega
    · obtain rfl : i = n := by omega
      go_wp2
      go_end0
      exact ⟨Fk, rfl, HPK.out, HRK.out, HOK.out⟩

end Go.Proofs.Ytnbgpeoceejolaa

namespace Go.Proofs.Ytnbgpeoceejolaa
open Go.RowKit

theorem PRows.swapped {w : World} {rb g N n l : Nat} {s : Nat → Nat} {p : Int} {F : Nat → Int} (h : PRows w rb g N n l s p F) {i j : Nat} (hi : i < n) (hj : j < n) :
    PRows ((w.setCell ⟨rb, i, none⟩ (.slice (some ⟨g, s j * l, none⟩) l l)).setCell ⟨rb, j, none⟩ (.slice (some ⟨g, s i * l, none⟩) l l)) rb g N n l (fun k => s (swapI i j k)) p F := by
  have hsame : ((w.setCell ⟨rb, i, none⟩ (.slice (some ⟨g, s j * l, none⟩) l l)).setCell ⟨rb, j, none⟩ (.slice (some ⟨g, s i * l, none⟩) l l)).heap[g]? = w.heap[g]? := by
    rw [Below.heap_setCell _ _ _ _ (Ne.symm h.ne), Below.heap_setCell _ _ _ _ (Ne.symm h.ne)]
  have hlt : ∀ k, k < n → swapI i j k < n := fun k hk => by
    unfold swapI
    split
    · exact hj
    · split
      · exact hi
      · exact hk
  have hinj : ∀ a b, a ≠ b → swapI i j a ≠ swapI i j b := fun a b hab => by
    unfold swapI
    repeat' split
    all_goals omega
  refine ⟨fun k hk => ?_, fun o => by simpa using h.frz o, h.flat.same hsame, h.low, fun k hk => h.lt _ (hlt k hk), fun a b ha hb hab => h.inj _ _ (hlt a ha) (hlt b hb) (hinj a b hab), h.ne, h.fit, by simpa using h.inn⟩
  by_cases hkj : k = j
  · subst hkj
    have e : swapI i k k = i := by unfold swapI; split <;> simp_all
    rw [e]
    by_cases hik : i = k
    · subst hik
      exact World.cell?_setCell_same _ _ _ (World.cell?_setCell_same _ _ _ (h.at_ _ hk))
    · exact World.cell?_setCell_same _ _ _ ((World.cell?_setCell_other _ _ _ _ (by intro e; simp only [Addr.mk.injEq] at e; omega)).trans (h.at_ _ hk))
  · rw [World.cell?_setCell_other _ _ _ _ (by intro e; simp only [Addr.mk.injEq] at e; omega)]
    by_cases hki : k = i
    · subst hki
      have e : swapI k j k = j := by unfold swapI; simp
      rw [e]
      exact World.cell?_setCell_same _ _ _ (h.at_ _ hk)
    · have e : swapI i j k = k := by unfold swapI; rw [if_neg hki, if_neg hkj]
      rw [e, World.cell?_setCell_other _ _ _ _ (by intro e; simp only [Addr.mk.injEq] at e; omega)]
      exact h.at_ _ hk
theorem rowAtF_swap (F : Nat → Int) (s : Nat → Nat) (l i j : Nat) : rowAtF F (fun k => s (swapI i j k)) l = swapF (rowAtF F s l) i j := by
  rw [swapF_eq]
  rfl

set_option linter.unusedSimpArgs false in
set_option maxHeartbeats 4000000 in
set_option maxRecDepth 100000 in
theorem swapC (eb u rb rc n d i j g N l : Nat) (s : Nat → Nat) (p : Int) (F : Nat → Int) (w : World) (hb : Box 114 w eb #[modV p, .int .i64 (u : Int), .slice (some ⟨rb, 0, none⟩) n rc, .int .i64 (d : Int)]) (h : PRows w rb g N n l s p F) (hi : i < n) (hj : j < n) :
    Calls Try.prog 187 #[.pointer (some ⟨eb, 0, none⟩), .int .i64 (i : Int), .int .i64 (j : Int)] w fun e w' => e = .returned (.tuple #[]) ∧ PRows w' rb g N n l (fun k => s (swapI i j k)) p F ∧ Only (fun q => q = rb) w w' := by
  have HPS := Lib.hid (PRows.drewN_ (h.swapped hi hj) 1)
  have HOS := Lib.hid (((Only.refl (fun q => q = rb) w).setCell (p := ⟨rb, i, none⟩) rfl (.slice (some ⟨g, s j * l, none⟩) l l)).setCell (p := ⟨rb, j, none⟩) rfl (.slice (some ⟨g, s i * l, none⟩) l l))
  have e2 : w.cell? ⟨eb, 2, none⟩ = some (.slice (some ⟨rb, 0, none⟩) n rc) := hb.c 2 rfl
  have ei := h.at_ i hi
  have ej := h.at_ j hj
  have fi := h.frz i
  have fj := h.frz j
  have hii : (i : Int) < (n : Int) := by omega
  have hjj : (j : Int) < (n : Int) := by omega
  obtain ⟨vj, ej2⟩ : ∃ vj, (w.setCell ⟨rb, i, none⟩ (.slice (some ⟨g, s j * l, none⟩) l l)).cell? ⟨rb, j, none⟩ = some vj := by
    by_cases hij : i = j
    · subst hij
      exact ⟨_, World.cell?_setCell_same _ _ _ ei⟩
    · exact ⟨_, (World.cell?_setCell_other _ _ _ _ (by intro e; simp only [Addr.mk.injEq] at e; omega)).trans ej⟩
  clear hb h
  go_enter Try.func187, Try.ntmps187
  go_wp2_with fail
  refine wp_region_noPanic ?_
  refine wp_region_late (S := (fun w' => w'.cell? ⟨eb, 2, none⟩ = some (.slice (some ⟨rb, 0, none⟩) n rc) ∧ w'.cell? ⟨rb, i, none⟩ = some (.slice (some ⟨g, s i * l, none⟩) l l) ∧ w'.cell? ⟨rb, j, none⟩ = some (.slice (some ⟨g, s j * l, none⟩) l l))) [25, 27] (by kernel_rfl) ?_ (fun hHeld => ?_)
  · exact ⟨e2, ei, ej⟩
  refine wpAnyL_free (i := 0) (v := ?_) (some 6) rfl rfl (by kernel_rfl) (by kernel_rfl) (by kernel_rfl) (by decide) (fun _ _ _ h => h) (Or.inl ⟨by rfl, ?_⟩) (fun h0 => by assumption) ?_
  rotate_left
  · intro wS
    go_simp
    try with_reducible rfl
  try simp only [Act.put, List.setIfInBounds_toArray, List.set_cons_zero, List.set_cons_succ]
  refine wpAnyL_free (i := 1) (v := ?_) (some 7) rfl rfl (by kernel_rfl) (by kernel_rfl) (by kernel_rfl) (by decide) (fun _ _ _ h => h) (Or.inl ⟨by rfl, ?_⟩) (fun h0 => by assumption) ?_
  rotate_left
  · intro wS
    go_simp
    try with_reducible rfl
  try simp only [Act.put, List.setIfInBounds_toArray, List.set_cons_zero, List.set_cons_succ]
  refine wpAnyL_free (i := 2) (v := ?_) (some 8) rfl rfl (by kernel_rfl) (by kernel_rfl) (by kernel_rfl) (by decide) (fun _ _ _ h => h) (Or.inl ⟨by rfl, ?_⟩) (fun h0 => by assumption) ?_
  rotate_left
  · intro wS
    go_simp
    try with_reducible rfl
  try simp only [Act.put, List.setIfInBounds_toArray, List.set_cons_zero, List.set_cons_succ]
  refine wpAnyL_take (i := 3) (v := ?_) (some 9) rfl rfl (by kernel_rfl) (by kernel_rfl) (by kernel_rfl) (by kernel_rfl) (by kernel_rfl) (fun _ _ _ h => h) (Or.inl ⟨by rfl, ?_⟩) (by assumption) ?_
  rotate_left
  · intro wS hSw
    try dsimp only at hSw
    go_simp
    try with_reducible rfl
  try simp only [Act.put, List.setIfInBounds_toArray, List.set_cons_zero, List.set_cons_succ]
  refine wpAnyL_free (i := 4) (v := ?_) (some 10) rfl rfl (by kernel_rfl) (by kernel_rfl) (by kernel_rfl) (by decide) (fun _ _ _ h => h) (Or.inl ⟨by rfl, ?_⟩) (fun h0 => by assumption) ?_
  rotate_left
  · intro wS
    go_simp
    try with_reducible rfl
  try simp only [Act.put, List.setIfInBounds_toArray, List.set_cons_zero, List.set_cons_succ]
  refine wpAnyL_free (i := 5) (v := ?_) (some 11) rfl rfl (by kernel_rfl) (by kernel_rfl) (by kernel_rfl) (by decide) (fun _ _ _ h => h) (Or.inl ⟨by rfl, ?_⟩) (fun h0 => by assumption) ?_
  rotate_left
  · intro wS
    go_simp
    try with_reducible rfl
  try simp only [Act.put, List.setIfInBounds_toArray, List.set_cons_zero, List.set_cons_succ]
  refine wpAnyL_free (i := 6) (v := ?_) (some 12) rfl rfl (by kernel_rfl) (by kernel_rfl) (by kernel_rfl) (by decide) (fun _ _ _ h => h) (Or.inl ⟨by rfl, ?_⟩) (fun h0 => by assumption) ?_
  rotate_left
  · intro wS
    go_simp
    try with_reducible rfl
  try simp only [Act.put, List.setIfInBounds_toArray, List.set_cons_zero, List.set_cons_succ]
  refine wpAnyL_free (i := 7) (v := ?_) (some 13) rfl rfl (by kernel_rfl) (by kernel_rfl) (by kernel_rfl) (by decide) (fun _ _ _ h => h) (Or.inl ⟨by rfl, ?_⟩) (fun h0 => by assumption) ?_
  rotate_left
  · intro wS
    go_simp
    try with_reducible rfl
  try simp only [Act.put, List.setIfInBounds_toArray, List.set_cons_zero, List.set_cons_succ]
  refine wpAnyL_take (i := 8) (v := ?_) (some 14) rfl rfl (by kernel_rfl) (by kernel_rfl) (by kernel_rfl) (by kernel_rfl) (by kernel_rfl) (fun _ _ _ h => h) (Or.inl ⟨by rfl, ?_⟩) (by assumption) ?_
  rotate_left
  · intro wS hSw
    try dsimp only at hSw
    go_simp
    try with_reducible rfl
  try simp only [Act.put, List.setIfInBounds_toArray, List.set_cons_zero, List.set_cons_succ]
  refine wpAnyL_free (i := 9) (v := ?_) (some 15) rfl rfl (by kernel_rfl) (by kernel_rfl) (by kernel_rfl) (by decide) (fun _ _ _ h => h) (Or.inl ⟨by rfl, ?_⟩) (fun h0 => by assumption) ?_
  rotate_left
  · intro wS
    go_simp
    try with_reducible rfl
  try simp only [Act.put, List.setIfInBounds_toArray, List.set_cons_zero, List.set_cons_succ]
  refine wpAnyL_free (i := 10) (v := ?_) (some 16) rfl rfl (by kernel_rfl) (by kernel_rfl) (by kernel_rfl) (by decide) (fun _ _ _ h => h) (Or.inl ⟨by rfl, ?_⟩) (fun h0 => by assumption) ?_
  rotate_left
  · intro wS
    go_simp
    try with_reducible rfl
  try simp only [Act.put, List.setIfInBounds_toArray, List.set_cons_zero, List.set_cons_succ]
  refine wpAnyL_free (i := 11) (v := ?_) (some 17) rfl rfl (by kernel_rfl) (by kernel_rfl) (by kernel_rfl) (by decide) (fun _ _ _ h => h) (Or.inl ⟨by rfl, ?_⟩) (fun h0 => by assumption) ?_
  rotate_left
  · intro wS
    go_simp
    try with_reducible rfl
  try simp only [Act.put, List.setIfInBounds_toArray, List.set_cons_zero, List.set_cons_succ]
  refine wpAnyL_free (i := 12) (v := ?_) (some 18) rfl rfl (by kernel_rfl) (by kernel_rfl) (by kernel_rfl) (by decide) (fun _ _ _ h => h) (Or.inl ⟨by rfl, ?_⟩) (fun h0 => by assumption) ?_
  rotate_left
  · intro wS
    go_simp
    try with_reducible rfl
  try simp only [Act.put, List.setIfInBounds_toArray, List.set_cons_zero, List.set_cons_succ]
  refine wpAnyL_take (i := 13) (v := ?_) (some 19) rfl rfl (by kernel_rfl) (by kernel_rfl) (by kernel_rfl) (by kernel_rfl) (by kernel_rfl) (fun _ _ _ h => h) (Or.inl ⟨by rfl, ?_⟩) (by assumption) ?_
  rotate_left
  · intro wS hSw
    try dsimp only at hSw
    go_simp
    try with_reducible rfl
  try simp only [Act.put, List.setIfInBounds_toArray, List.set_cons_zero, List.set_cons_succ]
  refine wpAnyL_free (i := 14) (v := ?_) (some 20) rfl rfl (by kernel_rfl) (by kernel_rfl) (by kernel_rfl) (by decide) (fun _ _ _ h => h) (Or.inl ⟨by rfl, ?_⟩) (fun h0 => by assumption) ?_
  rotate_left
  · intro wS
    go_simp
    try with_reducible rfl
  try simp only [Act.put, List.setIfInBounds_toArray, List.set_cons_zero, List.set_cons_succ]
  refine wpAnyL_free (i := 15) (v := ?_) (some 21) rfl rfl (by kernel_rfl) (by kernel_rfl) (by kernel_rfl) (by decide) (fun _ _ _ h => h) (Or.inl ⟨by rfl, ?_⟩) (fun h0 => by assumption) ?_
  rotate_left
  · intro wS
    go_simp
    try with_reducible rfl
  try simp only [Act.put, List.setIfInBounds_toArray, List.set_cons_zero, List.set_cons_succ]
  refine wpAnyL_take (i := 16) (v := ?_) (some 22) rfl rfl (by kernel_rfl) (by kernel_rfl) (by kernel_rfl) (by kernel_rfl) (by kernel_rfl) (fun _ _ _ h => h) (Or.inl ⟨by rfl, ?_⟩) (by assumption) ?_
  rotate_left
  · intro wS hSw
    try dsimp only at hSw
    go_simp
    try with_reducible rfl
  try simp only [Act.put, List.setIfInBounds_toArray, List.set_cons_zero, List.set_cons_succ]
  refine wpAnyL_free (i := 17) (v := ?_) (some 23) rfl rfl (by kernel_rfl) (by kernel_rfl) (by kernel_rfl) (by decide) (fun _ _ _ h => h) (Or.inl ⟨by rfl, ?_⟩) (fun h0 => by assumption) ?_
  rotate_left
  · intro wS
    go_simp
    try with_reducible rfl
  try simp only [Act.put, List.setIfInBounds_toArray, List.set_cons_zero, List.set_cons_succ]
  refine wpAnyL_free (i := 18) (v := ?_) (some 24) rfl rfl (by kernel_rfl) (by kernel_rfl) (by kernel_rfl) (by decide) (fun _ _ _ h => h) (Or.inl ⟨by rfl, ?_⟩) (fun h0 => by assumption) ?_
  rotate_left
  · intro wS
    go_simp
    try with_reducible rfl
  try simp only [Act.put, List.setIfInBounds_toArray, List.set_cons_zero, List.set_cons_succ]
  refine wpAnyL_free (i := 19) (v := ?_) (some 25) rfl rfl (by kernel_rfl) (by kernel_rfl) (by kernel_rfl) (by decide) (fun _ _ _ h => h) (Or.inl ⟨by rfl, ?_⟩) (fun h0 => by assumption) ?_
  rotate_left
  · intro wS
    go_simp
    try with_reducible rfl
  try simp only [Act.put, List.setIfInBounds_toArray, List.set_cons_zero, List.set_cons_succ]
  refine wpAnyL_take (i := 20) (v := ?_) (some 26) rfl rfl (by kernel_rfl) (by kernel_rfl) (by kernel_rfl) (by kernel_rfl) (by kernel_rfl) (fun _ _ _ h => h) (Or.inl ⟨by rfl, ?_⟩) (by assumption) ?_
  rotate_left
  · intro wS hSw
    try dsimp only at hSw
    go_simp
    try with_reducible rfl
  try simp only [Act.put, List.setIfInBounds_toArray, List.set_cons_zero, List.set_cons_succ]
  refine wpAnyL_free (i := 21) (v := ?_) (some 27) rfl rfl (by kernel_rfl) (by kernel_rfl) (by kernel_rfl) (by decide) (fun _ _ _ h => h) (Or.inl ⟨by rfl, ?_⟩) (fun h0 => by assumption) ?_
  rotate_left
  · intro wS
    go_simp
    try with_reducible rfl
  try simp only [Act.put, List.setIfInBounds_toArray, List.set_cons_zero, List.set_cons_succ]
  refine wpAnyL_free (i := 22) (v := ?_) (some 28) rfl rfl (by kernel_rfl) (by kernel_rfl) (by kernel_rfl) (by decide) (fun _ _ _ h => h) (Or.inl ⟨by rfl, ?_⟩) (fun h0 => by assumption) ?_
  rotate_left
  · intro wS
    go_simp
    try with_reducible rfl
  try simp only [Act.put, List.setIfInBounds_toArray, List.set_cons_zero, List.set_cons_succ]
  refine wpAnyL_take (i := 23) (v := ?_) (some 29) rfl rfl (by kernel_rfl) (by kernel_rfl) (by kernel_rfl) (by kernel_rfl) (by kernel_rfl) (fun _ _ _ h => h) (Or.inl ⟨by rfl, ?_⟩) (by assumption) ?_
  rotate_left
  · intro wS hSw
    try dsimp only at hSw
    go_simp
    try with_reducible rfl
  try simp only [Act.put, List.setIfInBounds_toArray, List.set_cons_zero, List.set_cons_succ]
  refine wpAnyL_free (i := 24) (v := ?_) (some 30) rfl rfl (by kernel_rfl) (by kernel_rfl) (by kernel_rfl) (by decide) (fun _ _ _ h => h) (Or.inl ⟨by rfl, ?_⟩) (fun h0 => by assumption) ?_
  rotate_left
  · intro wS
    go_simp
    try with_reducible rfl
  try simp only [Act.put, List.setIfInBounds_toArray, List.set_cons_zero, List.set_cons_succ]
  refine wpAnyL_ready (rs := [25]) (by kernel_rfl) (by simp) ?_
  refine AllReadyL.last rfl (by kernel_rfl) (fun K hK => ?_) AllReadyL.nil
  go_simp
  refine hK.out _ _ ?_
  clear hK K
  try simp only [Act.put, List.setIfInBounds_toArray, List.set_cons_zero, List.set_cons_succ]
  refine wpAnyL_free (i := 26) (v := ?_) (some 31) rfl rfl (by kernel_rfl) (by kernel_rfl) (by kernel_rfl) (by decide) (fun _ _ _ h => h) (Or.inl ⟨by rfl, ?_⟩) (fun h0 => absurd h0 (by decide)) ?_
  rotate_left
  · intro wS
    go_simp
    try with_reducible rfl
  try simp only [Act.put, List.setIfInBounds_toArray, List.set_cons_zero, List.set_cons_succ]
  refine wpAnyL_ready (rs := [27]) (by kernel_rfl) (by simp) ?_
  refine AllReadyL.last rfl (by kernel_rfl) (fun K hK => ?_) AllReadyL.nil
  go_simp
  refine hK.out _ _ ?_
  clear hK K
  try simp only [Act.put, List.setIfInBounds_toArray, List.set_cons_zero, List.set_cons_succ]
  refine wpAnyL_done (by kernel_rfl) ?_ _
  refine NoPanic.normal ?_
  clear hHeld
  skip
  go_wp2
  go_end0
  exact ⟨rfl, HPS.out, HOS.out.drew⟩

end Go.Proofs.Ytnbgpeoceejolaa

namespace Go.Proofs.Ytnbgpeoceejolaa
open Go.RowKit

set_option linter.unusedSimpArgs false in
set_option maxHeartbeats 4000000 in
set_option maxRecDepth 100000 in
theorem nonzeroC (ub g fo l k1 c : Nat) (x : Int) (w : World) (hu : w.cell? ⟨ub, 0, none⟩ = some (.int .i64 (c : Int))) (hx : w.cell? ⟨g, fo + c, none⟩ = some (.int .i64 x)) (hc : c < l) :
    Calls Try.prog 186 #[.slice (some ⟨g, fo, none⟩) l k1, .pointer (some ⟨ub, 0, none⟩)] w fun e w' => e = .returned (.bool (x != 0)) ∧ w = w' := by
  have hcl : (c : Int) < (l : Int) := by omega
  go_enter Try.func186, Try.ntmps186
  go_wp2
  go_ret
  exact ⟨rfl, rfl⟩

/-- The first of some rows with a number other than 0, or none. -/
def FoundRow (R : Nat → List Int) (c d n : Nat) (m : Int) : Prop := (m = -1 ∧ ∀ j, d ≤ j → j < n → intN (R j) c = 0) ∨ ∃ k : Nat, d + k < n ∧ m = (k : Int) ∧ intN (R (d + k)) c ≠ 0 ∧ ∀ j, d ≤ j → j < d + k → intN (R j) c = 0

set_option linter.unusedSimpArgs false in
set_option maxHeartbeats 4000000 in
set_option maxRecDepth 100000 in
theorem indexRowC (a : Option Addr) (ub rb g N n l d c k1 q : Nat) (s : Nat → Nat) (p : Int) (F : Nat → Int) (w : World) (h : PRows w rb g N n l s p F) (hu : w.cell? ⟨ub, 0, none⟩ = some (.int .i64 (c : Int))) (hc : c < l) (hd : d + q = n) (hq : q ≤ 1000) (ha : 0 < q → a = some ⟨rb, d, none⟩) :
    Calls Try.prog 185 #[.slice a q k1, .func (.func 186) #[] #[.pointer (some ⟨ub, 0, none⟩)]] w fun e w' => ∃ m : Int, e = .returned (.int .i64 m) ∧ FoundRow (rowAtF F s l) c d n m ∧ w = w' := by
  have HH := Lib.hid h
  clear h
  go_enter Try.func185, Try.ntmps185
  go_wp2
  go_loop [8] (fun i => ∃ k : Nat, k ≤ q ∧ i = .int .i64 k ∧ (∀ j, d ≤ j → j < d + k → intN (rowAtF F s l j) c = 0)) (fun i => q - (intOf i).toNat)
  case atStart => exact ⟨0, Nat.zero_le _, rfl, fun j h1 h2 => by omega⟩
  case round =>
    obtain ⟨k, hk, rfl, hall⟩ := hrel
    have HA := Lib.hid hall
    clear hall
    by_cases hlt : k < q
    · obtain rfl := ha (by omega)
      have e1 := HH.out.at_ (d + k) (by omega)
      have e2 := HH.out.flat.1 (s (d + k) * l + c) (by have := HH.out.fits (i := d + k) (by omega); omega)
      obtain ⟨x, hx⟩ : ∃ x, F (s (d + k) * l + c) = x := ⟨_, rfl⟩
      rw [hx] at e2
      have HX : Hid (intN (rowAtF F s l (d + k)) c = x) := Lib.hid (by rw [rowAtF_at hc]; exact hx)
      have hlt2 : (k : Int) < (q : Int) := by omega
      clear hx
      by_cases hz : x = 0
      · have HZ := Lib.hid hz
        have hzb : (x != 0) = false := by rw [hz]; rfl
        clear hz
        go_wp2_with fail
        refine (nonzeroC ub g (s (d + k) * l) l l c x _ hu e2 hc).mono ?_
        rintro e w2 ⟨rfl, rfl⟩
        go_wp2
        go_round
        case rel =>
          refine ⟨k + 1, by omega, by go_num, fun j h1 h2 => ?_⟩
          by_cases hjk : j = d + k
          · subst hjk; rw [HX.out]; exact HZ.out
          · exact HA.out j h1 (by omega)
        case measure => simp [intOf]; omega
      · have hzb : (x != 0) = true := bne_iff_ne.2 hz
        have HF : Hid (intN (rowAtF F s l (d + k)) c ≠ 0) := Lib.hid (by rw [HX.out]; exact hz)
        clear hz
        go_wp2_with fail
        refine (nonzeroC ub g (s (d + k) * l) l l c x _ hu e2 hc).mono ?_
        rintro e w2 ⟨rfl, rfl⟩
        go_wp2
        go_ret
        exact ⟨_, rfl, .inr ⟨k, by omega, rfl, HF.out, HA.out⟩, rfl⟩
    · obtain rfl : k = q := by omega
      have HF : Hid (∀ j, d ≤ j → j < n → intN (rowAtF F s l j) c = 0) := Lib.hid fun j h1 h2 => HA.out j h1 (by omega)
      go_wp2
      go_ret
      exact ⟨_, rfl, .inl ⟨rfl, HF.out⟩, rfl⟩

end Go.Proofs.Ytnbgpeoceejolaa

namespace Go.Proofs.Ytnbgpeoceejolaa
open Go.RowKit

theorem scope_back {P : Program} {a : Act} {w : World} {Q : Exit → Act → World → Prop} {c rest : Code} (l : Nat) (J : Act → World → Prop) (μ : Act → World → Nat) (hf : findLabel c l = some (Code.skip.seq rest))
    (pass : ∀ a w, J a w → rest.wp P (Exit.jump l (fun a' w' => J a' w' ∧ μ a' w' < μ a w) Q) a w)
    (first : (∀ a w, J a w → rest.wp P (Exit.jump l J Q) a w) → c.wp P (Exit.jump l J Q) a w) : (Code.scope c).wp P Q a w :=
  wp_scope_jumps l J μ hf (first fun a w h => Code.wp_mono (fun e a w hq => by
    cases e with
    | goto l' => exact ⟨hq.1, hq.2.1⟩
    | _ => exact hq) (pass a w h)) fun a w h => wp_seq (wp_skip (pass a w h))

/-- Where the elimination stands when c unknowns have been looked at. -/
structure RedAt (w wr : World) (eb ub rb rc g N n l u : Nat) (p : Int) (R0 : Nat → List Int) (c d : Nat) (s' : Nat → Nat) (Fk : Nat → Int) : Prop where
  cu : c ≤ u
  cell : wr.cell? ⟨ub, 0, none⟩ = some (.int .i64 (c : Int))
  frz : wr.frozen? ⟨ub, 0, none⟩ = false
  box : Box 114 wr eb #[modV p, .int .i64 (u : Int), .slice (some ⟨rb, 0, none⟩) n rc, .int .i64 (d : Int)]
  rows : PRows wr rb g N n l s' p Fk
  eq : ∀ i, i < n → rowAtF Fk s' l i = (elimE p n R0 c).1 i
  done : (elimE p n R0 c).2 = d
  dn : d ≤ n
  only : Only (fun q => q = g ∨ q = rb ∨ q = eb ∨ w.heap.size ≤ q) w wr

theorem PRows.other {w : World} {rb g N n l : Nat} {s : Nat → Nat} {p : Int} {F : Nat → Int} (h : PRows w rb g N n l s p F) {b o : Nat} (h1 : b ≠ rb) (h2 : b ≠ g) (v : Value) : PRows (w.setCell ⟨b, o, none⟩ v) rb g N n l s p F :=
  ⟨fun i hi => (World.cell?_setCell_other _ _ _ _ (by intro e; simp only [Addr.mk.injEq] at e; omega)).trans (h.at_ i hi), fun q => by simpa using h.frz q, h.flat.same (Below.heap_setCell _ _ _ _ (Ne.symm h2)), h.low, h.lt, h.inj, h.ne, h.fit, by simpa using h.inn⟩
theorem clearK_congr {p : Int} {R R' : Nat → List Int} {d c n : Nat} (h : ∀ i, i < n → R i = R' i) (hd : d < n) {i : Nat} (hi : i < n) : clearK p R d c n i = clearK p R' d c n i := by
  unfold clearK
  rw [h i hi, h d hd]
theorem swapF_congr {R R' : Nat → List Int} {a b n : Nat} (h : ∀ i, i < n → R i = R' i) (ha : a < n) (hb : b < n) {i : Nat} (hi : i < n) : swapF R a b i = swapF R' a b i := by
  unfold swapF
  rw [h i hi, h a ha, h b hb]
theorem RedAt.next {w wr w5 : World} {eb ub rb rc g N n l u : Nat} {p : Int} {R0 : Nat → List Int} {c d d2 : Nat} {s' s2 : Nat → Nat} {Fk F2 : Nat → Int} (_hj : RedAt w wr eb ub rb rc g N n l u p R0 c d s' Fk) (hc : c < u) (hb : Box 114 w5 eb #[modV p, .int .i64 (u : Int), .slice (some ⟨rb, 0, none⟩) n rc, .int .i64 (d2 : Int)]) (hr : PRows w5 rb g N n l s2 p F2)
    (heq : ∀ i, i < n → rowAtF F2 s2 l i = (elimE p n R0 (c + 1)).1 i) (hd : (elimE p n R0 (c + 1)).2 = d2) (hdn : d2 ≤ n) (ho : Only (fun q => q = g ∨ q = rb ∨ q = eb ∨ w.heap.size ≤ q) w w5) (hcell : w5.cell? ⟨ub, 0, none⟩ = some (.int .i64 (c : Int))) (hfz : w5.frozen? ⟨ub, 0, none⟩ = false)
    (hub : w.heap.size ≤ ub) (h1 : ub ≠ rb) (h2 : ub ≠ g) (h3 : ub ≠ eb) : RedAt w (w5.setCell ⟨ub, 0, none⟩ (.int .i64 ((c : Int) + 1))) eb ub rb rc g N n l u p R0 (c + 1) d2 s2 F2 :=
  ⟨hc, World.cell?_setCell_same _ _ _ hcell, by simpa using hfz, hb.other (Ne.symm h3) _, hr.other h1 h2 _, heq, hd, hdn, ho.setCell (p := ⟨ub, 0, none⟩) (Or.inr (Or.inr (Or.inr hub))) _⟩

theorem red_lt {o1 o2 : Option Value} {c u : Nat} (h1 : o1 = some (.int .i64 ((c + 1 : Nat) : Int))) (h2 : o2 = some (.int .i64 (c : Int))) (hc : c ≤ u) (hne : ¬ c = u) : u - (intOf (o1.getD undef)).toNat < u - (intOf (o2.getD undef)).toNat := by
  subst h1
  subst h2
  simp only [Option.getD_some, intOf]
  omega

set_option linter.unusedSimpArgs false in
set_option maxHeartbeats 1000000 in
set_option maxRecDepth 100000 in
theorem reducePC (eb u rb rc n g N l : Nat) (s : Nat → Nat) (p : Int) (F : Nat → Int) (w : World) (hb : Box 114 w eb #[modV p, .int .i64 (u : Int), .slice (some ⟨rb, 0, none⟩) n rc, .int .i64 (0 : Int)]) (h : PRows w rb g N n l s p F) (hp : PrimeP p) (heg : eb ≠ g) (her : eb ≠ rb) (hul : u < l) (hu : u ≤ 12) (hN : N ≤ 1000) (hn : n ≤ 1000) (hrb : rb < w.heap.size) (hrc : n ≤ rc) :
    Calls Try.prog 137 #[.pointer (some ⟨eb, 0, none⟩)] w fun e w' => ∃ s' F', e = .returned (.tuple #[]) ∧ PRows w' rb g N n l s' p F' ∧ Box 114 w' eb #[modV p, .int .i64 (u : Int), .slice (some ⟨rb, 0, none⟩) n rc, .int .i64 ((elimE p n (rowAtF F s l) u).2 : Int)] ∧ (∀ i, i < n → rowAtF F' s' l i = (elimE p n (rowAtF F s l) u).1 i) ∧ Only (fun q => q = g ∨ q = rb ∨ q = eb ∨ w.heap.size ≤ q) w w' := by
  obtain ⟨ub, hub⟩ : ∃ ub, w.heap.size = ub := ⟨_, rfl⟩
  have HBX := Lib.hid hb
  have HPR := Lib.hid h
  have HPP := Lib.hid hp
  have heb := hb.lt
  have hg := h.inn
  clear hb h
  go_enter Try.func137, Try.ntmps137
  go_wp2
  refine scope_back 0 (fun a' wr => ∃ (c d : Nat) (s' : Nat → Nat) (Fk : Nat → Int) (u1 u3 u4 u5 u6 u7 u8 u9 u10 u11 u12 u13 u14 u15 u16 u17 u18 u19 u20 u21 u22 u23 u24 u25 u26 u27 u28 u29 u30 u31 u32 u33 u34 u35 u36 u37 u38 u39 u40 u41 u42 u43 u44 u45 u46 : Value), a' = { tmps := #[.pointer (some ⟨eb, 0, none⟩), u1, .pointer (some ⟨ub, 0, none⟩), u3, u4, u5, u6, u7, u8, u9, u10, u11, u12, u13, u14, u15, u16, u17, u18, u19, u20, u21, u22, u23, u24, u25, u26, u27, u28, u29, u30, u31, u32, u33, u34, u35, u36, u37, u38, u39, u40, u41, u42, u43, u44, u45, u46], defers := [] } ∧ RedAt w wr eb ub rb rc g N n l u p (rowAtF F s l) c d s' Fk) (fun _ wr => u - (intOf ((wr.cell? ⟨ub, 0, none⟩).getD undef)).toNat) rfl ?_ ?_
  · rintro a' wr ⟨c, d, s', Fk, u1, u3, u4, u5, u6, u7, u8, u9, u10, u11, u12, u13, u14, u15, u16, u17, u18, u19, u20, u21, u22, u23, u24, u25, u26, u27, u28, u29, u30, u31, u32, u33, u34, u35, u36, u37, u38, u39, u40, u41, u42, u43, u44, u45, u46, rfl, hj⟩
    have HJ := Lib.hid hj
    have x0 := hj.cell
    have x1 : wr.cell? ⟨eb, 1, none⟩ = some (.int .i64 (u : Int)) := hj.box.c 1 rfl
    have x2 : wr.cell? ⟨eb, 2, none⟩ = some (.slice (some ⟨rb, 0, none⟩) n rc) := hj.box.c 2 rfl
    have x3 : wr.cell? ⟨eb, 3, none⟩ = some (.int .i64 (d : Int)) := hj.box.c 3 rfl
    have hdn := hj.dn
    have hcu := hj.cu
    have HR2 : Hid (PRows wr.drew.drew rb g N n l s' p Fk) := Lib.hid (hj.rows.drewN_ 2)
    have x0d : wr.drew.drew.cell? ⟨ub, 0, none⟩ = some (.int .i64 (c : Int)) := hj.cell
    have fzd : wr.drew.drew.frozen? ⟨ub, 0, none⟩ = false := hj.frz
    have hub1 : ub ≠ rb := by omega
    have hub2 : ub ≠ g := by omega
    have hub3 : ub ≠ eb := by omega
    have hul2 : ub < wr.heap.size := World.block_lt_of_cell? _ _ x0
    have heb2 : eb < wr.heap.size := hj.box.lt
    have hrb2 : rb < wr.heap.size := Nat.lt_of_lt_of_le hrb hj.only.size
    have hw1 : IntKind.i64.wrap ((c : Int) + 1) = (c : Int) + 1 := IntWalk.i64_in _ (by omega)
    have HB4 : Hid (Box 114 wr.drew.drew.drew eb #[modV p, .int .i64 (u : Int), .slice (some ⟨rb, 0, none⟩) n rc, .int .i64 (d : Int)]) := Lib.hid hj.box
    have HP4 : Hid (PRows wr.drew.drew.drew rb g N n l s' p Fk) := Lib.hid (hj.rows.drewN_ 3)
    have hdn2 : (d : Int) ≤ (n : Int) := by omega
    clear hj
    by_cases hc : c = u
    · have hcb : ((c : Int) == (u : Int)) = true := by rw [hc]; simp
      have HC := Lib.hid hc
      clear hc
      go_wp2_with fail
      refine wp_region_noPanic ?_
      refine wp_region_late (S := (fun w' => w'.cell? ⟨ub, 0, none⟩ = some (.int .i64 (c : Int)) ∧ w'.cell? ⟨eb, 1, none⟩ = some (.int .i64 (u : Int)))) [5] (by kernel_rfl) ?_ (fun hHeld => ?_)
      · exact ⟨x0, x1⟩
      refine wpAnyL_take (i := 0) (v := ?_) (some 4) rfl rfl (by kernel_rfl) (by kernel_rfl) (by kernel_rfl) (by kernel_rfl) (by kernel_rfl) (fun _ _ _ h => h) (Or.inl ⟨by rfl, ?_⟩) (by assumption) ?_
      rotate_left
      · intro wS hSw
        try dsimp only at hSw
        go_simp
        try with_reducible rfl
      try simp only [Act.put, List.setIfInBounds_toArray, List.set_cons_zero, List.set_cons_succ]
      refine wpAnyL_free (i := 1) (v := ?_) (some 5) rfl rfl (by kernel_rfl) (by kernel_rfl) (by kernel_rfl) (by decide) (fun _ _ _ h => h) (Or.inl ⟨by rfl, ?_⟩) (fun h0 => by assumption) ?_
      rotate_left
      · intro wS
        go_simp
        try with_reducible rfl
      try simp only [Act.put, List.setIfInBounds_toArray, List.set_cons_zero, List.set_cons_succ]
      refine wpAnyL_free (i := 2) (v := ?_) (some 6) rfl rfl (by kernel_rfl) (by kernel_rfl) (by kernel_rfl) (by decide) (fun _ _ _ h => h) (Or.inl ⟨by rfl, ?_⟩) (fun h0 => by assumption) ?_
      rotate_left
      · intro wS
        go_simp
        try with_reducible rfl
      try simp only [Act.put, List.setIfInBounds_toArray, List.set_cons_zero, List.set_cons_succ]
      refine wpAnyL_free (i := 3) (v := ?_) (some 7) rfl rfl (by kernel_rfl) (by kernel_rfl) (by kernel_rfl) (by decide) (fun _ _ _ h => h) (Or.inl ⟨by rfl, ?_⟩) (fun h0 => by assumption) ?_
      rotate_left
      · intro wS
        go_simp
        try with_reducible rfl
      try simp only [Act.put, List.setIfInBounds_toArray, List.set_cons_zero, List.set_cons_succ]
      refine wpAnyL_take (i := 4) (v := ?_) (some 8) rfl rfl (by kernel_rfl) (by kernel_rfl) (by kernel_rfl) (by kernel_rfl) (by kernel_rfl) (fun _ _ _ h => h) (Or.inl ⟨by rfl, ?_⟩) (by assumption) ?_
      rotate_left
      · intro wS hSw
        try dsimp only at hSw
        go_simp
        try with_reducible rfl
      try simp only [Act.put, List.setIfInBounds_toArray, List.set_cons_zero, List.set_cons_succ]
      refine wpAnyL_ready (rs := [5]) (by kernel_rfl) (by simp) ?_
      refine AllReadyL.last rfl (by kernel_rfl) (fun K hK => ?_) AllReadyL.nil
      go_simp
      refine hK.out _ _ ?_
      clear hK K
      try simp only [Act.put, List.setIfInBounds_toArray, List.set_cons_zero, List.set_cons_succ]
      refine wpAnyL_done (by kernel_rfl) ?_ _
      refine NoPanic.normal ?_
      clear hHeld
      go_wp2
      simp only [Exit.jump]
      refine bodyPost_ret (results_none rfl _ _ _) rfl ?_
      have e := HC.out
      subst e
      exact ⟨s', Fk, rfl, HJ.out.rows.drewN_ 1, by rw [HJ.out.done]; exact HJ.out.box, HJ.out.eq, HJ.out.only.drew⟩
    · have hcb : ((c : Int) == (u : Int)) = false := by rw [beq_eq_false_iff_ne]; omega
      have HC := Lib.hid hc
      clear hc
      go_wp2_with fail
      refine wp_region_noPanic ?_
      refine wp_region_late (S := (fun w' => w'.cell? ⟨ub, 0, none⟩ = some (.int .i64 (c : Int)) ∧ w'.cell? ⟨eb, 1, none⟩ = some (.int .i64 (u : Int)))) [5] (by kernel_rfl) ?_ (fun hHeld => ?_)
      · exact ⟨x0, x1⟩
      refine wpAnyL_take (i := 0) (v := ?_) (some 4) rfl rfl (by kernel_rfl) (by kernel_rfl) (by kernel_rfl) (by kernel_rfl) (by kernel_rfl) (fun _ _ _ h => h) (Or.inl ⟨by rfl, ?_⟩) (by assumption) ?_
      rotate_left
      · intro wS hSw
        try dsimp only at hSw
        go_simp
        try with_reducible rfl
      try simp only [Act.put, List.setIfInBounds_toArray, List.set_cons_zero, List.set_cons_succ]
      refine wpAnyL_free (i := 1) (v := ?_) (some 5) rfl rfl (by kernel_rfl) (by kernel_rfl) (by kernel_rfl) (by decide) (fun _ _ _ h => h) (Or.inl ⟨by rfl, ?_⟩) (fun h0 => by assumption) ?_
      rotate_left
      · intro wS
        go_simp
        try with_reducible rfl
      try simp only [Act.put, List.setIfInBounds_toArray, List.set_cons_zero, List.set_cons_succ]
      refine wpAnyL_free (i := 2) (v := ?_) (some 6) rfl rfl (by kernel_rfl) (by kernel_rfl) (by kernel_rfl) (by decide) (fun _ _ _ h => h) (Or.inl ⟨by rfl, ?_⟩) (fun h0 => by assumption) ?_
      rotate_left
      · intro wS
        go_simp
        try with_reducible rfl
      try simp only [Act.put, List.setIfInBounds_toArray, List.set_cons_zero, List.set_cons_succ]
      refine wpAnyL_free (i := 3) (v := ?_) (some 7) rfl rfl (by kernel_rfl) (by kernel_rfl) (by kernel_rfl) (by decide) (fun _ _ _ h => h) (Or.inl ⟨by rfl, ?_⟩) (fun h0 => by assumption) ?_
      rotate_left
      · intro wS
        go_simp
        try with_reducible rfl
      try simp only [Act.put, List.setIfInBounds_toArray, List.set_cons_zero, List.set_cons_succ]
      refine wpAnyL_take (i := 4) (v := ?_) (some 8) rfl rfl (by kernel_rfl) (by kernel_rfl) (by kernel_rfl) (by kernel_rfl) (by kernel_rfl) (fun _ _ _ h => h) (Or.inl ⟨by rfl, ?_⟩) (by assumption) ?_
      rotate_left
      · intro wS hSw
        try dsimp only at hSw
        go_simp
        try with_reducible rfl
      try simp only [Act.put, List.setIfInBounds_toArray, List.set_cons_zero, List.set_cons_succ]
      refine wpAnyL_ready (rs := [5]) (by kernel_rfl) (by simp) ?_
      refine AllReadyL.last rfl (by kernel_rfl) (fun K hK => ?_) AllReadyL.nil
      go_simp
      refine hK.out _ _ ?_
      clear hK K
      try simp only [Act.put, List.setIfInBounds_toArray, List.set_cons_zero, List.set_cons_succ]
      refine wpAnyL_done (by kernel_rfl) ?_ _
      refine NoPanic.normal ?_
      clear hHeld
      go_wp2_with fail
      refine wp_region_noPanic ?_
      refine wp_region_late (S := (fun w' => w'.cell? ⟨eb, 2, none⟩ = some (.slice (some ⟨rb, 0, none⟩) n rc) ∧ w'.cell? ⟨eb, 3, none⟩ = some (.int .i64 (d : Int)))) [10, 11] (by kernel_rfl) ?_ (fun hHeld => ?_)
      · exact ⟨x2, x3⟩
      refine wpAnyL_free (i := 0) (v := ?_) (some 10) rfl rfl (by kernel_rfl) (by kernel_rfl) (by kernel_rfl) (by decide) (fun _ _ _ h => h) (Or.inl ⟨by rfl, ?_⟩) (fun h0 => by assumption) ?_
      rotate_left
      · intro wS
        go_simp
        try with_reducible rfl
      try simp only [Act.put, List.setIfInBounds_toArray, List.set_cons_zero, List.set_cons_succ]
      refine wpAnyL_free (i := 1) (v := ?_) (some 11) rfl rfl (by kernel_rfl) (by kernel_rfl) (by kernel_rfl) (by decide) (fun _ _ _ h => h) (Or.inl ⟨by rfl, ?_⟩) (fun h0 => by assumption) ?_
      rotate_left
      · intro wS
        go_simp
        try with_reducible rfl
      try simp only [Act.put, List.setIfInBounds_toArray, List.set_cons_zero, List.set_cons_succ]
      refine wpAnyL_free (i := 2) (v := ?_) (some 12) rfl rfl (by kernel_rfl) (by kernel_rfl) (by kernel_rfl) (by decide) (fun _ _ _ h => h) (Or.inl ⟨by rfl, ?_⟩) (fun h0 => by assumption) ?_
      rotate_left
      · intro wS
        go_simp
        try with_reducible rfl
      try simp only [Act.put, List.setIfInBounds_toArray, List.set_cons_zero, List.set_cons_succ]
      refine wpAnyL_take (i := 3) (v := ?_) (some 13) rfl rfl (by kernel_rfl) (by kernel_rfl) (by kernel_rfl) (by kernel_rfl) (by kernel_rfl) (fun _ _ _ h => h) (Or.inl ⟨by rfl, ?_⟩) (by assumption) ?_
      rotate_left
      · intro wS hSw
        try dsimp only at hSw
        go_simp
        try with_reducible rfl
      try simp only [Act.put, List.setIfInBounds_toArray, List.set_cons_zero, List.set_cons_succ]
      refine wpAnyL_free (i := 4) (v := ?_) (some 14) rfl rfl (by kernel_rfl) (by kernel_rfl) (by kernel_rfl) (by decide) (fun _ _ _ h => h) (Or.inl ⟨by rfl, ?_⟩) (fun h0 => by assumption) ?_
      rotate_left
      · intro wS
        go_simp
        try with_reducible rfl
      try simp only [Act.put, List.setIfInBounds_toArray, List.set_cons_zero, List.set_cons_succ]
      refine wpAnyL_free (i := 5) (v := ?_) (some 15) rfl rfl (by kernel_rfl) (by kernel_rfl) (by kernel_rfl) (by decide) (fun _ _ _ h => h) (Or.inl ⟨by rfl, ?_⟩) (fun h0 => by assumption) ?_
      rotate_left
      · intro wS
        go_simp
        try with_reducible rfl
      try simp only [Act.put, List.setIfInBounds_toArray, List.set_cons_zero, List.set_cons_succ]
      refine wpAnyL_free (i := 6) (v := ?_) (some 16) rfl rfl (by kernel_rfl) (by kernel_rfl) (by kernel_rfl) (by decide) (fun _ _ _ h => h) (Or.inl ⟨by rfl, ?_⟩) (fun h0 => by assumption) ?_
      rotate_left
      · intro wS
        go_simp
        try with_reducible rfl
      try simp only [Act.put, List.setIfInBounds_toArray, List.set_cons_zero, List.set_cons_succ]
      refine wpAnyL_take (i := 7) (v := ?_) (some 17) rfl rfl (by kernel_rfl) (by kernel_rfl) (by kernel_rfl) (by kernel_rfl) (by kernel_rfl) (fun _ _ _ h => h) (Or.inl ⟨by rfl, ?_⟩) (by assumption) ?_
      rotate_left
      · intro wS hSw
        try dsimp only at hSw
        go_simp
        try with_reducible rfl
      try simp only [Act.put, List.setIfInBounds_toArray, List.set_cons_zero, List.set_cons_succ]
      refine wpAnyL_free (i := 8) (v := ?_) (some 18) rfl rfl (by kernel_rfl) (by kernel_rfl) (by kernel_rfl) (by decide) (fun _ _ _ h => h) (Or.inl ⟨by rfl, ?_⟩) (fun h0 => by assumption) ?_
      rotate_left
      · intro wS
        go_simp
        try with_reducible rfl
      try simp only [Act.put, List.setIfInBounds_toArray, List.set_cons_zero, List.set_cons_succ]
      refine wpAnyL_ready (rs := [9]) (by kernel_rfl) (by simp) ?_
      refine AllReadyL.cons rfl (fun K hK => ?_) AllReadyL.nil
      go_simp
      refine hK.out _ _ ?_ (fun hHeld => ?_)
      · exact hHeld
      clear hK K
      try simp only [Act.put, List.setIfInBounds_toArray, List.set_cons_zero, List.set_cons_succ]
      refine wpAnyL_ready (rs := [10]) (by kernel_rfl) (by simp) ?_
      refine AllReadyL.last rfl (by kernel_rfl) (fun K hK => ?_) AllReadyL.nil
      go_simp; go_at_call 185; refine (indexRowC _ ub rb g N n l d c _ (n - d) s' p Fk _ HR2.out x0d (by omega) (by omega) (by omega) (fun hq => if_neg (by omega))).mono ?_; rintro e w4 ⟨m, rfl, hm, rfl⟩
      refine hK.out _ _ ?_
      clear hK K
      try simp only [Act.put, List.setIfInBounds_toArray, List.set_cons_zero, List.set_cons_succ]
      refine wpAnyL_ready (rs := [11]) (by kernel_rfl) (by simp) ?_
      refine AllReadyL.last rfl (by kernel_rfl) (fun K hK => ?_) AllReadyL.nil
      go_simp
      refine hK.out _ _ ?_
      clear hK K
      try simp only [Act.put, List.setIfInBounds_toArray, List.set_cons_zero, List.set_cons_succ]
      refine wpAnyL_done (by kernel_rfl) ?_ _
      refine NoPanic.normal ?_
      clear hHeld
      generalize (if rc = d then (some ⟨rb, 0, none⟩ : Option Addr) else some ⟨rb, d, none⟩) = adr
      rcases hm with ⟨rfl, hz⟩ | ⟨k, hk, rfl, hnz, hz⟩
      · have HNO : Hid (elimE p n (rowAtF F s l) (c + 1) = elimE p n (rowAtF F s l) c) := Lib.hid (by
          show stepE p n c (elimE p n (rowAtF F s l) c) = _
          unfold stepE
          rw [HJ.out.done, if_pos (findE_eq n d n hdn (Nat.le_refl _) (by omega) (fun j h1 h2 => by rw [← HJ.out.eq j h2]; exact hz j h1 h2) (fun h => by omega))])
        have HNX := Lib.hid (HJ.out.next (w5 := wr.drew.drew) (by have := HC.out; omega) HJ.out.box HR2.out (by rw [HNO.out]; exact HJ.out.eq) (by rw [HNO.out]; exact HJ.out.done) hdn HJ.out.only.drew.drew x0d fzd (by omega) hub1 hub2 hub3)
        go_wp2
        go_step3
        exact ⟨rfl, ⟨c + 1, d, s', Fk, _, _, _, _, _, _, _, _, _, _, _, _, _, _, _, _, _, _, _, _, _, _, _, _, _, _, _, _, _, _, _, _, _, _, _, _, _, _, _, _, _, _, _, _, _, rfl, HNX.out⟩, by have e := HNX.out.cell; have e0 := HC.out; exact red_lt e x0 hcu e0⟩
      · have hk0 : (0 : Int) ≤ (k : Int) := by omega
        have hwk : IntKind.i64.wrap ((d : Int) + (k : Int)) = ((d + k : Nat) : Int) := by rw [IntWalk.i64_in _ (by omega)]; rfl
        go_wp2_with fail
        refine wp_region_noPanic ?_
        refine wp_region_late (S := (fun w' => w'.cell? ⟨eb, 3, none⟩ = some (.int .i64 (d : Int)))) [11] (by kernel_rfl) ?_ (fun hHeld => ?_)
        · exact x3
        refine wpAnyL_free (i := 0) (v := ?_) (some 23) rfl rfl (by kernel_rfl) (by kernel_rfl) (by kernel_rfl) (by decide) (fun _ _ _ h => h) (Or.inl ⟨by rfl, ?_⟩) (fun h0 => by assumption) ?_
        rotate_left
        · intro wS
          go_simp
          try with_reducible rfl
        try simp only [Act.put, List.setIfInBounds_toArray, List.set_cons_zero, List.set_cons_succ]
        refine wpAnyL_free (i := 1) (v := ?_) (some 24) rfl rfl (by kernel_rfl) (by kernel_rfl) (by kernel_rfl) (by decide) (fun _ _ _ h => h) (Or.inl ⟨by rfl, ?_⟩) (fun h0 => by assumption) ?_
        rotate_left
        · intro wS
          go_simp
          try with_reducible rfl
        try simp only [Act.put, List.setIfInBounds_toArray, List.set_cons_zero, List.set_cons_succ]
        refine wpAnyL_free (i := 2) (v := ?_) (some 25) rfl rfl (by kernel_rfl) (by kernel_rfl) (by kernel_rfl) (by decide) (fun _ _ _ h => h) (Or.inl ⟨by rfl, ?_⟩) (fun h0 => by assumption) ?_
        rotate_left
        · intro wS
          go_simp
          try with_reducible rfl
        try simp only [Act.put, List.setIfInBounds_toArray, List.set_cons_zero, List.set_cons_succ]
        refine wpAnyL_free (i := 3) (v := ?_) (some 26) rfl rfl (by kernel_rfl) (by kernel_rfl) (by kernel_rfl) (by decide) (fun _ _ _ h => h) (Or.inl ⟨by rfl, ?_⟩) (fun h0 => by assumption) ?_
        rotate_left
        · intro wS
          go_simp
          try with_reducible rfl
        try simp only [Act.put, List.setIfInBounds_toArray, List.set_cons_zero, List.set_cons_succ]
        refine wpAnyL_take (i := 4) (v := ?_) (some 27) rfl rfl (by kernel_rfl) (by kernel_rfl) (by kernel_rfl) (by kernel_rfl) (by kernel_rfl) (fun _ _ _ h => h) (Or.inl ⟨by rfl, ?_⟩) (by assumption) ?_
        rotate_left
        · intro wS hSw
          try dsimp only at hSw
          go_simp
          try with_reducible rfl
        try simp only [Act.put, List.setIfInBounds_toArray, List.set_cons_zero, List.set_cons_succ]
        refine wpAnyL_free (i := 5) (v := ?_) (some 28) rfl rfl (by kernel_rfl) (by kernel_rfl) (by kernel_rfl) (by decide) (fun _ _ _ h => h) (Or.inl ⟨by rfl, ?_⟩) (fun h0 => by assumption) ?_
        rotate_left
        · intro wS
          go_simp
          try with_reducible rfl
        try simp only [Act.put, List.setIfInBounds_toArray, List.set_cons_zero, List.set_cons_succ]
        refine wpAnyL_free (i := 6) (v := ?_) (some 29) rfl rfl (by kernel_rfl) (by kernel_rfl) (by kernel_rfl) (by decide) (fun _ _ _ h => h) (Or.inl ⟨by rfl, ?_⟩) (fun h0 => by assumption) ?_
        rotate_left
        · intro wS
          go_simp
          try with_reducible rfl
        try simp only [Act.put, List.setIfInBounds_toArray, List.set_cons_zero, List.set_cons_succ]
        refine wpAnyL_free (i := 7) (v := ?_) (some 30) rfl rfl (by kernel_rfl) (by kernel_rfl) (by kernel_rfl) (by decide) (fun _ _ _ h => h) (Or.inl ⟨by rfl, ?_⟩) (fun h0 => by assumption) ?_
        rotate_left
        · intro wS
          go_simp
          try with_reducible rfl
        try simp only [Act.put, List.setIfInBounds_toArray, List.set_cons_zero, List.set_cons_succ]
        refine wpAnyL_take (i := 8) (v := ?_) (some 31) rfl rfl (by kernel_rfl) (by kernel_rfl) (by kernel_rfl) (by kernel_rfl) (by kernel_rfl) (fun _ _ _ h => h) (Or.inl ⟨by rfl, ?_⟩) (by assumption) ?_
        rotate_left
        · intro wS hSw
          try dsimp only at hSw
          go_simp
          try with_reducible rfl
        try simp only [Act.put, List.setIfInBounds_toArray, List.set_cons_zero, List.set_cons_succ]
        refine wpAnyL_free (i := 9) (v := ?_) (some 32) rfl rfl (by kernel_rfl) (by kernel_rfl) (by kernel_rfl) (by decide) (fun _ _ _ h => h) (Or.inl ⟨by rfl, ?_⟩) (fun h0 => by assumption) ?_
        rotate_left
        · intro wS
          go_simp
          try with_reducible rfl
        try simp only [Act.put, List.setIfInBounds_toArray, List.set_cons_zero, List.set_cons_succ]
        refine wpAnyL_free (i := 10) (v := ?_) (some 33) rfl rfl (by kernel_rfl) (by kernel_rfl) (by kernel_rfl) (by decide) (fun _ _ _ h => h) (Or.inl ⟨by rfl, ?_⟩) (fun h0 => by assumption) ?_
        rotate_left
        · intro wS
          go_simp
          try with_reducible rfl
        try simp only [Act.put, List.setIfInBounds_toArray, List.set_cons_zero, List.set_cons_succ]
        refine wpAnyL_ready (rs := [11]) (by kernel_rfl) (by simp) ?_
        refine AllReadyL.last rfl (by kernel_rfl) (fun K hK => ?_) AllReadyL.nil
        go_simp; go_at_call 187; refine (swapC eb u rb rc n d d (d + k) g N l s' p Fk _ HB4.out HP4.out (by omega) hk).mono ?_; rintro e w5 ⟨rfl, hp5, ho5⟩
        refine hK.out _ _ ?_
        clear hK K
        try simp only [Act.put, List.setIfInBounds_toArray, List.set_cons_zero, List.set_cons_succ]
        refine wpAnyL_done (by kernel_rfl) ?_ _
        refine NoPanic.normal ?_
        clear hHeld
        have ho5' : Only (fun q => q = rb) wr w5 := ⟨ho5.os, ho5.tape, ho5.output, ho5.size, ho5.block⟩
        have HB5 := Lib.hid (HJ.out.box.same (ho5'.block eb heb2 her))
        have HP5 := Lib.hid hp5
        have x05 := (World.cell?_of_block (ho5'.block ub hul2 hub1)).trans x0
        have fz5 := (World.frozen?_of_block (ho5'.block ub hul2 hub1)).trans HJ.out.frz
        have hub5 : ub < w5.heap.size := Nat.lt_of_lt_of_le hul2 ho5'.size
        have heb5 : eb < w5.heap.size := Nat.lt_of_lt_of_le heb2 ho5'.size
        have hrb5 : rb < w5.heap.size := Nat.lt_of_lt_of_le hrb2 ho5'.size
        have HO5 := Lib.hid (HJ.out.only.trans (ho5'.mono (fun q h => Or.inr (Or.inl h))))
        clear hp5 ho5 ho5'
        go_wp2_with fail
        refine (clearC eb u rb rc n d c g N l (fun q => s' (swapI d (d + k) q)) p Fk _ HB5.out HP5.out HPP.out heg (by omega) (by omega) hN hn hrb5).mono ?_
        rintro e w6 ⟨F6, rfl, hp6, hr6, ho6⟩
        have HB6 := Lib.hid (HB5.out.same (ho6.block eb heb5 heg))
        have y3 : w6.cell? ⟨eb, 3, none⟩ = some (.int .i64 (d : Int)) := HB6.out.c 3 rfl
        have y3f := HB6.out.free 3
        have hw2 : IntKind.i64.wrap ((d : Int) + 1) = (d : Int) + 1 := IntWalk.i64_in _ (by omega)
        have x06 : (w6.setCell ⟨eb, 3, none⟩ (.int .i64 ((d : Int) + 1))).cell? ⟨ub, 0, none⟩ = some (.int .i64 (c : Int)) := (World.cell?_setCell_other _ _ _ _ (by intro e; simp only [Addr.mk.injEq] at e; omega)).trans ((World.cell?_of_block (ho6.block ub hub5 hub2)).trans x05)
        have fz6 : (w6.setCell ⟨eb, 3, none⟩ (.int .i64 ((d : Int) + 1))).frozen? ⟨ub, 0, none⟩ = false := by
          have e := (World.frozen?_of_block (ho6.block ub hub5 hub2)).trans fz5
          simpa using e
        have HB7 : Hid (Box 114 (w6.setCell ⟨eb, 3, none⟩ (.int .i64 ((d : Int) + 1))) eb #[modV p, .int .i64 (u : Int), .slice (some ⟨rb, 0, none⟩) n rc, .int .i64 ((d : Int) + 1)]) := Lib.hid (HB6.out.set 3 _)
        have HST : Hid (elimE p n (rowAtF F s l) (c + 1) = (clearK p (swapF (elimE p n (rowAtF F s l) c).1 d (d + k)) d c n, d + 1)) := Lib.hid (by
          show stepE p n c (elimE p n (rowAtF F s l) c) = _
          unfold stepE
          have hf : findE (elimE p n (rowAtF F s l) c).1 c n n d = d + k := findE_eq n d (d + k) (by omega) (by omega) (by omega) (fun j h1 h2 => by rw [← HJ.out.eq j (by omega)]; exact hz j h1 h2) (fun h => by rw [← HJ.out.eq _ h]; exact hnz)
          rw [HJ.out.done, hf, if_neg (by omega)])
        have HNX := Lib.hid (HJ.out.next (d2 := d + 1) (by have := HC.out; omega) HB7.out (hp6.other (Ne.symm (Ne.symm her)) heg _) (fun i hi => by
          rw [HST.out, hr6 i hi]
          refine clearK_congr (n := n) (fun i hi => ?_) (by omega) hi
          rw [rowAtF_swap]
          exact swapF_congr HJ.out.eq (by omega) hk hi) (by rw [HST.out]) (by omega) ((HO5.out.trans (ho6.mono (fun q h => Or.inl h))).setCell (p := ⟨eb, 3, none⟩) (Or.inr (Or.inr (Or.inl rfl))) _) x06 fz6 (by omega) hub1 hub2 hub3)
        clear hp6 hr6 ho6
        go_wp2
        go_step3
        exact ⟨rfl, ⟨c + 1, d + 1, _, F6, _, _, _, _, _, _, _, _, _, _, _, _, _, _, _, _, _, _, _, _, _, _, _, _, _, _, _, _, _, _, _, _, _, _, _, _, _, _, _, _, _, _, _, _, _, rfl, HNX.out⟩, by have e := HNX.out.cell; have e0 := HC.out; exact red_lt e x0 hcu e0⟩
  · intro hpass
    have hnew : Below w.heap.size w (w.alloc (Obj.cells #[Value.int IntKind.i64 0] 2)) := (Below.refl _ _).alloc (Nat.le_refl _) _
    have HBN : Hid (Box 2 (w.alloc (Obj.cells #[Value.int IntKind.i64 0] 2)) ub #[.int .i64 0]) := Lib.hid (by rw [← hub]; exact Box.new _ _ _)
    have HJ0 : Hid (RedAt w (w.alloc (Obj.cells #[Value.int IntKind.i64 0] 2)) eb ub rb rc g N n l u p (rowAtF F s l) 0 0 s F) := Lib.hid ⟨Nat.zero_le _, HBN.out.c 0 rfl, HBN.out.free 0, HBX.out.below hnew, HPR.out.turn (fun _ => hrb) (hnew.only) (HPR.out.flat.same (hnew.block g hg)) HPR.out.low (fun o => (World.frozen?_of_block (hnew.block rb hrb)).trans (HPR.out.frz o)), fun i hi => rfl, rfl, Nat.zero_le _, hnew.only⟩
    go_wp2
    go_step3
    rename_i K hK
    refine hK _ _ (hpass _ _ ⟨0, 0, s, F, _, _, _, _, _, _, _, _, _, _, _, _, _, _, _, _, _, _, _, _, _, _, _, _, _, _, _, _, _, _, _, _, _, _, _, _, _, _, _, _, _, _, _, _, _, rfl, HJ0.out⟩)

end Go.Proofs.Ytnbgpeoceejolaa

namespace Go.Proofs.Ytnbgpeoceejolaa
open Go.RowKit

/-- So many cells, with the numbers of a function. -/
def arrF (N : Nat) (F : Nat → Int) : List Value := (List.range N).map fun o => Value.int .i64 (F o)
theorem arrF_len (N : Nat) (F : Nat → Int) : (arrF N F).length = N := by simp [arrF]
theorem arrF_at {N : Nat} {F : Nat → Int} {i : Nat} (h : i < N) : (arrF N F)[i]? = some (.int .i64 (F i)) := by simp [arrF, h]
theorem arrF_out {N : Nat} {F : Nat → Int} {i : Nat} (h : N ≤ i) : (arrF N F)[i]? = none := by simp [arrF, h]
theorem arrF_ext {N : Nat} {F : Nat → Int} {xs : List Value} (hl : xs.length = N) (h : ∀ i, i < N → xs[i]? = some (.int .i64 (F i))) : xs = arrF N F := by
  apply List.ext_getElem?
  intro i
  by_cases hi : i < N
  · rw [h i hi, arrF_at hi]
  · rw [arrF_out (by omega), List.getElem?_eq_none (by omega)]
theorem arrF_set (N : Nat) (F : Nat → Int) (o : Nat) (x : Int) : (arrF N F).toArray.setIfInBounds o (.int .i64 x) = (arrF N (fun q => if q = o then x else F q)).toArray := by
  rw [List.setIfInBounds_toArray]
  congr 1
  refine arrF_ext (by rw [List.length_set, arrF_len]) fun i hi => ?_
  rw [List.getElem?_set]
  by_cases h : o = i
  · subst h
    simp [arrF_len, hi]
  · rw [if_neg h, arrF_at hi, if_neg (Ne.symm h)]
theorem arrF_splice {N off : Nat} {F : Nat → Int} {xs : List Int} (h : off + xs.length ≤ N) :
    (arrF N F).take off ++ (xs.map (Value.int .i64) ++ (arrF N F).drop (off + xs.length)) = arrF N (fun q => if off ≤ q ∧ q < off + xs.length then intN xs (q - off) else F q) := by
  refine arrF_ext (by simp [arrF_len]; omega) fun i hi => ?_
  by_cases h1 : i < off
  · rw [List.getElem?_append_left (by rw [List.length_take, arrF_len]; omega), List.getElem?_take, if_pos h1, arrF_at hi, if_neg (by omega)]
  · rw [List.getElem?_append_right (by rw [List.length_take, arrF_len]; omega), List.length_take, arrF_len, Nat.min_eq_left (by omega)]
    by_cases h2 : i < off + xs.length
    · rw [List.getElem?_append_left (by rw [List.length_map]; omega), List.getElem?_map, List.getElem?_eq_getElem (by omega), if_pos (by omega)]
      simp [intN_at _ _ (show i - off < xs.length by omega)]
    · rw [List.getElem?_append_right (by rw [List.length_map]; omega), List.length_map, List.getElem?_drop, if_neg (by omega), show off + xs.length + (i - off - xs.length) = i by omega, arrF_at hi]
theorem arrF_zero (N : Nat) : List.replicate N (Value.int .i64 0) = arrF N fun _ => 0 :=
  arrF_ext (by simp) fun i hi => by simp [hi]
theorem Box.flat {T : TypeId} {w : World} {g N : Nat} {F : Nat → Int} (h : Box T w g (arrF N F).toArray) : Flat w g N F :=
  ⟨fun o ho => h.c o (by rw [List.getElem?_toArray, arrF_at ho]), fun o => h.free o⟩
theorem Box.arr {T : TypeId} {w : World} {g N : Nat} {F : Nat → Int} (h : Box T w g (arrF N F).toArray) (o : Nat) (x : Int) : Box T (w.setCell ⟨g, o, none⟩ (.int .i64 x)) g (arrF N (fun q => if q = o then x else F q)).toArray := by
  rw [← arrF_set]
  exact h.set o _

/-- The numbers of the first k rows of a system, each of the length l. -/
def rowsF (rs : List (Int × List Int)) (l k : Nat) : Nat → Int := fun q => if q < k * l then intN (row0 rs (q / l)) (q % l) else 0
theorem rowsF_zero (rs : List (Int × List Int)) (l : Nat) : rowsF rs l 0 = fun _ => 0 := by
  funext q
  simp [rowsF]
theorem rowsF_in {rs : List (Int × List Int)} {l k i j : Nat} (hi : i < k) (hj : j < l) : rowsF rs l k (i * l + j) = intN (row0 rs i) j := by
  unfold rowsF
  have h1 : i * l + j < k * l := by
    have := Nat.mul_le_mul_right l (show i + 1 ≤ k from hi)
    rw [Nat.succ_mul] at this
    omega
  have h2 : (i * l + j) / l = i := by
    rw [Nat.mul_comm, Nat.mul_add_div (by omega), Nat.div_eq_of_lt hj, Nat.add_zero]
  have h3 : (i * l + j) % l = j := by
    rw [Nat.mul_comm, Nat.mul_add_mod, Nat.mod_eq_of_lt hj]
  rw [if_pos h1, h2, h3]
/-- One more row. -/
def fillF (rs : List (Int × List Int)) (u fo i : Nat) (F : Nat → Int) : Nat → Int := fun q =>
  if q = fo + (u + 1 + i) then 1 else if q = fo + u then arO rs i else if fo ≤ q ∧ q < fo + (rowO rs i).length then intN (rowO rs i) (q - fo) else F q
theorem row0_at {rs : List (Int × List Int)} {u i j : Nat} (hl : (rowO rs i).length = u) (hj : j < u + 1 + rs.length) : intN (row0 rs i) j = if j = u + 1 + i then 1 else if j = u then arO rs i else if j < u then intN (rowO rs i) j else 0 := by
  obtain ⟨h1, h2, h3, h4⟩ := row0_parts (rs := rs) hl
  by_cases h5 : j < u
  · rw [if_neg (by omega), if_neg (by omega), if_pos h5]
    have e := intN_take (x := row0 rs i) h5
    rw [h1] at e
    exact e.symm
  · by_cases h6 : j = u
    · subst h6
      rw [if_neg (by omega), if_pos rfl, h2]
    · have e := intN_drop (x := row0 rs i) (u := u + 1) (i := j - (u + 1))
      rw [h3, show u + 1 + (j - (u + 1)) = j by omega, intN_at _ _ (by simp [unitL]; omega)] at e
      simp only [unitL, List.getElem_map, List.getElem_range] at e
      rw [← e, if_neg h6, if_neg h5]
      by_cases h7 : j = u + 1 + i
      · rw [if_pos h7, if_pos (by omega)]
      · rw [if_neg h7, if_neg (by omega)]
theorem fillF_rows {rs : List (Int × List Int)} {u l i : Nat} (hl : (rowO rs i).length = u) (hu : l = u + 1 + rs.length) (hi : i < rs.length) : fillF rs u (i * l) i (rowsF rs l i) = rowsF rs l (i + 1) := by
  funext q
  by_cases h1 : q < i * l
  · have h2 : q < (i + 1) * l := by rw [Nat.succ_mul]; omega
    unfold fillF
    rw [if_neg (by omega), if_neg (by omega), if_neg (by omega)]
    unfold rowsF
    rw [if_pos h1, if_pos h2]
  · by_cases h2 : q < i * l + l
    · obtain ⟨j, rfl⟩ : ∃ j, q = i * l + j := ⟨q - i * l, by omega⟩
      have hj : j < l := by omega
      rw [rowsF_in (Nat.lt_succ_self i) hj, row0_at hl (by omega)]
      unfold fillF
      rw [hl, show i * l + j - i * l = j by omega]
      by_cases h3 : j = u + 1 + i
      · rw [if_pos (by omega), if_pos h3]
      · rw [if_neg (by omega), if_neg h3]
        by_cases h4 : j = u
        · rw [if_pos (by omega), if_pos h4]
        · rw [if_neg (by omega), if_neg h4]
          by_cases h5 : j < u
          · rw [if_pos (by omega), if_pos h5]
          · rw [if_neg (by omega), if_neg h5]
            unfold rowsF
            rw [if_neg (by omega)]
    · unfold fillF
      rw [if_neg (by omega), if_neg (by omega), if_neg (by omega)]
      unfold rowsF
      rw [if_neg h1, if_neg (by rw [Nat.succ_mul]; omega)]
theorem rowsF_low {p : Int} {rs : List (Int × List Int)} {u l : Nat} (hok : SysOk p u rs) : LowF p (rowsF rs l rs.length) := fun q => by
  have hp : 2 ≤ p := by rcases hok.1 with rfl | rfl <;> omega
  unfold rowsF
  by_cases h : q < rs.length * l
  · rw [if_pos h]
    have h1 : q / l < rs.length := Nat.div_lt_of_lt_mul (by rw [Nat.mul_comm]; exact h)
    exact ((row0_good hok) _ h1).2.any (by omega) _
  · rw [if_neg h]
    omega
theorem rowsF_row {rs : List (Int × List Int)} {u l i : Nat} (hl : (rowO rs i).length = u) (hu : l = u + 1 + rs.length) (hi : i < rs.length) : rowAtF (rowsF rs l rs.length) (fun i => i) l i = row0 rs i := by
  apply list_ext_intN
  · rw [rowAtF_len, (row0_parts (rs := rs) hl).2.2.2, hu]
  · intro j hj
    rw [rowAtF_len] at hj
    rw [rowAtF_at hj, rowsF_in hi hj]

end Go.Proofs.Ytnbgpeoceejolaa

namespace Go.Proofs.Ytnbgpeoceejolaa
open Go.RowKit

theorem only_setRow {g : Nat} {w0 w : World} (h : Only (fun q => q = g) w0 w) (cs : Array Value) : Only (fun q => q = g) w0 (w.setRow g cs) :=
  ⟨h.os, h.tape, h.output, by have := h.size; simpa [World.setRow] using this, fun k hk hne => (setRow_other w g k cs hne).trans (h.block k hk hne)⟩

set_option linter.unusedSimpArgs false in
set_option maxHeartbeats 4000000 in
set_option maxRecDepth 100000 in
theorem fillC (sb g fo i l u N : Nat) (p : Int) (rs : List (Int × List Int)) (F : Nat → Int) (T : TypeId) (w0 w : World) (hs : SysAt w0 sb 0 p u rs) (hok : SysOk p u rs) (hw : Below w0.heap.size w0 w) (hg : w0.heap.size ≤ g) (hb : Box T w g (arrF N F).toArray) (hi : i < rs.length) (hl : l = u + 1 + rs.length) (hfit : fo + l ≤ N) (hN : N ≤ 1000) :
    Calls Try.prog 135 #[.int .i64 (i : Int), .slice (some ⟨g, fo, none⟩) l l, .pointer (some ⟨sb, 0, none⟩)] w fun e w' => e = .returned (.tuple #[]) ∧ Box T w' g (arrF N (fillF rs u fo i F)).toArray ∧ Only (fun q => q = g) w w' := by
  have hn24 := hok.2.2.1
  have hu12 : 1 ≤ u ∧ u ≤ 12 := by have := hok.2.1; unfold InP at this; omega
  obtain ⟨hlen, hr, _⟩ := hok.2.2.2 i hi
  have hxl : (rowO rs i).length = u := by omega
  obtain ⟨_, hun, a0, n0, c0, hls, hes⟩ := hs
  obtain ⟨ea, ec, hv, hnn, hel⟩ := hes
  simp only [Value.slice.injEq] at hv
  obtain ⟨rfl, rfl, rfl⟩ := hv
  obtain ⟨eb, ef, rfl, hel2⟩ := hel (by omega)
  obtain ⟨er, la, ln, lc, el, hrow⟩ := hel2 i hi
  obtain ⟨la2, lc2, hv2, hle, hcells⟩ := hrow
  simp only [Value.slice.injEq] at hv2
  obtain ⟨rfl, rfl, rfl⟩ := hv2
  obtain ⟨lb, lo, rfl, hcell⟩ := hcells (by omega)
  obtain ⟨r, hrr⟩ : ∃ r, arO rs i = r := ⟨_, rfl⟩
  rw [hrr] at er
  have x1 : w.cell? ⟨sb, 1, none⟩ = some (.int .i64 (u : Int)) := below_cell hw hun
  have x2 : w.cell? ⟨sb, 2, none⟩ = some (.slice (some ⟨eb, ef, none⟩) rs.length c0) := below_cell hw hls
  have x3 := below_cell hw er
  have x4 := below_cell hw el
  have hsbg : sb ≠ g := by have := cell_block_lt hun; simp only at this; omega
  have hebg : eb ≠ g := by have := cell_block_lt er; simp only at this; omega
  have hsb : sb < w.heap.size := by have := cell_block_lt hun; have := hw.size; simp only at *; omega
  have heb : eb < w.heap.size := by have := cell_block_lt er; have := hw.size; simp only at *; omega
  have HCELL : Hid (∀ (j : Nat) (v : Value), ((rowO rs i).map (Value.int .i64))[j]? = some v → w.cell? ((⟨lb, lo, none⟩ : Addr).add j) = some v) := Lib.hid (fun j v hj => by
    rw [List.getElem?_map] at hj
    by_cases hjl : j < (rowO rs i).length
    · rw [List.getElem?_eq_getElem hjl] at hj
      simp only [Option.map_some, Option.some.injEq] at hj
      have e : w.cell? ⟨lb, lo + j, none⟩ = some (Value.int .i64 (intN (rowO rs i) j)) := below_cell hw (hcell j hjl)
      rw [intN_at _ _ hjl, hj] at e
      rw [Addr.add_lit]
      exact e
    · rw [List.getElem?_eq_none (by omega)] at hj
      simp at hj)
  have HN : Hid (((rowO rs i).map (Value.int .i64)).length = Nat.min (rowO rs i).length l) := Lib.hid (by rw [List.length_map]; exact (Nat.min_eq_left (by omega)).symm)
  have HFIT : Hid (fo + ((rowO rs i).map (Value.int .i64)).length ≤ (arrF N F).toArray.size) := Lib.hid (by rw [List.length_map, List.size_toArray, arrF_len]; omega)
  have HB := Lib.hid hb
  have HRR := Lib.hid hrr
  obtain ⟨F2, hF2⟩ : ∃ F2 : Nat → Int, (fun q => if fo ≤ q ∧ q < fo + (rowO rs i).length then intN (rowO rs i) (q - fo) else F q) = F2 := ⟨_, rfl⟩
  have HSP : Hid ((arrF N F).toArray.toList.take fo ++ ((rowO rs i).map (Value.int .i64) ++ (arrF N F).toArray.toList.drop (fo + ((rowO rs i).map (Value.int .i64)).length)) = arrF N F2) := Lib.hid (by
    rw [List.length_map, ← hF2]
    exact arrF_splice (by omega))
  have HF2 := Lib.hid hF2
  have HXL := Lib.hid hxl
  have hw12 : IntKind.i64.wrap ((u : Int) + 1) = ((u + 1 : Nat) : Int) := by rw [IntWalk.i64_in _ (by omega)]; rfl
  have hw13 : IntKind.i64.wrap (((u + 1 : Nat) : Int) + (i : Int)) = ((u + 1 + i : Nat) : Int) := by rw [IntWalk.i64_in _ (by omega)]; rfl
  have hul : (u : Int) < (l : Int) := by omega
  have hil : ((u + 1 + i : Nat) : Int) < (l : Int) := by omega
  have hin : (i : Int) < (rs.length : Int) := by omega
  have hul0 : u < l := by omega
  have hil0 : u + 1 + i < l := by omega
  have HLE := Lib.hid hl
  clear hl
  clear hok hel hel2 hcell hcells hb hrr hF2 hlen hr hnn hle hw hun hls er el hxl
  go_enter Try.func135, Try.ntmps135
  go_wp2_with (refine wpList_copy_own rfl (.tmp 5) (.tmp 11) 34 34 rfl 2 Try.underlying34 (by kernel_rfl) g fo l l ⟨lb, lo, none⟩ _ _ rfl rfl _ T HB.out ((rowO rs i).map (Value.int .i64)) HN.out HCELL.out HFIT.out (fun v hv => by obtain ⟨x, _, rfl⟩ := List.mem_map.1 hv; rfl) ?_; rw [HSP.out]; obtain ⟨w2, hw2⟩ : ∃ w2, w.setRow g (arrF N F2).toArray = w2 := ⟨_, rfl⟩; rw [hw2]; have HW2 := Lib.hid hw2; clear hw2)
  have hw2 := HW2.out
  have HO2 : Hid (Only (fun q => q = g) w w2) := Lib.hid (by rw [← hw2]; exact only_setRow (Only.refl _ _) _)
  have HB2 : Hid (Box T w2 g (arrF N F2).toArray) := Lib.hid (by rw [← hw2]; exact setRow_heap w g _ _ T _ HB.out)
  clear hw2
  have y1 := (World.cell?_of_block (HO2.out.block sb hsb hsbg)).trans x1
  have y2 := (World.cell?_of_block (HO2.out.block sb hsb hsbg)).trans x2
  have y3 := (World.cell?_of_block (HO2.out.block eb heb hebg)).trans x3
  have c1 := HB2.out.flat.1 (fo + u) (by omega)
  have f1 := HB2.out.flat.2 (fo + u)
  have HB3 := Lib.hid (HB2.out.arr (fo + u) r)
  have c2 := HB3.out.flat.1 (fo + (u + 1 + i)) (by omega)
  have f2 := HB3.out.flat.2 (fo + (u + 1 + i))
  have z1 : (w2.setCell ⟨g, fo + u, none⟩ (.int .i64 r)).cell? ⟨sb, 1, none⟩ = _ := (World.cell?_setCell_other _ _ _ _ (by intro e; simp only [Addr.mk.injEq] at e; omega)).trans y1
  have HBF : Hid (Box T ((w2.setCell ⟨g, fo + u, none⟩ (.int .i64 r)).setCell ⟨g, fo + (u + 1 + i), none⟩ (.int .i64 1)).drew g (arrF N (fillF rs u fo i F)).toArray) := Lib.hid (by
    have e := HB3.out.arr (fo + (u + 1 + i)) 1
    rw [← HF2.out] at e
    unfold fillF
    rw [HRR.out]
    exact e)
  have HOF : Hid (Only (fun q => q = g) w ((w2.setCell ⟨g, fo + u, none⟩ (.int .i64 r)).setCell ⟨g, fo + (u + 1 + i), none⟩ (.int .i64 1)).drew) := Lib.hid ((HO2.out.setCell (p := ⟨g, fo + u, none⟩) rfl _).setCell (p := ⟨g, fo + (u + 1 + i), none⟩) rfl _).drew
  clear x1 x2 x3 x4
  go_wp2_with fail
  refine wp_region_noPanic ?_
  refine wp_region_late (S := (fun w' => w'.cell? ⟨sb, 1, none⟩ = some (.int .i64 (u : Int)) ∧ w'.cell? ⟨sb, 2, none⟩ = some (.slice (some ⟨eb, ef, none⟩) rs.length c0) ∧ w'.cell? ⟨eb, ef + i * 2 + 1, none⟩ = some (.int .i64 r))) [10] (by kernel_rfl) ?_ (fun hHeld => ?_)
  · exact ⟨y1, y2, y3⟩
  refine wpAnyL_free (i := 0) (v := ?_) (some 13) rfl rfl (by kernel_rfl) (by kernel_rfl) (by kernel_rfl) (by decide) (fun _ _ _ h => h) (Or.inl ⟨by rfl, ?_⟩) (fun h0 => by assumption) ?_
  rotate_left
  · intro wS
    go_simp
    try with_reducible rfl
  try simp only [Act.put, List.setIfInBounds_toArray, List.set_cons_zero, List.set_cons_succ]
  refine wpAnyL_free (i := 1) (v := ?_) (some 14) rfl rfl (by kernel_rfl) (by kernel_rfl) (by kernel_rfl) (by decide) (fun _ _ _ h => h) (Or.inl ⟨by rfl, ?_⟩) (fun h0 => by assumption) ?_
  rotate_left
  · intro wS
    go_simp
    try with_reducible rfl
  try simp only [Act.put, List.setIfInBounds_toArray, List.set_cons_zero, List.set_cons_succ]
  refine wpAnyL_take (i := 2) (v := ?_) (some 15) rfl rfl (by kernel_rfl) (by kernel_rfl) (by kernel_rfl) (by kernel_rfl) (by kernel_rfl) (fun _ _ _ h => h) (Or.inl ⟨by rfl, ?_⟩) (by assumption) ?_
  rotate_left
  · intro wS hSw
    try dsimp only at hSw
    go_simp
    try with_reducible rfl
  try simp only [Act.put, List.setIfInBounds_toArray, List.set_cons_zero, List.set_cons_succ]
  refine wpAnyL_free (i := 3) (v := ?_) (some 16) rfl rfl (by kernel_rfl) (by kernel_rfl) (by kernel_rfl) (by decide) (fun _ _ _ h => h) (Or.inl ⟨by rfl, ?_⟩) (fun h0 => by assumption) ?_
  rotate_left
  · intro wS
    go_simp
    try with_reducible rfl
  try simp only [Act.put, List.setIfInBounds_toArray, List.set_cons_zero, List.set_cons_succ]
  refine wpAnyL_take (i := 4) (v := ?_) (some 17) rfl rfl (by kernel_rfl) (by kernel_rfl) (by kernel_rfl) (by kernel_rfl) (by kernel_rfl) (fun _ _ _ h => h) (Or.inl ⟨by rfl, ?_⟩) (by assumption) ?_
  rotate_left
  · intro wS hSw
    try dsimp only at hSw
    go_simp
    try with_reducible rfl
  try simp only [Act.put, List.setIfInBounds_toArray, List.set_cons_zero, List.set_cons_succ]
  refine wpAnyL_free (i := 5) (v := ?_) (some 18) rfl rfl (by kernel_rfl) (by kernel_rfl) (by kernel_rfl) (by decide) (fun _ _ _ h => h) (Or.inl ⟨by rfl, ?_⟩) (fun h0 => by assumption) ?_
  rotate_left
  · intro wS
    go_simp
    try with_reducible rfl
  try simp only [Act.put, List.setIfInBounds_toArray, List.set_cons_zero, List.set_cons_succ]
  refine wpAnyL_free (i := 6) (v := ?_) (some 19) rfl rfl (by kernel_rfl) (by kernel_rfl) (by kernel_rfl) (by decide) (fun _ _ _ h => h) (Or.inl ⟨by rfl, ?_⟩) (fun h0 => by assumption) ?_
  rotate_left
  · intro wS
    go_simp
    try with_reducible rfl
  try simp only [Act.put, List.setIfInBounds_toArray, List.set_cons_zero, List.set_cons_succ]
  refine wpAnyL_free (i := 7) (v := ?_) (some 20) rfl rfl (by kernel_rfl) (by kernel_rfl) (by kernel_rfl) (by decide) (fun _ _ _ h => h) (Or.inl ⟨by rfl, ?_⟩) (fun h0 => by assumption) ?_
  rotate_left
  · intro wS
    go_simp
    try with_reducible rfl
  try simp only [Act.put, List.setIfInBounds_toArray, List.set_cons_zero, List.set_cons_succ]
  refine wpAnyL_take (i := 8) (v := ?_) (some 21) rfl rfl (by kernel_rfl) (by kernel_rfl) (by kernel_rfl) (by kernel_rfl) (by kernel_rfl) (fun _ _ _ h => h) (Or.inl ⟨by rfl, ?_⟩) (by assumption) ?_
  rotate_left
  · intro wS hSw
    try dsimp only at hSw
    go_simp
    try with_reducible rfl
  try simp only [Act.put, List.setIfInBounds_toArray, List.set_cons_zero, List.set_cons_succ]
  refine wpAnyL_free (i := 9) (v := ?_) (some 22) rfl rfl (by kernel_rfl) (by kernel_rfl) (by kernel_rfl) (by decide) (fun _ _ _ h => h) (Or.inl ⟨by rfl, ?_⟩) (fun h0 => by assumption) ?_
  rotate_left
  · intro wS
    go_simp
    try with_reducible rfl
  try simp only [Act.put, List.setIfInBounds_toArray, List.set_cons_zero, List.set_cons_succ]
  refine wpAnyL_ready (rs := [10]) (by kernel_rfl) (by simp) ?_
  refine AllReadyL.last rfl (by kernel_rfl) (fun K hK => ?_) AllReadyL.nil
  go_simp
  refine hK.out _ _ ?_
  clear hK K
  try simp only [Act.put, List.setIfInBounds_toArray, List.set_cons_zero, List.set_cons_succ]
  refine wpAnyL_done (by kernel_rfl) ?_ _
  refine NoPanic.normal ?_
  clear hHeld
  go_wp2
  go_end0
  exact ⟨rfl, HBF.out, HOF.out⟩

end Go.Proofs.Ytnbgpeoceejolaa

namespace Go.Proofs.Ytnbgpeoceejolaa
open Go.RowKit

/-- The slices of rows in one array, of which the first k have been cut. -/
def sliA (g l n k : Nat) : List Value := (List.range n).map fun j => if j < k then .slice (some ⟨g, j * l, none⟩) l l else .slice none 0 0
theorem sliA_zero (g l n : Nat) : List.replicate n (Value.slice none 0 0) = sliA g l n 0 := by
  apply List.ext_getElem?
  intro i
  unfold sliA
  by_cases h : i < n
  · simp [h]
  · simp [h]
theorem sliA_set (g l n k : Nat) : (sliA g l n k).toArray.setIfInBounds k (.slice (some ⟨g, k * l, none⟩) l l) = (sliA g l n (k + 1)).toArray := by
  rw [List.setIfInBounds_toArray]
  congr 1
  apply List.ext_getElem?
  intro i
  rw [List.getElem?_set]
  unfold sliA
  by_cases hn : i < n
  · by_cases h : k = i
    · subst h
      simp [hn]
    · rw [if_neg h]
      by_cases h2 : i < k
      · simp [hn, h2, show i < k + 1 by omega]
      · simp [hn, h2, show ¬ i < k + 1 by omega]
  · by_cases h : k = i
    · subst h
      simp [hn]
    · simp [hn, h]
theorem sliA_at {g l n k i : Nat} (hi : i < k) (hn : i < n) : (sliA g l n k).toArray[i]? = some (.slice (some ⟨g, i * l, none⟩) l l) := by
  simp [sliA, hn, hi]
theorem sliA_cell {g l n k i : Nat} (hn : i < n) : ∃ v, (sliA g l n k).toArray[i]? = some v := by
  simp [sliA, hn]
theorem zero888 : Try.zeroCells245 = (arrF 888 fun _ => 0).toArray := by kernel_rfl
set_option maxRecDepth 100000 in
theorem cut888 (g fo hi l : Nat) (h1 : fo + l = hi) (h2 : hi ≤ 888) (w : World) : (Instr.sliceAt 245 (.pointer (some ⟨g, 0, none⟩)) (some (.int .i64 (fo : Int))) (some (.int .i64 (hi : Int))) (some (.int .i64 (hi : Int)))).run Try.prog w = .ok (.slice (some (if l = 0 then ⟨g, 0, none⟩ else ⟨g, fo, none⟩)) l l) w := by
  have hal : Try.prog.arrayLen 245 = 888 := by kernel_rfl
  have hsz : (sizeOf (Try.prog.elem 245)).run Try.prog w = .ok 1 w := by kernel_rfl
  have h := run_sliceAt_array_lhm (P := Try.prog) w 245 ⟨g, 0, none⟩ (by kernel_rfl) .i64 .i64 .i64 (fo : Int) (hi : Int) (hi : Int) (by omega) (by omega) (by omega) (by rw [hal]; omega)
  rw [h, hsz]
  subst h1
  simp only [Result.andThen, slicedAt, Int.toNat_natCast, Nat.mul_one, Nat.add_sub_cancel_left]
  congr 2
  by_cases h0 : l = 0
  · subst h0; simp
  · rw [if_neg (by omega), if_neg h0, Addr.add_lit, Nat.zero_add]
theorem info_sliT : (Try.prog.info? 34).map (fun i => (i.zero, i.size, i.bytes)) = some (some (.slice none 0 0), 1, 24) := by kernel_rfl
theorem make_slices (n : Nat) (hn : n ≤ 1000) (w : World) : (Instr.makeSlice 53 (.int .i64 n) (.int .i64 n)).run Try.prog w = .ok (.slice (some ⟨w.heap.size, 0, none⟩) n n) (w.alloc (.cells (Array.replicate n (Value.slice none 0 0)) 34)) := by
  obtain ⟨i0, hi, hz0, hz1, hz2⟩ := info_parts info_sliT
  have h := run_makeSlice (P := Try.prog) w 53 34 i0 (.slice none 0 0) Try.underlying53 hi hz0 .i64 .i64 n n (by omega) (by omega) (by rw [hz1]; simp; omega) (by rw [hz2]; omega) (by omega)
  rw [h, hz1]
  have e : madeCells (Value.slice none 0 0).cells (n * 1) = Array.replicate n (Value.slice none 0 0) := by
    apply Array.ext'
    rw [Nat.mul_one]
    simpa [Value.cells] using toList_madeCells_one (.slice none 0 0) n
  rw [Int.toNat_natCast, e]

set_option linter.unusedSimpArgs false in
set_option maxHeartbeats 4000000 in
set_option maxRecDepth 100000 in
theorem rowsByC (sb u l : Nat) (p : Int) (rs : List (Int × List Int)) (w : World) (hs : SysAt w sb 0 p u rs) (hok : SysOk p u rs) (hl : l = u + 1 + rs.length) :
    Calls Try.prog 134 #[.int .i64 (rs.length : Int), .int .i64 (l : Int), .func (.func 135) #[] #[.pointer (some ⟨sb, 0, none⟩)]] w fun e w' => ∃ g rb, e = .returned (.slice (some ⟨rb, 0, none⟩) rs.length rs.length) ∧ PRows w' rb g 888 rs.length l (fun i => i) p (rowsF rs l rs.length) ∧ w.heap.size ≤ g ∧ w.heap.size ≤ rb ∧ rb < w'.heap.size ∧ Below w.heap.size w w' := by
  have hn24 := hok.2.2.1
  have hu12 : 1 ≤ u ∧ u ≤ 12 := by have := hok.2.1; unfold InP at this; omega
  have hl37 : l ≤ 37 := by omega
  have HS := Lib.hid hs
  have HOK := Lib.hid hok
  have HL := Lib.hid hl
  have hmk := make_slices rs.length (by omega)
  obtain ⟨n, hn⟩ : ∃ n, rs.length = n := ⟨_, rfl⟩
  have HNN := Lib.hid hn
  have HFITS : Hid (∀ k, k < n → k * l + l ≤ 888) := Lib.hid fun k hk => by
    have h1 := Nat.mul_le_mul (show k + 1 ≤ 24 by omega) hl37
    rw [Nat.succ_mul] at h1
    omega
  rw [hn] at hmk hn24 ⊢
  clear hs hok hl hn
  go_enter Try.func134, Try.ntmps134
  obtain ⟨g, hg⟩ : ∃ g, w.heap.size = g := ⟨_, rfl⟩
  have HB1 : Hid (Below w.heap.size w (w.alloc (.cells Try.zeroCells245 245))) := Lib.hid ((Below.refl _ _).alloc (Nat.le_refl _) _)
  have HBA : Hid (Box 245 (w.alloc (.cells Try.zeroCells245 245)) w.heap.size (arrF 888 (rowsF rs l 0)).toArray) := Lib.hid (by
    rw [rowsF_zero, ← zero888]
    exact Box.new _ _ _)
  have hsz : (w.alloc (.cells Try.zeroCells245 245)).heap.size = g + 1 := by simp [hg]
  go_wp2
  obtain ⟨w1, hw1⟩ : ∃ w1, w.alloc (.cells Try.zeroCells245 245) = w1 := ⟨_, rfl⟩
  rw [hw1] at HB1 HBA hsz ⊢
  rw [hg] at HBA
  have HW2 : Hid (Below w.heap.size w (w1.alloc (.cells (Array.replicate n (Value.slice none 0 0)) 34))) := Lib.hid (HB1.out.alloc HB1.out.size _)
  have HBR : Hid (Box 34 (w1.alloc (.cells (Array.replicate n (Value.slice none 0 0)) 34)) (g + 1) (sliA g l n 0).toArray) := Lib.hid (by
    rw [← sliA_zero, ← hsz]
    simp only [List.toArray_replicate]
    exact Box.new _ _ _)
  have HBG : Hid (Box 245 (w1.alloc (.cells (Array.replicate n (Value.slice none 0 0)) 34)) g (arrF 888 (rowsF rs l 0)).toArray) := Lib.hid (HBA.out.below ((Below.refl _ _).alloc (Nat.le_refl _) _))
  have HGE := Lib.hid hg
  have HSZ : Hid (g + 1 < (w1.alloc (.cells (Array.replicate n (Value.slice none 0 0)) 34)).heap.size) := Lib.hid (by simp [hsz])
  clear hw1 hsz hmk hg
  go_loopw [14] (fun v wr => ∃ k : Nat, k ≤ n ∧ v = .int .i64 k ∧ Box 245 wr g (arrF 888 (rowsF rs l k)).toArray ∧ Box 34 wr (g + 1) (sliA g l n k).toArray ∧ Below w.heap.size w wr) (fun v _ => n - (intOf v).toNat)
  case atStart => exact ⟨0, Nat.zero_le _, rfl, HBG.out, HBR.out, HW2.out⟩
  case round =>
    obtain ⟨k, hk, rfl, hbg, hbr, hbw⟩ := hrel
    have HG := Lib.hid hbg
    have HR := Lib.hid hbr
    have HW := Lib.hid hbw
    clear hbg hbr hbw
    by_cases hlt : k < n
    · have hkn : (k : Int) < (n : Int) := by omega
      obtain ⟨fo, hfo⟩ : ∃ fo, k * l = fo := ⟨_, rfl⟩
      have hfit := HFITS.out k hlt
      rw [hfo] at hfit
      have hm0 : (k : Int) * (l : Int) = (fo : Int) := by rw [← hfo, Int.natCast_mul]
      have hm1 : IntKind.i64.wrap (fo : Int) = (fo : Int) := IntWalk.i64_in _ (by omega)
      obtain ⟨hi, hhi⟩ : ∃ hi, fo + l = hi := ⟨_, rfl⟩
      have hm3 : wrap64 (((k : Int) + 1) * (l : Int)) = (hi : Int) := by
        have e : ((k : Int) + 1) * (l : Int) = (hi : Int) := by rw [Int.add_mul, Int.one_mul, hm0, ← hhi]; rfl
        rw [e]
        unfold wrap64
        omega
      have hcut := fun w => cut888 g fo hi l hhi (by omega) w
      have HHI := Lib.hid hhi
      clear hhi
      obtain ⟨v0, hv0⟩ := sliA_cell (g := g) (l := l) (k := k) hlt
      have c0 := HR.out.c k hv0
      have f0 := HR.out.free k
      have HFO := Lib.hid hfo
      clear hfo hv0
      have hl0 : ¬ l = 0 := by have := HL.out; omega
      have hkr : k < rs.length := by have := HNN.out; omega
      have HR2 : Hid (Box 34 (wr.setCell ⟨g + 1, k, none⟩ (.slice (some ⟨g, fo, none⟩) l l)) (g + 1) (sliA g l n (k + 1)).toArray) := Lib.hid (by
        rw [← sliA_set, ← HFO.out]
        exact HR.out.set k _)
      have HG2 : Hid (Box 245 (wr.setCell ⟨g + 1, k, none⟩ (.slice (some ⟨g, fo, none⟩) l l)) g (arrF 888 (rowsF rs l k)).toArray) := Lib.hid (HG.out.other (show g ≠ g + 1 by omega) _)
      have HW3 : Hid (Below w.heap.size w (wr.setCell ⟨g + 1, k, none⟩ (.slice (some ⟨g, fo, none⟩) l l))) := Lib.hid (HW.out.setCell (p := ⟨g + 1, k, none⟩) (by show w.heap.size ≤ g + 1; have := HGE.out; omega) _)
      have HXL : Hid ((rowO rs k).length = u) := Lib.hid (by have := (HOK.out.2.2.2 k hkr).1; omega)
      go_wp2_with fail
      refine (fillC sb g fo k l u 888 p rs (rowsF rs l k) 245 w _ HS.out HOK.out HW3.out (Nat.le_of_eq HGE.out) HG2.out hkr HL.out (by have := HHI.out; omega) (by decide)).mono ?_
      rintro e w4 ⟨rfl, hb4, ho4⟩
      have HG4 : Hid (Box 245 w4 g (arrF 888 (rowsF rs l (k + 1))).toArray) := Lib.hid (by
        rw [← fillF_rows HXL.out HL.out hkr, HFO.out]
        exact hb4)
      have HR4 := Lib.hid (HR2.out.same (ho4.block (g + 1) HR2.out.lt (show ¬ g + 1 = g by omega)))
      have HW4 := Lib.hid (HW3.out.trans (ho4.below HW3.out.size (fun q hq => by have := HGE.out; omega)))
      clear hb4 ho4
      go_wp2
      go_roundw
      case rel => exact ⟨k + 1, by omega, by go_num, HG4.out, HR4.out, HW4.out⟩
      case measure => simp [intOf]; omega
    · obtain rfl : k = n := by omega
      go_wp2
      go_ret
      have HXL : Hid (∀ i, i < rs.length → (rowO rs i).length = u) := Lib.hid fun i hi => by have := (HOK.out.2.2.2 i hi).1; omega
      have hgw := HG.out.lt
      refine ⟨g, g + 1, rfl, ⟨fun i hi => HR.out.c i (sliA_at hi hi), fun o => HR.out.free o, ?_, ?_, fun i hi => hi, fun i j _ _ h => h, by omega, ?_, hgw⟩, Nat.le_of_eq HGE.out, by have := HGE.out; omega, HR.out.lt, HW.out⟩
      · have := HG.out.flat
        rwa [← HNN.out] at this ⊢
      · rw [← HNN.out]; exact rowsF_low HOK.out
      · have := HFITS.out
        rcases Nat.eq_zero_or_pos k with h0 | h0
        · subst h0; omega
        · have h1 := this (k - 1) (by omega)
          rw [← Nat.succ_mul, Nat.succ_eq_add_one, Nat.sub_add_cancel h0] at h1
          exact h1

end Go.Proofs.Ytnbgpeoceejolaa

namespace Go.Proofs.Ytnbgpeoceejolaa
open Go.RowKit

/-- An elimination of the program in memory. -/
structure ElimAt (w : World) (eb rb g n l u d : Nat) (s : Nat → Nat) (p : Int) (F : Nat → Int) (R : Nat → List Int) : Prop where
  box : Box 114 w eb #[modV p, .int .i64 (u : Int), .slice (some ⟨rb, 0, none⟩) n n, .int .i64 (d : Int)]
  rows : PRows w rb g 888 n l s p F
  eq : ∀ i, i < n → rowAtF F s l i = R i
  hrb : rb < w.heap.size
  heb : eb < w.heap.size
  heg : eb ≠ g
  her : eb ≠ rb

theorem findE_congr {R R' : Nat → List Int} {c n : Nat} (h : ∀ i, i < n → R i = R' i) : ∀ (f k : Nat), findE R c n f k = findE R' c n f k := by
  intro f
  induction f with
  | zero => intro k; rfl
  | succ f ih =>
    intro k
    show (if k < n ∧ intN (R k) c = 0 then findE R c n f (k + 1) else k) = (if k < n ∧ intN (R' k) c = 0 then findE R' c n f (k + 1) else k)
    rw [ih (k + 1)]
    by_cases hk : k < n
    · rw [h k hk]
    · rw [if_neg (fun e => hk e.1), if_neg (fun e => hk e.1)]
theorem elimE_congr {p : Int} {n : Nat} {R R' : Nat → List Int} (h : ∀ i, i < n → R i = R' i) (hd : ∀ u, (elimE p n R' u).2 ≤ n) : ∀ u, (∀ i, i < n → (elimE p n R u).1 i = (elimE p n R' u).1 i) ∧ (elimE p n R u).2 = (elimE p n R' u).2 := by
  intro u
  induction u with
  | zero => exact ⟨h, rfl⟩
  | succ u ih =>
    obtain ⟨i1, i2⟩ := ih
    have hdn := hd u
    show (∀ i, i < n → (stepE p n u (elimE p n R u)).1 i = (stepE p n u (elimE p n R' u)).1 i) ∧ (stepE p n u (elimE p n R u)).2 = (stepE p n u (elimE p n R' u)).2
    unfold stepE
    rw [findE_congr i1, i2]
    obtain ⟨f1, f2, _, _⟩ := findE_spec (R := (elimE p n R' u).1) (c := u) (n := n) n (elimE p n R' u).2 hdn (by omega)
    by_cases hf : findE (elimE p n R' u).1 u n n (elimE p n R' u).2 = n
    · rw [if_pos hf, if_pos hf]
      exact ⟨i1, i2⟩
    · rw [if_neg hf, if_neg hf]
      exact ⟨fun i hi => clearK_congr (fun j hj => swapF_congr i1 (by omega) (by omega) hj) (by omega) hi, rfl⟩

set_option linter.unusedSimpArgs false in
set_option maxHeartbeats 4000000 in
set_option maxRecDepth 100000 in
theorem eliminationOfC (p : Int) (u : Nat) (a : Option Addr) (n c : Nat) (rs : List (Int × List Int)) (w : World) (h : EqsAt w (.slice a n c) rs) (hok : SysOk p u rs) :
    Calls Try.prog 76 #[.agg #[.int .i64 p, .int .i64 (u : Int), .slice a n c]] w fun e w' => ∃ eb rb g s F, e = .returned (.pointer (some ⟨eb, 0, none⟩)) ∧ ElimAt w' eb rb g rs.length (u + 1 + rs.length) u (elimE p rs.length (row0 rs) u).2 s p F (elimE p rs.length (row0 rs) u).1 ∧ w.heap.size ≤ g ∧ w.heap.size ≤ rb ∧ w.heap.size ≤ eb ∧ Below w.heap.size w w' := by
  have hn24 := hok.2.2.1
  have hu12 : 1 ≤ u ∧ u ≤ 12 := by have := hok.2.1; unfold InP at this; omega
  obtain ⟨a', c', hv, _, _⟩ := id h
  simp only [Value.slice.injEq] at hv
  obtain ⟨rfl, rfl, rfl⟩ := hv
  have HS := Lib.hid (SysAt.new w p u a rs.length c rs 30 h)
  have HW1 : Hid (Below w.heap.size w (w.alloc (.cells #[.int .i64 p, .int .i64 (u : Int), .slice a rs.length c] 30))) := Lib.hid ((Below.refl _ _).alloc (Nat.le_refl _) _)
  obtain ⟨sb, hsb⟩ : ∃ sb, w.heap.size = sb := ⟨_, rfl⟩
  have HOK := Lib.hid hok
  have HPP := Lib.hid hok.1
  have HSB := Lib.hid hsb
  have x1 : (w.alloc (.cells #[.int .i64 p, .int .i64 (u : Int), .slice a rs.length c] 30)).cell? ⟨w.heap.size, 1, none⟩ = some (.int .i64 (u : Int)) := HS.out.unknowns
  have x2 : (w.alloc (.cells #[.int .i64 p, .int .i64 (u : Int), .slice a rs.length c] 30)).cell? ⟨w.heap.size, 2, none⟩ = some (.slice a rs.length c) := by simp [World.cell?_alloc_new]
  have hsz : (w.alloc (.cells #[.int .i64 p, .int .i64 (u : Int), .slice a rs.length c] 30)).heap.size = w.heap.size + 1 := by simp
  have HSZ := Lib.hid hsz
  have hw12 : IntKind.i64.wrap ((u : Int) + 1) = ((u + 1 : Nat) : Int) := by rw [IntWalk.i64_in _ (by omega)]; rfl
  have hw13 : IntKind.i64.wrap (((u + 1 : Nat) : Int) + (rs.length : Int)) = ((u + 1 + rs.length : Nat) : Int) := by rw [IntWalk.i64_in _ (by omega)]; rfl
  rw [hsb] at HS x1 x2 HW1 hsz HSZ ⊢
  obtain ⟨w1, hw1⟩ : ∃ w1, w.alloc (.cells #[.int .i64 p, .int .i64 (u : Int), .slice a rs.length c] 30) = w1 := ⟨_, rfl⟩
  rw [hw1] at HS x1 x2 HW1 HSZ
  obtain ⟨tm, htm⟩ : ∃ T, modV p = .iface T (.agg #[]) := by unfold modV; split <;> exact ⟨_, rfl⟩
  have HTM := Lib.hid htm
  clear h hok hsz htm
  go_enter Try.func76, Try.ntmps76
  go_wp2_with fail
  try simp only [hsb]
  try rw [hw1]
  clear hw1
  have hmf : ∀ (fn : Fn) (first cap : Array Value) (w : World), (Instr.makeFunc fn first cap).run Try.prog w = .ok (.func fn first cap) w := fun _ _ _ _ => rfl
  go_wp2_with fail
  refine (rowsByC sb u (u + 1 + rs.length) p rs _ HS.out HOK.out rfl).mono ?_
  rintro e w2 ⟨g, rb, rfl, hp2, hg2, hrb2, hrs2, hb2⟩
  have HP2 := Lib.hid hp2
  have HW2 := Lib.hid (HW1.out.trans (hb2.mono (by have := HSZ.out; omega)))
  have z0 : w2.cell? ⟨sb, 0, none⟩ = some (.int .i64 p) := below_cell hb2 HS.out.prime
  have z1 : w2.cell? ⟨sb, 1, none⟩ = some (.int .i64 (u : Int)) := below_cell hb2 HS.out.unknowns
  clear hp2 hb2
  obtain ⟨w3, hw3⟩ : ∃ w3, (w2.alloc (Obj.cells #[.iface tm (.agg #[]), .int .i64 (u : Int), .slice (some ⟨rb, 0, none⟩) rs.length rs.length, .int .i64 0] 114)).drew = w3 := ⟨_, rfl⟩
  have HW23 : Hid (Below w2.heap.size w2 w3) := Lib.hid (by rw [← hw3]; exact ((Below.refl _ _).alloc (Nat.le_refl _) _).drew)
  have HB3 : Hid (Box 114 w3 w2.heap.size #[modV p, .int .i64 (u : Int), .slice (some ⟨rb, 0, none⟩) rs.length rs.length, .int .i64 0]) := Lib.hid (by rw [← hw3, HTM.out]; exact Box.new _ _ _)
  have hg2' := HP2.out.inn
  have HP3 := Lib.hid (HP2.out.turn (fun _ => hrs2) HW23.out.only (HP2.out.flat.same (HW23.out.block g hg2')) HP2.out.low (fun o => (World.frozen?_of_block (HW23.out.block rb hrs2)).trans (HP2.out.frz o)))
  have hs3 : rb < w3.heap.size := Nat.lt_of_lt_of_le hrs2 HW23.out.size
  have HW3 := Lib.hid (HW2.out.trans (HW23.out.mono (by have := HW2.out.size; omega)))
  have HGD := Lib.hid (row0_good HOK.out)
  have HCG := Lib.hid (elimE_congr (p := p) (R := rowAtF (rowsF rs (u + 1 + rs.length) rs.length) (fun i => i) (u + 1 + rs.length)) (fun i hi => rowsF_row (by have := (HOK.out.2.2.2 i hi).1; omega) rfl hi) (fun v => (elimE_good (by rcases HPP.out with h | h <;> omega) HGD.out v).2) u)
  have hg3 : g < w3.heap.size := Nat.lt_of_lt_of_le hg2' HW23.out.size
  have h1sz := HSZ.out
  have HEB := Lib.hid HB3.out.lt
  obtain ⟨eb, heb⟩ : ∃ eb, w2.heap.size = eb := ⟨_, rfl⟩
  rw [heb] at HB3 HEB
  have HEE := Lib.hid heb
  have hebs := HEB.out
  have hsb2 : sb ≤ eb := by have := HW2.out.size; omega
  clear heb
  go_upto_region 3 with fail
  go_cut [5] from 17 to 23 (fun v5 wz => v5 = .pointer (some ⟨eb, 0, none⟩) ∧ wz = w3)
  case first =>
    have HW3E := Lib.hid hw3
    clear hw3
    refine wp_region_noPanic ?_
    refine wp_region_late (S := (fun w' => w'.cell? ⟨sb, 0, none⟩ = some (.int .i64 p) ∧ w'.cell? ⟨sb, 1, none⟩ = some (.int .i64 (u : Int)) ∧ Below w2.heap.size w2 w')) [8] (by kernel_rfl) ?_ (fun hHeld => ?_)
    · exact ⟨z0, z1, (QW.refl _).drew.below _⟩
    refine wpAnyL_free (i := 0) (v := ?_) (some 17) rfl rfl (by kernel_rfl) (by kernel_rfl) (by kernel_rfl) (by decide) (fun _ _ _ h => h) (Or.inl ⟨by rfl, ?_⟩) (fun h0 => by assumption) ?_
    rotate_left
    · intro wS
      go_simp
      try with_reducible rfl
    try simp only [Act.put, List.setIfInBounds_toArray, List.set_cons_zero, List.set_cons_succ]
    refine wpAnyL_take (i := 1) (v := ?_) (some 18) rfl rfl (by kernel_rfl) (by kernel_rfl) (by kernel_rfl) (by kernel_rfl) (by kernel_rfl) (fun _ _ _ h => h) (Or.inl ⟨by rfl, ?_⟩) (by assumption) ?_
    rotate_left
    · intro wS hSw
      try dsimp only at hSw
      go_simp
      try with_reducible rfl
    try simp only [Act.put, List.setIfInBounds_toArray, List.set_cons_zero, List.set_cons_succ]
    refine wpAnyL_free (i := 3) (v := ?_) (some 20) rfl rfl (by kernel_rfl) (by kernel_rfl) (by kernel_rfl) (by decide) (fun _ _ _ h => h) (Or.inl ⟨by rfl, ?_⟩) (fun h0 => by assumption) ?_
    rotate_left
    · intro wS
      go_simp
      try with_reducible rfl
    try simp only [Act.put, List.setIfInBounds_toArray, List.set_cons_zero, List.set_cons_succ]
    refine wpAnyL_take (i := 4) (v := ?_) (some 21) rfl rfl (by kernel_rfl) (by kernel_rfl) (by kernel_rfl) (by kernel_rfl) (by kernel_rfl) (fun _ _ _ h => h) (Or.inl ⟨by rfl, ?_⟩) (by assumption) ?_
    rotate_left
    · intro wS hSw
      try dsimp only at hSw
      go_simp
      try with_reducible rfl
    try simp only [Act.put, List.setIfInBounds_toArray, List.set_cons_zero, List.set_cons_succ]
    refine wpAnyL_free (i := 5) (v := ?_) (some 22) rfl rfl (by kernel_rfl) (by kernel_rfl) (by kernel_rfl) (by decide) (fun _ _ _ h => h) (Or.inl ⟨by rfl, ?_⟩) (fun h0 => by assumption) ?_
    rotate_left
    · intro wS
      go_simp
      try with_reducible rfl
    try simp only [Act.put, List.setIfInBounds_toArray, List.set_cons_zero, List.set_cons_succ]
    refine wpAnyL_ready (rs := [2, 7]) (by kernel_rfl) (by simp) ?_
    refine AllReadyL.cons rfl (fun K hK => ?_) ?_
    · skip
      go_simp; go_at_call 136; refine (modulusOfC p _ HPP.out).mono ?_; rw [HTM.out]; rintro e w4 ⟨rfl, rfl⟩
      refine hK.out _ _ ?_ (fun hHeld => ?_)
      · exact hHeld
      clear hK K
      try simp only [Act.put, List.setIfInBounds_toArray, List.set_cons_zero, List.set_cons_succ]
      refine wpAnyL_free (i := 6) (v := ?_) (some 23) rfl rfl (by kernel_rfl) (by kernel_rfl) (by kernel_rfl) (by decide) (fun _ _ _ h => h) (Or.inl ⟨by rfl, ?_⟩) (fun h0 => by assumption) ?_
      rotate_left
      · intro wS
        go_simp
        try with_reducible rfl
      try simp only [Act.put, List.setIfInBounds_toArray, List.set_cons_zero, List.set_cons_succ]
      refine wpAnyL_ready (rs := [7]) (by kernel_rfl) (by simp) ?_
      refine AllReadyL.cons rfl (fun K hK => ?_) AllReadyL.nil
      go_simp
      refine hK.out _ _ ?_ (fun hHeld => ?_)
      · exact ⟨(below_cell ((Below.refl _ _).alloc (Nat.le_refl _) _) hHeld.1), (below_cell ((Below.refl _ _).alloc (Nat.le_refl _) _) hHeld.2.1), hHeld.2.2.alloc hHeld.2.2.size _⟩
      clear hK K
      try simp only [Act.put, List.setIfInBounds_toArray, List.set_cons_zero, List.set_cons_succ]
      refine wpAnyL_ready (rs := [8]) (by kernel_rfl) (by simp) ?_
      refine AllReadyL.last rfl (by kernel_rfl) (fun K hK => ?_) AllReadyL.nil
      go_simp
      refine hK.out _ _ ?_
      clear hK K
      try simp only [Act.put, List.setIfInBounds_toArray, List.set_cons_zero, List.set_cons_succ]
      refine wpAnyL_done (by kernel_rfl) ?_ _
      refine NoPanic.normal ?_
      clear hHeld
      go_wp2_with fail
      go_meet
      exact ⟨by rw [HEE.out], HW3E.out⟩
    refine AllReadyL.cons rfl (fun K hK => ?_) AllReadyL.nil
    go_simp
    refine hK.out _ _ ?_ (fun hHeld => ?_)
    · exact ⟨(below_cell ((Below.refl _ _).alloc (Nat.le_refl _) _) hHeld.1), (below_cell ((Below.refl _ _).alloc (Nat.le_refl _) _) hHeld.2.1), hHeld.2.2.alloc hHeld.2.2.size _⟩
    clear hK K
    try simp only [Act.put, List.setIfInBounds_toArray, List.set_cons_zero, List.set_cons_succ]
    refine wpAnyL_ready (rs := [2]) (by kernel_rfl) (by simp) ?_
    refine AllReadyL.cons rfl (fun K hK => ?_) AllReadyL.nil
    go_simp; go_at_call 136; refine (modulusOfC p _ HPP.out).mono ?_; rw [HTM.out]; rintro e w4 ⟨rfl, rfl⟩
    refine hK.out _ _ ?_ (fun hHeld => ?_)
    · exact hHeld
    clear hK K
    try simp only [Act.put, List.setIfInBounds_toArray, List.set_cons_zero, List.set_cons_succ]
    refine wpAnyL_free (i := 6) (v := ?_) (some 23) rfl rfl (by kernel_rfl) (by kernel_rfl) (by kernel_rfl) (by decide) (fun _ _ _ h => h) (Or.inl ⟨by rfl, ?_⟩) (fun h0 => by assumption) ?_
    rotate_left
    · intro wS
      go_simp
      try with_reducible rfl
    try simp only [Act.put, List.setIfInBounds_toArray, List.set_cons_zero, List.set_cons_succ]
    refine wpAnyL_ready (rs := [8]) (by kernel_rfl) (by simp) ?_
    refine AllReadyL.last rfl (by kernel_rfl) (fun K hK => ?_) AllReadyL.nil
    go_simp
    refine hK.out _ _ ?_
    clear hK K
    try simp only [Act.put, List.setIfInBounds_toArray, List.set_cons_zero, List.set_cons_succ]
    refine wpAnyL_done (by kernel_rfl) ?_ _
    refine NoPanic.normal ?_
    clear hHeld
    go_wp2_with fail
    go_meet
    exact ⟨by rw [HEE.out], HW3E.out⟩
  case rest =>
    obtain ⟨rfl, rfl⟩ := hcut
    clear hw3
    have hee := HEE.out
    have h1z := HSZ.out
    have h0z := HSB.out
    have HAA : Hid (eb ≠ g ∧ eb ≠ rb ∧ sb ≤ wc.heap.size ∧ sb ≤ g ∧ sb ≤ rb ∧ sb ≤ eb) := Lib.hid ⟨by omega, by omega, by have := HW3.out.size; omega, by omega, by omega, by omega⟩
    clear hee h1z h0z
    go_wp2_with fail
    refine (reducePC eb u rb rs.length rs.length g 888 (u + 1 + rs.length) (fun i => i) p _ _ HB3.out HP3.out HPP.out HAA.out.1 HAA.out.2.1 (by omega) hu12.2 (by decide) (by omega) hs3 (Nat.le_refl _)).mono ?_
    rintro e w5 ⟨s5, F5, rfl, hp5, hb5, heq5, ho5⟩
    rw [HCG.out.2] at hb5
    have HR5 : Hid (∀ i, i < rs.length → rowAtF F5 s5 (u + 1 + rs.length) i = (elimE p rs.length (row0 rs) u).1 i) := Lib.hid fun i hi => (heq5 i hi).trans (HCG.out.1 i hi)
    have HB5 := Lib.hid hb5
    have HP5 := Lib.hid hp5
    have HW5 := Lib.hid (HW3.out.trans (ho5.below HAA.out.2.2.1 (fun q hq => by have := HAA.out; omega)))
    have h5 := ho5.size
    clear hp5 hb5 heq5 ho5
    go_wp2
    go_ret
    exact ⟨eb, rb, g, s5, F5, rfl, ⟨HB5.out, HP5.out, HR5.out, by omega, by omega, HAA.out.1, HAA.out.2.1⟩, HAA.out.2.2.2.1, HAA.out.2.2.2.2.1, HAA.out.2.2.2.2.2, HW5.out⟩

end Go.Proofs.Ytnbgpeoceejolaa

namespace Go.Proofs.Ytnbgpeoceejolaa
open Go.RowKit

theorem ElimAt.below {w w' : World} {eb rb g n l u d : Nat} {s : Nat → Nat} {p : Int} {F : Nat → Int} {R : Nat → List Int} (h : ElimAt w eb rb g n l u d s p F R) (hb : Below w.heap.size w w') : ElimAt w' eb rb g n l u d s p F R :=
  ⟨h.box.below hb, h.rows.turn (fun _ => h.hrb) hb.only (h.rows.flat.same (hb.block g h.rows.inn)) h.rows.low (fun o => (World.frozen?_of_block (hb.block rb h.hrb)).trans (h.rows.frz o)), h.eq, Nat.lt_of_lt_of_le h.hrb hb.size, Nat.lt_of_lt_of_le h.heb hb.size, h.heg, h.her⟩
theorem ElimAt.drew {w : World} {eb rb g n l u d : Nat} {s : Nat → Nat} {p : Int} {F : Nat → Int} {R : Nat → List Int} (h : ElimAt w eb rb g n l u d s p F R) : ElimAt w.drew eb rb g n l u d s p F R := h.below (Below.refl _ _).drew

set_option linter.unusedSimpArgs false in
set_option maxHeartbeats 4000000 in
set_option maxRecDepth 100000 in
theorem contradictionC (eb rb g n l u d : Nat) (s : Nat → Nat) (p : Int) (F : Nat → Int) (R : Nat → List Int) (m : Int) (w : World) (h : ElimAt w eb rb g n l u d s p F R) (hul : u < l) (hd : d ≤ n) (hn : n ≤ 1000) (hm : FalseAt R u d n m) :
    Calls Try.prog 84 #[.pointer (some ⟨eb, 0, none⟩)] w fun e w' => ((∃ i : Nat, m = i ∧ d ≤ i ∧ i < n ∧ e = .returned (.tuple #[.slice (some ⟨g, s i * l, none⟩) l l, .bool true])) ∨ (m = -1 ∧ e = .returned (.tuple #[.slice none 0 0, .bool false]))) ∧ w' = w.drew := by
  have HE := Lib.hid h.drew
  have HM := Lib.hid hm
  have x2 : w.cell? ⟨eb, 2, none⟩ = some (.slice (some ⟨rb, 0, none⟩) n n) := h.box.c 2 rfl
  have x3 : w.cell? ⟨eb, 3, none⟩ = some (.int .i64 (d : Int)) := h.box.c 3 rfl
  obtain ⟨q, hq⟩ : ∃ q, n - d = q := ⟨_, rfl⟩
  clear h hm
  go_enter Try.func84, Try.ntmps84
  go_wp2_with fail
  refine wp_region_noPanic ?_
  refine wp_region_late (S := (fun w' => w'.cell? ⟨eb, 2, none⟩ = some (.slice (some ⟨rb, 0, none⟩) n n) ∧ w'.cell? ⟨eb, 3, none⟩ = some (.int .i64 (d : Int)))) [] (by kernel_rfl) ?_ (fun hHeld => ?_)
  · exact ⟨x2, x3⟩
  refine wpAnyL_free (i := 0) (v := ?_) (some 6) rfl rfl (by kernel_rfl) (by kernel_rfl) (by kernel_rfl) (by decide) (fun _ _ _ h => h) (Or.inl ⟨by rfl, ?_⟩) (fun h0 => by assumption) ?_
  rotate_left
  · intro wS
    go_simp
    try with_reducible rfl
  try simp only [Act.put, List.setIfInBounds_toArray, List.set_cons_zero, List.set_cons_succ]
  refine wpAnyL_free (i := 1) (v := ?_) (some 7) rfl rfl (by kernel_rfl) (by kernel_rfl) (by kernel_rfl) (by decide) (fun _ _ _ h => h) (Or.inl ⟨by rfl, ?_⟩) (fun h0 => by assumption) ?_
  rotate_left
  · intro wS
    go_simp
    try with_reducible rfl
  try simp only [Act.put, List.setIfInBounds_toArray, List.set_cons_zero, List.set_cons_succ]
  refine wpAnyL_free (i := 2) (v := ?_) (some 8) rfl rfl (by kernel_rfl) (by kernel_rfl) (by kernel_rfl) (by decide) (fun _ _ _ h => h) (Or.inl ⟨by rfl, ?_⟩) (fun h0 => by assumption) ?_
  rotate_left
  · intro wS
    go_simp
    try with_reducible rfl
  try simp only [Act.put, List.setIfInBounds_toArray, List.set_cons_zero, List.set_cons_succ]
  refine wpAnyL_take (i := 3) (v := ?_) (some 9) rfl rfl (by kernel_rfl) (by kernel_rfl) (by kernel_rfl) (by kernel_rfl) (by kernel_rfl) (fun _ _ _ h => h) (Or.inl ⟨by rfl, ?_⟩) (by assumption) ?_
  rotate_left
  · intro wS hSw
    try dsimp only at hSw
    go_simp
    try with_reducible rfl
  try simp only [Act.put, List.setIfInBounds_toArray, List.set_cons_zero, List.set_cons_succ]
  refine wpAnyL_free (i := 4) (v := ?_) (some 10) rfl rfl (by kernel_rfl) (by kernel_rfl) (by kernel_rfl) (by decide) (fun _ _ _ h => h) (Or.inl ⟨by rfl, ?_⟩) (fun h0 => by assumption) ?_
  rotate_left
  · intro wS
    go_simp
    try with_reducible rfl
  try simp only [Act.put, List.setIfInBounds_toArray, List.set_cons_zero, List.set_cons_succ]
  refine wpAnyL_free (i := 5) (v := ?_) (some 11) rfl rfl (by kernel_rfl) (by kernel_rfl) (by kernel_rfl) (by decide) (fun _ _ _ h => h) (Or.inl ⟨by rfl, ?_⟩) (fun h0 => by assumption) ?_
  rotate_left
  · intro wS
    go_simp
    try with_reducible rfl
  try simp only [Act.put, List.setIfInBounds_toArray, List.set_cons_zero, List.set_cons_succ]
  refine wpAnyL_free (i := 6) (v := ?_) (some 12) rfl rfl (by kernel_rfl) (by kernel_rfl) (by kernel_rfl) (by decide) (fun _ _ _ h => h) (Or.inl ⟨by rfl, ?_⟩) (fun h0 => by assumption) ?_
  rotate_left
  · intro wS
    go_simp
    try with_reducible rfl
  try simp only [Act.put, List.setIfInBounds_toArray, List.set_cons_zero, List.set_cons_succ]
  refine wpAnyL_take (i := 7) (v := ?_) (some 13) rfl rfl (by kernel_rfl) (by kernel_rfl) (by kernel_rfl) (by kernel_rfl) (by kernel_rfl) (fun _ _ _ h => h) (Or.inl ⟨by rfl, ?_⟩) (by assumption) ?_
  rotate_left
  · intro wS hSw
    try dsimp only at hSw
    go_simp
    try with_reducible rfl
  try simp only [Act.put, List.setIfInBounds_toArray, List.set_cons_zero, List.set_cons_succ]
  refine wpAnyL_free (i := 8) (v := ?_) (some 14) rfl rfl (by kernel_rfl) (by kernel_rfl) (by kernel_rfl) (by decide) (fun _ _ _ h => h) (Or.inl ⟨by rfl, ?_⟩) (fun h0 => by assumption) ?_
  rotate_left
  · intro wS
    go_simp
    try with_reducible rfl
  try simp only [Act.put, List.setIfInBounds_toArray, List.set_cons_zero, List.set_cons_succ]
  refine wpAnyL_free (i := 9) (v := ?_) (some 15) rfl rfl (by kernel_rfl) (by kernel_rfl) (by kernel_rfl) (by decide) (fun _ _ _ h => h) (Or.inl ⟨by rfl, ?_⟩) (fun h0 => by assumption) ?_
  rotate_left
  · intro wS
    go_simp
    try with_reducible rfl
  try simp only [Act.put, List.setIfInBounds_toArray, List.set_cons_zero, List.set_cons_succ]
  refine wpAnyL_free (i := 10) (v := ?_) (some 16) rfl rfl (by kernel_rfl) (by kernel_rfl) (by kernel_rfl) (by decide) (fun _ _ _ h => h) (Or.inl ⟨by rfl, ?_⟩) (fun h0 => by assumption) ?_
  rotate_left
  · intro wS
    go_simp
    try with_reducible rfl
  try simp only [Act.put, List.setIfInBounds_toArray, List.set_cons_zero, List.set_cons_succ]
  refine wpAnyL_done (by kernel_rfl) ?_ _
  refine NoPanic.normal ?_
  clear hHeld
  generalize hadr : (if n = d then (some ⟨rb, 0, none⟩ : Option Addr) else some ⟨rb, d, none⟩) = adr
  have HAD : Hid (0 < q → adr = some ⟨rb, d, none⟩) := Lib.hid (fun hq => by rw [← hadr, if_neg (by omega)])
  clear hadr x2 x3
  go_wp2
  go_loop [16] (fun v => ∃ k : Nat, k ≤ q ∧ v = .int .i64 k ∧ ∀ j, d ≤ j → j < d + k → intN (R j) u = 0) (fun v => q - (intOf v).toNat)
  case atStart => exact ⟨0, Nat.zero_le _, rfl, fun j h1 h2 => by omega⟩
  case round =>
    obtain ⟨k, hk, rfl, hz⟩ := hrel
    have HZ := Lib.hid hz
    clear hz
    by_cases hlt : k < q
    · have hkq : (k : Int) < (q : Int) := by omega
      obtain rfl := HAD.out (by omega)
      have e1 := HE.out.rows.at_ (d + k) (by omega)
      have e2 := HE.out.rows.flat.1 (s (d + k) * l + u) (by have := HE.out.rows.fits (i := d + k) (by omega); omega)
      have e3 := HE.out.box.c 1 rfl
      obtain ⟨x, hx⟩ : ∃ x, F (s (d + k) * l + u) = x := ⟨_, rfl⟩
      rw [hx] at e2
      have HX : Hid (intN (R (d + k)) u = x) := Lib.hid (by rw [← HE.out.eq (d + k) (by omega), rowAtF_at hul]; exact hx)
      have hul2 : (u : Int) < (l : Int) := by omega
      clear hx
      by_cases h0 : x = 0
      · have hb : (x != 0) = false := by rw [h0]; rfl
        have HX0 := Lib.hid h0
        clear h0
        go_wp2
        go_round
        case rel =>
          refine ⟨k + 1, by omega, by go_num, fun j h1 h2 => ?_⟩
          by_cases hjk : j = d + k
          · subst hjk; rw [HX.out]; exact HX0.out
          · exact HZ.out j h1 (by omega)
        case measure => simp [intOf]; omega
      · have hb : (x != 0) = true := bne_iff_ne.2 h0
        have HX0 := Lib.hid h0
        clear h0
        have HM2 : Hid (m = ((d + k : Nat) : Int)) := Lib.hid (by
          rcases HM.out with ⟨i, h1, h2, rfl, h4, h5⟩ | ⟨rfl, h5⟩
          · rcases Nat.lt_trichotomy i (d + k) with hl | rfl | hl
            · exact absurd (HZ.out i h1 hl) h4
            · rfl
            · exact absurd (h5 (d + k) (by omega) hl) (by rw [HX.out]; exact HX0.out)
          · exact absurd (h5 (d + k) (by omega) (by omega)) (by rw [HX.out]; exact HX0.out))
        go_wp2
        go_ret2
        exact ⟨.inl ⟨d + k, HM2.out, by omega, by omega, rfl⟩, rfl⟩
    · obtain rfl : k = q := by omega
      have HM2 : Hid (m = -1) := Lib.hid (by
        rcases HM.out with ⟨i, h1, h2, rfl, h4, h5⟩ | ⟨h5, _⟩
        · exact absurd (HZ.out i h1 (by omega)) h4
        · exact h5)
      go_wp2
      go_ret2
      exact ⟨.inr ⟨HM2.out, rfl⟩, rfl⟩

set_option linter.unusedSimpArgs false in
set_option maxHeartbeats 4000000 in
set_option maxRecDepth 100000 in
theorem hasAnswersC (eb rb g n l u d : Nat) (s : Nat → Nat) (p : Int) (F : Nat → Int) (R : Nat → List Int) (b : Bool) (w : World) (h : ElimAt w eb rb g n l u d s p F R) (hul : u < l) (hd : d ≤ n) (hn : n ≤ 1000) (hb : Tells b (¬ ∃ j, d ≤ j ∧ j < n ∧ intN (R j) u ≠ 0)) :
    Calls Try.prog 77 #[.pointer (some ⟨eb, 0, none⟩)] w fun e w' => e = .returned (.bool b) ∧ w' = w.drew := by
  obtain ⟨m, hm⟩ := FalseAt.exists R u d n hd
  have HM := Lib.hid hm
  have HE := Lib.hid h
  have HB := Lib.hid hb
  clear h hm hb
  go_enter Try.func77, Try.ntmps77
  go_wp2_with fail
  refine (contradictionC eb rb g n l u d s p F R m _ HE.out hul hd hn HM.out).mono ?_
  rintro e w2 ⟨hh, rfl⟩
  rcases hh with ⟨i, hi, h1, h2, rfl⟩ | ⟨hi, rfl⟩
  · have HBB : Hid (b = false) := Lib.hid (HB.out.is_false fun k => absurd (HM.out.neg.2 k) (by omega))
    clear hi
    go_wp2
    go_ret
    exact ⟨by rw [HBB.out]; rfl, rfl⟩
  · have HBB : Hid (b = true) := Lib.hid (HB.out.is_true (HM.out.neg.1 (by omega)))
    clear hi
    go_wp2
    go_ret
    exact ⟨by rw [HBB.out]; rfl, rfl⟩

end Go.Proofs.Ytnbgpeoceejolaa

namespace Go.Proofs.Ytnbgpeoceejolaa
open Go.RowKit

/-- A row of which the first k numbers have been multiplied. -/
def scaleL (p t : Int) (xs : List Int) (k : Nat) : List Int := (List.range xs.length).map fun j => if j < k then intN xs j * t % p else intN xs j
theorem scaleL_len (p t : Int) (xs : List Int) (k : Nat) : (scaleL p t xs k).length = xs.length := by simp [scaleL]
theorem scaleL_at {p t : Int} {xs : List Int} {k i : Nat} (h : i < xs.length) : intN (scaleL p t xs k) i = if i < k then intN xs i * t % p else intN xs i := by
  rw [intN_at _ _ (by rw [scaleL_len]; exact h)]
  simp [scaleL]
theorem scaleL_zero (p t : Int) (xs : List Int) : scaleL p t xs 0 = xs := list_ext_intN (scaleL_len _ _ _ _) fun i hi => by
  rw [scaleL_len] at hi
  rw [scaleL_at hi, if_neg (Nat.not_lt_zero _)]
theorem scaleL_all (p t : Int) (xs : List Int) : scaleL p t xs xs.length = rowScale p t xs := list_ext_intN (by rw [scaleL_len, rowScale_len]) fun i hi => by
  rw [scaleL_len] at hi
  rw [scaleL_at hi, if_pos hi, rowScale_at hi]
theorem scaleL_new {p t : Int} {xs : List Int} {k : Nat} (h : k < xs.length) : intN (scaleL p t xs k) k = intN xs k := by
  rw [scaleL_at h, if_neg (Nat.lt_irrefl _)]
theorem scaleL_set {p t : Int} {xs : List Int} {k : Nat} (_h : k < xs.length) : (scaleL p t xs k).set k (intN xs k * t % p) = scaleL p t xs (k + 1) := by
  apply List.ext_getElem
  · rw [List.length_set, scaleL_len, scaleL_len]
  · intro j h1 h2
    rw [List.getElem_set]
    have hj : j < xs.length := by rw [scaleL_len] at h2; exact h2
    by_cases hkj : k = j
    · subst hkj
      simp [scaleL]
    · rw [if_neg hkj]
      have e : (j < k + 1) = (j < k) := by apply propext; omega
      simp [scaleL, e]

set_option linter.unusedSimpArgs false in
set_option maxHeartbeats 4000000 in
set_option maxRecDepth 100000 in
theorem dividedR2 (g B l c1 : Nat) (t : Int) (xs : List Int) (w : World) (h : OwnRow w B (.slice (some ⟨g, 0, none⟩) l c1) xs) (hl : xs.length = l) (hx : LowP 2 xs) (htl : 0 ≤ t ∧ t < 2) (hN : l ≤ 1000) :
    Calls Try.prog 86 #[modV 2, .slice (some ⟨g, 0, none⟩) l c1, .int .i64 t] w fun e w' => e = .returned (.tuple #[]) ∧ OwnRow w' B (.slice (some ⟨g, 0, none⟩) l c1) (rowScale 2 t xs) ∧ Only (fun q => q = g) w w' := by
  have HF0 := Lib.hid h
  have HL := Lib.hid hx
  have HXL := Lib.hid hl
  have hm : modV 2 = .iface 247 (.agg #[]) := rfl
  have hmp := method_prime2
  rw [hm]
  clear h hl hm hx
  go_enter Try.func86, Try.ntmps86
  go_wp2
  go_loopw [9] (fun i wr => ∃ k : Nat, k ≤ l ∧ i = .int .i64 k ∧ OwnRow wr B (.slice (some ⟨g, 0, none⟩) l c1) (scaleL 2 t xs k) ∧ Only (fun q => q = g) w wr) (fun i _ => l - (intOf i).toNat)
  case atStart => exact ⟨0, Nat.zero_le _, rfl, by rw [scaleL_zero]; exact HF0.out, Only.refl _ _⟩
  case round =>
    obtain ⟨k, hk, rfl, hfl, hbl⟩ := hrel
    have HF := Lib.hid hfl
    have HB := Lib.hid hbl
    by_cases hlt : k < l
    · have hkl : (k : Int) < (l : Int) := by omega
      have ex := hfl.cell_of k (by rw [scaleL_len, HXL.out]; exact hlt)
      rw [scaleL_new (by rw [HXL.out]; exact hlt)] at ex
      have bx := HL.out k (by rw [HXL.out]; exact hlt)
      obtain ⟨x, hx⟩ : ∃ x, intN xs k = x := ⟨_, rfl⟩
      rw [hx] at ex bx
      have hxt := prodT (t := t) (y := x) ⟨htl.1, by omega⟩ ⟨bx.1, by omega⟩
      rw [Int.mul_comm] at hxt
      obtain ⟨z, hz⟩ : ∃ z, x * t % 2 = z := ⟨_, rfl⟩
      have HTF : Hid ((scaleL 2 t xs k).set k z = scaleL 2 t xs (k + 1)) := Lib.hid (by rw [← hz, ← hx]; exact scaleL_set (by rw [HXL.out]; exact hlt))
      have hw1 : IntKind.i64.wrap (x * t) = x * t := IntWalk.i64_in _ (by omega)
      have hm1 : Int.tmod (x * t) 2 = z := by rw [Int.tmod_eq_emod_of_nonneg hxt.1]; exact hz
      have hz3 : 0 ≤ z ∧ z < 2 := by rw [← hz]; exact ⟨Int.emod_nonneg _ (by omega), Int.emod_lt_of_pos _ (by omega)⟩
      have hw2 : IntKind.i64.wrap z = z := IntWalk.i64_in _ (by omega)
      clear hfl hbl bx hx hxt hz
      go_wp2
      refine wp_region_noPanic ?_
      refine wp_region_late (S := (fun w' => w'.cell? ⟨g, k, none⟩ = some (.int .i64 x) ∧ Below wr.heap.size wr w')) [12] (by kernel_rfl) ?_ (fun hHeld => ?_)
      · exact ⟨ex, (QW.refl _).drew.below _⟩
      refine wpAnyL_free (i := 0) (v := ?_) (some 12) rfl rfl (by kernel_rfl) (by kernel_rfl) (by kernel_rfl) (by decide) (fun _ _ _ h => h) (Or.inl ⟨by rfl, ?_⟩) (fun h0 => by assumption) ?_
      rotate_left
      · intro wS
        go_simp
        try with_reducible rfl
      try simp only [Act.put, List.setIfInBounds_toArray, List.set_cons_zero, List.set_cons_succ]
      refine wpAnyL_free (i := 1) (v := ?_) (some 13) rfl rfl (by kernel_rfl) (by kernel_rfl) (by kernel_rfl) (by decide) (fun _ _ _ h => h) (Or.inl ⟨by rfl, ?_⟩) (fun h0 => by assumption) ?_
      rotate_left
      · intro wS
        go_simp
        try with_reducible rfl
      try simp only [Act.put, List.setIfInBounds_toArray, List.set_cons_zero, List.set_cons_succ]
      refine wpAnyL_free (i := 2) (v := ?_) (some 14) rfl rfl (by kernel_rfl) (by kernel_rfl) (by kernel_rfl) (by decide) (fun _ _ _ h => h) (Or.inl ⟨by rfl, ?_⟩) (fun h0 => by assumption) ?_
      rotate_left
      · intro wS
        go_simp
        try with_reducible rfl
      try simp only [Act.put, List.setIfInBounds_toArray, List.set_cons_zero, List.set_cons_succ]
      refine wpAnyL_free (i := 3) (v := ?_) (some 15) rfl rfl (by kernel_rfl) (by kernel_rfl) (by kernel_rfl) (by decide) (fun _ _ _ h => h) (Or.inl ⟨by rfl, ?_⟩) (fun h0 => by assumption) ?_
      rotate_left
      · intro wS
        go_simp
        try with_reducible rfl
      try simp only [Act.put, List.setIfInBounds_toArray, List.set_cons_zero, List.set_cons_succ]
      refine wpAnyL_free (i := 4) (v := ?_) (some 16) rfl rfl (by kernel_rfl) (by kernel_rfl) (by kernel_rfl) (by decide) (fun _ _ _ h => h) (Or.inl ⟨by rfl, ?_⟩) (fun h0 => by assumption) ?_
      rotate_left
      · intro wS
        go_simp
        try with_reducible rfl
      try simp only [Act.put, List.setIfInBounds_toArray, List.set_cons_zero, List.set_cons_succ]
      refine wpAnyL_take (i := 5) (v := ?_) (some 17) rfl rfl (by kernel_rfl) (by kernel_rfl) (by kernel_rfl) (by kernel_rfl) (by kernel_rfl) (fun _ _ _ h => h) (Or.inl ⟨by rfl, ?_⟩) (by assumption) ?_
      rotate_left
      · intro wS hSw
        try dsimp only at hSw
        go_simp
        try with_reducible rfl
      try simp only [Act.put, List.setIfInBounds_toArray, List.set_cons_zero, List.set_cons_succ]
      refine wpAnyL_free (i := 6) (v := ?_) (some 18) rfl rfl (by kernel_rfl) (by kernel_rfl) (by kernel_rfl) (by decide) (fun _ _ _ h => h) (Or.inl ⟨by rfl, ?_⟩) (fun h0 => by assumption) ?_
      rotate_left
      · intro wS
        go_simp
        try with_reducible rfl
      try simp only [Act.put, List.setIfInBounds_toArray, List.set_cons_zero, List.set_cons_succ]
      refine wpAnyL_free (i := 7) (v := ?_) (some 19) rfl rfl (by kernel_rfl) (by kernel_rfl) (by kernel_rfl) (by decide) (fun _ _ _ h => h) (Or.inl ⟨by rfl, ?_⟩) (fun h0 => by assumption) ?_
      rotate_left
      · intro wS
        go_simp
        try with_reducible rfl
      try simp only [Act.put, List.setIfInBounds_toArray, List.set_cons_zero, List.set_cons_succ]
      refine wpAnyL_free (i := 8) (v := ?_) (some 20) rfl rfl (by kernel_rfl) (by kernel_rfl) (by kernel_rfl) (by decide) (fun _ _ _ h => h) (Or.inl ⟨by rfl, ?_⟩) (fun h0 => by assumption) ?_
      rotate_left
      · intro wS
        go_simp
        try with_reducible rfl
      try simp only [Act.put, List.setIfInBounds_toArray, List.set_cons_zero, List.set_cons_succ]
      refine wpAnyL_ready (rs := [9]) (by kernel_rfl) (by simp) ?_
      refine AllReadyL.cons rfl (fun K hK => ?_) AllReadyL.nil
      go_simp; go_at_call 253; refine (prime2 _).mono ?_; rintro e w5 ⟨rfl, hb5⟩
      refine hK.out _ _ ?_ (fun hHeld => ?_)
      · exact ⟨below_cell hb5 hHeld.1, hHeld.2.trans (hb5.mono hHeld.2.size)⟩
      clear hK K
      try simp only [Act.put, List.setIfInBounds_toArray, List.set_cons_zero, List.set_cons_succ]
      refine wpAnyL_free (i := 10) (v := ?_) (some 22) rfl rfl (by kernel_rfl) (by kernel_rfl) (by kernel_rfl) (by decide) (fun _ _ _ h => h) (Or.inl ⟨by rfl, ?_⟩) (fun h0 => by assumption) ?_
      rotate_left
      · intro wS
        go_simp
        try with_reducible rfl
      try simp only [Act.put, List.setIfInBounds_toArray, List.set_cons_zero, List.set_cons_succ]
      refine wpAnyL_free (i := 11) (v := ?_) (some 23) rfl rfl (by kernel_rfl) (by kernel_rfl) (by kernel_rfl) (by decide) (fun _ _ _ h => h) (Or.inl ⟨by rfl, ?_⟩) (fun h0 => by assumption) ?_
      rotate_left
      · intro wS
        go_simp
        try with_reducible rfl
      try simp only [Act.put, List.setIfInBounds_toArray, List.set_cons_zero, List.set_cons_succ]
      refine wpAnyL_ready (rs := [12]) (by kernel_rfl) (by simp) ?_
      refine AllReadyL.last rfl (by kernel_rfl) (fun K hK => ?_) AllReadyL.nil
      have HB5 := Lib.hid hHeld.2
      have hfl5 := HF.out.below HB5.out
      have ex5 : w5.cell? ⟨g, k, none⟩ = some (.int .i64 x) := hHeld.1
      have fz5 := hfl5.free k
      have HF5 := Lib.hid hfl5
      clear hfl5
      go_simp
      refine hK.out _ _ ?_
      clear hK K
      try simp only [Act.put, List.setIfInBounds_toArray, List.set_cons_zero, List.set_cons_succ]
      refine wpAnyL_done (by kernel_rfl) ?_ _
      refine NoPanic.normal ?_
      have HF2 := Lib.hid (HF5.out.set k z)
      have HB2 := Lib.hid (Only.setCell (HB.out.trans (HB5.out.only)) (p := ⟨g, k, none⟩) rfl (.int .i64 z))
      clear hHeld ex5 fz5
      go_wp2
      go_roundw
      case rel => exact ⟨k + 1, by omega, by go_num, by have h := HF2.out; rw [HTF.out] at h; exact h, HB2.out⟩
      case measure => simp [intOf]; omega
    · obtain rfl : k = l := by omega
      have HFF : Hid (OwnRow wr B (.slice (some ⟨g, 0, none⟩) k c1) (rowScale 2 t xs)) := Lib.hid (by rw [← scaleL_all, HXL.out]; exact hfl)
      clear hfl hbl
      go_wp2
      go_end0
      exact ⟨rfl, HFF.out, HB.out⟩

set_option linter.unusedSimpArgs false in
set_option maxHeartbeats 4000000 in
set_option maxRecDepth 100000 in
theorem dividedR3 (g B l c1 : Nat) (t : Int) (xs : List Int) (w : World) (h : OwnRow w B (.slice (some ⟨g, 0, none⟩) l c1) xs) (hl : xs.length = l) (hx : LowP 3 xs) (htl : 0 ≤ t ∧ t < 3) (hN : l ≤ 1000) :
    Calls Try.prog 86 #[modV 3, .slice (some ⟨g, 0, none⟩) l c1, .int .i64 t] w fun e w' => e = .returned (.tuple #[]) ∧ OwnRow w' B (.slice (some ⟨g, 0, none⟩) l c1) (rowScale 3 t xs) ∧ Only (fun q => q = g) w w' := by
  have HF0 := Lib.hid h
  have HL := Lib.hid hx
  have HXL := Lib.hid hl
  have hm : modV 3 = .iface 248 (.agg #[]) := rfl
  have hmp := method_prime3
  rw [hm]
  clear h hl hm hx
  go_enter Try.func86, Try.ntmps86
  go_wp2
  go_loopw [9] (fun i wr => ∃ k : Nat, k ≤ l ∧ i = .int .i64 k ∧ OwnRow wr B (.slice (some ⟨g, 0, none⟩) l c1) (scaleL 3 t xs k) ∧ Only (fun q => q = g) w wr) (fun i _ => l - (intOf i).toNat)
  case atStart => exact ⟨0, Nat.zero_le _, rfl, by rw [scaleL_zero]; exact HF0.out, Only.refl _ _⟩
  case round =>
    obtain ⟨k, hk, rfl, hfl, hbl⟩ := hrel
    have HF := Lib.hid hfl
    have HB := Lib.hid hbl
    by_cases hlt : k < l
    · have hkl : (k : Int) < (l : Int) := by omega
      have ex := hfl.cell_of k (by rw [scaleL_len, HXL.out]; exact hlt)
      rw [scaleL_new (by rw [HXL.out]; exact hlt)] at ex
      have bx := HL.out k (by rw [HXL.out]; exact hlt)
      obtain ⟨x, hx⟩ : ∃ x, intN xs k = x := ⟨_, rfl⟩
      rw [hx] at ex bx
      have hxt := prodT (t := t) (y := x) ⟨htl.1, by omega⟩ ⟨bx.1, by omega⟩
      rw [Int.mul_comm] at hxt
      obtain ⟨z, hz⟩ : ∃ z, x * t % 3 = z := ⟨_, rfl⟩
      have HTF : Hid ((scaleL 3 t xs k).set k z = scaleL 3 t xs (k + 1)) := Lib.hid (by rw [← hz, ← hx]; exact scaleL_set (by rw [HXL.out]; exact hlt))
      have hw1 : IntKind.i64.wrap (x * t) = x * t := IntWalk.i64_in _ (by omega)
      have hm1 : Int.tmod (x * t) 3 = z := by rw [Int.tmod_eq_emod_of_nonneg hxt.1]; exact hz
      have hz3 : 0 ≤ z ∧ z < 3 := by rw [← hz]; exact ⟨Int.emod_nonneg _ (by omega), Int.emod_lt_of_pos _ (by omega)⟩
      have hw2 : IntKind.i64.wrap z = z := IntWalk.i64_in _ (by omega)
      clear hfl hbl bx hx hxt hz
      go_wp2
      refine wp_region_noPanic ?_
      refine wp_region_late (S := (fun w' => w'.cell? ⟨g, k, none⟩ = some (.int .i64 x) ∧ Below wr.heap.size wr w')) [12] (by kernel_rfl) ?_ (fun hHeld => ?_)
      · exact ⟨ex, (QW.refl _).drew.below _⟩
      refine wpAnyL_free (i := 0) (v := ?_) (some 12) rfl rfl (by kernel_rfl) (by kernel_rfl) (by kernel_rfl) (by decide) (fun _ _ _ h => h) (Or.inl ⟨by rfl, ?_⟩) (fun h0 => by assumption) ?_
      rotate_left
      · intro wS
        go_simp
        try with_reducible rfl
      try simp only [Act.put, List.setIfInBounds_toArray, List.set_cons_zero, List.set_cons_succ]
      refine wpAnyL_free (i := 1) (v := ?_) (some 13) rfl rfl (by kernel_rfl) (by kernel_rfl) (by kernel_rfl) (by decide) (fun _ _ _ h => h) (Or.inl ⟨by rfl, ?_⟩) (fun h0 => by assumption) ?_
      rotate_left
      · intro wS
        go_simp
        try with_reducible rfl
      try simp only [Act.put, List.setIfInBounds_toArray, List.set_cons_zero, List.set_cons_succ]
      refine wpAnyL_free (i := 2) (v := ?_) (some 14) rfl rfl (by kernel_rfl) (by kernel_rfl) (by kernel_rfl) (by decide) (fun _ _ _ h => h) (Or.inl ⟨by rfl, ?_⟩) (fun h0 => by assumption) ?_
      rotate_left
      · intro wS
        go_simp
        try with_reducible rfl
      try simp only [Act.put, List.setIfInBounds_toArray, List.set_cons_zero, List.set_cons_succ]
      refine wpAnyL_free (i := 3) (v := ?_) (some 15) rfl rfl (by kernel_rfl) (by kernel_rfl) (by kernel_rfl) (by decide) (fun _ _ _ h => h) (Or.inl ⟨by rfl, ?_⟩) (fun h0 => by assumption) ?_
      rotate_left
      · intro wS
        go_simp
        try with_reducible rfl
      try simp only [Act.put, List.setIfInBounds_toArray, List.set_cons_zero, List.set_cons_succ]
      refine wpAnyL_free (i := 4) (v := ?_) (some 16) rfl rfl (by kernel_rfl) (by kernel_rfl) (by kernel_rfl) (by decide) (fun _ _ _ h => h) (Or.inl ⟨by rfl, ?_⟩) (fun h0 => by assumption) ?_
      rotate_left
      · intro wS
        go_simp
        try with_reducible rfl
      try simp only [Act.put, List.setIfInBounds_toArray, List.set_cons_zero, List.set_cons_succ]
      refine wpAnyL_take (i := 5) (v := ?_) (some 17) rfl rfl (by kernel_rfl) (by kernel_rfl) (by kernel_rfl) (by kernel_rfl) (by kernel_rfl) (fun _ _ _ h => h) (Or.inl ⟨by rfl, ?_⟩) (by assumption) ?_
      rotate_left
      · intro wS hSw
        try dsimp only at hSw
        go_simp
        try with_reducible rfl
      try simp only [Act.put, List.setIfInBounds_toArray, List.set_cons_zero, List.set_cons_succ]
      refine wpAnyL_free (i := 6) (v := ?_) (some 18) rfl rfl (by kernel_rfl) (by kernel_rfl) (by kernel_rfl) (by decide) (fun _ _ _ h => h) (Or.inl ⟨by rfl, ?_⟩) (fun h0 => by assumption) ?_
      rotate_left
      · intro wS
        go_simp
        try with_reducible rfl
      try simp only [Act.put, List.setIfInBounds_toArray, List.set_cons_zero, List.set_cons_succ]
      refine wpAnyL_free (i := 7) (v := ?_) (some 19) rfl rfl (by kernel_rfl) (by kernel_rfl) (by kernel_rfl) (by decide) (fun _ _ _ h => h) (Or.inl ⟨by rfl, ?_⟩) (fun h0 => by assumption) ?_
      rotate_left
      · intro wS
        go_simp
        try with_reducible rfl
      try simp only [Act.put, List.setIfInBounds_toArray, List.set_cons_zero, List.set_cons_succ]
      refine wpAnyL_free (i := 8) (v := ?_) (some 20) rfl rfl (by kernel_rfl) (by kernel_rfl) (by kernel_rfl) (by decide) (fun _ _ _ h => h) (Or.inl ⟨by rfl, ?_⟩) (fun h0 => by assumption) ?_
      rotate_left
      · intro wS
        go_simp
        try with_reducible rfl
      try simp only [Act.put, List.setIfInBounds_toArray, List.set_cons_zero, List.set_cons_succ]
      refine wpAnyL_ready (rs := [9]) (by kernel_rfl) (by simp) ?_
      refine AllReadyL.cons rfl (fun K hK => ?_) AllReadyL.nil
      go_simp; go_at_call 254; refine (prime3 _).mono ?_; rintro e w5 ⟨rfl, hb5⟩
      refine hK.out _ _ ?_ (fun hHeld => ?_)
      · exact ⟨below_cell hb5 hHeld.1, hHeld.2.trans (hb5.mono hHeld.2.size)⟩
      clear hK K
      try simp only [Act.put, List.setIfInBounds_toArray, List.set_cons_zero, List.set_cons_succ]
      refine wpAnyL_free (i := 10) (v := ?_) (some 22) rfl rfl (by kernel_rfl) (by kernel_rfl) (by kernel_rfl) (by decide) (fun _ _ _ h => h) (Or.inl ⟨by rfl, ?_⟩) (fun h0 => by assumption) ?_
      rotate_left
      · intro wS
        go_simp
        try with_reducible rfl
      try simp only [Act.put, List.setIfInBounds_toArray, List.set_cons_zero, List.set_cons_succ]
      refine wpAnyL_free (i := 11) (v := ?_) (some 23) rfl rfl (by kernel_rfl) (by kernel_rfl) (by kernel_rfl) (by decide) (fun _ _ _ h => h) (Or.inl ⟨by rfl, ?_⟩) (fun h0 => by assumption) ?_
      rotate_left
      · intro wS
        go_simp
        try with_reducible rfl
      try simp only [Act.put, List.setIfInBounds_toArray, List.set_cons_zero, List.set_cons_succ]
      refine wpAnyL_ready (rs := [12]) (by kernel_rfl) (by simp) ?_
      refine AllReadyL.last rfl (by kernel_rfl) (fun K hK => ?_) AllReadyL.nil
      have HB5 := Lib.hid hHeld.2
      have hfl5 := HF.out.below HB5.out
      have ex5 : w5.cell? ⟨g, k, none⟩ = some (.int .i64 x) := hHeld.1
      have fz5 := hfl5.free k
      have HF5 := Lib.hid hfl5
      clear hfl5
      go_simp
      refine hK.out _ _ ?_
      clear hK K
      try simp only [Act.put, List.setIfInBounds_toArray, List.set_cons_zero, List.set_cons_succ]
      refine wpAnyL_done (by kernel_rfl) ?_ _
      refine NoPanic.normal ?_
      have HF2 := Lib.hid (HF5.out.set k z)
      have HB2 := Lib.hid (Only.setCell (HB.out.trans (HB5.out.only)) (p := ⟨g, k, none⟩) rfl (.int .i64 z))
      clear hHeld ex5 fz5
      go_wp2
      go_roundw
      case rel => exact ⟨k + 1, by omega, by go_num, by have h := HF2.out; rw [HTF.out] at h; exact h, HB2.out⟩
      case measure => simp [intOf]; omega
    · obtain rfl : k = l := by omega
      have HFF : Hid (OwnRow wr B (.slice (some ⟨g, 0, none⟩) k c1) (rowScale 3 t xs)) := Lib.hid (by rw [← scaleL_all, HXL.out]; exact hfl)
      clear hfl hbl
      go_wp2
      go_end0
      exact ⟨rfl, HFF.out, HB.out⟩

theorem dividedR (p : Int) (g B l c1 : Nat) (t : Int) (xs : List Int) (w : World) (hp : PrimeP p) (h : OwnRow w B (.slice (some ⟨g, 0, none⟩) l c1) xs) (hl : xs.length = l) (hx : LowP p xs) (htl : 0 ≤ t ∧ t < p) (hN : l ≤ 1000) :
    Calls Try.prog 86 #[modV p, .slice (some ⟨g, 0, none⟩) l c1, .int .i64 t] w fun e w' => e = .returned (.tuple #[]) ∧ OwnRow w' B (.slice (some ⟨g, 0, none⟩) l c1) (rowScale p t xs) ∧ Only (fun q => q = g) w w' := by
  rcases hp with rfl | rfl
  · exact dividedR2 g B l c1 t xs w h hl hx htl hN
  · exact dividedR3 g B l c1 t xs w h hl hx htl hN

end Go.Proofs.Ytnbgpeoceejolaa
