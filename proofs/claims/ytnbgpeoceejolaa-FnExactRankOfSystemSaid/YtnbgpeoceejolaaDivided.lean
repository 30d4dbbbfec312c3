/-
  divided of the program.
-/
import Derived.Test.YtnbgpeoceejolaaTake
namespace Go.Proofs.Ytnbgpeoceejolaa
open Go.RowKit

theorem _root_.Go.RowKit.Below.only {w w' : World} {S : Nat → Prop} (h : Below w.heap.size w w') : Only S w w' := ⟨h.os, h.tape, h.output, h.size, fun k hk _ => h.block k hk⟩
/-- A row times a number, k of its numbers. -/
def scaleF (p t : Int) (F : Nat → Int) (fo k : Nat) : Nat → Int := fun o => if fo ≤ o ∧ o < fo + k then F o * t % p else F o
theorem scaleF_zero (p t : Int) (F : Nat → Int) (fo : Nat) : scaleF p t F fo 0 = F := by
  funext o
  unfold scaleF
  rw [if_neg (by omega)]
theorem scaleF_new {p t : Int} {F : Nat → Int} {fo k : Nat} : scaleF p t F fo k (fo + k) = F (fo + k) := by
  unfold scaleF
  rw [if_neg (by omega)]
theorem scaleF_set (p t : Int) (F : Nat → Int) (fo k : Nat) : (fun q => if q = fo + k then F (fo + k) * t % p else scaleF p t F fo k q) = scaleF p t F fo (k + 1) := by
  funext q
  by_cases h : q = fo + k
  · subst h
    rw [if_pos rfl]
    unfold scaleF
    rw [if_pos (by omega)]
  · rw [if_neg h]
    unfold scaleF
    have e : (fo ≤ q ∧ q < fo + (k + 1)) ↔ (fo ≤ q ∧ q < fo + k) := by omega
    simp only [e]

set_option linter.unusedSimpArgs false in
set_option maxHeartbeats 4000000 in
set_option maxRecDepth 100000 in
theorem prime2 (w : World) : Calls Try.prog 253 #[.agg #[]] w fun e w' => e = .returned (.int .i64 2) ∧ Below w.heap.size w w' := by
  go_enter Try.func253, Try.ntmps253
  go_wp2
  go_ret
  exact ⟨rfl, (Below.refl _ _).alloc (Nat.le_refl _) _⟩
theorem method_prime2 (n : Nat) (w : World) : (method (n + 1) 247 (.agg #[]) "loop.example/g01085/impl.prime").run Try.prog w = .ok (253, .agg #[]) w := by kernel_rfl

set_option linter.unusedSimpArgs false in
set_option maxHeartbeats 4000000 in
set_option maxRecDepth 100000 in
theorem divided2 (g N fo l c1 : Nat) (t : Int) (F : Nat → Int) (w : World) (h : Flat w g N F) (hg : g < w.heap.size) (hl : ∀ o, 0 ≤ F o ∧ F o < 2) (htl : 0 ≤ t ∧ t < 2) (hfo : fo + l ≤ N) (hN : N ≤ 1000) :
    Calls Try.prog 86 #[modV 2, .slice (some ⟨g, fo, none⟩) l c1, .int .i64 t] w fun e w' => e = .returned (.tuple #[]) ∧ Flat w' g N (scaleF 2 t F fo l) ∧ Only (fun q => q = g) w w' := by
  have HF0 := Lib.hid h
  have HL := Lib.hid hl
  have HG := Lib.hid hg
  have hm : modV 2 = .iface 247 (.agg #[]) := rfl
  have hmp := method_prime2
  rw [hm]
  clear h hl hm hg
  go_enter Try.func86, Try.ntmps86
  go_wp2
  go_loopw [9] (fun i wr => ∃ k : Nat, k ≤ l ∧ i = .int .i64 k ∧ Flat wr g N (scaleF 2 t F fo k) ∧ Only (fun q => q = g) w wr) (fun i _ => l - (intOf i).toNat)
  case atStart => exact ⟨0, Nat.zero_le _, rfl, by rw [scaleF_zero]; exact HF0.out, Only.refl _ _⟩
  case round =>
    obtain ⟨k, hk, rfl, hfl, hbl⟩ := hrel
    have HF := Lib.hid hfl
    have HB := Lib.hid hbl
    have HGL : Hid (g < wr.heap.size) := Lib.hid (Nat.lt_of_lt_of_le HG.out hbl.size)
    by_cases hlt : k < l
    · have hkl : (k : Int) < (l : Int) := by omega
      have ex := hfl.1 (fo + k) (by omega)
      rw [scaleF_new] at ex
      have bx := HL.out (fo + k)
      obtain ⟨x, hx⟩ : ∃ x, F (fo + k) = x := ⟨_, rfl⟩
      rw [hx] at ex bx
      have hxt := prodT (t := t) (y := x) ⟨htl.1, by omega⟩ ⟨bx.1, by omega⟩
      rw [Int.mul_comm] at hxt
      obtain ⟨z, hz⟩ : ∃ z, x * t % 2 = z := ⟨_, rfl⟩
      have HTF : Hid ((fun q => if q = fo + k then z else scaleF 2 t F fo k q) = scaleF 2 t F fo (k + 1)) := Lib.hid (by rw [← hz, ← hx]; exact scaleF_set _ _ _ _ _)
      have hw1 : IntKind.i64.wrap (x * t) = x * t := IntWalk.i64_in _ (by omega)
      have hm1 : Int.tmod (x * t) 2 = z := by rw [Int.tmod_eq_emod_of_nonneg hxt.1]; exact hz
      have hz3 : 0 ≤ z ∧ z < 2 := by rw [← hz]; exact ⟨Int.emod_nonneg _ (by omega), Int.emod_lt_of_pos _ (by omega)⟩
      have hw2 : IntKind.i64.wrap z = z := IntWalk.i64_in _ (by omega)
      clear hfl hbl bx hx hxt hz
      go_wp2
      refine wp_region_noPanic ?_
      refine wp_region_late (S := (fun w' => w'.cell? ⟨g, fo + k, none⟩ = some (.int .i64 x) ∧ Below wr.heap.size wr w')) [12] (by kernel_rfl) ?_ (fun hHeld => ?_)
      · exact ⟨ex, (QW.refl _).drew.below _⟩
      refine wpAnyL_free (i := 0) (v := ?_) (some 12) rfl rfl (by kernel_rfl) (by kernel_rfl) (by kernel_rfl) (by decide) (fun _ _ _ h => h) (Or.inl ⟨by rfl, ?_⟩) (fun h0 => by assumption) ?_
      rotate_left
      · intro wS
        go_simp
        try with_reducible rfl
      try simp only [Act.put, List.setIfInBounds_toArray, List.set_cons_zero, List.set_cons_succ]
      refine wpAnyL_free (i := 1) (v := ?_) (some 13) rfl rfl (by kernel_rfl) (by kernel_rfl) (by kernel_rfl) (by decide) (fun _ _ _ h => h) (Or.inl ⟨by rfl, ?_⟩) (fun h0 => by assumption) ?_
      rotate_left
      · intro wS
        go_simp
        try with_reducible rfl
      try simp only [Act.put, List.setIfInBounds_toArray, List.set_cons_zero, List.set_cons_succ]
      refine wpAnyL_free (i := 2) (v := ?_) (some 14) rfl rfl (by kernel_rfl) (by kernel_rfl) (by kernel_rfl) (by decide) (fun _ _ _ h => h) (Or.inl ⟨by rfl, ?_⟩) (fun h0 => by assumption) ?_
      rotate_left
      · intro wS
        go_simp
        try with_reducible rfl
      try simp only [Act.put, List.setIfInBounds_toArray, List.set_cons_zero, List.set_cons_succ]
      refine wpAnyL_free (i := 3) (v := ?_) (some 15) rfl rfl (by kernel_rfl) (by kernel_rfl) (by kernel_rfl) (by decide) (fun _ _ _ h => h) (Or.inl ⟨by rfl, ?_⟩) (fun h0 => by assumption) ?_
      rotate_left
      · intro wS
        go_simp
        try with_reducible rfl
      try simp only [Act.put, List.setIfInBounds_toArray, List.set_cons_zero, List.set_cons_succ]
      refine wpAnyL_free (i := 4) (v := ?_) (some 16) rfl rfl (by kernel_rfl) (by kernel_rfl) (by kernel_rfl) (by decide) (fun _ _ _ h => h) (Or.inl ⟨by rfl, ?_⟩) (fun h0 => by assumption) ?_
      rotate_left
      · intro wS
        go_simp
        try with_reducible rfl
      try simp only [Act.put, List.setIfInBounds_toArray, List.set_cons_zero, List.set_cons_succ]
      refine wpAnyL_take (i := 5) (v := ?_) (some 17) rfl rfl (by kernel_rfl) (by kernel_rfl) (by kernel_rfl) (by kernel_rfl) (by kernel_rfl) (fun _ _ _ h => h) (Or.inl ⟨by rfl, ?_⟩) (by assumption) ?_
      rotate_left
      · intro wS hSw
        try dsimp only at hSw
        go_simp
        try with_reducible rfl
      try simp only [Act.put, List.setIfInBounds_toArray, List.set_cons_zero, List.set_cons_succ]
      refine wpAnyL_free (i := 6) (v := ?_) (some 18) rfl rfl (by kernel_rfl) (by kernel_rfl) (by kernel_rfl) (by decide) (fun _ _ _ h => h) (Or.inl ⟨by rfl, ?_⟩) (fun h0 => by assumption) ?_
      rotate_left
      · intro wS
        go_simp
        try with_reducible rfl
      try simp only [Act.put, List.setIfInBounds_toArray, List.set_cons_zero, List.set_cons_succ]
      refine wpAnyL_free (i := 7) (v := ?_) (some 19) rfl rfl (by kernel_rfl) (by kernel_rfl) (by kernel_rfl) (by decide) (fun _ _ _ h => h) (Or.inl ⟨by rfl, ?_⟩) (fun h0 => by assumption) ?_
      rotate_left
      · intro wS
        go_simp
        try with_reducible rfl
      try simp only [Act.put, List.setIfInBounds_toArray, List.set_cons_zero, List.set_cons_succ]
      refine wpAnyL_free (i := 8) (v := ?_) (some 20) rfl rfl (by kernel_rfl) (by kernel_rfl) (by kernel_rfl) (by decide) (fun _ _ _ h => h) (Or.inl ⟨by rfl, ?_⟩) (fun h0 => by assumption) ?_
      rotate_left
      · intro wS
        go_simp
        try with_reducible rfl
      try simp only [Act.put, List.setIfInBounds_toArray, List.set_cons_zero, List.set_cons_succ]
      refine wpAnyL_ready (rs := [9]) (by kernel_rfl) (by simp) ?_
      refine AllReadyL.cons rfl (fun K hK => ?_) AllReadyL.nil
      go_simp; go_at_call 253; refine (prime2 _).mono ?_; rintro e w5 ⟨rfl, hb5⟩
      refine hK.out _ _ ?_ (fun hHeld => ?_)
      · exact ⟨below_cell hb5 hHeld.1, hHeld.2.trans (hb5.mono hHeld.2.size)⟩
      clear hK K
      try simp only [Act.put, List.setIfInBounds_toArray, List.set_cons_zero, List.set_cons_succ]
      refine wpAnyL_free (i := 10) (v := ?_) (some 22) rfl rfl (by kernel_rfl) (by kernel_rfl) (by kernel_rfl) (by decide) (fun _ _ _ h => h) (Or.inl ⟨by rfl, ?_⟩) (fun h0 => by assumption) ?_
      rotate_left
      · intro wS
        go_simp
        try with_reducible rfl
      try simp only [Act.put, List.setIfInBounds_toArray, List.set_cons_zero, List.set_cons_succ]
      refine wpAnyL_free (i := 11) (v := ?_) (some 23) rfl rfl (by kernel_rfl) (by kernel_rfl) (by kernel_rfl) (by decide) (fun _ _ _ h => h) (Or.inl ⟨by rfl, ?_⟩) (fun h0 => by assumption) ?_
      rotate_left
      · intro wS
        go_simp
        try with_reducible rfl
      try simp only [Act.put, List.setIfInBounds_toArray, List.set_cons_zero, List.set_cons_succ]
      refine wpAnyL_ready (rs := [12]) (by kernel_rfl) (by simp) ?_
      refine AllReadyL.last rfl (by kernel_rfl) (fun K hK => ?_) AllReadyL.nil
      have HB5 := Lib.hid hHeld.2
      have hfl5 := HF.out.same (HB5.out.block g HGL.out)
      have ex5 : w5.cell? ⟨g, fo + k, none⟩ = some (.int .i64 x) := hHeld.1
      have fz5 := hfl5.2 (fo + k)
      have HF5 := Lib.hid hfl5
      clear hfl5
      go_simp
      refine hK.out _ _ ?_
      clear hK K
      try simp only [Act.put, List.setIfInBounds_toArray, List.set_cons_zero, List.set_cons_succ]
      refine wpAnyL_done (by kernel_rfl) ?_ _
      refine NoPanic.normal ?_
      have HF2 := Lib.hid (HF5.out.set (fo + k) (by omega) z)
      have HB2 := Lib.hid (Only.setCell (HB.out.trans (HB5.out.only)) (p := ⟨g, fo + k, none⟩) rfl (.int .i64 z))
      clear hHeld ex5 fz5
      go_wp2
      go_roundw
      case rel => exact ⟨k + 1, by omega, by go_num, by have h := HF2.out; rw [HTF.out] at h; exact h, HB2.out⟩
      case measure => simp [intOf]; omega
    · obtain rfl : k = l := by omega
      clear hfl hbl
      go_wp2
      go_end0
      exact ⟨rfl, HF.out, HB.out⟩

set_option linter.unusedSimpArgs false in
set_option maxHeartbeats 4000000 in
set_option maxRecDepth 100000 in
theorem prime3 (w : World) : Calls Try.prog 254 #[.agg #[]] w fun e w' => e = .returned (.int .i64 3) ∧ Below w.heap.size w w' := by
  go_enter Try.func254, Try.ntmps254
  go_wp2
  go_ret
  exact ⟨rfl, (Below.refl _ _).alloc (Nat.le_refl _) _⟩
theorem method_prime3 (n : Nat) (w : World) : (method (n + 1) 248 (.agg #[]) "loop.example/g01085/impl.prime").run Try.prog w = .ok (254, .agg #[]) w := by kernel_rfl

set_option linter.unusedSimpArgs false in
set_option maxHeartbeats 4000000 in
set_option maxRecDepth 100000 in
theorem divided3 (g N fo l c1 : Nat) (t : Int) (F : Nat → Int) (w : World) (h : Flat w g N F) (hg : g < w.heap.size) (hl : ∀ o, 0 ≤ F o ∧ F o < 3) (htl : 0 ≤ t ∧ t < 3) (hfo : fo + l ≤ N) (hN : N ≤ 1000) :
    Calls Try.prog 86 #[modV 3, .slice (some ⟨g, fo, none⟩) l c1, .int .i64 t] w fun e w' => e = .returned (.tuple #[]) ∧ Flat w' g N (scaleF 3 t F fo l) ∧ Only (fun q => q = g) w w' := by
  have HF0 := Lib.hid h
  have HL := Lib.hid hl
  have HG := Lib.hid hg
  have hm : modV 3 = .iface 248 (.agg #[]) := rfl
  have hmp := method_prime3
  rw [hm]
  clear h hl hm hg
  go_enter Try.func86, Try.ntmps86
  go_wp2
  go_loopw [9] (fun i wr => ∃ k : Nat, k ≤ l ∧ i = .int .i64 k ∧ Flat wr g N (scaleF 3 t F fo k) ∧ Only (fun q => q = g) w wr) (fun i _ => l - (intOf i).toNat)
  case atStart => exact ⟨0, Nat.zero_le _, rfl, by rw [scaleF_zero]; exact HF0.out, Only.refl _ _⟩
  case round =>
    obtain ⟨k, hk, rfl, hfl, hbl⟩ := hrel
    have HF := Lib.hid hfl
    have HB := Lib.hid hbl
    have HGL : Hid (g < wr.heap.size) := Lib.hid (Nat.lt_of_lt_of_le HG.out hbl.size)
    by_cases hlt : k < l
    · have hkl : (k : Int) < (l : Int) := by omega
      have ex := hfl.1 (fo + k) (by omega)
      rw [scaleF_new] at ex
      have bx := HL.out (fo + k)
      obtain ⟨x, hx⟩ : ∃ x, F (fo + k) = x := ⟨_, rfl⟩
      rw [hx] at ex bx
      have hxt := prodT (t := t) (y := x) ⟨htl.1, by omega⟩ ⟨bx.1, by omega⟩
      rw [Int.mul_comm] at hxt
      obtain ⟨z, hz⟩ : ∃ z, x * t % 3 = z := ⟨_, rfl⟩
      have HTF : Hid ((fun q => if q = fo + k then z else scaleF 3 t F fo k q) = scaleF 3 t F fo (k + 1)) := Lib.hid (by rw [← hz, ← hx]; exact scaleF_set _ _ _ _ _)
      have hw1 : IntKind.i64.wrap (x * t) = x * t := IntWalk.i64_in _ (by omega)
      have hm1 : Int.tmod (x * t) 3 = z := by rw [Int.tmod_eq_emod_of_nonneg hxt.1]; exact hz
      have hz3 : 0 ≤ z ∧ z < 3 := by rw [← hz]; exact ⟨Int.emod_nonneg _ (by omega), Int.emod_lt_of_pos _ (by omega)⟩
      have hw2 : IntKind.i64.wrap z = z := IntWalk.i64_in _ (by omega)
      clear hfl hbl bx hx hxt hz
      go_wp2
      refine wp_region_noPanic ?_
      refine wp_region_late (S := (fun w' => w'.cell? ⟨g, fo + k, none⟩ = some (.int .i64 x) ∧ Below wr.heap.size wr w')) [12] (by kernel_rfl) ?_ (fun hHeld => ?_)
      · exact ⟨ex, (QW.refl _).drew.below _⟩
      refine wpAnyL_free (i := 0) (v := ?_) (some 12) rfl rfl (by kernel_rfl) (by kernel_rfl) (by kernel_rfl) (by decide) (fun _ _ _ h => h) (Or.inl ⟨by rfl, ?_⟩) (fun h0 => by assumption) ?_
      rotate_left
      · intro wS
        go_simp
        try with_reducible rfl
      try simp only [Act.put, List.setIfInBounds_toArray, List.set_cons_zero, List.set_cons_succ]
      refine wpAnyL_free (i := 1) (v := ?_) (some 13) rfl rfl (by kernel_rfl) (by kernel_rfl) (by kernel_rfl) (by decide) (fun _ _ _ h => h) (Or.inl ⟨by rfl, ?_⟩) (fun h0 => by assumption) ?_
      rotate_left
      · intro wS
        go_simp
        try with_reducible rfl
      try simp only [Act.put, List.setIfInBounds_toArray, List.set_cons_zero, List.set_cons_succ]
      refine wpAnyL_free (i := 2) (v := ?_) (some 14) rfl rfl (by kernel_rfl) (by kernel_rfl) (by kernel_rfl) (by decide) (fun _ _ _ h => h) (Or.inl ⟨by rfl, ?_⟩) (fun h0 => by assumption) ?_
      rotate_left
      · intro wS
        go_simp
        try with_reducible rfl
      try simp only [Act.put, List.setIfInBounds_toArray, List.set_cons_zero, List.set_cons_succ]
      refine wpAnyL_free (i := 3) (v := ?_) (some 15) rfl rfl (by kernel_rfl) (by kernel_rfl) (by kernel_rfl) (by decide) (fun _ _ _ h => h) (Or.inl ⟨by rfl, ?_⟩) (fun h0 => by assumption) ?_
      rotate_left
      · intro wS
        go_simp
        try with_reducible rfl
      try simp only [Act.put, List.setIfInBounds_toArray, List.set_cons_zero, List.set_cons_succ]
      refine wpAnyL_free (i := 4) (v := ?_) (some 16) rfl rfl (by kernel_rfl) (by kernel_rfl) (by kernel_rfl) (by decide) (fun _ _ _ h => h) (Or.inl ⟨by rfl, ?_⟩) (fun h0 => by assumption) ?_
      rotate_left
      · intro wS
        go_simp
        try with_reducible rfl
      try simp only [Act.put, List.setIfInBounds_toArray, List.set_cons_zero, List.set_cons_succ]
      refine wpAnyL_take (i := 5) (v := ?_) (some 17) rfl rfl (by kernel_rfl) (by kernel_rfl) (by kernel_rfl) (by kernel_rfl) (by kernel_rfl) (fun _ _ _ h => h) (Or.inl ⟨by rfl, ?_⟩) (by assumption) ?_
      rotate_left
      · intro wS hSw
        try dsimp only at hSw
        go_simp
        try with_reducible rfl
      try simp only [Act.put, List.setIfInBounds_toArray, List.set_cons_zero, List.set_cons_succ]
      refine wpAnyL_free (i := 6) (v := ?_) (some 18) rfl rfl (by kernel_rfl) (by kernel_rfl) (by kernel_rfl) (by decide) (fun _ _ _ h => h) (Or.inl ⟨by rfl, ?_⟩) (fun h0 => by assumption) ?_
      rotate_left
      · intro wS
        go_simp
        try with_reducible rfl
      try simp only [Act.put, List.setIfInBounds_toArray, List.set_cons_zero, List.set_cons_succ]
      refine wpAnyL_free (i := 7) (v := ?_) (some 19) rfl rfl (by kernel_rfl) (by kernel_rfl) (by kernel_rfl) (by decide) (fun _ _ _ h => h) (Or.inl ⟨by rfl, ?_⟩) (fun h0 => by assumption) ?_
      rotate_left
      · intro wS
        go_simp
        try with_reducible rfl
      try simp only [Act.put, List.setIfInBounds_toArray, List.set_cons_zero, List.set_cons_succ]
      refine wpAnyL_free (i := 8) (v := ?_) (some 20) rfl rfl (by kernel_rfl) (by kernel_rfl) (by kernel_rfl) (by decide) (fun _ _ _ h => h) (Or.inl ⟨by rfl, ?_⟩) (fun h0 => by assumption) ?_
      rotate_left
      · intro wS
        go_simp
        try with_reducible rfl
      try simp only [Act.put, List.setIfInBounds_toArray, List.set_cons_zero, List.set_cons_succ]
      refine wpAnyL_ready (rs := [9]) (by kernel_rfl) (by simp) ?_
      refine AllReadyL.cons rfl (fun K hK => ?_) AllReadyL.nil
      go_simp; go_at_call 254; refine (prime3 _).mono ?_; rintro e w5 ⟨rfl, hb5⟩
      refine hK.out _ _ ?_ (fun hHeld => ?_)
      · exact ⟨below_cell hb5 hHeld.1, hHeld.2.trans (hb5.mono hHeld.2.size)⟩
      clear hK K
      try simp only [Act.put, List.setIfInBounds_toArray, List.set_cons_zero, List.set_cons_succ]
      refine wpAnyL_free (i := 10) (v := ?_) (some 22) rfl rfl (by kernel_rfl) (by kernel_rfl) (by kernel_rfl) (by decide) (fun _ _ _ h => h) (Or.inl ⟨by rfl, ?_⟩) (fun h0 => by assumption) ?_
      rotate_left
      · intro wS
        go_simp
        try with_reducible rfl
      try simp only [Act.put, List.setIfInBounds_toArray, List.set_cons_zero, List.set_cons_succ]
      refine wpAnyL_free (i := 11) (v := ?_) (some 23) rfl rfl (by kernel_rfl) (by kernel_rfl) (by kernel_rfl) (by decide) (fun _ _ _ h => h) (Or.inl ⟨by rfl, ?_⟩) (fun h0 => by assumption) ?_
      rotate_left
      · intro wS
        go_simp
        try with_reducible rfl
      try simp only [Act.put, List.setIfInBounds_toArray, List.set_cons_zero, List.set_cons_succ]
      refine wpAnyL_ready (rs := [12]) (by kernel_rfl) (by simp) ?_
      refine AllReadyL.last rfl (by kernel_rfl) (fun K hK => ?_) AllReadyL.nil
      have HB5 := Lib.hid hHeld.2
      have hfl5 := HF.out.same (HB5.out.block g HGL.out)
      have ex5 : w5.cell? ⟨g, fo + k, none⟩ = some (.int .i64 x) := hHeld.1
      have fz5 := hfl5.2 (fo + k)
      have HF5 := Lib.hid hfl5
      clear hfl5
      go_simp
      refine hK.out _ _ ?_
      clear hK K
      try simp only [Act.put, List.setIfInBounds_toArray, List.set_cons_zero, List.set_cons_succ]
      refine wpAnyL_done (by kernel_rfl) ?_ _
      refine NoPanic.normal ?_
      have HF2 := Lib.hid (HF5.out.set (fo + k) (by omega) z)
      have HB2 := Lib.hid (Only.setCell (HB.out.trans (HB5.out.only)) (p := ⟨g, fo + k, none⟩) rfl (.int .i64 z))
      clear hHeld ex5 fz5
      go_wp2
      go_roundw
      case rel => exact ⟨k + 1, by omega, by go_num, by have h := HF2.out; rw [HTF.out] at h; exact h, HB2.out⟩
      case measure => simp [intOf]; omega
    · obtain rfl : k = l := by omega
      clear hfl hbl
      go_wp2
      go_end0
      exact ⟨rfl, HF.out, HB.out⟩

end Go.Proofs.Ytnbgpeoceejolaa
