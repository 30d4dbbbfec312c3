/-
  The rows of a system in the model: l07Rows.
-/
import Derived.Test.YtnbgpeoceejolaaMRows
import Derived.Test.YtnbgpeoceejolaaSys
import Derived.Test.YtnbgpeoceejolaaTupleOf
import Derived.Test.YtnbgpeoceejolaaGrowAt
import Derived.Deep.CutRange
import Derived.Deep.AppendLies
namespace Go.Proofs.Ytnbgpeoceejolaa
open Go.RowKit

theorem OwnRow.setO {w : World} {B : Nat} {v : Value} {xs : List Int} (h : OwnRow w B v xs) (p : Addr) (u : Value) (hp : v.ownBlock ≠ some p.block) : OwnRow (w.setCell p u) B v xs :=
  ownsRow_same h fun _ hg => Below.heap_setCell _ _ _ _ (fun e => hp (e ▸ hg))
theorem own_zeros (w : World) (B n : Nat) (hB : B ≤ w.heap.size) (hn : n ≤ 1000) : OwnRow (w.alloc (.cells (Array.replicate n (Value.int .i64 0)) 2)) B (.slice (some ⟨w.heap.size, 0, none⟩) n n) (List.replicate n 0) := by
  have h := ownsRow_alloc_new w B (List.replicate n (Value.int .i64 0)) n hB (by simp) (by omega)
  unfold OwnRow
  have e : (List.replicate n (Value.int .i64 0)).toArray = Array.replicate n (Value.int .i64 0) := by simp
  rw [e] at h
  simpa using h
theorem info_R3 : (Try.prog.info? 123).map (fun i => (i.zero, i.size, i.bytes)) = some (some (.agg #[.slice none 0 0, .int .i64 0, .slice none 0 0]), 3, 56) := by kernel_rfl
/-- The cells of k rows. -/
def flat3 (VL : Nat → Value) (rs : List (Int × List Int)) (VB : Nat → Value) (k : Nat) : List Value := (List.range k).flatMap fun i => [VL i, .int .i64 (arO rs i), VB i]
theorem flat3_succ (VL : Nat → Value) (rs : List (Int × List Int)) (VB : Nat → Value) (k : Nat) : flat3 VL rs VB (k + 1) = flat3 VL rs VB k ++ [VL k, .int .i64 (arO rs k), VB k] := by simp [flat3, List.range_succ]
theorem flat3_len (VL : Nat → Value) (rs : List (Int × List Int)) (VB : Nat → Value) (k : Nat) : (flat3 VL rs VB k).length = k * 3 := by
  induction k with
  | zero => rfl
  | succ k ih => rw [flat3_succ, List.length_append, ih]; simp; omega
theorem flat3_at (VL : Nat → Value) (rs : List (Int × List Int)) (VB : Nat → Value) {k i : Nat} (hi : i < k) : (flat3 VL rs VB k)[i * 3]? = some (VL i) ∧ (flat3 VL rs VB k)[i * 3 + 1]? = some (.int .i64 (arO rs i)) ∧ (flat3 VL rs VB k)[i * 3 + 2]? = some (VB i) := by
  induction k with
  | zero => omega
  | succ k ih =>
    rw [flat3_succ]
    by_cases h : i < k
    · obtain ⟨h1, h2, h3⟩ := ih h
      refine ⟨?_, ?_, ?_⟩
      · rw [List.getElem?_append_left (by rw [flat3_len]; omega)]; exact h1
      · rw [List.getElem?_append_left (by rw [flat3_len]; omega)]; exact h2
      · rw [List.getElem?_append_left (by rw [flat3_len]; omega)]; exact h3
    · obtain rfl : i = k := by omega
      refine ⟨?_, ?_, ?_⟩
      · rw [List.getElem?_append_right (by rw [flat3_len]; omega), flat3_len, show i * 3 - i * 3 = 0 by omega]; rfl
      · rw [List.getElem?_append_right (by rw [flat3_len]; omega), flat3_len, show i * 3 + 1 - i * 3 = 1 by omega]; rfl
      · rw [List.getElem?_append_right (by rw [flat3_len]; omega), flat3_len, show i * 3 + 2 - i * 3 = 2 by omega]; rfl
theorem flat3_congr {VL VL' VB VB' : Nat → Value} {rs : List (Int × List Int)} {k : Nat} (h : ∀ i, i < k → VL i = VL' i ∧ VB i = VB' i) : flat3 VL rs VB k = flat3 VL' rs VB' k := by
  induction k with
  | zero => rfl
  | succ k ih => rw [flat3_succ, flat3_succ, ih fun i hi => h i (by omega), (h k (by omega)).1, (h k (by omega)).2]
/-- How an equation has been made: once itself. -/
def unitL (n i : Nat) : List Int := (List.range n).map fun j => if j = i then 1 else 0
theorem unitL_set (n i : Nat) : (List.replicate n (0 : Int)).set i 1 = unitL n i := by
  apply List.ext_getElem
  · simp [unitL]
  · intro j h1 h2
    rw [List.getElem_set]
    by_cases h : i = j
    · subst h; simp [unitL]
    · rw [if_neg h]
      simp [unitL, show ¬ j = i from fun e => h e.symm]
/-- Rows in the making: k of them. -/
structure MkRows (w : World) (B : Nat) (v : Value) (k n : Nat) (VL VB : Nat → Value) (rs : List (Int × List Int)) : Prop where
  outer : w.ownsRow B 123 3 v k (flat3 VL rs VB k)
  left : ∀ i, i < k → OwnRow w B (VL i) (rowO rs i)
  by_ : ∀ i, i < k → OwnRow w B (VB i) (unitL n i)
  ap : ∀ i j, i < k → j < k → i ≠ j → ∀ g, ((VL i).ownBlock = some g ∨ (VB i).ownBlock = some g) → (VL j).ownBlock ≠ some g ∧ (VB j).ownBlock ≠ some g
  own : ∀ i, i < k → ∀ g, (VL i).ownBlock = some g → (VB i).ownBlock ≠ some g
  out : ∀ i, i < k → ∀ g, ((VL i).ownBlock = some g ∨ (VB i).ownBlock = some g) → v.ownBlock ≠ some g
theorem MkRows.below {w w' : World} {B k n : Nat} {v : Value} {VL VB : Nat → Value} {rs : List (Int × List Int)} (h : MkRows w B v k n VL VB rs) (hb : Below w.heap.size w w') : MkRows w' B v k n VL VB rs :=
  ⟨ownsRow_below h.outer hb, fun i hi => (h.left i hi).below hb, fun i hi => (h.by_ i hi).below hb, h.ap, h.own, h.out⟩

/-- One row more. -/
theorem MkRows.more {wr w7 w8 : World} {B k n c g cap : Nat} {a : Option Addr} {VL VB : Nat → Value} {rs : List (Int × List Int)} {V1 V2 : Value} (h : MkRows wr B (.slice a k c) k n VL VB rs) (hB : B ≤ wr.heap.size) (hsz : wr.heap.size ≤ w7.heap.size) (h1 : ∀ j, j < wr.heap.size → w7.heap[j]? = wr.heap[j]?)
    (hA : OwnRow w7 wr.heap.size V1 (rowO rs k)) (hG : OwnRow w7 wr.heap.size V2 (unitL n k)) (hAG : ∀ x, V1.ownBlock = some x → V2.ownBlock ≠ some x) (hg : w7.grownBy w8 (Value.slice a k c).ownBlock)
    (hown : w8.ownsRow B 123 3 (.slice (some ⟨g, 0, none⟩) (k + 1) cap) (k + 1) (flat3 VL rs VB k ++ [V1, .int .i64 (arO rs k), V2])) (hat : (Value.slice a k c).ownBlock = some g ∨ g = w7.heap.size) :
    MkRows w8 B (.slice (some ⟨g, 0, none⟩) (k + 1) cap) (k + 1) n (fun i => if i = k then V1 else VL i) (fun i => if i = k then V2 else VB i) rs := by
  have hgo : ∀ x, (Value.slice (some ⟨g, 0, none⟩) (k + 1) cap).ownBlock = some x → x = g := fun x hx => by simpa [Value.ownBlock, eq_comm] using hx
  have hout : ∀ x, (Value.slice a k c).ownBlock = some x → x < wr.heap.size := fun x hx => (h.outer.lt x hx).2
  have old : ∀ {v : Value} {xs : List Int}, OwnRow wr B v xs → (∀ x, v.ownBlock = some x → (Value.slice a k c).ownBlock ≠ some x) → OwnRow w8 B v xs := fun {v xs} ho hne => by
    refine ownsRow_same ho fun x hx => ?_
    have hx1 := (ho.lt x hx).2
    rw [hg.block x (by omega) (fun e => hne x hx e.symm)]
    exact h1 x hx1
  have new : ∀ {v : Value} {xs : List Int}, OwnRow w7 wr.heap.size v xs → OwnRow w8 B v xs := fun {v xs} ho => by
    have h8 : OwnRow w8 wr.heap.size v xs := ownsRow_same ho fun x hx => hg.block x (ho.lt x hx).2 (fun e => by have := hout x e.symm; have := (ho.lt x hx).1; omega)
    exact h8.mono hB
  have far : ∀ x, x < w7.heap.size → (Value.slice a k c).ownBlock ≠ some x → x ≠ g := fun x hx hne e => by
    subst e
    rcases hat with e | e
    · exact hne e
    · omega
  refine ⟨?_, fun i hi => ?_, fun i hi => ?_, fun i j hi hj hij x hx => ?_, fun i hi x hx => ?_, fun i hi x hx e => ?_⟩
  · rw [flat3_succ]
    simp only [if_true]
    rw [flat3_congr (VL := fun i => if i = k then V1 else VL i) (VL' := VL) (VB := fun i => if i = k then V2 else VB i) (VB' := VB) fun i hi => ⟨if_neg (by omega), if_neg (by omega)⟩]
    exact hown
  · show OwnRow w8 B (if i = k then V1 else VL i) (rowO rs i)
    by_cases hik : i = k
    · rw [if_pos hik, hik]; exact new hA
    · rw [if_neg hik]; exact old (h.left i (by omega)) fun x hx => h.out i (by omega) x (.inl hx)
  · show OwnRow w8 B (if i = k then V2 else VB i) (unitL n i)
    by_cases hik : i = k
    · rw [if_pos hik, hik]; exact new hG
    · rw [if_neg hik]; exact old (h.by_ i (by omega)) fun x hx => h.out i (by omega) x (.inr hx)
  · by_cases hik : i = k
    · simp only [if_pos hik] at hx
      have hxw : wr.heap.size ≤ x := by
        rcases hx with e | e
        · exact (hA.lt x e).1
        · exact (hG.lt x e).1
      have hjk : ¬ j = k := by omega
      simp only [if_neg hjk]
      exact ⟨fun e => by have := ((h.left j (by omega)).lt x e).2; omega, fun e => by have := ((h.by_ j (by omega)).lt x e).2; omega⟩
    · simp only [if_neg hik] at hx
      have hxw : x < wr.heap.size := by
        rcases hx with e | e
        · exact ((h.left i (by omega)).lt x e).2
        · exact ((h.by_ i (by omega)).lt x e).2
      by_cases hjk : j = k
      · simp only [if_pos hjk]
        exact ⟨fun e => by have := (hA.lt x e).1; omega, fun e => by have := (hG.lt x e).1; omega⟩
      · simp only [if_neg hjk]
        exact h.ap i j (by omega) (by omega) hij x hx
  · by_cases hik : i = k
    · simp only [if_pos hik] at hx ⊢; exact hAG x hx
    · simp only [if_neg hik] at hx ⊢; exact h.own i (by omega) x hx
  · have hxg := hgo x e
    by_cases hik : i = k
    · simp only [if_pos hik] at hx
      have hxw : wr.heap.size ≤ x ∧ x < w7.heap.size := by
        rcases hx with e | e
        · exact hA.lt x e
        · exact hG.lt x e
      exact far x hxw.2 (fun e => by have := hout x e; omega) hxg
    · simp only [if_neg hik] at hx
      have hxw : x < wr.heap.size := by
        rcases hx with e | e
        · exact ((h.left i (by omega)).lt x e).2
        · exact ((h.by_ i (by omega)).lt x e).2
      exact far x (by omega) (h.out i (by omega) x hx) hxg

set_option linter.unusedSimpArgs false in
set_option maxHeartbeats 4000000 in
set_option maxRecDepth 100000 in
theorem l07RowsC (sb so : Nat) (p : Int) (u : Nat) (rs : List (Int × List Int)) (w : World) (hs : SysAt w sb so p u rs) (hok : SysOk p u rs) :
    Calls Try.prog 140 #[.pointer (some ⟨sb, so, none⟩)] w fun e w' => ∃ a c VL VB, e = .returned (.slice a rs.length c) ∧ MkRows w' w.heap.size (.slice a rs.length c) rs.length rs.length VL VB rs ∧ Below w.heap.size w w' := by
  obtain ⟨hpr, hun, a0, n0, c0, hls, hes⟩ := hs
  obtain ⟨ea, ec, hv, hnn, hel⟩ := hes
  simp only [Value.slice.injEq] at hv
  obtain ⟨rfl, rfl, rfl⟩ := hv
  have HEL := Lib.hid hel
  have HOK := Lib.hid hok
  have hn24 := hok.2.2.1
  have hu12 := hok.2.1
  obtain ⟨i0, hi, hz0, hz1, hz2⟩ := info_parts info_R3
  have hmk := make_row rs.length (by omega)
  have HLS := Lib.hid hls
  clear hel hok hls hpr hun
  go_enter Try.func140, Try.ntmps140
  go_wp2
  obtain ⟨w1, hw1⟩ : ∃ w1, w.alloc (.cells #[] 123) = w1 := ⟨_, rfl⟩
  have HW1 : Hid (Below w.heap.size w w1) := Lib.hid (by rw [← hw1]; exact (Below.refl _ _).alloc (Nat.le_refl _) _)
  have HI1 : Hid (MkRows w1 w.heap.size (.slice (some ⟨w.heap.size, 0, none⟩) 0 0) 0 rs.length (fun _ => .slice none 0 0) (fun _ => .slice none 0 0) rs) := Lib.hid (by
    refine ⟨⟨rfl, .inr ⟨w.heap.size, 0, #[], rfl, Nat.le_refl _, by rw [← hw1]; exact heap_alloc_new w _, Nat.le_refl _, Nat.zero_le _, rfl, rfl⟩⟩, fun i hi => by omega, fun i hi => by omega, fun i j hi => by omega, fun i hi => by omega, fun i hi => by omega⟩)
  rw [hw1]
  clear hw1
  go_loopw [3, 4] (fun v i wr => ∃ (k : Nat) (a : Option Addr) (c : Nat) (VL VB : Nat → Value), k ≤ rs.length ∧ i = .int .i64 k ∧ v = .slice a k c ∧ MkRows wr w.heap.size (.slice a k c) k rs.length VL VB rs ∧ Below w.heap.size w wr) (fun _ i _ => rs.length - (intOf i).toNat)
  case atStart => exact ⟨0, _, _, _, _, Nat.zero_le _, rfl, rfl, HI1.out, HW1.out⟩
  case round =>
    obtain ⟨k, a, c, VL, VB, hk, rfl, rfl, hmkr, hbl⟩ := hrel
    have HMK := Lib.hid hmkr
    have HBL := Lib.hid hbl
    have dl := below_cell hbl HLS.out
    clear hmkr
    by_cases hlt : k < rs.length
    · obtain ⟨eb, ef, rfl, hel⟩ := HEL.out (by omega)
      obtain ⟨er, la, ln, lc, el, hrow⟩ := (hel k hlt).below hbl
      have hln : ln = (rowO rs k).length := by
        obtain ⟨a', c', hv, _, _⟩ := hrow
        simp only [Value.slice.injEq] at hv
        exact hv.2.1
      subst hln
      have HLR := Lib.hid hrow
      obtain ⟨hlen, hrr, _⟩ := HOK.out.2.2.2 k hlt
      have hl1 : 1 ≤ (rowO rs k).length := by have := hu12.1; omega
      have hl12 : (rowO rs k).length ≤ 12 := by have := hu12.2; omega
      obtain ⟨r, hr⟩ : ∃ r, arO rs k = r := ⟨_, rfl⟩
      rw [hr] at er
      have HR := Lib.hid hr
      have hkn : (k : Int) < (rs.length : Int) := by omega
      have d0 := dl
      have d1 := el
      have d2 := er
      clear hbl dl hel hrow hlen hrr hr el er
      go_upto_region 5 with fail
      go_cut [5] from 7 to 47 (fun v5 wz => ∃ b5 a1 c1 g2, v5 = .pointer (some ⟨b5, 0, none⟩) ∧ Box 123 wz b5 #[.slice a1 (rowO rs k).length c1, .int .i64 r, .slice (some ⟨g2, 0, none⟩) rs.length rs.length] ∧ OwnRow wz wr.heap.size (.slice a1 (rowO rs k).length c1) (rowO rs k) ∧ OwnRow wz wr.heap.size (.slice (some ⟨g2, 0, none⟩) rs.length rs.length) (List.replicate rs.length 0) ∧ (∀ g, (Value.slice a1 (rowO rs k).length c1).ownBlock = some g → g ≠ g2) ∧ (∀ g, (Value.slice a1 (rowO rs k).length c1).ownBlock = some g → g ≠ b5) ∧ g2 ≠ b5 ∧ Below wr.heap.size wr wz)
      case first =>
        refine wp_region_noPanic ?_
        refine wp_region_late (S := (fun w' => w'.cell? ⟨sb, so + 2, none⟩ = some (.slice (some ⟨eb, ef, none⟩) rs.length c0) ∧ w'.cell? ⟨eb, ef + k * 2, none⟩ = some (.slice la (rowO rs k).length lc) ∧ w'.cell? ⟨eb, ef + k * 2 + 1, none⟩ = some (.int .i64 r) ∧ Below wr.heap.size wr w')) [25] (by kernel_rfl) ?_ (fun hHeld => ?_)
        · exact ⟨d0, d1, d2, (QW.refl _).drew.below _⟩
        refine wpAnyL_free (i := 0) (v := ?_) (some 16) rfl rfl (by kernel_rfl) (by kernel_rfl) (by kernel_rfl) (by decide) (fun _ _ _ h => h) (Or.inl ⟨by rfl, ?_⟩) (fun h0 => by assumption) ?_
        rotate_left
        · intro wS
          go_simp
          try with_reducible rfl
        try simp only [Act.put, List.setIfInBounds_toArray, List.set_cons_zero, List.set_cons_succ]
        refine wpAnyL_free (i := 1) (v := ?_) (some 17) rfl rfl (by kernel_rfl) (by kernel_rfl) (by kernel_rfl) (by decide) (fun _ _ _ h => h) (Or.inl ⟨by rfl, ?_⟩) (fun h0 => by assumption) ?_
        rotate_left
        · intro wS
          go_simp
          try with_reducible rfl
        try simp only [Act.put, List.setIfInBounds_toArray, List.set_cons_zero, List.set_cons_succ]
        refine wpAnyL_free (i := 2) (v := ?_) (some 18) rfl rfl (by kernel_rfl) (by kernel_rfl) (by kernel_rfl) (by decide) (fun _ _ _ h => h) (Or.inl ⟨by rfl, ?_⟩) (fun h0 => by assumption) ?_
        rotate_left
        · intro wS
          go_simp
          try with_reducible rfl
        try simp only [Act.put, List.setIfInBounds_toArray, List.set_cons_zero, List.set_cons_succ]
        refine wpAnyL_take (i := 3) (v := ?_) (some 19) rfl rfl (by kernel_rfl) (by kernel_rfl) (by kernel_rfl) (by kernel_rfl) (by kernel_rfl) (fun _ _ _ h => h) (Or.inl ⟨by rfl, ?_⟩) (by assumption) ?_
        rotate_left
        · intro wS hSw
          try dsimp only at hSw
          go_simp
          try with_reducible rfl
        try simp only [Act.put, List.setIfInBounds_toArray, List.set_cons_zero, List.set_cons_succ]
        refine wpAnyL_free (i := 4) (v := ?_) (some 20) rfl rfl (by kernel_rfl) (by kernel_rfl) (by kernel_rfl) (by decide) (fun _ _ _ h => h) (Or.inl ⟨by rfl, ?_⟩) (fun h0 => by assumption) ?_
        rotate_left
        · intro wS
          go_simp
          try with_reducible rfl
        try simp only [Act.put, List.setIfInBounds_toArray, List.set_cons_zero, List.set_cons_succ]
        refine wpAnyL_free (i := 5) (v := ?_) (some 21) rfl rfl (by kernel_rfl) (by kernel_rfl) (by kernel_rfl) (by decide) (fun _ _ _ h => h) (Or.inl ⟨by rfl, ?_⟩) (fun h0 => by assumption) ?_
        rotate_left
        · intro wS
          go_simp
          try with_reducible rfl
        try simp only [Act.put, List.setIfInBounds_toArray, List.set_cons_zero, List.set_cons_succ]
        refine wpAnyL_free (i := 6) (v := ?_) (some 22) rfl rfl (by kernel_rfl) (by kernel_rfl) (by kernel_rfl) (by decide) (fun _ _ _ h => h) (Or.inl ⟨by rfl, ?_⟩) (fun h0 => by assumption) ?_
        rotate_left
        · intro wS
          go_simp
          try with_reducible rfl
        try simp only [Act.put, List.setIfInBounds_toArray, List.set_cons_zero, List.set_cons_succ]
        refine wpAnyL_take (i := 7) (v := ?_) (some 23) rfl rfl (by kernel_rfl) (by kernel_rfl) (by kernel_rfl) (by kernel_rfl) (by kernel_rfl) (fun _ _ _ h => h) (Or.inl ⟨by rfl, ?_⟩) (by assumption) ?_
        rotate_left
        · intro wS hSw
          try dsimp only at hSw
          go_simp
          try with_reducible rfl
        try simp only [Act.put, List.setIfInBounds_toArray, List.set_cons_zero, List.set_cons_succ]
        refine wpAnyL_free (i := 9) (v := ?_) (some 25) rfl rfl (by kernel_rfl) (by kernel_rfl) (by kernel_rfl) (by decide) (fun _ _ _ h => h) (Or.inl ⟨by rfl, ?_⟩) (fun h0 => by assumption) ?_
        rotate_left
        · intro wS
          go_simp
          try with_reducible rfl
        try simp only [Act.put, List.setIfInBounds_toArray, List.set_cons_zero, List.set_cons_succ]
        refine wpAnyL_free (i := 10) (v := ?_) (some 26) rfl rfl (by kernel_rfl) (by kernel_rfl) (by kernel_rfl) (by decide) (fun _ _ _ h => h) (Or.inl ⟨by rfl, ?_⟩) (fun h0 => by assumption) ?_
        rotate_left
        · intro wS
          go_simp
          try with_reducible rfl
        try simp only [Act.put, List.setIfInBounds_toArray, List.set_cons_zero, List.set_cons_succ]
        refine wpAnyL_free (i := 11) (v := ?_) (some 27) rfl rfl (by kernel_rfl) (by kernel_rfl) (by kernel_rfl) (by decide) (fun _ _ _ h => h) (Or.inl ⟨by rfl, ?_⟩) (fun h0 => by assumption) ?_
        rotate_left
        · intro wS
          go_simp
          try with_reducible rfl
        try simp only [Act.put, List.setIfInBounds_toArray, List.set_cons_zero, List.set_cons_succ]
        refine wpAnyL_take (i := 12) (v := ?_) (some 28) rfl rfl (by kernel_rfl) (by kernel_rfl) (by kernel_rfl) (by kernel_rfl) (by kernel_rfl) (fun _ _ _ h => h) (Or.inl ⟨by rfl, ?_⟩) (by assumption) ?_
        rotate_left
        · intro wS hSw
          try dsimp only at hSw
          go_simp
          try with_reducible rfl
        try simp only [Act.put, List.setIfInBounds_toArray, List.set_cons_zero, List.set_cons_succ]
        refine wpAnyL_free (i := 13) (v := ?_) (some 29) rfl rfl (by kernel_rfl) (by kernel_rfl) (by kernel_rfl) (by decide) (fun _ _ _ h => h) (Or.inl ⟨by rfl, ?_⟩) (fun h0 => by assumption) ?_
        rotate_left
        · intro wS
          go_simp
          try with_reducible rfl
        try simp only [Act.put, List.setIfInBounds_toArray, List.set_cons_zero, List.set_cons_succ]
        refine wpAnyL_free (i := 14) (v := ?_) (some 30) rfl rfl (by kernel_rfl) (by kernel_rfl) (by kernel_rfl) (by decide) (fun _ _ _ h => h) (Or.inl ⟨by rfl, ?_⟩) (fun h0 => by assumption) ?_
        rotate_left
        · intro wS
          go_simp
          try with_reducible rfl
        try simp only [Act.put, List.setIfInBounds_toArray, List.set_cons_zero, List.set_cons_succ]
        refine wpAnyL_free (i := 15) (v := ?_) (some 31) rfl rfl (by kernel_rfl) (by kernel_rfl) (by kernel_rfl) (by decide) (fun _ _ _ h => h) (Or.inl ⟨by rfl, ?_⟩) (fun h0 => by assumption) ?_
        rotate_left
        · intro wS
          go_simp
          try with_reducible rfl
        try simp only [Act.put, List.setIfInBounds_toArray, List.set_cons_zero, List.set_cons_succ]
        refine wpAnyL_take (i := 16) (v := ?_) (some 32) rfl rfl (by kernel_rfl) (by kernel_rfl) (by kernel_rfl) (by kernel_rfl) (by kernel_rfl) (fun _ _ _ h => h) (Or.inl ⟨by rfl, ?_⟩) (by assumption) ?_
        rotate_left
        · intro wS hSw
          try dsimp only at hSw
          go_simp
          try with_reducible rfl
        try simp only [Act.put, List.setIfInBounds_toArray, List.set_cons_zero, List.set_cons_succ]
        refine wpAnyL_free (i := 17) (v := ?_) (some 33) rfl rfl (by kernel_rfl) (by kernel_rfl) (by kernel_rfl) (by decide) (fun _ _ _ h => h) (Or.inl ⟨by rfl, ?_⟩) (fun h0 => by assumption) ?_
        rotate_left
        · intro wS
          go_simp
          try with_reducible rfl
        try simp only [Act.put, List.setIfInBounds_toArray, List.set_cons_zero, List.set_cons_succ]
        refine wpAnyL_free (i := 18) (v := ?_) (some 34) rfl rfl (by kernel_rfl) (by kernel_rfl) (by kernel_rfl) (by decide) (fun _ _ _ h => h) (Or.inl ⟨by rfl, ?_⟩) (fun h0 => by assumption) ?_
        rotate_left
        · intro wS
          go_simp
          try with_reducible rfl
        try simp only [Act.put, List.setIfInBounds_toArray, List.set_cons_zero, List.set_cons_succ]
        refine wpAnyL_free (i := 19) (v := ?_) (some 35) rfl rfl (by kernel_rfl) (by kernel_rfl) (by kernel_rfl) (by decide) (fun _ _ _ h => h) (Or.inl ⟨by rfl, ?_⟩) (fun h0 => by assumption) ?_
        rotate_left
        · intro wS
          go_simp
          try with_reducible rfl
        try simp only [Act.put, List.setIfInBounds_toArray, List.set_cons_zero, List.set_cons_succ]
        refine wpAnyL_take (i := 20) (v := ?_) (some 36) rfl rfl (by kernel_rfl) (by kernel_rfl) (by kernel_rfl) (by kernel_rfl) (by kernel_rfl) (fun _ _ _ h => h) (Or.inl ⟨by rfl, ?_⟩) (by assumption) ?_
        rotate_left
        · intro wS hSw
          try dsimp only at hSw
          go_simp
          try with_reducible rfl
        try simp only [Act.put, List.setIfInBounds_toArray, List.set_cons_zero, List.set_cons_succ]
        refine wpAnyL_free (i := 21) (v := ?_) (some 37) rfl rfl (by kernel_rfl) (by kernel_rfl) (by kernel_rfl) (by decide) (fun _ _ _ h => h) (Or.inl ⟨by rfl, ?_⟩) (fun h0 => by assumption) ?_
        rotate_left
        · intro wS
          go_simp
          try with_reducible rfl
        try simp only [Act.put, List.setIfInBounds_toArray, List.set_cons_zero, List.set_cons_succ]
        refine wpAnyL_ready (rs := [8, 22, 24]) (by kernel_rfl) (by simp) ?_
        refine AllReadyL.cons rfl (fun K hK => ?_) ?_
        · skip
          go_simp; go_at_call 144; refine (l00Own _ _ _ (rowO rs k) _ (HLR.out.below hHeld.2.2.2) hl1 (by omega)).mono ?_; rintro e wA ⟨a1, c1, rfl, hoA, hbA⟩
          have HA1 := Lib.hid (hoA.mono hHeld.2.2.2.size)
          have hnA : ∀ g, (Value.slice a1 (rowO rs k).length c1).ownBlock = some g → wr.drew.heap.size ≤ g := fun g hg => (hoA.lt g hg).1
          have HNA := Lib.hid hnA
          clear hoA hnA
          refine hK.out _ _ ?_ (fun hHeld => ?_)
          · exact ⟨below_cell hbA hHeld.1, below_cell hbA hHeld.2.1, below_cell hbA hHeld.2.2.1, hHeld.2.2.2.trans (hbA.mono hHeld.2.2.2.size)⟩
          clear hK K
          try simp only [Act.put, List.setIfInBounds_toArray, List.set_cons_zero, List.set_cons_succ]
          refine wpAnyL_ready (rs := [22, 24]) (by kernel_rfl) (by simp) ?_
          refine AllReadyL.cons rfl (fun K hK => ?_) ?_
          · skip
            go_simp
            obtain ⟨wB, hwB⟩ : ∃ wB, wA.alloc (.cells (Array.replicate rs.length (Value.int .i64 0)) 2) = wB := ⟨_, rfl⟩
            obtain ⟨g2, hg2⟩ : ∃ g2, wA.heap.size = g2 := ⟨_, rfl⟩
            have hbB : Below wA.heap.size wA wB := by rw [← hwB]; exact (Below.refl _ _).alloc (Nat.le_refl _) _
            have HB2 : Hid (OwnRow wB wr.heap.size (.slice (some ⟨g2, 0, none⟩) rs.length rs.length) (List.replicate rs.length 0)) := Lib.hid (by rw [← hwB, ← hg2]; exact own_zeros _ _ _ hHeld.2.2.2.size (by omega))
            have HNB := Lib.hid hg2
            try simp only [World.drew_heap]
            try rw [show wr.heap.size = g2 from hg2]
            try rw [hg2]
            rw [hwB]
            clear hwB
            have HA2 := Lib.hid (HA1.out.below hbB)
            refine hK.out _ _ ?_ (fun hHeld => ?_)
            · exact ⟨below_cell hbB hHeld.1, below_cell hbB hHeld.2.1, below_cell hbB hHeld.2.2.1, hHeld.2.2.2.trans (hbB.mono hHeld.2.2.2.size)⟩
            clear hK K
            try simp only [Act.put, List.setIfInBounds_toArray, List.set_cons_zero, List.set_cons_succ]
            refine wpAnyL_free (i := 23) (v := ?_) (some 39) rfl rfl (by kernel_rfl) (by kernel_rfl) (by kernel_rfl) (by decide) (fun _ _ _ h => h) (Or.inl ⟨by rfl, ?_⟩) (fun h0 => by assumption) ?_
            rotate_left
            · intro wS
              go_simp
              try with_reducible rfl
            try simp only [Act.put, List.setIfInBounds_toArray, List.set_cons_zero, List.set_cons_succ]
            refine wpAnyL_ready (rs := [24]) (by kernel_rfl) (by simp) ?_
            refine AllReadyL.cons rfl (fun K hK => ?_) AllReadyL.nil
            go_simp
            obtain ⟨wC, hwC⟩ : ∃ wC, wB.alloc (.cells #[.slice none 0 0, .int .i64 0, .slice none 0 0] 123) = wC := ⟨_, rfl⟩
            obtain ⟨b5, hb5⟩ : ∃ b5, wB.heap.size = b5 := ⟨_, rfl⟩
            have hbC : Below wB.heap.size wB wC := by rw [← hwC]; exact (Below.refl _ _).alloc (Nat.le_refl _) _
            have HC3 : Hid (Box 123 wC b5 #[.slice none 0 0, .int .i64 0, .slice none 0 0]) := Lib.hid (by rw [← hwC, ← hb5]; exact Box.new _ _ _)
            have HNC := Lib.hid hb5
            have HLC : Hid (wr.heap.size ≤ b5) := Lib.hid (by rw [← hb5]; exact hHeld.2.2.2.size)
            try simp only [World.drew_heap]
            try rw [show wr.heap.size = b5 from hb5]
            try rw [hb5]
            rw [hwC]
            clear hwC
            have HA3 := Lib.hid (HA2.out.below hbC)
            have HB3 := Lib.hid (HB2.out.below hbC)
            refine hK.out _ _ ?_ (fun hHeld => ?_)
            · exact ⟨below_cell hbC hHeld.1, below_cell hbC hHeld.2.1, below_cell hbC hHeld.2.2.1, hHeld.2.2.2.trans (hbC.mono hHeld.2.2.2.size)⟩
            clear hK K
            try simp only [Act.put, List.setIfInBounds_toArray, List.set_cons_zero, List.set_cons_succ]
            refine wpAnyL_ready (rs := [25]) (by kernel_rfl) (by simp) ?_
            refine AllReadyL.last rfl (by kernel_rfl) (fun K hK => ?_) AllReadyL.nil
            have HBW := Lib.hid hHeld.2.2.2
            have hAB : ∀ g, (Value.slice a1 (rowO rs k).length c1).ownBlock = some g → g ≠ g2 := fun g hg e => by
              have h1 := (HA1.out.lt g hg).2
              have h2 := HNB.out
              omega
            have hAC : ∀ g, (Value.slice a1 (rowO rs k).length c1).ownBlock = some g → g ≠ b5 := fun g hg e => by
              have h1 := (HA2.out.lt g hg).2
              have h2 := HNC.out
              omega
            have hBC : g2 ≠ b5 := fun e => by
              have h1 := (HB2.out.lt g2 (by simp [Value.ownBlock])).2
              have h2 := HNC.out
              omega
            have HAB := Lib.hid hAB
            have HAC := Lib.hid hAC
            have HBC := Lib.hid hBC
            have z0 : wC.cell? ⟨b5, 0, none⟩ = some (.slice none 0 0) := HC3.out.c 0 rfl
            have y0 := HC3.out.free 0
            have z1 : wC.cell? ⟨b5, 1, none⟩ = some (.int .i64 0) := HC3.out.c 1 rfl
            have y1 := HC3.out.free 1
            have z2 : wC.cell? ⟨b5, 2, none⟩ = some (.slice none 0 0) := HC3.out.c 2 rfl
            have y2 := HC3.out.free 2
            clear hAB hAC hBC
            go_simp
            refine hK.out _ _ ?_
            clear hK K
            try simp only [Act.put, List.setIfInBounds_toArray, List.set_cons_zero, List.set_cons_succ]
            refine wpAnyL_done (by kernel_rfl) ?_ _
            refine NoPanic.normal ?_
            have HF := Lib.hid (((HC3.out.set 0 (.slice a1 (rowO rs k).length c1)).set 1 (.int .i64 r)).set 2 (.slice (some ⟨g2, 0, none⟩) rs.length rs.length))
            have hlo : wr.heap.size ≤ b5 := HLC.out
            have HBF := Lib.hid (((HBW.out.setCell (p := ⟨b5, 0, none⟩) hlo (.slice a1 (rowO rs k).length c1)).setCell (p := ⟨b5, 1, none⟩) hlo (.int .i64 r)).setCell (p := ⟨b5, 2, none⟩) hlo (.slice (some ⟨g2, 0, none⟩) rs.length rs.length))
            have HAF := Lib.hid (OwnRow.setO (OwnRow.setO (OwnRow.setO HA3.out ⟨b5, 0, none⟩ (.slice a1 (rowO rs k).length c1) (fun e => HAC.out b5 e rfl)) ⟨b5, 1, none⟩ (.int .i64 r) (fun e => HAC.out b5 e rfl)) ⟨b5, 2, none⟩ (.slice (some ⟨g2, 0, none⟩) rs.length rs.length) (fun e => HAC.out b5 e rfl))
            have hg2n : ∀ o : Nat, (Value.slice (some ⟨g2, 0, none⟩) rs.length rs.length).ownBlock ≠ some (Addr.mk b5 o none).block := fun o e => HBC.out (by simpa [Value.ownBlock] using e)
            have HGF := Lib.hid (OwnRow.setO (OwnRow.setO (OwnRow.setO HB3.out ⟨b5, 0, none⟩ (.slice a1 (rowO rs k).length c1) (hg2n 0)) ⟨b5, 1, none⟩ (.int .i64 r) (hg2n 1)) ⟨b5, 2, none⟩ (.slice (some ⟨g2, 0, none⟩) rs.length rs.length) (hg2n 2))
            clear z0 z1 z2 y0 y1 y2 hHeld hlo hg2n
            go_wp2_with fail
            go_meet
            exact ⟨b5, a1, c1, g2, rfl, HF.out, HAF.out, HGF.out, HAB.out, HAC.out, HBC.out, HBF.out⟩
          refine AllReadyL.cons rfl (fun K hK => ?_) AllReadyL.nil
          go_simp
          obtain ⟨wC, hwC⟩ : ∃ wC, wA.alloc (.cells #[.slice none 0 0, .int .i64 0, .slice none 0 0] 123) = wC := ⟨_, rfl⟩
          obtain ⟨b5, hb5⟩ : ∃ b5, wA.heap.size = b5 := ⟨_, rfl⟩
          have hbC : Below wA.heap.size wA wC := by rw [← hwC]; exact (Below.refl _ _).alloc (Nat.le_refl _) _
          have HC2 : Hid (Box 123 wC b5 #[.slice none 0 0, .int .i64 0, .slice none 0 0]) := Lib.hid (by rw [← hwC, ← hb5]; exact Box.new _ _ _)
          have HNC := Lib.hid hb5
          have HLC : Hid (wr.heap.size ≤ b5) := Lib.hid (by rw [← hb5]; exact hHeld.2.2.2.size)
          try simp only [World.drew_heap]
          try rw [show wr.heap.size = b5 from hb5]
          try rw [hb5]
          rw [hwC]
          clear hwC
          have HA2 := Lib.hid (HA1.out.below hbC)
          refine hK.out _ _ ?_ (fun hHeld => ?_)
          · exact ⟨below_cell hbC hHeld.1, below_cell hbC hHeld.2.1, below_cell hbC hHeld.2.2.1, hHeld.2.2.2.trans (hbC.mono hHeld.2.2.2.size)⟩
          clear hK K
          try simp only [Act.put, List.setIfInBounds_toArray, List.set_cons_zero, List.set_cons_succ]
          refine wpAnyL_ready (rs := [22]) (by kernel_rfl) (by simp) ?_
          refine AllReadyL.cons rfl (fun K hK => ?_) AllReadyL.nil
          go_simp
          obtain ⟨wB, hwB⟩ : ∃ wB, wC.alloc (.cells (Array.replicate rs.length (Value.int .i64 0)) 2) = wB := ⟨_, rfl⟩
          obtain ⟨g2, hg2⟩ : ∃ g2, wC.heap.size = g2 := ⟨_, rfl⟩
          have hbB : Below wC.heap.size wC wB := by rw [← hwB]; exact (Below.refl _ _).alloc (Nat.le_refl _) _
          have HB3 : Hid (OwnRow wB wr.heap.size (.slice (some ⟨g2, 0, none⟩) rs.length rs.length) (List.replicate rs.length 0)) := Lib.hid (by rw [← hwB, ← hg2]; exact own_zeros _ _ _ hHeld.2.2.2.size (by omega))
          have HNB := Lib.hid hg2
          try simp only [World.drew_heap]
          try rw [show wr.heap.size = g2 from hg2]
          try rw [hg2]
          rw [hwB]
          clear hwB
          have HA3 := Lib.hid (HA2.out.below hbB)
          have HC3 := Lib.hid (HC2.out.below hbB)
          refine hK.out _ _ ?_ (fun hHeld => ?_)
          · exact ⟨below_cell hbB hHeld.1, below_cell hbB hHeld.2.1, below_cell hbB hHeld.2.2.1, hHeld.2.2.2.trans (hbB.mono hHeld.2.2.2.size)⟩
          clear hK K
          try simp only [Act.put, List.setIfInBounds_toArray, List.set_cons_zero, List.set_cons_succ]
          refine wpAnyL_free (i := 23) (v := ?_) (some 39) rfl rfl (by kernel_rfl) (by kernel_rfl) (by kernel_rfl) (by decide) (fun _ _ _ h => h) (Or.inl ⟨by rfl, ?_⟩) (fun h0 => by assumption) ?_
          rotate_left
          · intro wS
            go_simp
            try with_reducible rfl
          try simp only [Act.put, List.setIfInBounds_toArray, List.set_cons_zero, List.set_cons_succ]
          refine wpAnyL_ready (rs := [25]) (by kernel_rfl) (by simp) ?_
          refine AllReadyL.last rfl (by kernel_rfl) (fun K hK => ?_) AllReadyL.nil
          have HBW := Lib.hid hHeld.2.2.2
          have hAB : ∀ g, (Value.slice a1 (rowO rs k).length c1).ownBlock = some g → g ≠ g2 := fun g hg e => by
            have h1 := (HA2.out.lt g hg).2
            have h2 := HNB.out
            omega
          have hAC : ∀ g, (Value.slice a1 (rowO rs k).length c1).ownBlock = some g → g ≠ b5 := fun g hg e => by
            have h1 := (HA1.out.lt g hg).2
            have h2 := HNC.out
            omega
          have hBC : g2 ≠ b5 := fun e => by
            have h1 := HNB.out
            have h2 := HC2.out.lt
            omega
          have HAB := Lib.hid hAB
          have HAC := Lib.hid hAC
          have HBC := Lib.hid hBC
          have z0 : wB.cell? ⟨b5, 0, none⟩ = some (.slice none 0 0) := HC3.out.c 0 rfl
          have y0 := HC3.out.free 0
          have z1 : wB.cell? ⟨b5, 1, none⟩ = some (.int .i64 0) := HC3.out.c 1 rfl
          have y1 := HC3.out.free 1
          have z2 : wB.cell? ⟨b5, 2, none⟩ = some (.slice none 0 0) := HC3.out.c 2 rfl
          have y2 := HC3.out.free 2
          clear hAB hAC hBC
          go_simp
          refine hK.out _ _ ?_
          clear hK K
          try simp only [Act.put, List.setIfInBounds_toArray, List.set_cons_zero, List.set_cons_succ]
          refine wpAnyL_done (by kernel_rfl) ?_ _
          refine NoPanic.normal ?_
          have HF := Lib.hid (((HC3.out.set 0 (.slice a1 (rowO rs k).length c1)).set 1 (.int .i64 r)).set 2 (.slice (some ⟨g2, 0, none⟩) rs.length rs.length))
          have hlo : wr.heap.size ≤ b5 := HLC.out
          have HBF := Lib.hid (((HBW.out.setCell (p := ⟨b5, 0, none⟩) hlo (.slice a1 (rowO rs k).length c1)).setCell (p := ⟨b5, 1, none⟩) hlo (.int .i64 r)).setCell (p := ⟨b5, 2, none⟩) hlo (.slice (some ⟨g2, 0, none⟩) rs.length rs.length))
          have HAF := Lib.hid (OwnRow.setO (OwnRow.setO (OwnRow.setO HA3.out ⟨b5, 0, none⟩ (.slice a1 (rowO rs k).length c1) (fun e => HAC.out b5 e rfl)) ⟨b5, 1, none⟩ (.int .i64 r) (fun e => HAC.out b5 e rfl)) ⟨b5, 2, none⟩ (.slice (some ⟨g2, 0, none⟩) rs.length rs.length) (fun e => HAC.out b5 e rfl))
          have hg2n : ∀ o : Nat, (Value.slice (some ⟨g2, 0, none⟩) rs.length rs.length).ownBlock ≠ some (Addr.mk b5 o none).block := fun o e => HBC.out (by simpa [Value.ownBlock] using e)
          have HGF := Lib.hid (OwnRow.setO (OwnRow.setO (OwnRow.setO HB3.out ⟨b5, 0, none⟩ (.slice a1 (rowO rs k).length c1) (hg2n 0)) ⟨b5, 1, none⟩ (.int .i64 r) (hg2n 1)) ⟨b5, 2, none⟩ (.slice (some ⟨g2, 0, none⟩) rs.length rs.length) (hg2n 2))
          clear z0 z1 z2 y0 y1 y2 hHeld hlo hg2n
          go_wp2_with fail
          go_meet
          exact ⟨b5, a1, c1, g2, rfl, HF.out, HAF.out, HGF.out, HAB.out, HAC.out, HBC.out, HBF.out⟩
        refine AllReadyL.cons rfl (fun K hK => ?_) ?_
        · skip
          go_simp
          obtain ⟨wB, hwB⟩ : ∃ wB, (wr.alloc (.cells (Array.replicate rs.length (Value.int .i64 0)) 2)).drew = wB := ⟨_, rfl⟩
          obtain ⟨g2, hg2⟩ : ∃ g2, wr.drew.heap.size = g2 := ⟨_, rfl⟩
          have hbB : Below wr.drew.heap.size wr.drew wB := by rw [← hwB]; exact (Below.refl _ _).alloc (Nat.le_refl _) _
          have HB1 : Hid (OwnRow wB wr.heap.size (.slice (some ⟨g2, 0, none⟩) rs.length rs.length) (List.replicate rs.length 0)) := Lib.hid (by rw [← hwB, ← hg2]; exact own_zeros _ _ _ hHeld.2.2.2.size (by omega))
          have HNB := Lib.hid hg2
          try simp only [World.drew_heap]
          try rw [show wr.heap.size = g2 from hg2]
          try rw [hg2]
          rw [hwB]
          clear hwB
          refine hK.out _ _ ?_ (fun hHeld => ?_)
          · exact ⟨below_cell hbB hHeld.1, below_cell hbB hHeld.2.1, below_cell hbB hHeld.2.2.1, hHeld.2.2.2.trans (hbB.mono hHeld.2.2.2.size)⟩
          clear hK K
          try simp only [Act.put, List.setIfInBounds_toArray, List.set_cons_zero, List.set_cons_succ]
          refine wpAnyL_ready (rs := [8, 24]) (by kernel_rfl) (by simp) ?_
          refine AllReadyL.cons rfl (fun K hK => ?_) ?_
          · skip
            go_simp; go_at_call 144; refine (l00Own _ _ _ (rowO rs k) _ (HLR.out.below hHeld.2.2.2) hl1 (by omega)).mono ?_; rintro e wA ⟨a1, c1, rfl, hoA, hbA⟩
            have HA2 := Lib.hid (hoA.mono hHeld.2.2.2.size)
            have hnA : ∀ g, (Value.slice a1 (rowO rs k).length c1).ownBlock = some g → wB.heap.size ≤ g := fun g hg => (hoA.lt g hg).1
            have HNA := Lib.hid hnA
            clear hoA hnA
            have HB2 := Lib.hid (HB1.out.below hbA)
            refine hK.out _ _ ?_ (fun hHeld => ?_)
            · exact ⟨below_cell hbA hHeld.1, below_cell hbA hHeld.2.1, below_cell hbA hHeld.2.2.1, hHeld.2.2.2.trans (hbA.mono hHeld.2.2.2.size)⟩
            clear hK K
            try simp only [Act.put, List.setIfInBounds_toArray, List.set_cons_zero, List.set_cons_succ]
            refine wpAnyL_free (i := 23) (v := ?_) (some 39) rfl rfl (by kernel_rfl) (by kernel_rfl) (by kernel_rfl) (by decide) (fun _ _ _ h => h) (Or.inl ⟨by rfl, ?_⟩) (fun h0 => by assumption) ?_
            rotate_left
            · intro wS
              go_simp
              try with_reducible rfl
            try simp only [Act.put, List.setIfInBounds_toArray, List.set_cons_zero, List.set_cons_succ]
            refine wpAnyL_ready (rs := [24]) (by kernel_rfl) (by simp) ?_
            refine AllReadyL.cons rfl (fun K hK => ?_) AllReadyL.nil
            go_simp
            obtain ⟨wC, hwC⟩ : ∃ wC, wA.alloc (.cells #[.slice none 0 0, .int .i64 0, .slice none 0 0] 123) = wC := ⟨_, rfl⟩
            obtain ⟨b5, hb5⟩ : ∃ b5, wA.heap.size = b5 := ⟨_, rfl⟩
            have hbC : Below wA.heap.size wA wC := by rw [← hwC]; exact (Below.refl _ _).alloc (Nat.le_refl _) _
            have HC3 : Hid (Box 123 wC b5 #[.slice none 0 0, .int .i64 0, .slice none 0 0]) := Lib.hid (by rw [← hwC, ← hb5]; exact Box.new _ _ _)
            have HNC := Lib.hid hb5
            have HLC : Hid (wr.heap.size ≤ b5) := Lib.hid (by rw [← hb5]; exact hHeld.2.2.2.size)
            try simp only [World.drew_heap]
            try rw [show wr.heap.size = b5 from hb5]
            try rw [hb5]
            rw [hwC]
            clear hwC
            have HB3 := Lib.hid (HB2.out.below hbC)
            have HA3 := Lib.hid (HA2.out.below hbC)
            refine hK.out _ _ ?_ (fun hHeld => ?_)
            · exact ⟨below_cell hbC hHeld.1, below_cell hbC hHeld.2.1, below_cell hbC hHeld.2.2.1, hHeld.2.2.2.trans (hbC.mono hHeld.2.2.2.size)⟩
            clear hK K
            try simp only [Act.put, List.setIfInBounds_toArray, List.set_cons_zero, List.set_cons_succ]
            refine wpAnyL_ready (rs := [25]) (by kernel_rfl) (by simp) ?_
            refine AllReadyL.last rfl (by kernel_rfl) (fun K hK => ?_) AllReadyL.nil
            have HBW := Lib.hid hHeld.2.2.2
            have hAB : ∀ g, (Value.slice a1 (rowO rs k).length c1).ownBlock = some g → g ≠ g2 := fun g hg e => by
              have h1 := HNA.out g hg
              have h2 := (HB1.out.lt g2 (by simp [Value.ownBlock])).2
              omega
            have hAC : ∀ g, (Value.slice a1 (rowO rs k).length c1).ownBlock = some g → g ≠ b5 := fun g hg e => by
              have h1 := (HA2.out.lt g hg).2
              have h2 := HNC.out
              omega
            have hBC : g2 ≠ b5 := fun e => by
              have h1 := (HB2.out.lt g2 (by simp [Value.ownBlock])).2
              have h2 := HNC.out
              omega
            have HAB := Lib.hid hAB
            have HAC := Lib.hid hAC
            have HBC := Lib.hid hBC
            have z0 : wC.cell? ⟨b5, 0, none⟩ = some (.slice none 0 0) := HC3.out.c 0 rfl
            have y0 := HC3.out.free 0
            have z1 : wC.cell? ⟨b5, 1, none⟩ = some (.int .i64 0) := HC3.out.c 1 rfl
            have y1 := HC3.out.free 1
            have z2 : wC.cell? ⟨b5, 2, none⟩ = some (.slice none 0 0) := HC3.out.c 2 rfl
            have y2 := HC3.out.free 2
            clear hAB hAC hBC
            go_simp
            refine hK.out _ _ ?_
            clear hK K
            try simp only [Act.put, List.setIfInBounds_toArray, List.set_cons_zero, List.set_cons_succ]
            refine wpAnyL_done (by kernel_rfl) ?_ _
            refine NoPanic.normal ?_
            have HF := Lib.hid (((HC3.out.set 0 (.slice a1 (rowO rs k).length c1)).set 1 (.int .i64 r)).set 2 (.slice (some ⟨g2, 0, none⟩) rs.length rs.length))
            have hlo : wr.heap.size ≤ b5 := HLC.out
            have HBF := Lib.hid (((HBW.out.setCell (p := ⟨b5, 0, none⟩) hlo (.slice a1 (rowO rs k).length c1)).setCell (p := ⟨b5, 1, none⟩) hlo (.int .i64 r)).setCell (p := ⟨b5, 2, none⟩) hlo (.slice (some ⟨g2, 0, none⟩) rs.length rs.length))
            have HAF := Lib.hid (OwnRow.setO (OwnRow.setO (OwnRow.setO HA3.out ⟨b5, 0, none⟩ (.slice a1 (rowO rs k).length c1) (fun e => HAC.out b5 e rfl)) ⟨b5, 1, none⟩ (.int .i64 r) (fun e => HAC.out b5 e rfl)) ⟨b5, 2, none⟩ (.slice (some ⟨g2, 0, none⟩) rs.length rs.length) (fun e => HAC.out b5 e rfl))
            have hg2n : ∀ o : Nat, (Value.slice (some ⟨g2, 0, none⟩) rs.length rs.length).ownBlock ≠ some (Addr.mk b5 o none).block := fun o e => HBC.out (by simpa [Value.ownBlock] using e)
            have HGF := Lib.hid (OwnRow.setO (OwnRow.setO (OwnRow.setO HB3.out ⟨b5, 0, none⟩ (.slice a1 (rowO rs k).length c1) (hg2n 0)) ⟨b5, 1, none⟩ (.int .i64 r) (hg2n 1)) ⟨b5, 2, none⟩ (.slice (some ⟨g2, 0, none⟩) rs.length rs.length) (hg2n 2))
            clear z0 z1 z2 y0 y1 y2 hHeld hlo hg2n
            go_wp2_with fail
            go_meet
            exact ⟨b5, a1, c1, g2, rfl, HF.out, HAF.out, HGF.out, HAB.out, HAC.out, HBC.out, HBF.out⟩
          refine AllReadyL.cons rfl (fun K hK => ?_) AllReadyL.nil
          go_simp
          obtain ⟨wC, hwC⟩ : ∃ wC, wB.alloc (.cells #[.slice none 0 0, .int .i64 0, .slice none 0 0] 123) = wC := ⟨_, rfl⟩
          obtain ⟨b5, hb5⟩ : ∃ b5, wB.heap.size = b5 := ⟨_, rfl⟩
          have hbC : Below wB.heap.size wB wC := by rw [← hwC]; exact (Below.refl _ _).alloc (Nat.le_refl _) _
          have HC2 : Hid (Box 123 wC b5 #[.slice none 0 0, .int .i64 0, .slice none 0 0]) := Lib.hid (by rw [← hwC, ← hb5]; exact Box.new _ _ _)
          have HNC := Lib.hid hb5
          have HLC : Hid (wr.heap.size ≤ b5) := Lib.hid (by rw [← hb5]; exact hHeld.2.2.2.size)
          try simp only [World.drew_heap]
          try rw [show wr.heap.size = b5 from hb5]
          try rw [hb5]
          rw [hwC]
          clear hwC
          have HB2 := Lib.hid (HB1.out.below hbC)
          refine hK.out _ _ ?_ (fun hHeld => ?_)
          · exact ⟨below_cell hbC hHeld.1, below_cell hbC hHeld.2.1, below_cell hbC hHeld.2.2.1, hHeld.2.2.2.trans (hbC.mono hHeld.2.2.2.size)⟩
          clear hK K
          try simp only [Act.put, List.setIfInBounds_toArray, List.set_cons_zero, List.set_cons_succ]
          refine wpAnyL_ready (rs := [8]) (by kernel_rfl) (by simp) ?_
          refine AllReadyL.cons rfl (fun K hK => ?_) AllReadyL.nil
          go_simp; go_at_call 144; refine (l00Own _ _ _ (rowO rs k) _ (HLR.out.below hHeld.2.2.2) hl1 (by omega)).mono ?_; rintro e wA ⟨a1, c1, rfl, hoA, hbA⟩
          have HA3 := Lib.hid (hoA.mono hHeld.2.2.2.size)
          have hnA : ∀ g, (Value.slice a1 (rowO rs k).length c1).ownBlock = some g → wC.heap.size ≤ g := fun g hg => (hoA.lt g hg).1
          have HNA := Lib.hid hnA
          clear hoA hnA
          have HB3 := Lib.hid (HB2.out.below hbA)
          have HC3 := Lib.hid (HC2.out.below hbA)
          refine hK.out _ _ ?_ (fun hHeld => ?_)
          · exact ⟨below_cell hbA hHeld.1, below_cell hbA hHeld.2.1, below_cell hbA hHeld.2.2.1, hHeld.2.2.2.trans (hbA.mono hHeld.2.2.2.size)⟩
          clear hK K
          try simp only [Act.put, List.setIfInBounds_toArray, List.set_cons_zero, List.set_cons_succ]
          refine wpAnyL_free (i := 23) (v := ?_) (some 39) rfl rfl (by kernel_rfl) (by kernel_rfl) (by kernel_rfl) (by decide) (fun _ _ _ h => h) (Or.inl ⟨by rfl, ?_⟩) (fun h0 => by assumption) ?_
          rotate_left
          · intro wS
            go_simp
            try with_reducible rfl
          try simp only [Act.put, List.setIfInBounds_toArray, List.set_cons_zero, List.set_cons_succ]
          refine wpAnyL_ready (rs := [25]) (by kernel_rfl) (by simp) ?_
          refine AllReadyL.last rfl (by kernel_rfl) (fun K hK => ?_) AllReadyL.nil
          have HBW := Lib.hid hHeld.2.2.2
          have hAB : ∀ g, (Value.slice a1 (rowO rs k).length c1).ownBlock = some g → g ≠ g2 := fun g hg e => by
            have h1 := HNA.out g hg
            have h2 := (HB2.out.lt g2 (by simp [Value.ownBlock])).2
            omega
          have hAC : ∀ g, (Value.slice a1 (rowO rs k).length c1).ownBlock = some g → g ≠ b5 := fun g hg e => by
            have h1 := HNA.out g hg
            have h2 := HC2.out.lt
            omega
          have hBC : g2 ≠ b5 := fun e => by
            have h1 := (HB1.out.lt g2 (by simp [Value.ownBlock])).2
            have h2 := HNC.out
            omega
          have HAB := Lib.hid hAB
          have HAC := Lib.hid hAC
          have HBC := Lib.hid hBC
          have z0 : wA.cell? ⟨b5, 0, none⟩ = some (.slice none 0 0) := HC3.out.c 0 rfl
          have y0 := HC3.out.free 0
          have z1 : wA.cell? ⟨b5, 1, none⟩ = some (.int .i64 0) := HC3.out.c 1 rfl
          have y1 := HC3.out.free 1
          have z2 : wA.cell? ⟨b5, 2, none⟩ = some (.slice none 0 0) := HC3.out.c 2 rfl
          have y2 := HC3.out.free 2
          clear hAB hAC hBC
          go_simp
          refine hK.out _ _ ?_
          clear hK K
          try simp only [Act.put, List.setIfInBounds_toArray, List.set_cons_zero, List.set_cons_succ]
          refine wpAnyL_done (by kernel_rfl) ?_ _
          refine NoPanic.normal ?_
          have HF := Lib.hid (((HC3.out.set 0 (.slice a1 (rowO rs k).length c1)).set 1 (.int .i64 r)).set 2 (.slice (some ⟨g2, 0, none⟩) rs.length rs.length))
          have hlo : wr.heap.size ≤ b5 := HLC.out
          have HBF := Lib.hid (((HBW.out.setCell (p := ⟨b5, 0, none⟩) hlo (.slice a1 (rowO rs k).length c1)).setCell (p := ⟨b5, 1, none⟩) hlo (.int .i64 r)).setCell (p := ⟨b5, 2, none⟩) hlo (.slice (some ⟨g2, 0, none⟩) rs.length rs.length))
          have HAF := Lib.hid (OwnRow.setO (OwnRow.setO (OwnRow.setO HA3.out ⟨b5, 0, none⟩ (.slice a1 (rowO rs k).length c1) (fun e => HAC.out b5 e rfl)) ⟨b5, 1, none⟩ (.int .i64 r) (fun e => HAC.out b5 e rfl)) ⟨b5, 2, none⟩ (.slice (some ⟨g2, 0, none⟩) rs.length rs.length) (fun e => HAC.out b5 e rfl))
          have hg2n : ∀ o : Nat, (Value.slice (some ⟨g2, 0, none⟩) rs.length rs.length).ownBlock ≠ some (Addr.mk b5 o none).block := fun o e => HBC.out (by simpa [Value.ownBlock] using e)
          have HGF := Lib.hid (OwnRow.setO (OwnRow.setO (OwnRow.setO HB3.out ⟨b5, 0, none⟩ (.slice a1 (rowO rs k).length c1) (hg2n 0)) ⟨b5, 1, none⟩ (.int .i64 r) (hg2n 1)) ⟨b5, 2, none⟩ (.slice (some ⟨g2, 0, none⟩) rs.length rs.length) (hg2n 2))
          clear z0 z1 z2 y0 y1 y2 hHeld hlo hg2n
          go_wp2_with fail
          go_meet
          exact ⟨b5, a1, c1, g2, rfl, HF.out, HAF.out, HGF.out, HAB.out, HAC.out, HBC.out, HBF.out⟩
        refine AllReadyL.cons rfl (fun K hK => ?_) AllReadyL.nil
        go_simp
        obtain ⟨wC, hwC⟩ : ∃ wC, (wr.alloc (.cells #[.slice none 0 0, .int .i64 0, .slice none 0 0] 123)).drew = wC := ⟨_, rfl⟩
        obtain ⟨b5, hb5⟩ : ∃ b5, wr.drew.heap.size = b5 := ⟨_, rfl⟩
        have hbC : Below wr.drew.heap.size wr.drew wC := by rw [← hwC]; exact (Below.refl _ _).alloc (Nat.le_refl _) _
        have HC1 : Hid (Box 123 wC b5 #[.slice none 0 0, .int .i64 0, .slice none 0 0]) := Lib.hid (by rw [← hwC, ← hb5]; exact Box.new _ _ _)
        have HNC := Lib.hid hb5
        have HLC : Hid (wr.heap.size ≤ b5) := Lib.hid (by rw [← hb5]; exact hHeld.2.2.2.size)
        try simp only [World.drew_heap]
        try rw [show wr.heap.size = b5 from hb5]
        try rw [hb5]
        rw [hwC]
        clear hwC
        refine hK.out _ _ ?_ (fun hHeld => ?_)
        · exact ⟨below_cell hbC hHeld.1, below_cell hbC hHeld.2.1, below_cell hbC hHeld.2.2.1, hHeld.2.2.2.trans (hbC.mono hHeld.2.2.2.size)⟩
        clear hK K
        try simp only [Act.put, List.setIfInBounds_toArray, List.set_cons_zero, List.set_cons_succ]
        refine wpAnyL_ready (rs := [8, 22]) (by kernel_rfl) (by simp) ?_
        refine AllReadyL.cons rfl (fun K hK => ?_) ?_
        · skip
          go_simp; go_at_call 144; refine (l00Own _ _ _ (rowO rs k) _ (HLR.out.below hHeld.2.2.2) hl1 (by omega)).mono ?_; rintro e wA ⟨a1, c1, rfl, hoA, hbA⟩
          have HA2 := Lib.hid (hoA.mono hHeld.2.2.2.size)
          have hnA : ∀ g, (Value.slice a1 (rowO rs k).length c1).ownBlock = some g → wC.heap.size ≤ g := fun g hg => (hoA.lt g hg).1
          have HNA := Lib.hid hnA
          clear hoA hnA
          have HC2 := Lib.hid (HC1.out.below hbA)
          refine hK.out _ _ ?_ (fun hHeld => ?_)
          · exact ⟨below_cell hbA hHeld.1, below_cell hbA hHeld.2.1, below_cell hbA hHeld.2.2.1, hHeld.2.2.2.trans (hbA.mono hHeld.2.2.2.size)⟩
          clear hK K
          try simp only [Act.put, List.setIfInBounds_toArray, List.set_cons_zero, List.set_cons_succ]
          refine wpAnyL_ready (rs := [22]) (by kernel_rfl) (by simp) ?_
          refine AllReadyL.cons rfl (fun K hK => ?_) AllReadyL.nil
          go_simp
          obtain ⟨wB, hwB⟩ : ∃ wB, wA.alloc (.cells (Array.replicate rs.length (Value.int .i64 0)) 2) = wB := ⟨_, rfl⟩
          obtain ⟨g2, hg2⟩ : ∃ g2, wA.heap.size = g2 := ⟨_, rfl⟩
          have hbB : Below wA.heap.size wA wB := by rw [← hwB]; exact (Below.refl _ _).alloc (Nat.le_refl _) _
          have HB3 : Hid (OwnRow wB wr.heap.size (.slice (some ⟨g2, 0, none⟩) rs.length rs.length) (List.replicate rs.length 0)) := Lib.hid (by rw [← hwB, ← hg2]; exact own_zeros _ _ _ hHeld.2.2.2.size (by omega))
          have HNB := Lib.hid hg2
          try simp only [World.drew_heap]
          try rw [show wr.heap.size = g2 from hg2]
          try rw [hg2]
          rw [hwB]
          clear hwB
          have HC3 := Lib.hid (HC2.out.below hbB)
          have HA3 := Lib.hid (HA2.out.below hbB)
          refine hK.out _ _ ?_ (fun hHeld => ?_)
          · exact ⟨below_cell hbB hHeld.1, below_cell hbB hHeld.2.1, below_cell hbB hHeld.2.2.1, hHeld.2.2.2.trans (hbB.mono hHeld.2.2.2.size)⟩
          clear hK K
          try simp only [Act.put, List.setIfInBounds_toArray, List.set_cons_zero, List.set_cons_succ]
          refine wpAnyL_free (i := 23) (v := ?_) (some 39) rfl rfl (by kernel_rfl) (by kernel_rfl) (by kernel_rfl) (by decide) (fun _ _ _ h => h) (Or.inl ⟨by rfl, ?_⟩) (fun h0 => by assumption) ?_
          rotate_left
          · intro wS
            go_simp
            try with_reducible rfl
          try simp only [Act.put, List.setIfInBounds_toArray, List.set_cons_zero, List.set_cons_succ]
          refine wpAnyL_ready (rs := [25]) (by kernel_rfl) (by simp) ?_
          refine AllReadyL.last rfl (by kernel_rfl) (fun K hK => ?_) AllReadyL.nil
          have HBW := Lib.hid hHeld.2.2.2
          have hAB : ∀ g, (Value.slice a1 (rowO rs k).length c1).ownBlock = some g → g ≠ g2 := fun g hg e => by
            have h1 := (HA2.out.lt g hg).2
            have h2 := HNB.out
            omega
          have hAC : ∀ g, (Value.slice a1 (rowO rs k).length c1).ownBlock = some g → g ≠ b5 := fun g hg e => by
            have h1 := HNA.out g hg
            have h2 := HC1.out.lt
            omega
          have hBC : g2 ≠ b5 := fun e => by
            have h1 := HNB.out
            have h2 := HC2.out.lt
            omega
          have HAB := Lib.hid hAB
          have HAC := Lib.hid hAC
          have HBC := Lib.hid hBC
          have z0 : wB.cell? ⟨b5, 0, none⟩ = some (.slice none 0 0) := HC3.out.c 0 rfl
          have y0 := HC3.out.free 0
          have z1 : wB.cell? ⟨b5, 1, none⟩ = some (.int .i64 0) := HC3.out.c 1 rfl
          have y1 := HC3.out.free 1
          have z2 : wB.cell? ⟨b5, 2, none⟩ = some (.slice none 0 0) := HC3.out.c 2 rfl
          have y2 := HC3.out.free 2
          clear hAB hAC hBC
          go_simp
          refine hK.out _ _ ?_
          clear hK K
          try simp only [Act.put, List.setIfInBounds_toArray, List.set_cons_zero, List.set_cons_succ]
          refine wpAnyL_done (by kernel_rfl) ?_ _
          refine NoPanic.normal ?_
          have HF := Lib.hid (((HC3.out.set 0 (.slice a1 (rowO rs k).length c1)).set 1 (.int .i64 r)).set 2 (.slice (some ⟨g2, 0, none⟩) rs.length rs.length))
          have hlo : wr.heap.size ≤ b5 := HLC.out
          have HBF := Lib.hid (((HBW.out.setCell (p := ⟨b5, 0, none⟩) hlo (.slice a1 (rowO rs k).length c1)).setCell (p := ⟨b5, 1, none⟩) hlo (.int .i64 r)).setCell (p := ⟨b5, 2, none⟩) hlo (.slice (some ⟨g2, 0, none⟩) rs.length rs.length))
          have HAF := Lib.hid (OwnRow.setO (OwnRow.setO (OwnRow.setO HA3.out ⟨b5, 0, none⟩ (.slice a1 (rowO rs k).length c1) (fun e => HAC.out b5 e rfl)) ⟨b5, 1, none⟩ (.int .i64 r) (fun e => HAC.out b5 e rfl)) ⟨b5, 2, none⟩ (.slice (some ⟨g2, 0, none⟩) rs.length rs.length) (fun e => HAC.out b5 e rfl))
          have hg2n : ∀ o : Nat, (Value.slice (some ⟨g2, 0, none⟩) rs.length rs.length).ownBlock ≠ some (Addr.mk b5 o none).block := fun o e => HBC.out (by simpa [Value.ownBlock] using e)
          have HGF := Lib.hid (OwnRow.setO (OwnRow.setO (OwnRow.setO HB3.out ⟨b5, 0, none⟩ (.slice a1 (rowO rs k).length c1) (hg2n 0)) ⟨b5, 1, none⟩ (.int .i64 r) (hg2n 1)) ⟨b5, 2, none⟩ (.slice (some ⟨g2, 0, none⟩) rs.length rs.length) (hg2n 2))
          clear z0 z1 z2 y0 y1 y2 hHeld hlo hg2n
          go_wp2_with fail
          go_meet
          exact ⟨b5, a1, c1, g2, rfl, HF.out, HAF.out, HGF.out, HAB.out, HAC.out, HBC.out, HBF.out⟩
        refine AllReadyL.cons rfl (fun K hK => ?_) AllReadyL.nil
        go_simp
        obtain ⟨wB, hwB⟩ : ∃ wB, wC.alloc (.cells (Array.replicate rs.length (Value.int .i64 0)) 2) = wB := ⟨_, rfl⟩
        obtain ⟨g2, hg2⟩ : ∃ g2, wC.heap.size = g2 := ⟨_, rfl⟩
        have hbB : Below wC.heap.size wC wB := by rw [← hwB]; exact (Below.refl _ _).alloc (Nat.le_refl _) _
        have HB2 : Hid (OwnRow wB wr.heap.size (.slice (some ⟨g2, 0, none⟩) rs.length rs.length) (List.replicate rs.length 0)) := Lib.hid (by rw [← hwB, ← hg2]; exact own_zeros _ _ _ hHeld.2.2.2.size (by omega))
        have HNB := Lib.hid hg2
        try simp only [World.drew_heap]
        try rw [show wr.heap.size = g2 from hg2]
        try rw [hg2]
        rw [hwB]
        clear hwB
        have HC2 := Lib.hid (HC1.out.below hbB)
        refine hK.out _ _ ?_ (fun hHeld => ?_)
        · exact ⟨below_cell hbB hHeld.1, below_cell hbB hHeld.2.1, below_cell hbB hHeld.2.2.1, hHeld.2.2.2.trans (hbB.mono hHeld.2.2.2.size)⟩
        clear hK K
        try simp only [Act.put, List.setIfInBounds_toArray, List.set_cons_zero, List.set_cons_succ]
        refine wpAnyL_ready (rs := [8]) (by kernel_rfl) (by simp) ?_
        refine AllReadyL.cons rfl (fun K hK => ?_) AllReadyL.nil
        go_simp; go_at_call 144; refine (l00Own _ _ _ (rowO rs k) _ (HLR.out.below hHeld.2.2.2) hl1 (by omega)).mono ?_; rintro e wA ⟨a1, c1, rfl, hoA, hbA⟩
        have HA3 := Lib.hid (hoA.mono hHeld.2.2.2.size)
        have hnA : ∀ g, (Value.slice a1 (rowO rs k).length c1).ownBlock = some g → wB.heap.size ≤ g := fun g hg => (hoA.lt g hg).1
        have HNA := Lib.hid hnA
        clear hoA hnA
        have HC3 := Lib.hid (HC2.out.below hbA)
        have HB3 := Lib.hid (HB2.out.below hbA)
        refine hK.out _ _ ?_ (fun hHeld => ?_)
        · exact ⟨below_cell hbA hHeld.1, below_cell hbA hHeld.2.1, below_cell hbA hHeld.2.2.1, hHeld.2.2.2.trans (hbA.mono hHeld.2.2.2.size)⟩
        clear hK K
        try simp only [Act.put, List.setIfInBounds_toArray, List.set_cons_zero, List.set_cons_succ]
        refine wpAnyL_free (i := 23) (v := ?_) (some 39) rfl rfl (by kernel_rfl) (by kernel_rfl) (by kernel_rfl) (by decide) (fun _ _ _ h => h) (Or.inl ⟨by rfl, ?_⟩) (fun h0 => by assumption) ?_
        rotate_left
        · intro wS
          go_simp
          try with_reducible rfl
        try simp only [Act.put, List.setIfInBounds_toArray, List.set_cons_zero, List.set_cons_succ]
        refine wpAnyL_ready (rs := [25]) (by kernel_rfl) (by simp) ?_
        refine AllReadyL.last rfl (by kernel_rfl) (fun K hK => ?_) AllReadyL.nil
        have HBW := Lib.hid hHeld.2.2.2
        have hAB : ∀ g, (Value.slice a1 (rowO rs k).length c1).ownBlock = some g → g ≠ g2 := fun g hg e => by
          have h1 := HNA.out g hg
          have h2 := (HB2.out.lt g2 (by simp [Value.ownBlock])).2
          omega
        have hAC : ∀ g, (Value.slice a1 (rowO rs k).length c1).ownBlock = some g → g ≠ b5 := fun g hg e => by
          have h1 := HNA.out g hg
          have h2 := HC2.out.lt
          omega
        have hBC : g2 ≠ b5 := fun e => by
          have h1 := HNB.out
          have h2 := HC1.out.lt
          omega
        have HAB := Lib.hid hAB
        have HAC := Lib.hid hAC
        have HBC := Lib.hid hBC
        have z0 : wA.cell? ⟨b5, 0, none⟩ = some (.slice none 0 0) := HC3.out.c 0 rfl
        have y0 := HC3.out.free 0
        have z1 : wA.cell? ⟨b5, 1, none⟩ = some (.int .i64 0) := HC3.out.c 1 rfl
        have y1 := HC3.out.free 1
        have z2 : wA.cell? ⟨b5, 2, none⟩ = some (.slice none 0 0) := HC3.out.c 2 rfl
        have y2 := HC3.out.free 2
        clear hAB hAC hBC
        go_simp
        refine hK.out _ _ ?_
        clear hK K
        try simp only [Act.put, List.setIfInBounds_toArray, List.set_cons_zero, List.set_cons_succ]
        refine wpAnyL_done (by kernel_rfl) ?_ _
        refine NoPanic.normal ?_
        have HF := Lib.hid (((HC3.out.set 0 (.slice a1 (rowO rs k).length c1)).set 1 (.int .i64 r)).set 2 (.slice (some ⟨g2, 0, none⟩) rs.length rs.length))
        have hlo : wr.heap.size ≤ b5 := HLC.out
        have HBF := Lib.hid (((HBW.out.setCell (p := ⟨b5, 0, none⟩) hlo (.slice a1 (rowO rs k).length c1)).setCell (p := ⟨b5, 1, none⟩) hlo (.int .i64 r)).setCell (p := ⟨b5, 2, none⟩) hlo (.slice (some ⟨g2, 0, none⟩) rs.length rs.length))
        have HAF := Lib.hid (OwnRow.setO (OwnRow.setO (OwnRow.setO HA3.out ⟨b5, 0, none⟩ (.slice a1 (rowO rs k).length c1) (fun e => HAC.out b5 e rfl)) ⟨b5, 1, none⟩ (.int .i64 r) (fun e => HAC.out b5 e rfl)) ⟨b5, 2, none⟩ (.slice (some ⟨g2, 0, none⟩) rs.length rs.length) (fun e => HAC.out b5 e rfl))
        have hg2n : ∀ o : Nat, (Value.slice (some ⟨g2, 0, none⟩) rs.length rs.length).ownBlock ≠ some (Addr.mk b5 o none).block := fun o e => HBC.out (by simpa [Value.ownBlock] using e)
        have HGF := Lib.hid (OwnRow.setO (OwnRow.setO (OwnRow.setO HB3.out ⟨b5, 0, none⟩ (.slice a1 (rowO rs k).length c1) (hg2n 0)) ⟨b5, 1, none⟩ (.int .i64 r) (hg2n 1)) ⟨b5, 2, none⟩ (.slice (some ⟨g2, 0, none⟩) rs.length rs.length) (hg2n 2))
        clear z0 z1 z2 y0 y1 y2 hHeld hlo hg2n
        go_wp2_with fail
        go_meet
        exact ⟨b5, a1, c1, g2, rfl, HF.out, HAF.out, HGF.out, HAB.out, HAC.out, HBC.out, HBF.out⟩
      case rest =>
        obtain ⟨b5, a1, c1, g2, rfl, hbx, hA, hG, hAB, hAC, hBC, hbw⟩ := hcut
        have hg2 := hG.lt g2 (by simp [Value.ownBlock])
        have x2 : wc.cell? ⟨b5, 2, none⟩ = some (.slice (some ⟨g2, 0, none⟩) rs.length rs.length) := hbx.c 2 rfl
        have xk : wc.cell? ⟨g2, k, none⟩ = some (.int .i64 0) := by
          have h := hG.cell_of k (by simpa using hlt)
          rw [h, intN_at _ _ (by simpa using hlt)]
          simp
        have yk : wc.frozen? ⟨g2, k, none⟩ = false := hG.free k
        have hbx6 : Box 123 (wc.setCell ⟨g2, k, none⟩ (.int .i64 1)) b5 #[.slice a1 (rowO rs k).length c1, .int .i64 r, .slice (some ⟨g2, 0, none⟩) rs.length rs.length] := hbx.other (by show b5 ≠ g2; exact fun e => hBC e.symm) _
        have q0 : (wc.setCell ⟨g2, k, none⟩ (.int .i64 1)).cell? ⟨b5, 0, none⟩ = some (.slice a1 (rowO rs k).length c1) := hbx6.c 0 rfl
        have q1 : (wc.setCell ⟨g2, k, none⟩ (.int .i64 1)).cell? ⟨b5, 1, none⟩ = some (.int .i64 r) := hbx6.c 1 rfl
        have q2 : (wc.setCell ⟨g2, k, none⟩ (.int .i64 1)).cell? ⟨b5, 2, none⟩ = some (.slice (some ⟨g2, 0, none⟩) rs.length rs.length) := hbx6.c 2 rfl
        have HA6 : Hid (OwnRow ((wc.setCell ⟨g2, k, none⟩ (.int .i64 1)).alloc (.cells #[.slice a1 (rowO rs k).length c1, .int .i64 r, .slice (some ⟨g2, 0, none⟩) rs.length rs.length] 123)) wr.heap.size (.slice a1 (rowO rs k).length c1) (rowO rs k)) := Lib.hid ((OwnRow.setO hA _ _ (fun e => hAB g2 e rfl)).below ((Below.refl _ _).alloc (Nat.le_refl _) _))
        have HG6 : Hid (OwnRow ((wc.setCell ⟨g2, k, none⟩ (.int .i64 1)).alloc (.cells #[.slice a1 (rowO rs k).length c1, .int .i64 r, .slice (some ⟨g2, 0, none⟩) rs.length rs.length] 123)) wr.heap.size (.slice (some ⟨g2, 0, none⟩) rs.length rs.length) (unitL rs.length k)) := Lib.hid (by
          have h := (hG.set k 1).below (w' := ((wc.setCell ⟨g2, k, none⟩ (.int .i64 1)).alloc (.cells #[.slice a1 (rowO rs k).length c1, .int .i64 r, .slice (some ⟨g2, 0, none⟩) rs.length rs.length] 123))) ((Below.refl _ _).alloc (Nat.le_refl _) _)
          rw [unitL_set] at h
          exact h)
        have HAG : Hid (∀ x, (Value.slice a1 (rowO rs k).length c1).ownBlock = some x → (Value.slice (some ⟨g2, 0, none⟩) rs.length rs.length).ownBlock ≠ some x) := Lib.hid fun x hx e => by
          have e' : g2 = x := by simpa [Value.ownBlock] using e
          exact hAB x hx e'.symm
        have HSZ7 : Hid (wr.heap.size ≤ ((wc.setCell ⟨g2, k, none⟩ (.int .i64 1)).alloc (.cells #[.slice a1 (rowO rs k).length c1, .int .i64 r, .slice (some ⟨g2, 0, none⟩) rs.length rs.length] 123)).heap.size) := Lib.hid (by have := hbw.size; simp [World.setCell]; omega)
        have HOLD : Hid (∀ j, j < wr.heap.size → ((wc.setCell ⟨g2, k, none⟩ (.int .i64 1)).alloc (.cells #[.slice a1 (rowO rs k).length c1, .int .i64 r, .slice (some ⟨g2, 0, none⟩) rs.length rs.length] 123)).heap[j]? = wr.heap[j]?) := Lib.hid fun j hj => by
          have e1 : ((wc.setCell ⟨g2, k, none⟩ (.int .i64 1)).alloc (.cells #[.slice a1 (rowO rs k).length c1, .int .i64 r, .slice (some ⟨g2, 0, none⟩) rs.length rs.length] 123)).heap[j]? = (wc.setCell ⟨g2, k, none⟩ (.int .i64 1)).heap[j]? := ((((Below.refl _ _).alloc (Nat.le_refl _) _) : Below (wc.setCell ⟨g2, k, none⟩ (.int .i64 1)).heap.size (wc.setCell ⟨g2, k, none⟩ (.int .i64 1)) ((wc.setCell ⟨g2, k, none⟩ (.int .i64 1)).alloc (.cells #[.slice a1 (rowO rs k).length c1, .int .i64 r, .slice (some ⟨g2, 0, none⟩) rs.length rs.length] 123)))).block j (by have := hbw.size; simp [World.setCell]; omega)
          rw [e1, Below.heap_setCell _ _ _ _ (by show j ≠ g2; omega)]
          exact hbw.block j hj
        have HO7 : Hid (((wc.setCell ⟨g2, k, none⟩ (.int .i64 1)).alloc (.cells #[.slice a1 (rowO rs k).length c1, .int .i64 r, .slice (some ⟨g2, 0, none⟩) rs.length rs.length] 123)).ownsRow w.heap.size 123 3 (.slice a k c) k (flat3 VL rs VB k)) := Lib.hid (ownsRow_same HMK.out.outer fun x hx => HOLD.out x (HMK.out.outer.lt x hx).2)
        have HB7 : Hid (Below w.heap.size w ((wc.setCell ⟨g2, k, none⟩ (.int .i64 1)).alloc (.cells #[.slice a1 (rowO rs k).length c1, .int .i64 r, .slice (some ⟨g2, 0, none⟩) rs.length rs.length] 123))) := Lib.hid (((HBL.out.trans (hbw.mono HBL.out.size)).setCell (p := ⟨g2, k, none⟩) (by show w.heap.size ≤ g2; have := HBL.out.size; omega) _).trans ((((Below.refl _ _).alloc (Nat.le_refl _) _) : Below (wc.setCell ⟨g2, k, none⟩ (.int .i64 1)).heap.size (wc.setCell ⟨g2, k, none⟩ (.int .i64 1)) ((wc.setCell ⟨g2, k, none⟩ (.int .i64 1)).alloc (.cells #[.slice a1 (rowO rs k).length c1, .int .i64 r, .slice (some ⟨g2, 0, none⟩) rs.length rs.length] 123))).mono (by have := hbw.size; have := HBL.out.size; simp [World.setCell]; omega)))
        have hsz := HBL.out.size
        clear hbx hA hG hAB hAC hBC hbw hbx6
        go_wp2_with (at_builtin; refine wpList_append_lies _ rfl _ _ 118 rfl w.heap.size 123 i0 (.agg #[.slice none 0 0, .int .i64 0, .slice none 0 0]) 3 56 Try.underlying118 hi hz0 hz1 hz2 rfl (by decide) (.slice a k c) k _ rfl HO7.out ⟨wc.heap.size, 0, none⟩ 1 1 [.slice a1 (rowO rs k).length c1, .int .i64 r, .slice (some ⟨g2, 0, none⟩) rs.length rs.length] rfl rfl (fun j u hu => by have h := World.news_of_block (heap_alloc_new (wc.setCell ⟨g2, k, none⟩ (.int .i64 1)) (.cells #[.slice a1 (rowO rs k).length c1, .int .i64 r, .slice (some ⟨g2, 0, none⟩) rs.length rs.length] 123)) j u (by simpa using hu); have e : (wc.setCell ⟨g2, k, none⟩ (.int .i64 1)).heap.size = wc.heap.size := (by simp [World.setCell]); rw [e] at h; exact h) (by simp [Value.oneCell']) (by omega) (by unfold maxLen; omega) (by omega) (Nat.le_trans hsz HSZ7.out) _ rfl ?_; intro g8 cap8 w8 hown hgrow hat hlt8; have HO8 := Lib.hid hown; have HG8 := Lib.hid hgrow; have HA8 := Lib.hid hat; clear hown hgrow hat hlt8)
        have HM8 := Lib.hid (HMK.out.more HBL.out.size HSZ7.out HOLD.out HA6.out HG6.out HAG.out HG8.out (by rw [HR.out]; exact HO8.out) HA8.out)
        have HB8 := Lib.hid (HB7.out.grown HG8.out (by have := HB7.out.size; omega) (fun x hx => (HO7.out.lt x hx).1))
        go_roundw
        case rel => exact ⟨k + 1, some ⟨g8, 0, none⟩, cap8, _, _, by omega, by go_num, rfl, HM8.out, HB8.out⟩
        case measure => simp [intOf]; omega
    · obtain rfl : k = rs.length := by omega
      clear hbl
      go_wp2
      go_ret
      exact ⟨a, c, rfl, ⟨VL, VB, HMK.out⟩, HBL.out⟩

end Go.Proofs.Ytnbgpeoceejolaa
