/-
  ConstantOp of the model and of the program; slices.Repeat of a list with one number.
-/
import Derived.Test.YtclhcnfgpkhplaaTab
import Derived.Laws.CopyOwn
import Derived.Test.YtclhcnfgpkhplaaReg
namespace Go.Proofs.Ytclhcnfgpkhplaa
open Go.RowKit

theorem bitsMul (q : Nat) (hq : q ∈ [1, 2, 3, 4, 8, 9, 16, 27, 64]) (w : World) :
    Calls Try.prog 191 #[.int .u64 1, .int .u64 (q : Int)] w fun e w' => e = .returned (.tuple #[.int .u64 0, .int .u64 (q : Int)]) ∧ w = w' := by
  simp only [List.mem_cons, List.not_mem_nil, or_false] at hq
  rcases hq with rfl | rfl | rfl | rfl | rfl | rfl | rfl | rfl | rfl
  all_goals
    go_enter Try.func191, Try.ntmps191
    go_wp2
    go_ret2
    exact ⟨rfl, rfl⟩

theorem splice_same (q k m : Nat) (v : Int) (hk : k + m ≤ q) : splice (upto q k (fun _ => Value.int .i64 v) (.int .i64 0)) k (List.replicate m (Value.int .i64 v)) = upto q (k + m) (fun _ => Value.int .i64 v) (.int .i64 0) := by
  unfold splice
  apply List.ext_getElem?
  intro j
  have hl : (upto q k (fun _ => Value.int IntKind.i64 v) (Value.int IntKind.i64 0)).length = q := by simp [upto]
  rw [List.length_replicate]
  by_cases h1 : j < k
  · rw [List.getElem?_append_left (by rw [List.length_take, hl]; omega), List.getElem?_take_of_lt h1, upto_at _ _ _ _ _ (by omega), upto_at _ _ _ _ _ (by omega), if_pos h1, if_pos (by omega)]
  · rw [List.getElem?_append_right (by rw [List.length_take, hl]; omega), List.length_take, hl, show min k q = k by omega]
    by_cases h2 : j < k + m
    · rw [List.getElem?_append_left (by rw [List.length_replicate]; omega), upto_at _ _ _ _ _ (by omega), if_pos h2]
      simp [show j - k < m by omega]
    · rw [List.getElem?_append_right (by rw [List.length_replicate]; omega), List.length_replicate, List.getElem?_drop, show k + m + (j - k - m) = j by omega]
      by_cases h3 : j < q
      · rw [upto_at _ _ _ _ _ h3, upto_at _ _ _ _ _ h3, if_neg h1, if_neg h2]
      · rw [List.getElem?_eq_none (by rw [hl]; omega), List.getElem?_eq_none (by simp [upto]; omega)]

set_option linter.unusedSimpArgs false in
set_option maxHeartbeats 800000 in
set_option maxRecDepth 100000 in
theorem repeatOne (v : Int) (bx ox cx q : Nat) (hq : q ∈ [1, 2, 3, 4, 8, 9, 16, 27, 64]) (w : World) (hx : w.cell? ⟨bx, ox, none⟩ = some (.int .i64 v)) :
    Calls Try.prog 170 #[.slice (some ⟨bx, ox, none⟩) 1 cx, .int .i64 (q : Int)] w (MadeRow w (rowF (fun _ => v) q)) := by
  have h1 : 1 ≤ q := by simp only [List.mem_cons, List.not_mem_nil, or_false] at hq; omega
  have h64 : q ≤ 64 := by simp only [List.mem_cons, List.not_mem_nil, or_false] at hq; omega
  have HQ := Lib.hid hq
  have hmk := make_row q (by omega)
  have hneg : decide ((q : Int) < 0) = false := decide_eq_false (by omega)
  clear hq
  go_enter Try.func170, Try.ntmps170
  go_wp2_with fail
  refine (bitsMul q HQ.out _).mono ?_
  rintro e w2 ⟨rfl, rfl⟩
  have HB0 : Hid (((w.alloc (.cells (Array.replicate q (Value.int .i64 0)) 2)).heap[w.heap.size]?) = some (.cells (upto q 0 (fun _ => Value.int .i64 v) (.int .i64 0)).toArray 2 (0, 0))) := Lib.hid (by
    rw [upto_zero]
    have h := heap_alloc_new w (.cells (Array.replicate q (Value.int .i64 0)) 2)
    rw [h]
    simp)
  have HX : Hid (∀ (j : Nat) (u : Value), (List.replicate 1 (Value.int .i64 v))[j]? = some u → (w.alloc (.cells (Array.replicate q (Value.int .i64 0)) 2)).cell? ((⟨bx, ox, none⟩ : Addr).add j) = some u) := Lib.hid (fun j u hu => by
    obtain rfl : j = 0 := by have := (List.getElem?_eq_some_iff.1 hu).1; simp at this; omega
    have hu2 : Value.int .i64 v = u := by simpa using hu
    subst hu2
    have := below_cell ((Below.refl _ _).alloc (Nat.le_refl _) (.cells (Array.replicate q (Value.int .i64 0)) 2)) hx
    rw [Addr.add_lit]; exact this)
  have HL0 := Lib.hid (show (upto q 0 (fun _ => Value.int .i64 v) (.int .i64 0)).length = q by simp [upto])
  have hmin : (List.replicate 1 (Value.int .i64 v)).length = Nat.min 1 q := by
    rw [List.length_replicate]
    show 1 = min 1 q
    omega
  have HMIN := Lib.hid hmin
  have HFIT : Hid (0 + (List.replicate 1 (Value.int .i64 v)).length ≤ (upto q 0 (fun _ => Value.int .i64 v) (.int .i64 0)).length) := Lib.hid (by rw [HL0.out, List.length_replicate]; omega)
  clear hmin
  go_wp2_with (refine wpList_copy_splice rfl (.tmp 31) (.tmp 32) 22 22 rfl 2 Try.underlying22 (by kernel_rfl) (some ⟨w.heap.size, 0, none⟩) (some ⟨bx, ox, none⟩) q q 1 cx rfl rfl w.heap.size 0 _ 2 HB0.out (List.replicate 1 (Value.int .i64 v)) HMIN.out (fun _ => ⟨rfl, _, rfl, fun j u hu => HX.out j u hu⟩) HFIT.out (fun u hu => by rw [List.eq_of_mem_replicate hu]; rfl) w.heap.size w ((Below.refl _ _).alloc (Nat.le_refl _) _) (Nat.le_refl _) ?_; intro w3 hbx3 hb3; have HBX3 := hbx3; have HB3 := Lib.hid hb3; clear hbx3 hb3)
  have HB1 : Hid (Box 2 w3 w.heap.size (upto q 1 (fun _ => Value.int .i64 v) (.int .i64 0)).toArray) := Lib.hid (by
    have h := HBX3.out
    rwa [splice_same q 0 1 v (by omega), Nat.zero_add] at h)
  clear HBX3 hmk
  go_loopw [8] (fun n wr => ∃ k : Nat, 1 ≤ k ∧ k ≤ q ∧ n = .int .i64 k ∧ Box 2 wr w.heap.size (upto q k (fun _ => Value.int .i64 v) (.int .i64 0)).toArray ∧ Below w.heap.size w wr) (fun n _ => q - (intOf n).toNat)
  case atStart => exact ⟨1, Nat.le_refl _, h1, by simp [goInt], HB1.out, HB3.out⟩
  case round =>
    obtain ⟨k, hk1, hk, rfl, hbx, hbel⟩ := hrel
    have HBX := Lib.hid hbx
    have HW := Lib.hid hbel
    clear hbx hbel
    by_cases hlt : k < q
    · have hlt' : (k : Int) < (q : Int) := by omega
      have hle' : (k : Int) ≤ (q : Int) := by omega
      have hne : ¬ q = k := by omega
      obtain ⟨m, hm⟩ : ∃ m, Nat.min k (q - k) = m := ⟨_, rfl⟩
      have hm2 : 1 ≤ m ∧ k + m ≤ q := by simp only [Nat.min_def] at hm; split at hm <;> omega
      have HM := Lib.hid hm
      obtain ⟨hm3, hm4⟩ := hm2
      have hsum : IntKind.i64.wrap ((k : Int) + (m : Int)) = ((k + m : Nat) : Int) := by rw [IntWalk.i64_in _ (by omega)]; omega
      have HLQ := Lib.hid (show (upto q k (fun _ => Value.int .i64 v) (.int .i64 0)).length = q by simp [upto])
      have HSRC : Hid (∀ (j : Nat) (u : Value), (List.replicate m (Value.int .i64 v))[j]? = some u → wr.cell? ((⟨w.heap.size, 0, none⟩ : Addr).add j) = some u) := Lib.hid (fun j u hu => by
        have hj : j < m := by have := (List.getElem?_eq_some_iff.1 hu).1; simpa using this
        have hu2 : Value.int .i64 v = u := by
          rw [List.getElem?_replicate, if_pos hj] at hu
          simpa using hu
        subst hu2
        have hjk : j < k := by simp only [Nat.min_def] at hm; split at hm <;> omega
        rw [Addr.add_lit, Nat.zero_add]
        exact HBX.out.c j (by rw [List.getElem?_toArray, upto_at _ _ _ _ _ (by omega), if_pos hjk]))
      clear hm
      go_wp2
      refine wp_region_noPanic ?_
      refine wp_region_late (S := (fun w' => True)) [7] (by kernel_rfl) ?_ (fun hHeld => ?_)
      · trivial
      refine wpAnyL_free (i := 0) (v := ?_) (some 38) rfl rfl (by kernel_rfl) (by kernel_rfl) (by kernel_rfl) (by decide) (fun _ _ _ h => h) (Or.inl ⟨by rfl, ?_⟩) (fun h0 => by assumption) ?_
      rotate_left
      · intro wS
        go_simp
        try with_reducible rfl
      try simp only [Act.put, List.setIfInBounds_toArray, List.set_cons_zero, List.set_cons_succ]
      refine wpAnyL_free (i := 1) (v := ?_) (some 39) rfl rfl (by kernel_rfl) (by kernel_rfl) (by kernel_rfl) (by decide) (fun _ _ _ h => h) (Or.inl ⟨by rfl, ?_⟩) (fun h0 => by assumption) ?_
      rotate_left
      · intro wS
        go_simp
        try with_reducible rfl
      try simp only [Act.put, List.setIfInBounds_toArray, List.set_cons_zero, List.set_cons_succ]
      refine wpAnyL_free (i := 2) (v := ?_) (some 40) rfl rfl (by kernel_rfl) (by kernel_rfl) (by kernel_rfl) (by decide) (fun _ _ _ h => h) (Or.inl ⟨by rfl, ?_⟩) (fun h0 => by assumption) ?_
      rotate_left
      · intro wS
        go_simp
        try with_reducible rfl
      try simp only [Act.put, List.setIfInBounds_toArray, List.set_cons_zero, List.set_cons_succ]
      refine wpAnyL_free (i := 3) (v := ?_) (some 41) rfl rfl (by kernel_rfl) (by kernel_rfl) (by kernel_rfl) (by decide) (fun _ _ _ h => h) (Or.inl ⟨by rfl, ?_⟩) (fun h0 => by assumption) ?_
      rotate_left
      · intro wS
        go_simp
        try with_reducible rfl
      try simp only [Act.put, List.setIfInBounds_toArray, List.set_cons_zero, List.set_cons_succ]
      refine wpAnyL_free (i := 4) (v := ?_) (some 42) rfl rfl (by kernel_rfl) (by kernel_rfl) (by kernel_rfl) (by decide) (fun _ _ _ h => h) (Or.inl ⟨by rfl, ?_⟩) (fun h0 => by assumption) ?_
      rotate_left
      · intro wS
        go_simp
        try with_reducible rfl
      try simp only [Act.put, List.setIfInBounds_toArray, List.set_cons_zero, List.set_cons_succ]
      refine wpAnyL_free (i := 5) (v := ?_) (some 43) rfl rfl (by kernel_rfl) (by kernel_rfl) (by kernel_rfl) (by decide) (fun _ _ _ h => h) (Or.inl ⟨by rfl, ?_⟩) (fun h0 => by assumption) ?_
      rotate_left
      · intro wS
        go_simp
        try with_reducible rfl
      try simp only [Act.put, List.setIfInBounds_toArray, List.set_cons_zero, List.set_cons_succ]
      refine wpAnyL_free (i := 6) (v := ?_) (some 44) rfl rfl (by kernel_rfl) (by kernel_rfl) (by kernel_rfl) (by decide) (fun _ _ _ h => h) (Or.inl ⟨by rfl, ?_⟩) (fun h0 => by assumption) ?_
      rotate_left
      · intro wS
        go_simp
        try with_reducible rfl
      try simp only [Act.put, List.setIfInBounds_toArray, List.set_cons_zero, List.set_cons_succ]
      refine wpAnyL_ready (rs := [7]) (by kernel_rfl) (by simp) ?_
      refine AllReadyL.last rfl (by kernel_rfl) (fun K hK => ?_) AllReadyL.nil
      refine step_copy_splice (w := wr.drew) (by rfl) _ _ 22 22 (by rfl) 2 Try.underlying22 (by kernel_rfl) (some ⟨w.heap.size, k, none⟩) (some ⟨w.heap.size, 0, none⟩) (q - k) (q - k) k q (by rfl) (by rfl) w.heap.size k _ 2 (HBX.out) (List.replicate m (Value.int .i64 v)) (by rw [List.length_replicate]; exact HM.out.symm) (fun _ => ⟨rfl, _, rfl, fun j u hu => HSRC.out j u hu⟩) (by rw [HLQ.out, List.length_replicate]; omega) (fun u hu => by rw [List.eq_of_mem_replicate hu]; rfl) w.heap.size w (HW.out.trans (((QW.refl wr).drew.below _).mono HW.out.size)) (Nat.le_refl _) ?_
      intro w4 hbx4 hb4
      have HBX4 : Hid (Box 2 w4 w.heap.size (upto q (k + m) (fun _ => Value.int .i64 v) (.int .i64 0)).toArray) := Lib.hid (by
        have h := hbx4.out
        rwa [splice_same q k m v (by omega)] at h)
      have HB4 := Lib.hid hb4
      clear hbx4 hb4
      simp only [List.length_replicate, goInt]
      change K (Act.put _ (some 45) _) _
      refine hK.out _ _ ?_
      clear hK K
      try simp only [Act.put, List.setIfInBounds_toArray, List.set_cons_zero, List.set_cons_succ]
      refine wpAnyL_free (i := 8) (v := ?_) (some 46) rfl rfl (by kernel_rfl) (by kernel_rfl) (by kernel_rfl) (by decide) (fun _ _ _ h => h) (Or.inl ⟨by rfl, ?_⟩) (fun h0 => absurd h0 (by decide)) ?_
      rotate_left
      · intro wS
        go_simp
        try with_reducible rfl
      try simp only [Act.put, List.setIfInBounds_toArray, List.set_cons_zero, List.set_cons_succ]
      refine wpAnyL_free (i := 9) (v := ?_) (some 8) rfl rfl (by kernel_rfl) (by kernel_rfl) (by kernel_rfl) (by decide) (fun _ _ _ h => h) (Or.inl ⟨by rfl, ?_⟩) (fun h0 => absurd h0 (by decide)) ?_
      rotate_left
      · intro wS
        go_simp
        try with_reducible rfl
      try simp only [Act.put, List.setIfInBounds_toArray, List.set_cons_zero, List.set_cons_succ]
      refine wpAnyL_done (by kernel_rfl) ?_ _
      refine NoPanic.normal ?_
      go_wp2
      go_roundw
      case rel => exact ⟨k + m, by omega, by omega, by go_num, HBX4.out, HB4.out⟩
      case measure => simp [intOf]; omega

    · obtain rfl : q = k := by omega
      have HR : Hid (OwnRow wr w.heap.size (.slice (some ⟨w.heap.size, 0, none⟩) q q) (rowF (fun _ => v) q)) := Lib.hid (by
        have hb := HBX.out
        rw [upto_all] at hb
        show World.ownsRow _ _ _ _ _ _ _
        rw [rowF_len, rowF_map]
        exact ⟨by simp, .inr ⟨w.heap.size, q, _, rfl, Nat.le_refl _, hb, Nat.le_refl _, by unfold maxLen; omega, by simp, by rw [Nat.mul_one]; exact List.take_of_length_le (by simp)⟩⟩)
      go_wp2
      go_ret
      exact ⟨_, _, _, rfl, HR.out, HW.out⟩

theorem pow_in {s r : Nat} (h1 : 1 ≤ s) (h2 : s ≤ 4) (h3 : 1 ≤ r) (h4 : r ≤ 3) : s ^ r ∈ [1, 2, 3, 4, 8, 9, 16, 27, 64] := by
  have hc : s = 1 ∨ s = 2 ∨ s = 3 ∨ s = 4 := by omega
  have hd : r = 1 ∨ r = 2 ∨ r = 3 := by omega
  rcases hc with rfl | rfl | rfl | rfl <;> rcases hd with rfl | rfl | rfl <;> decide

/-- What ConstantOp answers. -/
def ConstantOpIs (size ar v : Int) (x : Int) (t : List Int) (cd : Int) : Prop := OpAns (In14 size) (In13 ar ∧ InP v 0 (size - 1)) ar (rowF (fun _ => v) (size.toNat ^ ar.toNat)) x t cd
theorem ConstantOpIs.exists (size ar v : Int) : ∃ x t cd, ConstantOpIs size ar v x t cd := OpAns.exists _ _ _ _
theorem ConstantOpIs.small {size ar v : Int} {x : Int} {t : List Int} {cd : Int} (h : ConstantOpIs size ar v x t cd) : t.length ≤ 1048576 :=
  OpAns.small h fun h1 h2 => by
    have a := h1.1; have b := h1.2; have c := h2.1.2
    have := (pow_le3 (s := size.toNat) (r := ar.toNat) (by omega) (by omega) (by omega)).1
    rw [rowF_len]; omega
theorem own_awayC {w : World} {B e sz n : Nat} {v : Value} {xs : List Value} (h : w.ownsRow B e sz v n xs) (p : Nat) (hp : p < B) : v.ownBlock ≠ some p := fun e' => by have := (h.lt p e').1; omega


end Go.Proofs.Ytclhcnfgpkhplaa
