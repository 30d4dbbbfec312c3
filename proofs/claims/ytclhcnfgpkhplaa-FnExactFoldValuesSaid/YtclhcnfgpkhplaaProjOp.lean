/-
  ProjectionOp of the model and of the program.
-/
import Derived.Test.YtclhcnfgpkhplaaTab
import Derived.Test.YtclhcnfgpkhplaaTupleOf
import Derived.Test.YtclhcnfgpkhplaaGSet
import Derived.Test.YtclhcnfgpkhplaaApplyOp
import Derived.Test.YtclhcnfgpkhplaaReg
import Derived.Deep.AppendLies
namespace Go.Proofs.Ytclhcnfgpkhplaa
open Go.RowKit

theorem wrap8_in {n : Int} (h0 : 0 ≤ n) (h1 : n < 256) : IntKind.u8.wrap n = n := by
  rw [IntKind.wrap_u8]; omega
theorem fieldTab (x y z : Value) (w : World) : (Instr.field 105 (.agg #[x, y, z]) 2).run Try.prog w = .ok z w := by kernel_rfl
theorem TabAt.stored {w : World} {b : Nat} {F : Nat → Int} (h : TabAt w b F) {a : Addr} (ha : b ≠ a.block) (u : Value) : TabAt (w.setCell a u) b F := Box.other h ha u

set_option linter.unusedSimpArgs false in
set_option maxHeartbeats 2000000 in
set_option maxRecDepth 100000 in
theorem projectionTable (s r q p : Nat) (h1 : 1 ≤ s) (h2 : s ≤ 4) (h3 : 1 ≤ r) (hr3 : r ≤ 3) (hp : p < r) (hq : s ^ r = q) (w : World) :
    Calls Try.prog 168 #[.int .i64 s, .int .i64 r, .int .i64 p] w (MadeTab w s r q (fun i => intN (digs s r i) p)) := by
  have h64 : q ≤ 64 := by rw [← hq]; exact (pow_le3 h1 h2 hr3).1
  have h4 : r ≤ 4 := by omega
  have HQ := Lib.hid hq
  have HR0 := Lib.hid (Box.new 105 w #[.int .i64 0, .int .i64 0, .slice none 0 0])
  clear hq
  go_enter Try.func168, Try.ntmps168
  go_wp2_with fail
  refine (newTable s r q h1 h2 hr3 HQ.out _).mono ?_
  rintro e w2 ⟨b, F0, rfl, hT, -, hb0, hb2⟩
  have hb1 : w.heap.size < b := by have := hb0; simp at this; omega
  have hb3 : b < w2.heap.size := hT.lt
  have HT0 := Lib.hid hT
  have HR2 := Lib.hid (HR0.out.below hb2)
  have HW0 := Lib.hid (((Below.refl w.heap.size w).alloc (Nat.le_refl _) (.cells #[.int .i64 0, .int .i64 0, .slice none 0 0] 105)).trans (hb2.mono (by simp)))
  have HBX0 := Lib.hid (Box.new 105 w2 #[.int .i64 s, .int .i64 r, .slice (some ⟨b, 0, none⟩) q q])
  have d2 := HBX0.out.c 2 rfl
  clear hT hb0 hb2
  go_wp2
  clear d2
  go_loopw [15] (fun i wr => ∃ (k : Nat) (G : Nat → Int), k ≤ q ∧ i = .int .i64 k ∧ TabAt wr b G ∧ (∀ j, j < k → G j = intN (digs s r j) p) ∧ Box 105 wr w2.heap.size #[.int .i64 s, .int .i64 r, .slice (some ⟨b, 0, none⟩) q q] ∧ Box 105 wr w.heap.size #[.int .i64 0, .int .i64 0, .slice none 0 0] ∧ Below w.heap.size w wr) (fun i _ => q - (intOf i).toNat)
  case atStart =>
    exact ⟨0, F0, Nat.zero_le _, rfl, HT0.out.below ((Below.refl _ _).alloc (Nat.le_refl _) _), fun j hj => absurd hj (by omega), HBX0.out, HR2.out.below ((Below.refl _ _).alloc (Nat.le_refl _) _), HW0.out.alloc (by omega) _⟩
  case round =>
    obtain ⟨k, G, hk, rfl, hT, hG, hbx, hb0, hbel⟩ := hrel
    have HT := Lib.hid hT
    have HFF := Lib.hid hG
    have HBX := Lib.hid hbx
    have HB0 := Lib.hid hb0
    have HW := Lib.hid hbel
    clear hT hG hbx hb0 hbel
    by_cases hlt : k < q
    · have hlt' : (k : Int) < (q : Int) := by omega
      have c0 := HBX.out.c 2 rfl
      have hd := (digs_tup s r k h1).2 p (by rw [digs_len]; exact hp)
      have hd0 : 0 ≤ intN (digs s r k) p := hd.1
      have hd1 : intN (digs s r k) p < 256 := by have := hd.2; omega
      have hpr : (p : Int) < (r : Int) := by omega
      have hwr : IntKind.u8.wrap (intN (digs s r k) p) = intN (digs s r k) p := wrap8_in hd0 hd1
      clear hd
      go_wp2
      refine wp_region_noPanic ?_
      refine wp_region_late (S := (fun w' => w'.cell? ⟨w2.heap.size, 2, none⟩ = some (.slice (some ⟨b, 0, none⟩) q q) ∧ Below w.heap.size w w')) [12] (by kernel_rfl) ?_ (fun hHeld => ?_)
      · exact ⟨c0, HW.out.trans ((QW.refl wr).drew.below _)⟩
      refine wpAnyL_free (i := 0) (v := ?_) (some 18) rfl rfl (by kernel_rfl) (by kernel_rfl) (by kernel_rfl) (by decide) (fun _ _ _ h => h) (Or.inl ⟨by rfl, ?_⟩) (fun h0 => by assumption) ?_
      rotate_left
      · intro wS
        go_simp
        try with_reducible rfl
      try simp only [Act.put, List.setIfInBounds_toArray, List.set_cons_zero, List.set_cons_succ]
      refine wpAnyL_take (i := 1) (v := ?_) (some 19) rfl rfl (by kernel_rfl) (by kernel_rfl) (by kernel_rfl) (by kernel_rfl) (by kernel_rfl) (fun _ _ _ h => h) (Or.inl ⟨by rfl, ?_⟩) (by assumption) ?_
      rotate_left
      · intro wS hSw
        try dsimp only at hSw
        go_simp
        try with_reducible rfl
      try simp only [Act.put, List.setIfInBounds_toArray, List.set_cons_zero, List.set_cons_succ]
      refine wpAnyL_free (i := 2) (v := ?_) (some 20) rfl rfl (by kernel_rfl) (by kernel_rfl) (by kernel_rfl) (by decide) (fun _ _ _ h => h) (Or.inl ⟨by rfl, ?_⟩) (fun h0 => by assumption) ?_
      rotate_left
      · intro wS
        go_simp
        try with_reducible rfl
      try simp only [Act.put, List.setIfInBounds_toArray, List.set_cons_zero, List.set_cons_succ]
      refine wpAnyL_free (i := 3) (v := ?_) (some 21) rfl rfl (by kernel_rfl) (by kernel_rfl) (by kernel_rfl) (by decide) (fun _ _ _ h => h) (Or.inl ⟨by rfl, ?_⟩) (fun h0 => by assumption) ?_
      rotate_left
      · intro wS
        go_simp
        try with_reducible rfl
      try simp only [Act.put, List.setIfInBounds_toArray, List.set_cons_zero, List.set_cons_succ]
      refine wpAnyL_free (i := 4) (v := ?_) (some 22) rfl rfl (by kernel_rfl) (by kernel_rfl) (by kernel_rfl) (by decide) (fun _ _ _ h => h) (Or.inl ⟨by rfl, ?_⟩) (fun h0 => by assumption) ?_
      rotate_left
      · intro wS
        go_simp
        try with_reducible rfl
      try simp only [Act.put, List.setIfInBounds_toArray, List.set_cons_zero, List.set_cons_succ]
      refine wpAnyL_free (i := 5) (v := ?_) (some 23) rfl rfl (by kernel_rfl) (by kernel_rfl) (by kernel_rfl) (by decide) (fun _ _ _ h => h) (Or.inl ⟨by rfl, ?_⟩) (fun h0 => by assumption) ?_
      rotate_left
      · intro wS
        go_simp
        try with_reducible rfl
      try simp only [Act.put, List.setIfInBounds_toArray, List.set_cons_zero, List.set_cons_succ]
      refine wpAnyL_free (i := 7) (v := ?_) (some 25) rfl rfl (by kernel_rfl) (by kernel_rfl) (by kernel_rfl) (by decide) (fun _ _ _ h => h) (Or.inl ⟨by rfl, ?_⟩) (fun h0 => by assumption) ?_
      rotate_left
      · intro wS
        go_simp
        try with_reducible rfl
      try simp only [Act.put, List.setIfInBounds_toArray, List.set_cons_zero, List.set_cons_succ]
      refine wpAnyL_ready (rs := [6]) (by kernel_rfl) (by simp) ?_
      refine AllReadyL.cons rfl (fun K hK => ?_) AllReadyL.nil
      go_simp; go_at_call 109; refine (tupleOf s r k h1 h2 h3 h4 (by omega) _).mono ?_; rintro e w3 ⟨a3, n3, c3, rfl, ho3, hb3⟩
      obtain ⟨b3, off3, rfl, rfl, hx3⟩ := SlAt.some_of ho3.rowAt p (by rw [digs_len]; exact hp)
      have HLN : Hid ((digs s r k).length = r) := Lib.hid (digs_len s r k)
      rw [HLN.out]
      have HB3 := Lib.hid hb3
      have HT3 := Lib.hid ((HT.out.below ((QW.refl _).drew.below _)).below hb3)
      have cT := HT3.out.c k (by omega)
      have fT := HT3.out.free k
      refine hK.out _ _ ?_ (fun hHeld => ?_)
      · exact ⟨below_cell hb3 hHeld.1, hHeld.2.trans (hb3.mono hHeld.2.size)⟩
      clear hK K
      try simp only [Act.put, List.setIfInBounds_toArray, List.set_cons_zero, List.set_cons_succ]
      refine wpAnyL_free (i := 8) (v := ?_) (some 26) rfl rfl (by kernel_rfl) (by kernel_rfl) (by kernel_rfl) (by decide) (fun _ _ _ h => h) (Or.inl ⟨by rfl, ?_⟩) (fun h0 => by assumption) ?_
      rotate_left
      · intro wS
        go_simp
        try with_reducible rfl
      try simp only [Act.put, List.setIfInBounds_toArray, List.set_cons_zero, List.set_cons_succ]
      refine wpAnyL_ready (rs := [9]) (by kernel_rfl) (by simp) ?_
      refine AllReadyL.cons rfl (fun K hK => ?_) AllReadyL.nil
      go_simp
      refine hK.out _ _ ?_ (fun hHeld => ?_)
      · exact hHeld
      clear hK K
      try simp only [Act.put, List.setIfInBounds_toArray, List.set_cons_zero, List.set_cons_succ]
      refine wpAnyL_free (i := 10) (v := ?_) (some 28) rfl rfl (by kernel_rfl) (by kernel_rfl) (by kernel_rfl) (by decide) (fun _ _ _ h => h) (Or.inl ⟨by rfl, ?_⟩) (fun h0 => by assumption) ?_
      rotate_left
      · intro wS
        go_simp
        try with_reducible rfl
      try simp only [Act.put, List.setIfInBounds_toArray, List.set_cons_zero, List.set_cons_succ]
      refine wpAnyL_free (i := 11) (v := ?_) (some 29) rfl rfl (by kernel_rfl) (by kernel_rfl) (by kernel_rfl) (by decide) (fun _ _ _ h => h) (Or.inl ⟨by rfl, ?_⟩) (fun h0 => by assumption) ?_
      rotate_left
      · intro wS
        go_simp
        try with_reducible rfl
      try simp only [Act.put, List.setIfInBounds_toArray, List.set_cons_zero, List.set_cons_succ]
      refine wpAnyL_ready (rs := [12]) (by kernel_rfl) (by simp) ?_
      refine AllReadyL.last rfl (by kernel_rfl) (fun K hK => ?_) AllReadyL.nil
      go_simp
      refine hK.out _ _ ?_
      clear hK K
      try simp only [Act.put, List.setIfInBounds_toArray, List.set_cons_zero, List.set_cons_succ]
      refine wpAnyL_done (by kernel_rfl) ?_ _
      refine NoPanic.normal ?_
      have HBX' := Lib.hid (((HBX.out.below ((QW.refl _).drew.below _)).below HB3.out).other (a := ⟨b, k, none⟩) (show w2.heap.size ≠ b by omega) (.int .u8 (intN (digs s r k) p)))
      have HB0' := Lib.hid (((HB0.out.below ((QW.refl _).drew.below _)).below HB3.out).other (a := ⟨b, k, none⟩) (show w.heap.size ≠ b by omega) (.int .u8 (intN (digs s r k) p)))
      have HW' := Lib.hid (hHeld.2.setCell (p := ⟨b, k, none⟩) (by show w.heap.size ≤ b; omega) (.int .u8 (intN (digs s r k) p)))
      have HTS := Lib.hid (HT3.out.set k (intN (digs s r k) p))
      clear hHeld
      go_wp2
      go_roundw
      case rel => exact ⟨k + 1, _, by omega, by go_num, HTS.out, fun j hj => by
        by_cases hjk : j = k
        · subst hjk; simp
        · simp only [hjk, if_false]; exact HFF.out j (by omega), HBX'.out, HB0'.out, HW'.out⟩
      case measure => simp [intOf]; omega

    · obtain rfl : k = q := by omega
      have d0 := HBX.out.c 0 rfl
      have d1 := HBX.out.c 1 rfl
      have d2 := HBX.out.c 2 rfl
      have e0 := HB0.out.c 0 rfl
      have e1 := HB0.out.c 1 rfl
      have e2 := HB0.out.c 2 rfl
      have f0 := HB0.out.free 0
      have f1 := HB0.out.free 1
      have f2 := HB0.out.free 2
      go_wp2
      refine bodyPost_ret (v := .agg #[.int .i64 s, .int .i64 r, .slice (some ⟨b, 0, none⟩) k k]) (by simp [results, Try.results168, go_sem, e0, e1, e2]) rfl ⟨b, G, rfl, ?_, HFF.out, by omega, ?_⟩
      · exact ((HT.out.stored (by show b ≠ w.heap.size; omega) _).stored (by show b ≠ w.heap.size; omega) _).stored (by show b ≠ w.heap.size; omega) _
      · exact ((HW.out.setCell (Nat.le_refl _) _).setCell (Nat.le_refl _) _).setCell (Nat.le_refl _) _

theorem own_away {w : World} {B e sz n : Nat} {v : Value} {xs : List Value} (h : w.ownsRow B e sz v n xs) (p : Nat) (hp : p < B) : v.ownBlock ≠ some p := fun e' => by have := (h.lt p e').1; omega

set_option linter.unusedSimpArgs false in
set_option maxHeartbeats 2000000 in
set_option maxRecDepth 100000 in
theorem l02Projection (s r q p : Nat) (h1 : 1 ≤ s) (h2 : s ≤ 4) (h3 : 1 ≤ r) (hr3 : r ≤ 3) (hp : p < r) (hq : s ^ r = q) (w : World) :
    Calls Try.prog 164 #[.int .i64 s, .int .i64 r, .int .i64 p] w (MadeOp w r (rowF (fun i => intN (digs s r i) p) q)) := by
  obtain ⟨i0, hi, hz0, hz1, hz2⟩ := info_parts info_intT
  have h64 : q ≤ 64 := by rw [← hq]; exact (pow_le3 h1 h2 hr3).1
  have h4 : r ≤ 4 := by omega
  have HQ := Lib.hid hq
  have HR0 := Lib.hid (Box.new 28 w #[.int .i64 0, .slice none 0 0])
  have hB := Box.new 28 (w.alloc (.cells #[.int .i64 0, .slice none 0 0] 28)) #[.int .i64 r, .slice none 0 0]
  rw [World.size_alloc] at hB
  have HBX0 := Lib.hid hB
  clear hq hB
  go_enter Try.func164, Try.ntmps164
  go_wp2
  go_loopw [8] (fun i wr => ∃ (k : Nat) (a : Option Addr) (n c : Nat), k ≤ q ∧ i = .int .i64 k ∧ Box 28 wr (w.heap.size + 1) #[.int .i64 r, .slice a n c] ∧ Box 28 wr w.heap.size #[.int .i64 0, .slice none 0 0] ∧ wr.ownsRow (w.heap.size + 2) 2 1 (.slice a n c) k ((rowF (fun i => intN (digs s r i) p) k).map (Value.int .i64)) ∧ Below w.heap.size w wr ∧ w.heap.size + 2 ≤ wr.heap.size) (fun i _ => q - (intOf i).toNat)
  case atStart =>
    exact ⟨0, none, 0, 0, Nat.zero_le _, rfl, HBX0.out, HR0.out.below ((Below.refl _ _).alloc (Nat.le_refl _) _), World.ownsRow_nil _ _ _ 1, ((Below.refl _ _).alloc (Nat.le_refl _) _).alloc (by simp) _, by simp⟩
  case round =>
    obtain ⟨k, a, n, c, hk, rfl, hbx, hb0, hown, hbel, hsz⟩ := hrel
    have HBX := Lib.hid hbx
    have HB0 := Lib.hid hb0
    have HO := Lib.hid hown
    have HW := Lib.hid hbel
    clear hbx hb0 hown hbel
    by_cases hlt : k < q
    · have hlt' : (k : Int) < (q : Int) := by omega
      have c0 := HBX.out.c 1 rfl
      have hpr : (p : Int) < (r : Int) := by omega
      go_wp2_with fail
      refine (l01Power' s r q h1 h2 h4 HQ.out _).mono ?_
      rintro e w2 ⟨rfl, rfl⟩
      go_wp2
      refine wp_region_noPanic ?_
      refine wp_region_late (S := (fun w' => w'.cell? ⟨w.heap.size + 1, 1, none⟩ = some (.slice a n c) ∧ Below w.heap.size w w')) [10, 12] (by kernel_rfl) ?_ (fun hHeld => ?_)
      · exact ⟨c0, HW.out.trans ((QW.refl wr).drew.below _)⟩
      refine wpAnyL_free (i := 0) (v := ?_) (some 18) rfl rfl (by kernel_rfl) (by kernel_rfl) (by kernel_rfl) (by decide) (fun _ _ _ h => h) (Or.inl ⟨by rfl, ?_⟩) (fun h0 => by assumption) ?_
      rotate_left
      · intro wS
        go_simp
        try with_reducible rfl
      try simp only [Act.put, List.setIfInBounds_toArray, List.set_cons_zero, List.set_cons_succ]
      refine wpAnyL_take (i := 1) (v := ?_) (some 19) rfl rfl (by kernel_rfl) (by kernel_rfl) (by kernel_rfl) (by kernel_rfl) (by kernel_rfl) (fun _ _ _ h => h) (Or.inl ⟨by rfl, ?_⟩) (by assumption) ?_
      rotate_left
      · intro wS hSw
        try dsimp only at hSw
        go_simp
        try with_reducible rfl
      try simp only [Act.put, List.setIfInBounds_toArray, List.set_cons_zero, List.set_cons_succ]
      refine wpAnyL_free (i := 2) (v := ?_) (some 20) rfl rfl (by kernel_rfl) (by kernel_rfl) (by kernel_rfl) (by decide) (fun _ _ _ h => h) (Or.inl ⟨by rfl, ?_⟩) (fun h0 => by assumption) ?_
      rotate_left
      · intro wS
        go_simp
        try with_reducible rfl
      try simp only [Act.put, List.setIfInBounds_toArray, List.set_cons_zero, List.set_cons_succ]
      refine wpAnyL_free (i := 3) (v := ?_) (some 21) rfl rfl (by kernel_rfl) (by kernel_rfl) (by kernel_rfl) (by decide) (fun _ _ _ h => h) (Or.inl ⟨by rfl, ?_⟩) (fun h0 => by assumption) ?_
      rotate_left
      · intro wS
        go_simp
        try with_reducible rfl
      try simp only [Act.put, List.setIfInBounds_toArray, List.set_cons_zero, List.set_cons_succ]
      refine wpAnyL_free (i := 4) (v := ?_) (some 22) rfl rfl (by kernel_rfl) (by kernel_rfl) (by kernel_rfl) (by decide) (fun _ _ _ h => h) (Or.inl ⟨by rfl, ?_⟩) (fun h0 => by assumption) ?_
      rotate_left
      · intro wS
        go_simp
        try with_reducible rfl
      try simp only [Act.put, List.setIfInBounds_toArray, List.set_cons_zero, List.set_cons_succ]
      refine wpAnyL_free (i := 6) (v := ?_) (some 24) rfl rfl (by kernel_rfl) (by kernel_rfl) (by kernel_rfl) (by decide) (fun _ _ _ h => h) (Or.inl ⟨by rfl, ?_⟩) (fun h0 => by assumption) ?_
      rotate_left
      · intro wS
        go_simp
        try with_reducible rfl
      try simp only [Act.put, List.setIfInBounds_toArray, List.set_cons_zero, List.set_cons_succ]
      refine wpAnyL_ready (rs := [5]) (by kernel_rfl) (by simp) ?_
      refine AllReadyL.cons rfl (fun K hK => ?_) AllReadyL.nil
      go_simp; go_at_call 136; refine (l01Digits s r k h1 (by omega) h4 (by omega) _).mono ?_; rintro e w3 ⟨a3, c3, rfl, ho3, hb3⟩
      obtain ⟨b3, off3, rfl, -, hx3⟩ := SlAt.some_of ho3.rowAt p (by rw [digs_len]; exact hp)
      have HB3 := Lib.hid (((QW.refl wr).drew.below wr.heap.size).trans hb3)
      have hal := (Below.refl w3.heap.size w3).alloc (Nat.le_refl _) (.cells #[.int .i64 (intN (digs s r k) p)] 2)
      have HAL := Lib.hid (HB3.out.trans (hal.mono HB3.out.size))
      clear hal
      refine hK.out _ _ ?_ (fun hHeld => ?_)
      · exact ⟨below_cell hb3 hHeld.1, hHeld.2.trans (hb3.mono hHeld.2.size)⟩
      clear hK K
      try simp only [Act.put, List.setIfInBounds_toArray, List.set_cons_zero, List.set_cons_succ]
      refine wpAnyL_free (i := 7) (v := ?_) (some 25) rfl rfl (by kernel_rfl) (by kernel_rfl) (by kernel_rfl) (by decide) (fun _ _ _ h => h) (Or.inl ⟨by rfl, ?_⟩) (fun h0 => by assumption) ?_
      rotate_left
      · intro wS
        go_simp
        try with_reducible rfl
      try simp only [Act.put, List.setIfInBounds_toArray, List.set_cons_zero, List.set_cons_succ]
      refine wpAnyL_ready (rs := [8]) (by kernel_rfl) (by simp) ?_
      refine AllReadyL.cons rfl (fun K hK => ?_) AllReadyL.nil
      go_simp
      refine hK.out _ _ ?_ (fun hHeld => ?_)
      · exact hHeld
      clear hK K
      try simp only [Act.put, List.setIfInBounds_toArray, List.set_cons_zero, List.set_cons_succ]
      refine wpAnyL_ready (rs := [9]) (by kernel_rfl) (by simp) ?_
      refine AllReadyL.cons rfl (fun K hK => ?_) AllReadyL.nil
      go_simp
      refine hK.out _ _ ?_ (fun hHeld => ?_)
      · exact ⟨below_cell ((Below.refl _ _).alloc (Nat.le_refl _) _) hHeld.1, hHeld.2.trans (((Below.refl _ _).alloc (Nat.le_refl _) _).mono hHeld.2.size)⟩
      clear hK K
      try simp only [Act.put, List.setIfInBounds_toArray, List.set_cons_zero, List.set_cons_succ]
      refine wpAnyL_ready (rs := [10]) (by kernel_rfl) (by simp) ?_
      refine AllReadyL.last rfl (by kernel_rfl) (fun K hK => ?_) AllReadyL.nil
      refine step_append_lies _ (by rfl) _ _ 22 (by rfl) (w.heap.size + 2) 2 i0 (.int .i64 0) 1 8 Try.underlying22 hi hz0 hz1 hz2 (by rfl) (by decide) (.slice a n c) k _ (by rfl) (ownsRow_below HO.out HAL.out) _ 1 1 [.int .i64 (intN (digs s r k) p)] (by rfl) (by rfl) (fun j u hu => World.news_of_block (heap_alloc_new w3 _) j u (by simpa using hu)) (by simp [Value.oneCell']) (by omega) (by unfold maxLen; omega) (by omega) (by have := HAL.out.size; omega) _ rfl ?_; intro g5 cap5 w5 hown5 hgrow5 hat5 hlt5
      have HBX5 := Lib.hid ((HBX.out.below HAL.out).grown hgrow5 (own_away HO.out (w.heap.size + 1) (by omega)))
      have HB05 := Lib.hid ((HB0.out.below HAL.out).grown hgrow5 (own_away HO.out w.heap.size (by omega)))
      have HW5 := Lib.hid ((HW.out.trans (HAL.out.mono HW.out.size)).grown hgrow5 (by have := HAL.out.size; omega) (fun g hg => by have := (HO.out.lt g hg).1; omega))
      have HO5 := Lib.hid hown5
      have HS5 := Lib.hid (Nat.le_trans HAL.out.size hgrow5.size)
      have k1 := HBX5.out.c 1 rfl
      have kf := HBX5.out.free 1
      clear hown5 hgrow5 hat5 hlt5 HAL HB3
      refine hK.out _ _ ?_
      clear hK K
      try simp only [Act.put, List.setIfInBounds_toArray, List.set_cons_zero, List.set_cons_succ]
      refine wpAnyL_free (i := 11) (v := ?_) (some 29) rfl rfl (by kernel_rfl) (by kernel_rfl) (by kernel_rfl) (by decide) (fun _ _ _ h => h) (Or.inl ⟨by rfl, ?_⟩) (fun h0 => absurd h0 (by decide)) ?_
      rotate_left
      · intro wS
        go_simp
        try with_reducible rfl
      try simp only [Act.put, List.setIfInBounds_toArray, List.set_cons_zero, List.set_cons_succ]
      refine wpAnyL_ready (rs := [12]) (by kernel_rfl) (by simp) ?_
      refine AllReadyL.last rfl (by kernel_rfl) (fun K hK => ?_) AllReadyL.nil
      go_simp
      refine hK.out _ _ ?_
      clear hK K
      try simp only [Act.put, List.setIfInBounds_toArray, List.set_cons_zero, List.set_cons_succ]
      refine wpAnyL_done (by kernel_rfl) ?_ _
      refine NoPanic.normal ?_
      go_wp2
      go_roundw
      case rel =>
        refine ⟨k + 1, _, _, _, by omega, by go_num, HBX5.out.set 1 _, HB05.out.other (show w.heap.size ≠ w.heap.size + 1 by omega) _, ?_, HW5.out.setCell (p := ⟨w.heap.size + 1, 1, none⟩) (by show w.heap.size ≤ w.heap.size + 1; omega) _, by have := HS5.out; simp [World.setCell]; omega⟩
        rw [rowF_succ]
        exact ownsRow_same HO5.out fun g hg => Below.heap_setCell _ _ _ _ (by have := (HO5.out.lt g hg).1; show g ≠ w.heap.size + 1; omega)
      case measure => simp [intOf]; omega

    · obtain rfl : k = q := by omega
      go_wp2_with fail
      refine (l01Power' s r k h1 h2 h4 HQ.out _).mono ?_
      rintro e w2 ⟨rfl, rfl⟩
      have hm : n = k := by
        rcases ownsRow_parts HO.out with ⟨hv, h0, _⟩ | ⟨_, _, hv, _⟩ <;> simp only [Value.slice.injEq] at hv <;> omega
      subst hm
      have HE : Hid (OwnRow wr (w.heap.size + 2) (.slice a n c) (rowF (fun i => intN (digs s r i) p) n)) := by
        show World.ownsRow _ _ _ _ _ _ _
        rw [rowF_len]
        exact HO.out
      have d0 := HBX.out.c 0 rfl
      have d1 := HBX.out.c 1 rfl
      have e0 := HB0.out.c 0 rfl
      have e1 := HB0.out.c 1 rfl
      have f0 := HB0.out.free 0
      have f1 := HB0.out.free 1
      go_wp2
      refine bodyPost_ret (v := .agg #[.int .i64 r, .slice a n c]) (by simp [results, Try.results164, go_sem, e0, e1]) rfl ⟨_, _, _, rfl, ?_, ?_⟩
      · exact (((HE.out.stored (by show w.heap.size < w.heap.size + 2; omega) _).stored (by show w.heap.size < w.heap.size + 2; omega) _).mono (by omega)).full
      · exact (HW.out.setCell (Nat.le_refl _) _).setCell (Nat.le_refl _) _

/-- What ProjectionOp answers. -/
def ProjectionOpIs (size ar place : Int) (x : Int) (t : List Int) (cd : Int) : Prop := OpAns (In14 size) (In13 ar ∧ InP place 0 (ar - 1)) ar (rowF (fun i => intN (digs size.toNat ar.toNat i) place.toNat) (size.toNat ^ ar.toNat)) x t cd
theorem ProjectionOpIs.exists (size ar place : Int) : ∃ x t cd, ProjectionOpIs size ar place x t cd := OpAns.exists _ _ _ _
theorem ProjectionOpIs.small {size ar place : Int} {x : Int} {t : List Int} {cd : Int} (h : ProjectionOpIs size ar place x t cd) : t.length ≤ 1048576 :=
  OpAns.small h fun h1 h2 => by
    have a := h1.1; have b := h1.2; have c := h2.1.2
    have := (pow_le3 (s := size.toNat) (r := ar.toNat) (by omega) (by omega) (by omega)).1
    rw [rowF_len]; omega


end Go.Proofs.Ytclhcnfgpkhplaa
