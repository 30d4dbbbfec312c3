/-
  The kinds of operations, of the model: l02Associative.
-/
import Derived.Test.YtclhcnfgpkhplaaKinds4
namespace Go.Proofs.Ytclhcnfgpkhplaa
open Go.RowKit

def opA (s : Nat) (tab : List Int) (x y : Int) : Int := intN tab (codeN s [x, y])
def AssK (s : Nat) (tab : List Int) (k : Nat) : Prop :=
  opA s tab (opA s tab (intN (digs s 3 k) 0) (intN (digs s 3 k) 1)) (intN (digs s 3 k) 2) = opA s tab (intN (digs s 3 k) 0) (opA s tab (intN (digs s 3 k) 1) (intN (digs s 3 k) 2))
def AssocP (s : Nat) (tab : List Int) : Prop := ∀ k : Nat, k < s ^ 3 → AssK s tab k
theorem digs3 (s k : Nat) : digs s 3 k = [intN (digs s 3 k) 0, intN (digs s 3 k) 1, intN (digs s 3 k) 2] := by rfl
theorem opA_in {s : Nat} {tab : List Int} {x y : Int} (ho : OpOk s 2 tab) (hx : 0 ≤ x ∧ x < s) (hy : 0 ≤ y ∧ y < s) : 0 ≤ opA s tab x y ∧ opA s tab x y < s := ho.2.2.2 _ (ho.lt (tup2 hx hy))
theorem AssocP.iff {s : Nat} {tab : List Int} (h1 : 1 ≤ s) (hs4 : s ≤ 4) : AssocP s tab ↔ ∀ x y z : Nat, x < s → y < s → z < s → opA s tab (opA s tab x y) z = opA s tab x (opA s tab y z) := by
  constructor
  · intro h x y z hx hy hz
    have ht : TupP s (3 : Nat) [(x : Int), (y : Int), (z : Int)] := tup3 (by omega) (by omega) (by omega)
    have hd := digs_of_code h1 hs4 (by omega) (by omega) ht
    have hk := h _ (codeN_pow h1 ht)
    unfold AssK at hk
    rw [hd] at hk
    exact hk
  · intro h k hk
    have ht := digs_tup s 3 k h1
    have f : ∀ i, i < 3 → ∃ n : Nat, intN (digs s 3 k) i = n ∧ n < s := fun i hi => by
      have := ht.2 i (by rw [digs_len]; exact hi)
      exact ⟨(intN (digs s 3 k) i).toNat, by omega, by omega⟩
    obtain ⟨x, ex, hx⟩ := f 0 (by omega)
    obtain ⟨y, ey, hy⟩ := f 1 (by omega)
    obtain ⟨z, ez, hz⟩ := f 2 (by omega)
    unfold AssK
    rw [ex, ey, ez]
    exact h x y z hx hy hz

set_option linter.unusedSimpArgs false in
set_option maxHeartbeats 1000000 in
set_option maxRecDepth 100000 in
theorem l02Associative (s : Nat) (pb po : Nat) (tab : List Int) (b : Bool) (w : World) (hop : OpAt w pb po 2 tab) (ho : OpOk s 2 tab) (hb : Tells b (AssocP s tab)) :
    Calls Try.prog 120 #[.int .i64 s, .pointer (some ⟨pb, po, none⟩)] w fun e w' => e = .returned (.bool b) ∧ Below w.heap.size w w' := by
  have h1 : 1 ≤ s := by have := ho.1.1; omega
  have hs4 : s ≤ 4 := by have := ho.1.2; omega
  have HOP := Lib.hid hop
  have HO := Lib.hid ho
  obtain ⟨N, hN⟩ : ∃ N, s ^ 3 = N := ⟨_, rfl⟩
  have hN64 : N ≤ 64 := by rw [← hN]; exact (pow_le3 h1 hs4 (Nat.le_refl 3)).1
  have HB : Hid (Tells b (∀ k : Nat, k < N → AssK s tab k)) := Lib.hid (by rw [← hN]; exact hb)
  have HN := Lib.hid hN
  clear hN hop ho hb
  go_enter Try.func120, Try.ntmps120
  go_wp2
  go_loopw [5] (fun i wr => ∃ k : Nat, k ≤ N ∧ i = .int .i64 k ∧ (∀ z : Nat, z < k → AssK s tab z) ∧ Below w.heap.size w wr) (fun i _ => N - (intOf i).toNat)
  case atStart => exact ⟨0, Nat.zero_le _, rfl, fun _ hj => absurd hj (Nat.not_lt_zero _), Below.refl _ _⟩
  case round =>
    obtain ⟨k, hk, rfl, hall, hbel⟩ := hrel
    have HX := Lib.hid hall
    have HW0 := Lib.hid hbel
    clear hall hbel
    by_cases hlt : k < N
    · have hlt' : (k : Int) < (N : Int) := by omega
      go_wp2_with fail
      refine (l01Power' s 3 N h1 hs4 (by omega) HN.out _).mono ?_
      rintro e w2 ⟨rfl, rfl⟩
      go_wp2_with fail
      refine (l01Digits s 3 k h1 (by omega) (by omega) (by omega) _).mono ?_
      rintro e w3 ⟨a3, c3, rfl, ho3, hb3⟩
      obtain ⟨b3, c3', he3, hc3⟩ : ∃ g c', Value.slice a3 3 c3 = .slice (some ⟨g, 0, none⟩) 3 c' ∧ 3 ≤ c' := by
        rcases ho3.rowIn with ⟨h1, h2⟩ | ⟨g, c', h1, h2, h3, h4, _⟩
        · have := congrArg List.length h2
          rw [digs_len] at this
          simp at this
        · rw [digs_len] at h1 h4
          exact ⟨g, c', h1, h4⟩
      simp only [Value.slice.injEq] at he3
      obtain ⟨rfl, -, rfl⟩ := he3
      have HWD := Lib.hid (HW0.out.trans (hb3.mono HW0.out.size))
      have hT := digs_tup s 3 k h1
      have hb0 := hT.2 0 (by rw [digs_len]; omega)
      have hb1 := hT.2 1 (by rw [digs_len]; omega)
      have hb2 := hT.2 2 (by rw [digs_len]; omega)
      have hrow := ho3.rowAt
      have hAK : AssK s tab k ↔ opA s tab (opA s tab (intN (digs s 3 k) 0) (intN (digs s 3 k) 1)) (intN (digs s 3 k) 2) = opA s tab (intN (digs s 3 k) 0) (opA s tab (intN (digs s 3 k) 1) (intN (digs s 3 k) 2)) := Iff.rfl
      rw [digs3 s k] at hrow
      generalize intN (digs s 3 k) 0 = t0 at *
      generalize intN (digs s 3 k) 1 = t1 at *
      generalize intN (digs s 3 k) 2 = t2 at *
      obtain ⟨v01, hv01⟩ : ∃ v, opA s tab t0 t1 = v := ⟨_, rfl⟩
      obtain ⟨v12, hv12⟩ : ∃ v, opA s tab t1 t2 = v := ⟨_, rfl⟩
      have hv01b := opA_in HO.out hb0 hb1
      have hv12b := opA_in HO.out hb1 hb2
      rw [hv01] at hv01b
      rw [hv12] at hv12b
      obtain ⟨lv, hlv⟩ : ∃ v, opA s tab v01 t2 = v := ⟨_, rfl⟩
      obtain ⟨rv, hrv⟩ : ∃ v, opA s tab t0 v12 = v := ⟨_, rfl⟩
      rw [hv01, hv12, hlv, hrv] at hAK
      have HAK := Lib.hid hAK
      have HV01 : Hid (intN tab (codeN s [t0, t1]) = v01) := Lib.hid hv01
      have HV12 : Hid (intN tab (codeN s [t1, t2]) = v12) := Lib.hid hv12
      have HVL : Hid (intN tab (codeN s [v01, t2]) = lv) := Lib.hid hlv
      have HVR : Hid (intN tab (codeN s [t0, v12]) = rv) := Lib.hid hrv
      have HT01 := Lib.hid (tup2 hb0 hb1)
      have HT12 := Lib.hid (tup2 hb1 hb2)
      have HTL := Lib.hid (tup2 hv01b hb2)
      have HTR := Lib.hid (tup2 hb0 hv12b)
      have hcell : ∀ i, i < 3 → w3.cell? ⟨b3, 0 + i, none⟩ = some (.int .i64 (intN [t0, t1, t2] i)) := fun i hi => SlAt.cell_of hrow i (by simpa using hi)
      have HR01 : Hid (RowAt w3 (.slice (some ⟨b3, 0, none⟩) 2 c3) [t0, t1]) := Lib.hid ⟨_, _, rfl, by simp, fun _ => ⟨_, _, rfl, fun i hi => match i, hi with
        | 0, _ => hcell 0 (by omega)
        | 1, _ => hcell 1 (by omega)
        | i + 2, hi => absurd hi (by simp)⟩⟩
      have HR12 : Hid (RowAt w3 (.slice (some ⟨b3, 1, none⟩) 2 (c3 - 1)) [t1, t2]) := Lib.hid ⟨_, _, rfl, by simp, fun _ => ⟨_, _, rfl, fun i hi => match i, hi with
        | 0, _ => hcell 1 (by omega)
        | 1, _ => hcell 2 (by omega)
        | i + 2, hi => absurd hi (by simp)⟩⟩
      have ct0 : w3.cell? ⟨b3, 0, none⟩ = some (.int .i64 t0) := hcell 0 (by omega)
      have ct2 : w3.cell? ⟨b3, 0 + 2, none⟩ = some (.int .i64 t2) := hcell 2 (by omega)
      have hc3' : (3 : Int) ≤ (c3 : Int) := by omega
      have hc2' : (2 : Int) ≤ (c3 : Int) := by omega
      have hc1' : (1 : Int) ≤ (c3 : Int) := by omega
      clear hv01 hv12 hlv hrv hAK hrow hcell hT hb0 hb1 hb2 hv01b hv12b ho3 hb3
      obtain ⟨wd, rfl⟩ : ∃ wd, wd = w3 := ⟨_, rfl⟩
      by_cases he : lv = rv
      · have hne : (lv != rv) = false := by simp [he]
        have HTH := Lib.hid (HAK.out.2 he)
        clear he
        go_wp2
        refine wp_region_noPanic ?_
        refine wp_region_late (S := (fun w' => w'.cell? ⟨b3, 0 + 2, none⟩ = some (.int .i64 t2) ∧ Below wd.heap.size wd w')) [] (by kernel_rfl) ?_ (fun hHeld => ?_)
        · exact ⟨below_cell ((QW.refl wd).drew.below _) ct2, (QW.refl wd).drew.below _⟩
        refine wpAnyL_free (i := 0) (v := ?_) (some 18) rfl rfl (by kernel_rfl) (by kernel_rfl) (by kernel_rfl) (by decide) (fun _ _ _ h => h) (Or.inl ⟨by rfl, ?_⟩) (fun h0 => by assumption) ?_
        rotate_left
        · intro wS
          go_simp
          try with_reducible rfl
        try simp only [Act.put, List.setIfInBounds_toArray, List.set_cons_zero, List.set_cons_succ]
        refine wpAnyL_free (i := 1) (v := ?_) (some 19) rfl rfl (by kernel_rfl) (by kernel_rfl) (by kernel_rfl) (by decide) (fun _ _ _ h => h) (Or.inl ⟨by rfl, ?_⟩) (fun h0 => by assumption) ?_
        rotate_left
        · intro wS
          go_simp
          try with_reducible rfl
        try simp only [Act.put, List.setIfInBounds_toArray, List.set_cons_zero, List.set_cons_succ]
        refine wpAnyL_free (i := 2) (v := ?_) (some 20) rfl rfl (by kernel_rfl) (by kernel_rfl) (by kernel_rfl) (by decide) (fun _ _ _ h => h) (Or.inl ⟨by rfl, ?_⟩) (fun h0 => by assumption) ?_
        rotate_left
        · intro wS
          go_simp
          try with_reducible rfl
        try simp only [Act.put, List.setIfInBounds_toArray, List.set_cons_zero, List.set_cons_succ]
        refine wpAnyL_free (i := 3) (v := ?_) (some 21) rfl rfl (by kernel_rfl) (by kernel_rfl) (by kernel_rfl) (by decide) (fun _ _ _ h => h) (Or.inl ⟨by rfl, ?_⟩) (fun h0 => by assumption) ?_
        rotate_left
        · intro wS
          go_simp
          try with_reducible rfl
        try simp only [Act.put, List.setIfInBounds_toArray, List.set_cons_zero, List.set_cons_succ]
        refine wpAnyL_free (i := 4) (v := ?_) (some 22) rfl rfl (by kernel_rfl) (by kernel_rfl) (by kernel_rfl) (by decide) (fun _ _ _ h => h) (Or.inl ⟨by rfl, ?_⟩) (fun h0 => by assumption) ?_
        rotate_left
        · intro wS
          go_simp
          try with_reducible rfl
        try simp only [Act.put, List.setIfInBounds_toArray, List.set_cons_zero, List.set_cons_succ]
        refine wpAnyL_free (i := 5) (v := ?_) (some 23) rfl rfl (by kernel_rfl) (by kernel_rfl) (by kernel_rfl) (by decide) (fun _ _ _ h => h) (Or.inl ⟨by rfl, ?_⟩) (fun h0 => by assumption) ?_
        rotate_left
        · intro wS
          go_simp
          try with_reducible rfl
        try simp only [Act.put, List.setIfInBounds_toArray, List.set_cons_zero, List.set_cons_succ]
        refine wpAnyL_free (i := 7) (v := ?_) (some 25) rfl rfl (by kernel_rfl) (by kernel_rfl) (by kernel_rfl) (by decide) (fun _ _ _ h => h) (Or.inl ⟨by rfl, ?_⟩) (fun h0 => by assumption) ?_
        rotate_left
        · intro wS
          go_simp
          try with_reducible rfl
        try simp only [Act.put, List.setIfInBounds_toArray, List.set_cons_zero, List.set_cons_succ]
        refine wpAnyL_free (i := 8) (v := ?_) (some 26) rfl rfl (by kernel_rfl) (by kernel_rfl) (by kernel_rfl) (by decide) (fun _ _ _ h => h) (Or.inl ⟨by rfl, ?_⟩) (fun h0 => by assumption) ?_
        rotate_left
        · intro wS
          go_simp
          try with_reducible rfl
        try simp only [Act.put, List.setIfInBounds_toArray, List.set_cons_zero, List.set_cons_succ]
        refine wpAnyL_take (i := 9) (v := ?_) (some 27) rfl rfl (by kernel_rfl) (by kernel_rfl) (by kernel_rfl) (by kernel_rfl) (by kernel_rfl) (fun _ _ _ h => h) (Or.inl ⟨by rfl, ?_⟩) (by assumption) ?_
        rotate_left
        · intro wS hSw
          try dsimp only at hSw
          go_simp
          try with_reducible rfl
        try simp only [Act.put, List.setIfInBounds_toArray, List.set_cons_zero, List.set_cons_succ]
        refine wpAnyL_ready (rs := [6]) (by kernel_rfl) (by simp) ?_
        refine AllReadyL.cons rfl (fun K hK => ?_) AllReadyL.nil
        go_simp; go_at_call 143; refine (l02ValueK s 2 pb po tab _ [t0, t1] v01 _ (HOP.out.below (HWD.out.trans (hHeld.2.mono HWD.out.size))) (HR01.out.below hHeld.2) HO.out HT01.out HV01.out).mono ?_; rintro e w4 ⟨rfl, hq4⟩
        refine hK.out _ _ ?_ (fun hHeld => ?_)
        · exact ⟨below_cell (hq4.below _) hHeld.1, hHeld.2.trans ((hq4.below _).mono hHeld.2.size)⟩
        clear hK K
        try simp only [Act.put, List.setIfInBounds_toArray, List.set_cons_zero, List.set_cons_succ]
        refine wpAnyL_ready (rs := [10]) (by kernel_rfl) (by simp) ?_
        refine AllReadyL.cons rfl (fun K hK => ?_) AllReadyL.nil
        go_simp
        refine hK.out _ _ ?_ (fun hHeld => ?_)
        · exact ⟨below_cell ((Below.refl _ _).alloc (Nat.le_refl _) _) hHeld.1, hHeld.2.trans (((Below.refl _ _).alloc (Nat.le_refl _) _).mono hHeld.2.size)⟩
        clear hK K
        try simp only [Act.put, List.setIfInBounds_toArray, List.set_cons_zero, List.set_cons_succ]
        refine wpAnyL_ready (rs := [11]) (by kernel_rfl) (by simp) ?_
        refine AllReadyL.cons rfl (fun K hK => ?_) AllReadyL.nil
        go_simp; go_at_call 143; refine (l02ValueK s 2 pb po tab _ [v01, t2] lv _ (HOP.out.below (HWD.out.trans (hHeld.2.mono HWD.out.size))) (row2 _ _ _) HO.out HTL.out HVL.out).mono ?_; rintro e w5 ⟨rfl, hq5⟩
        refine hK.out _ _ ?_ (fun hHeld => ?_)
        · exact ⟨below_cell (hq5.below _) hHeld.1, hHeld.2.trans ((hq5.below _).mono hHeld.2.size)⟩
        clear hK K
        try simp only [Act.put, List.setIfInBounds_toArray, List.set_cons_zero, List.set_cons_succ]
        refine wpAnyL_free (i := 12) (v := ?_) (some 7) rfl rfl (by kernel_rfl) (by kernel_rfl) (by kernel_rfl) (by decide) (fun _ _ _ h => h) (Or.inl ⟨by rfl, ?_⟩) (fun h0 => by assumption) ?_
        rotate_left
        · intro wS
          go_simp
          try with_reducible rfl
        try simp only [Act.put, List.setIfInBounds_toArray, List.set_cons_zero, List.set_cons_succ]
        refine wpAnyL_done (by kernel_rfl) ?_ _
        refine NoPanic.normal ?_
        have HW5 := Lib.hid hHeld.2
        clear hHeld
        go_wp2
        refine wp_region_noPanic ?_
        refine wp_region_late (S := (fun w' => w'.cell? ⟨b3, 0, none⟩ = some (.int .i64 t0) ∧ Below wd.heap.size wd w')) [] (by kernel_rfl) ?_ (fun hHeld => ?_)
        · exact ⟨below_cell (HW5.out.trans (((QW.refl w5).drew.below _).mono HW5.out.size)) ct0, HW5.out.trans (((QW.refl w5).drew.below _).mono HW5.out.size)⟩
        refine wpAnyL_free (i := 0) (v := ?_) (some 30) rfl rfl (by kernel_rfl) (by kernel_rfl) (by kernel_rfl) (by decide) (fun _ _ _ h => h) (Or.inl ⟨by rfl, ?_⟩) (fun h0 => by assumption) ?_
        rotate_left
        · intro wS
          go_simp
          try with_reducible rfl
        try simp only [Act.put, List.setIfInBounds_toArray, List.set_cons_zero, List.set_cons_succ]
        refine wpAnyL_free (i := 1) (v := ?_) (some 31) rfl rfl (by kernel_rfl) (by kernel_rfl) (by kernel_rfl) (by decide) (fun _ _ _ h => h) (Or.inl ⟨by rfl, ?_⟩) (fun h0 => by assumption) ?_
        rotate_left
        · intro wS
          go_simp
          try with_reducible rfl
        try simp only [Act.put, List.setIfInBounds_toArray, List.set_cons_zero, List.set_cons_succ]
        refine wpAnyL_free (i := 2) (v := ?_) (some 32) rfl rfl (by kernel_rfl) (by kernel_rfl) (by kernel_rfl) (by decide) (fun _ _ _ h => h) (Or.inl ⟨by rfl, ?_⟩) (fun h0 => by assumption) ?_
        rotate_left
        · intro wS
          go_simp
          try with_reducible rfl
        try simp only [Act.put, List.setIfInBounds_toArray, List.set_cons_zero, List.set_cons_succ]
        refine wpAnyL_free (i := 3) (v := ?_) (some 33) rfl rfl (by kernel_rfl) (by kernel_rfl) (by kernel_rfl) (by decide) (fun _ _ _ h => h) (Or.inl ⟨by rfl, ?_⟩) (fun h0 => by assumption) ?_
        rotate_left
        · intro wS
          go_simp
          try with_reducible rfl
        try simp only [Act.put, List.setIfInBounds_toArray, List.set_cons_zero, List.set_cons_succ]
        refine wpAnyL_take (i := 4) (v := ?_) (some 34) rfl rfl (by kernel_rfl) (by kernel_rfl) (by kernel_rfl) (by kernel_rfl) (by kernel_rfl) (fun _ _ _ h => h) (Or.inl ⟨by rfl, ?_⟩) (by assumption) ?_
        rotate_left
        · intro wS hSw
          try dsimp only at hSw
          go_simp
          try with_reducible rfl
        try simp only [Act.put, List.setIfInBounds_toArray, List.set_cons_zero, List.set_cons_succ]
        refine wpAnyL_free (i := 5) (v := ?_) (some 35) rfl rfl (by kernel_rfl) (by kernel_rfl) (by kernel_rfl) (by decide) (fun _ _ _ h => h) (Or.inl ⟨by rfl, ?_⟩) (fun h0 => by assumption) ?_
        rotate_left
        · intro wS
          go_simp
          try with_reducible rfl
        try simp only [Act.put, List.setIfInBounds_toArray, List.set_cons_zero, List.set_cons_succ]
        refine wpAnyL_free (i := 6) (v := ?_) (some 36) rfl rfl (by kernel_rfl) (by kernel_rfl) (by kernel_rfl) (by decide) (fun _ _ _ h => h) (Or.inl ⟨by rfl, ?_⟩) (fun h0 => by assumption) ?_
        rotate_left
        · intro wS
          go_simp
          try with_reducible rfl
        try simp only [Act.put, List.setIfInBounds_toArray, List.set_cons_zero, List.set_cons_succ]
        refine wpAnyL_free (i := 7) (v := ?_) (some 37) rfl rfl (by kernel_rfl) (by kernel_rfl) (by kernel_rfl) (by decide) (fun _ _ _ h => h) (Or.inl ⟨by rfl, ?_⟩) (fun h0 => by assumption) ?_
        rotate_left
        · intro wS
          go_simp
          try with_reducible rfl
        try simp only [Act.put, List.setIfInBounds_toArray, List.set_cons_zero, List.set_cons_succ]
        refine wpAnyL_free (i := 8) (v := ?_) (some 38) rfl rfl (by kernel_rfl) (by kernel_rfl) (by kernel_rfl) (by decide) (fun _ _ _ h => h) (Or.inl ⟨by rfl, ?_⟩) (fun h0 => by assumption) ?_
        rotate_left
        · intro wS
          go_simp
          try with_reducible rfl
        try simp only [Act.put, List.setIfInBounds_toArray, List.set_cons_zero, List.set_cons_succ]
        refine wpAnyL_ready (rs := [9]) (by kernel_rfl) (by simp) ?_
        refine AllReadyL.cons rfl (fun K hK => ?_) AllReadyL.nil
        go_simp; go_at_call 143; rw [if_neg (show ¬ c3 = 1 by omega)]; refine (l02ValueK s 2 pb po tab _ [t1, t2] v12 _ (HOP.out.below (HWD.out.trans (hHeld.2.mono HWD.out.size))) (HR12.out.below hHeld.2) HO.out HT12.out HV12.out).mono ?_; rintro e w6 ⟨rfl, hq6⟩
        refine hK.out _ _ ?_ (fun hHeld => ?_)
        · exact ⟨below_cell (hq6.below _) hHeld.1, hHeld.2.trans ((hq6.below _).mono hHeld.2.size)⟩
        clear hK K
        try simp only [Act.put, List.setIfInBounds_toArray, List.set_cons_zero, List.set_cons_succ]
        refine wpAnyL_ready (rs := [10]) (by kernel_rfl) (by simp) ?_
        refine AllReadyL.cons rfl (fun K hK => ?_) AllReadyL.nil
        go_simp
        refine hK.out _ _ ?_ (fun hHeld => ?_)
        · exact ⟨below_cell ((Below.refl _ _).alloc (Nat.le_refl _) _) hHeld.1, hHeld.2.trans (((Below.refl _ _).alloc (Nat.le_refl _) _).mono hHeld.2.size)⟩
        clear hK K
        try simp only [Act.put, List.setIfInBounds_toArray, List.set_cons_zero, List.set_cons_succ]
        refine wpAnyL_ready (rs := [11]) (by kernel_rfl) (by simp) ?_
        refine AllReadyL.cons rfl (fun K hK => ?_) AllReadyL.nil
        go_simp; go_at_call 143; refine (l02ValueK s 2 pb po tab _ [t0, v12] rv _ (HOP.out.below (HWD.out.trans (hHeld.2.mono HWD.out.size))) (row2 _ _ _) HO.out HTR.out HVR.out).mono ?_; rintro e w7 ⟨rfl, hq7⟩
        refine hK.out _ _ ?_ (fun hHeld => ?_)
        · exact ⟨below_cell (hq7.below _) hHeld.1, hHeld.2.trans ((hq7.below _).mono hHeld.2.size)⟩
        clear hK K
        try simp only [Act.put, List.setIfInBounds_toArray, List.set_cons_zero, List.set_cons_succ]
        refine wpAnyL_free (i := 12) (v := ?_) (some 8) rfl rfl (by kernel_rfl) (by kernel_rfl) (by kernel_rfl) (by decide) (fun _ _ _ h => h) (Or.inl ⟨by rfl, ?_⟩) (fun h0 => by assumption) ?_
        rotate_left
        · intro wS
          go_simp
          try with_reducible rfl
        try simp only [Act.put, List.setIfInBounds_toArray, List.set_cons_zero, List.set_cons_succ]
        refine wpAnyL_done (by kernel_rfl) ?_ _
        refine NoPanic.normal ?_
        go_wp2
        go_roundw
        case rel =>
          refine ⟨k + 1, by omega, by go_num, fun z hz => ?_, HWD.out.trans (hHeld.2.mono HWD.out.size)⟩
          by_cases hzk : z = k
          · subst hzk; exact HTH.out
          · exact HX.out z (by omega)
        case measure => simp [intOf]; omega
        

      · have hne : (lv != rv) = true := by simp [he]
        have HF := Lib.hid (HB.out.is_false fun h => he (HAK.out.1 (h k hlt)))
        clear he
        go_wp2
        refine wp_region_noPanic ?_
        refine wp_region_late (S := (fun w' => w'.cell? ⟨b3, 0 + 2, none⟩ = some (.int .i64 t2) ∧ Below wd.heap.size wd w')) [] (by kernel_rfl) ?_ (fun hHeld => ?_)
        · exact ⟨below_cell ((QW.refl wd).drew.below _) ct2, (QW.refl wd).drew.below _⟩
        refine wpAnyL_free (i := 0) (v := ?_) (some 18) rfl rfl (by kernel_rfl) (by kernel_rfl) (by kernel_rfl) (by decide) (fun _ _ _ h => h) (Or.inl ⟨by rfl, ?_⟩) (fun h0 => by assumption) ?_
        rotate_left
        · intro wS
          go_simp
          try with_reducible rfl
        try simp only [Act.put, List.setIfInBounds_toArray, List.set_cons_zero, List.set_cons_succ]
        refine wpAnyL_free (i := 1) (v := ?_) (some 19) rfl rfl (by kernel_rfl) (by kernel_rfl) (by kernel_rfl) (by decide) (fun _ _ _ h => h) (Or.inl ⟨by rfl, ?_⟩) (fun h0 => by assumption) ?_
        rotate_left
        · intro wS
          go_simp
          try with_reducible rfl
        try simp only [Act.put, List.setIfInBounds_toArray, List.set_cons_zero, List.set_cons_succ]
        refine wpAnyL_free (i := 2) (v := ?_) (some 20) rfl rfl (by kernel_rfl) (by kernel_rfl) (by kernel_rfl) (by decide) (fun _ _ _ h => h) (Or.inl ⟨by rfl, ?_⟩) (fun h0 => by assumption) ?_
        rotate_left
        · intro wS
          go_simp
          try with_reducible rfl
        try simp only [Act.put, List.setIfInBounds_toArray, List.set_cons_zero, List.set_cons_succ]
        refine wpAnyL_free (i := 3) (v := ?_) (some 21) rfl rfl (by kernel_rfl) (by kernel_rfl) (by kernel_rfl) (by decide) (fun _ _ _ h => h) (Or.inl ⟨by rfl, ?_⟩) (fun h0 => by assumption) ?_
        rotate_left
        · intro wS
          go_simp
          try with_reducible rfl
        try simp only [Act.put, List.setIfInBounds_toArray, List.set_cons_zero, List.set_cons_succ]
        refine wpAnyL_free (i := 4) (v := ?_) (some 22) rfl rfl (by kernel_rfl) (by kernel_rfl) (by kernel_rfl) (by decide) (fun _ _ _ h => h) (Or.inl ⟨by rfl, ?_⟩) (fun h0 => by assumption) ?_
        rotate_left
        · intro wS
          go_simp
          try with_reducible rfl
        try simp only [Act.put, List.setIfInBounds_toArray, List.set_cons_zero, List.set_cons_succ]
        refine wpAnyL_free (i := 5) (v := ?_) (some 23) rfl rfl (by kernel_rfl) (by kernel_rfl) (by kernel_rfl) (by decide) (fun _ _ _ h => h) (Or.inl ⟨by rfl, ?_⟩) (fun h0 => by assumption) ?_
        rotate_left
        · intro wS
          go_simp
          try with_reducible rfl
        try simp only [Act.put, List.setIfInBounds_toArray, List.set_cons_zero, List.set_cons_succ]
        refine wpAnyL_free (i := 7) (v := ?_) (some 25) rfl rfl (by kernel_rfl) (by kernel_rfl) (by kernel_rfl) (by decide) (fun _ _ _ h => h) (Or.inl ⟨by rfl, ?_⟩) (fun h0 => by assumption) ?_
        rotate_left
        · intro wS
          go_simp
          try with_reducible rfl
        try simp only [Act.put, List.setIfInBounds_toArray, List.set_cons_zero, List.set_cons_succ]
        refine wpAnyL_free (i := 8) (v := ?_) (some 26) rfl rfl (by kernel_rfl) (by kernel_rfl) (by kernel_rfl) (by decide) (fun _ _ _ h => h) (Or.inl ⟨by rfl, ?_⟩) (fun h0 => by assumption) ?_
        rotate_left
        · intro wS
          go_simp
          try with_reducible rfl
        try simp only [Act.put, List.setIfInBounds_toArray, List.set_cons_zero, List.set_cons_succ]
        refine wpAnyL_take (i := 9) (v := ?_) (some 27) rfl rfl (by kernel_rfl) (by kernel_rfl) (by kernel_rfl) (by kernel_rfl) (by kernel_rfl) (fun _ _ _ h => h) (Or.inl ⟨by rfl, ?_⟩) (by assumption) ?_
        rotate_left
        · intro wS hSw
          try dsimp only at hSw
          go_simp
          try with_reducible rfl
        try simp only [Act.put, List.setIfInBounds_toArray, List.set_cons_zero, List.set_cons_succ]
        refine wpAnyL_ready (rs := [6]) (by kernel_rfl) (by simp) ?_
        refine AllReadyL.cons rfl (fun K hK => ?_) AllReadyL.nil
        go_simp; go_at_call 143; refine (l02ValueK s 2 pb po tab _ [t0, t1] v01 _ (HOP.out.below (HWD.out.trans (hHeld.2.mono HWD.out.size))) (HR01.out.below hHeld.2) HO.out HT01.out HV01.out).mono ?_; rintro e w4 ⟨rfl, hq4⟩
        refine hK.out _ _ ?_ (fun hHeld => ?_)
        · exact ⟨below_cell (hq4.below _) hHeld.1, hHeld.2.trans ((hq4.below _).mono hHeld.2.size)⟩
        clear hK K
        try simp only [Act.put, List.setIfInBounds_toArray, List.set_cons_zero, List.set_cons_succ]
        refine wpAnyL_ready (rs := [10]) (by kernel_rfl) (by simp) ?_
        refine AllReadyL.cons rfl (fun K hK => ?_) AllReadyL.nil
        go_simp
        refine hK.out _ _ ?_ (fun hHeld => ?_)
        · exact ⟨below_cell ((Below.refl _ _).alloc (Nat.le_refl _) _) hHeld.1, hHeld.2.trans (((Below.refl _ _).alloc (Nat.le_refl _) _).mono hHeld.2.size)⟩
        clear hK K
        try simp only [Act.put, List.setIfInBounds_toArray, List.set_cons_zero, List.set_cons_succ]
        refine wpAnyL_ready (rs := [11]) (by kernel_rfl) (by simp) ?_
        refine AllReadyL.cons rfl (fun K hK => ?_) AllReadyL.nil
        go_simp; go_at_call 143; refine (l02ValueK s 2 pb po tab _ [v01, t2] lv _ (HOP.out.below (HWD.out.trans (hHeld.2.mono HWD.out.size))) (row2 _ _ _) HO.out HTL.out HVL.out).mono ?_; rintro e w5 ⟨rfl, hq5⟩
        refine hK.out _ _ ?_ (fun hHeld => ?_)
        · exact ⟨below_cell (hq5.below _) hHeld.1, hHeld.2.trans ((hq5.below _).mono hHeld.2.size)⟩
        clear hK K
        try simp only [Act.put, List.setIfInBounds_toArray, List.set_cons_zero, List.set_cons_succ]
        refine wpAnyL_free (i := 12) (v := ?_) (some 7) rfl rfl (by kernel_rfl) (by kernel_rfl) (by kernel_rfl) (by decide) (fun _ _ _ h => h) (Or.inl ⟨by rfl, ?_⟩) (fun h0 => by assumption) ?_
        rotate_left
        · intro wS
          go_simp
          try with_reducible rfl
        try simp only [Act.put, List.setIfInBounds_toArray, List.set_cons_zero, List.set_cons_succ]
        refine wpAnyL_done (by kernel_rfl) ?_ _
        refine NoPanic.normal ?_
        have HW5 := Lib.hid hHeld.2
        clear hHeld
        go_wp2
        refine wp_region_noPanic ?_
        refine wp_region_late (S := (fun w' => w'.cell? ⟨b3, 0, none⟩ = some (.int .i64 t0) ∧ Below wd.heap.size wd w')) [] (by kernel_rfl) ?_ (fun hHeld => ?_)
        · exact ⟨below_cell (HW5.out.trans (((QW.refl w5).drew.below _).mono HW5.out.size)) ct0, HW5.out.trans (((QW.refl w5).drew.below _).mono HW5.out.size)⟩
        refine wpAnyL_free (i := 0) (v := ?_) (some 30) rfl rfl (by kernel_rfl) (by kernel_rfl) (by kernel_rfl) (by decide) (fun _ _ _ h => h) (Or.inl ⟨by rfl, ?_⟩) (fun h0 => by assumption) ?_
        rotate_left
        · intro wS
          go_simp
          try with_reducible rfl
        try simp only [Act.put, List.setIfInBounds_toArray, List.set_cons_zero, List.set_cons_succ]
        refine wpAnyL_free (i := 1) (v := ?_) (some 31) rfl rfl (by kernel_rfl) (by kernel_rfl) (by kernel_rfl) (by decide) (fun _ _ _ h => h) (Or.inl ⟨by rfl, ?_⟩) (fun h0 => by assumption) ?_
        rotate_left
        · intro wS
          go_simp
          try with_reducible rfl
        try simp only [Act.put, List.setIfInBounds_toArray, List.set_cons_zero, List.set_cons_succ]
        refine wpAnyL_free (i := 2) (v := ?_) (some 32) rfl rfl (by kernel_rfl) (by kernel_rfl) (by kernel_rfl) (by decide) (fun _ _ _ h => h) (Or.inl ⟨by rfl, ?_⟩) (fun h0 => by assumption) ?_
        rotate_left
        · intro wS
          go_simp
          try with_reducible rfl
        try simp only [Act.put, List.setIfInBounds_toArray, List.set_cons_zero, List.set_cons_succ]
        refine wpAnyL_free (i := 3) (v := ?_) (some 33) rfl rfl (by kernel_rfl) (by kernel_rfl) (by kernel_rfl) (by decide) (fun _ _ _ h => h) (Or.inl ⟨by rfl, ?_⟩) (fun h0 => by assumption) ?_
        rotate_left
        · intro wS
          go_simp
          try with_reducible rfl
        try simp only [Act.put, List.setIfInBounds_toArray, List.set_cons_zero, List.set_cons_succ]
        refine wpAnyL_take (i := 4) (v := ?_) (some 34) rfl rfl (by kernel_rfl) (by kernel_rfl) (by kernel_rfl) (by kernel_rfl) (by kernel_rfl) (fun _ _ _ h => h) (Or.inl ⟨by rfl, ?_⟩) (by assumption) ?_
        rotate_left
        · intro wS hSw
          try dsimp only at hSw
          go_simp
          try with_reducible rfl
        try simp only [Act.put, List.setIfInBounds_toArray, List.set_cons_zero, List.set_cons_succ]
        refine wpAnyL_free (i := 5) (v := ?_) (some 35) rfl rfl (by kernel_rfl) (by kernel_rfl) (by kernel_rfl) (by decide) (fun _ _ _ h => h) (Or.inl ⟨by rfl, ?_⟩) (fun h0 => by assumption) ?_
        rotate_left
        · intro wS
          go_simp
          try with_reducible rfl
        try simp only [Act.put, List.setIfInBounds_toArray, List.set_cons_zero, List.set_cons_succ]
        refine wpAnyL_free (i := 6) (v := ?_) (some 36) rfl rfl (by kernel_rfl) (by kernel_rfl) (by kernel_rfl) (by decide) (fun _ _ _ h => h) (Or.inl ⟨by rfl, ?_⟩) (fun h0 => by assumption) ?_
        rotate_left
        · intro wS
          go_simp
          try with_reducible rfl
        try simp only [Act.put, List.setIfInBounds_toArray, List.set_cons_zero, List.set_cons_succ]
        refine wpAnyL_free (i := 7) (v := ?_) (some 37) rfl rfl (by kernel_rfl) (by kernel_rfl) (by kernel_rfl) (by decide) (fun _ _ _ h => h) (Or.inl ⟨by rfl, ?_⟩) (fun h0 => by assumption) ?_
        rotate_left
        · intro wS
          go_simp
          try with_reducible rfl
        try simp only [Act.put, List.setIfInBounds_toArray, List.set_cons_zero, List.set_cons_succ]
        refine wpAnyL_free (i := 8) (v := ?_) (some 38) rfl rfl (by kernel_rfl) (by kernel_rfl) (by kernel_rfl) (by decide) (fun _ _ _ h => h) (Or.inl ⟨by rfl, ?_⟩) (fun h0 => by assumption) ?_
        rotate_left
        · intro wS
          go_simp
          try with_reducible rfl
        try simp only [Act.put, List.setIfInBounds_toArray, List.set_cons_zero, List.set_cons_succ]
        refine wpAnyL_ready (rs := [9]) (by kernel_rfl) (by simp) ?_
        refine AllReadyL.cons rfl (fun K hK => ?_) AllReadyL.nil
        go_simp; go_at_call 143; rw [if_neg (show ¬ c3 = 1 by omega)]; refine (l02ValueK s 2 pb po tab _ [t1, t2] v12 _ (HOP.out.below (HWD.out.trans (hHeld.2.mono HWD.out.size))) (HR12.out.below hHeld.2) HO.out HT12.out HV12.out).mono ?_; rintro e w6 ⟨rfl, hq6⟩
        refine hK.out _ _ ?_ (fun hHeld => ?_)
        · exact ⟨below_cell (hq6.below _) hHeld.1, hHeld.2.trans ((hq6.below _).mono hHeld.2.size)⟩
        clear hK K
        try simp only [Act.put, List.setIfInBounds_toArray, List.set_cons_zero, List.set_cons_succ]
        refine wpAnyL_ready (rs := [10]) (by kernel_rfl) (by simp) ?_
        refine AllReadyL.cons rfl (fun K hK => ?_) AllReadyL.nil
        go_simp
        refine hK.out _ _ ?_ (fun hHeld => ?_)
        · exact ⟨below_cell ((Below.refl _ _).alloc (Nat.le_refl _) _) hHeld.1, hHeld.2.trans (((Below.refl _ _).alloc (Nat.le_refl _) _).mono hHeld.2.size)⟩
        clear hK K
        try simp only [Act.put, List.setIfInBounds_toArray, List.set_cons_zero, List.set_cons_succ]
        refine wpAnyL_ready (rs := [11]) (by kernel_rfl) (by simp) ?_
        refine AllReadyL.cons rfl (fun K hK => ?_) AllReadyL.nil
        go_simp; go_at_call 143; refine (l02ValueK s 2 pb po tab _ [t0, v12] rv _ (HOP.out.below (HWD.out.trans (hHeld.2.mono HWD.out.size))) (row2 _ _ _) HO.out HTR.out HVR.out).mono ?_; rintro e w7 ⟨rfl, hq7⟩
        refine hK.out _ _ ?_ (fun hHeld => ?_)
        · exact ⟨below_cell (hq7.below _) hHeld.1, hHeld.2.trans ((hq7.below _).mono hHeld.2.size)⟩
        clear hK K
        try simp only [Act.put, List.setIfInBounds_toArray, List.set_cons_zero, List.set_cons_succ]
        refine wpAnyL_free (i := 12) (v := ?_) (some 8) rfl rfl (by kernel_rfl) (by kernel_rfl) (by kernel_rfl) (by decide) (fun _ _ _ h => h) (Or.inl ⟨by rfl, ?_⟩) (fun h0 => by assumption) ?_
        rotate_left
        · intro wS
          go_simp
          try with_reducible rfl
        try simp only [Act.put, List.setIfInBounds_toArray, List.set_cons_zero, List.set_cons_succ]
        refine wpAnyL_done (by kernel_rfl) ?_ _
        refine NoPanic.normal ?_
        go_wp2
        go_ret
        exact ⟨ret_bool HF.out.symm, HWD.out.trans (hHeld.2.mono HWD.out.size)⟩
        

    · obtain rfl : k = N := by omega
      have HF := Lib.hid (HB.out.is_true HX.out)
      go_wp2_with fail
      refine (l01Power' s 3 k h1 hs4 (by omega) HN.out _).mono ?_
      rintro e w2 ⟨rfl, rfl⟩
      go_wp2
      go_ret
      exact ⟨ret_bool HF.out.symm, HW0.out⟩
end Go.Proofs.Ytclhcnfgpkhplaa
