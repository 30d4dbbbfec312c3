/-
  The other tuples: without of the program's sets, OppositeRel of the model and of the program.
-/
import Derived.Test.YtbnmgonfmihicaaDoorJoinS
import Derived.Test.YtbnmgonfmihicaaDoorRelOf
import Derived.Test.YtbnmgonfmihicaaDoorGRel
import Derived.Test.YtbnmgonfmihicaaDoorFull
import Derived.Test.YtbnmgonfmihicaaDoorGSet
import Derived.Test.YtbnmgonfmihicaaDoorReg
namespace Go.Proofs.YtbnmgonfmihicaaDoor
open Go.RowKit

theorem bits_andNot_nat (a b : Nat) (ha : a < 18446744073709551616) (hb : b < 18446744073709551616) :
    bits .andNot .u64 (a : Int) (b : Int) = ((a &&& (2 ^ 64 - (b + 1)) : Nat) : Int) := by
  have hx : a &&& (2 ^ 64 - (b + 1)) < 2 ^ 64 := Nat.and_lt_two_pow _ (by omega)
  have h1 : (BitVec.ofInt 64 (a : Int)).toNat = a := by
    rw [BitVec.ofInt_natCast, BitVec.toNat_ofNat]; exact Nat.mod_eq_of_lt (by omega)
  have h2 : (BitVec.ofInt 64 (b : Int)).toNat = b := by
    rw [BitVec.ofInt_natCast, BitVec.toNat_ofNat]; exact Nat.mod_eq_of_lt (by omega)
  show IntKind.u64.wrap ((BitVec.ofInt 64 (a : Int) &&& ~~~BitVec.ofInt 64 (b : Int)).toNat : Int) = _
  rw [BitVec.toNat_and, BitVec.toNat_not, h1, h2, IntKind.wrap_u64, show 2 ^ 64 - 1 - b = 2 ^ 64 - (b + 1) by omega]
  omega
theorem andNot_words (S T : Nat → Bool) (k : Nat) : bits BinOp.andNot IntKind.u64 (word S k) (word T k) = ((wordN 64 fun j => S (64 * k + j) && !T (64 * k + j) : Nat) : Int) := by
  rw [bits_andNot_nat _ _ (word_lt _ _) (word_lt _ _)]
  congr 1
  apply Nat.eq_of_testBit_eq
  intro j
  have hT : word T k < 2 ^ 64 := by have := word_lt T k; omega
  rw [Nat.testBit_and, Nat.testBit_two_pow_sub_succ hT, wordN_bit, show (word S k).testBit j = _ from wordN_bit 64 _ j, show (word T k).testBit j = _ from wordN_bit 64 _ j]
  by_cases hj : j < 64 <;> simp [hj]

set_option maxHeartbeats 1000000 in
set_option maxRecDepth 100000 in
theorem withoutBits (S T : Nat → Bool) (w : World) :
    Calls Tryd.prog 52 #[bitsV S, bitsV T] w fun e w' => e = .returned (bitsV (opAll (· && !·) S T)) ∧ Below w.heap.size w w' := by
  have hd1 : bitsV S = .agg (bitsC S).toArray := rfl
  have hd2 : bitsV T = .agg (bitsC T).toArray := rfl
  rw [hd1, hd2]
  have B0 := Lib.hid (((bits_new w S).alloc (.cells (bitsC T).toArray 53)).alloc (.cells #[.int .u64 0, .int .u64 0, .int .u64 0, .int .u64 0] 53))
  have B1 : Hid (BitsBox (((w.alloc (.cells (bitsC S).toArray 53)).alloc (.cells (bitsC T).toArray 53)).alloc (.cells #[.int .u64 0, .int .u64 0, .int .u64 0, .int .u64 0] 53)) (w.heap.size + 1) T) := by
    have h := (bits_new (w.alloc (.cells (bitsC S).toArray 53)) T).alloc (.cells #[.int .u64 0, .int .u64 0, .int .u64 0, .int .u64 0] 53)
    rw [World.size_alloc] at h
    exact h
  have B2 : Hid (BitsBox (((w.alloc (.cells (bitsC S).toArray 53)).alloc (.cells (bitsC T).toArray 53)).alloc (.cells #[.int .u64 0, .int .u64 0, .int .u64 0, .int .u64 0] 53)) (w.heap.size + 1 + 1) (fun _ => false)) := by
    have h := bits_new ((w.alloc (.cells (bitsC S).toArray 53)).alloc (.cells (bitsC T).toArray 53)) (fun _ => false)
    rw [World.size_alloc, World.size_alloc, ← bits_zero] at h
    exact h
  have HW := Lib.hid ((((Below.refl w.heap.size w).alloc (Nat.le_refl _) (.cells (bitsC S).toArray 53)).alloc (by simp) (.cells (bitsC T).toArray 53)).alloc (by simp; omega) (.cells #[.int .u64 0, .int .u64 0, .int .u64 0, .int .u64 0] 53))
  go_enter Tryd.func52, Tryd.ntmps52
  go_wp2
  go_loopw [6] (fun i wr => ∃ k : Nat, k ≤ 4 ∧ i = .int .i64 k ∧ BitsBox wr w.heap.size (opS (· && !·) k S T) ∧ BitsBox wr (w.heap.size + 1) T ∧ BitsBox wr (w.heap.size + 1 + 1) (fun _ => false) ∧ Below w.heap.size w wr) (fun i _ => 4 - (intOf i).toNat)
  case atStart => exact ⟨0, by omega, rfl, by rw [opS_zero]; exact B0.out, B1.out, B2.out, HW.out⟩
  case round =>
    obtain ⟨k, hk, rfl, hb0, hb1, hb2, hw⟩ := hrel
    clear B0 B1 B2 HW
    by_cases hlt : k < 4
    · have hx := hb0.cell k hlt
      rw [word_opS] at hx
      have hf := hb0.free k
      have hy := hb1.cell k hlt
      have hlt' : (k : Int) < 4 := by omega
      have H0 := Lib.hid hb0
      have H1 := Lib.hid hb1
      have H2 := Lib.hid hb2
      have HW := Lib.hid hw
      have HE := Lib.hid (andNot_words S T k)
      clear hb0 hb1 hb2 hw
      go_wp2
      go_region
      all_goals
        go_wp2
        rw [HE.out]
        go_roundw
        case rel => exact ⟨k + 1, by omega, by go_num, H0.out.opS.drew, (H1.out.other (by simp) _).drew, (H2.out.other (by simp; omega) _).drew, (HW.out.setCell (Nat.le_refl _) _).drew⟩
        case measure => simp [intOf]; omega
    · obtain rfl : k = 4 := by omega
      have hb : BitsBox wr w.heap.size (opAll (· && !·) S T) := by
        unfold BitsBox at hb0 ⊢
        rw [← opS_all]; exact hb0
      have c0 := hb.cell 0 (by omega)
      have c1 := hb.cell 1 (by omega)
      have c2 := hb.cell 2 (by omega)
      have c3 := hb.cell 3 (by omega)
      have d0 := hb2.cell 0 (by omega)
      have d1 := hb2.cell 1 (by omega)
      have d2 := hb2.cell 2 (by omega)
      have d3 := hb2.cell 3 (by omega)
      have f0 := hb2.free 0
      have f1 := hb2.free 1
      have f2 := hb2.free 2
      have f3 := hb2.free 3
      have HW := Lib.hid hw
      clear hb hb0 hb1 hb2 hw
      go_wp2
      refine bodyPost_ret (v := bitsV (opAll (· && !·) S T)) (by simp [results, Tryd.results52, go_sem, d0, d1, d2, d3, bitsV, bitsC]) rfl ⟨rfl, ?_⟩
      exact ((((HW.out.setCell (by simp; omega) _).setCell (by simp; omega) _).setCell (by simp; omega) _).setCell (by simp; omega) _)



def updS (S : Nat → Bool) (m : Nat) (v : Bool) : Nat → Bool := fun n => if n = m then v else S n
theorem LSetAt.upd {w : World} {B p g s ar : Nat} {S : Nat → Bool} (h : LSetAt w B p g s ar S) (m : Nat) (v : Bool) : LSetAt (w.setCell ⟨g, m, none⟩ (.bool v)) B p g s ar (updS S m v) := by
  refine ⟨by rw [Below.heap_setCell _ _ _ _ h.ne]; exact h.box, ?_, h.ne, h.le⟩
  have h2 := (h.has.stored m (.bool v)).1
  have he : ((List.range (s ^ ar)).map fun i => Value.bool (S i)).set m (.bool v) = (List.range (s ^ ar)).map fun i => Value.bool (updS S m v i) := by
    apply List.ext_getElem?
    intro j
    rw [List.getElem?_set]
    by_cases hj : m = j
    · subst hj
      by_cases hl : m < s ^ ar <;> simp [hl, updS]
    · rw [if_neg hj]
      by_cases hl : j < s ^ ar
      · simp [hl, updS, Ne.symm hj]
      · simp [hl]
  rwa [he] at h2

/-- The set, turned below k. -/
def notS (k : Nat) (S : Nat → Bool) : Nat → Bool := fun n => if n < k then !S n else S n
theorem notS_zero (S : Nat → Bool) : notS 0 S = S := by funext n; simp [notS]
theorem notS_at (k : Nat) (S : Nat → Bool) : notS k S k = S k := by simp [notS]
theorem notS_upd (k : Nat) (S : Nat → Bool) : updS (notS k S) k (!S k) = notS (k + 1) S := by
  funext n
  unfold updS notS
  by_cases h : n = k
  · subst h; simp
  · by_cases h2 : n < k
    · simp [h, h2, show n < k + 1 by omega]
    · simp [h, h2, show ¬ n < k + 1 by omega]
def oppS (N : Nat) (S : Nat → Bool) : Nat → Bool := opAll (· && !·) (ltS N) S
theorem opp_rows {s r : Nat} (h1 : 1 ≤ s) (h2 : s ≤ 4) (h3 : 1 ≤ r) (h4 : r ≤ 4) (S : Nat → Bool) : rowsS s r (notS (s ^ r) S) (s ^ r) = rowsS s r (oppS (s ^ r) S) 256 := by
  unfold rowsS
  rw [memb_cut (n := s ^ r) (m := 256) (S := oppS (s ^ r) S) (pow_lim h1 h2 h3 h4).1 fun j hj _ => by simp [oppS, opAll, ltS, show ¬ j < s ^ r by omega]]
  rw [memb_congr fun j hj => ?_]
  simp [notS, oppS, opAll, ltS, hj]

/-- What OppositeRel answers. -/
def OppositeRelIs (size x : Int) (xs : List (List Int)) (ar : Int) (zs : List (List Int)) (cd : Int) : Prop :=
  (RelOk size x xs ∧ ar = x ∧ zs = rowsS size.toNat x.toNat (oppS (size.toNat ^ x.toNat) (setOf size xs)) 256 ∧ cd = 0) ∨ (¬ RelOk size x xs ∧ ar = 0 ∧ zs = [] ∧ cd = 1)
theorem OppositeRelIs.exists (size x : Int) (xs : List (List Int)) : ∃ ar zs cd, OppositeRelIs size x xs ar zs cd := by
  by_cases h : RelOk size x xs
  · exact ⟨_, _, _, .inl ⟨h, rfl, rfl, rfl⟩⟩
  · exact ⟨_, _, _, .inr ⟨h, rfl, rfl, rfl⟩⟩
theorem OppositeRelIs.small {size x : Int} {xs : List (List Int)} {ar : Int} {zs : List (List Int)} {cd : Int} (h : OppositeRelIs size x xs ar zs cd) : (zs.map List.length).sum ≤ 1048576 := by
  rcases h with ⟨h, rfl, rfl, rfl⟩ | ⟨_, rfl, rfl, rfl⟩
  · exact rowsS_small _ _ _ (by have := h.2.1.2; omega)
  · simp


set_option linter.unusedSimpArgs false in
set_option maxHeartbeats 8000000 in
set_option maxRecDepth 100000 in
theorem specOpp_in (s r : Nat) (h1 : 1 ≤ s) (h2 : s ≤ 4) (h3 : 1 ≤ r) (h4 : r ≤ 4) (a1 : Option Addr) (n1 c1 : Nat) (xs : List (List Int)) (w : World) (g1 : GridAt w (.slice a1 n1 c1) xs) (hc : RelOk s r xs) :
    Calls Tryd.prog 21 #[.int .i64 s, .agg #[.int .i64 r, .slice a1 n1 c1]] w (MadeRel2 w r (rowsS s r (oppS (s ^ r) (setOf s xs)) 256) 0) := by
  have hR0 := RelBox.new (w.alloc (.cells #[.int .i64 r, .slice a1 n1 c1] 25)) (.int .i64 0) (.slice none 0 0)
  rw [World.size_alloc] at hR0
  have HR0 := Lib.hid hR0
  have K0 := Lib.hid ((((Kept.start w).read (lives_grid _ _) g1).box w.heap.size rfl (.int .i64 r) (.slice a1 n1 c1) 25).below ((Below.refl _ _).alloc (Nat.le_refl _) (.cells #[.int .i64 0, .slice none 0 0] 25)))
  clear g1 hR0
  rw [← opp_rows h1 h2 h3 h4]
  have HC := Lib.hid (Tells.yes hc)
  have HX := Lib.hid hc.rows
  clear hc
  go_enter Tryd.func21, Tryd.ntmps21
  go_wp2_with fail
  refine (l01Ok _ _ _ _ _ true _ ⟨(K0.out.c 0 rfl :), a1, n1, c1, (K0.out.c 1 rfl :), (K0.out.r 0 rfl :)⟩ HC.out).mono ?_
  rintro e w2 ⟨rfl, hq⟩
  have hsz2 : w.heap.size + 2 ≤ w2.heap.size := by have := hq.bel.size; simpa using this
  have K2 := Lib.hid (K0.out.below hq.bel)
  have HR2 := Lib.hid (HR0.out.below hq.bel)
  clear hq
  go_wp2_with fail
  refine (l01SetOf s r w.heap.size 0 xs _ h1 h2 h3 h4 ⟨(K2.out.c 0 rfl :), a1, n1, c1, (K2.out.c 1 rfl :), (K2.out.r 0 rfl :)⟩ HX.out).mono ?_
  rintro e w3 ⟨p, g, rfl, hset, hb3⟩
  have hg := (hset.has.lt g rfl).1
  have hle := hset.le
  have hne := hset.ne
  have HSET := Lib.hid hset
  have HB3 := Lib.hid hb3
  have HR3 := Lib.hid (HR2.out.below hb3)
  clear hset hb3
  generalize setOf (s : Int) xs = T at *
  obtain ⟨N, hN⟩ : ∃ N, s ^ r = N := ⟨_, rfl⟩
  have hlim := (pow_lim h1 h2 h3 h4).1
  have HN := Lib.hid hN
  rw [hN] at hlim
  clear hN
  go_wp2
  go_loopw [7] (fun i wr => ∃ k : Nat, k ≤ N ∧ i = .int .i64 k ∧ LSetAt wr w2.heap.size p g s r (notS k T) ∧ RelBox wr (w.heap.size + 1) (.int .i64 0) (.slice none 0 0) ∧ Below w2.heap.size w2 wr) (fun i _ => N - (intOf i).toNat)
  case atStart => exact ⟨0, Nat.zero_le _, rfl, by rw [notS_zero]; exact HSET.out, HR3.out, HB3.out⟩
  case round =>
    obtain ⟨k, hk, rfl, hset, hr, hw⟩ := hrel
    have hc2 := hset.c2
    rw [HN.out] at hc2
    by_cases hlt : k < N
    · have hat := hset.at k (by rw [HN.out]; exact hlt)
      rw [notS_at] at hat
      have hfr := hset.has.frozenAt k
      have hup := hset.upd k (!T k)
      rw [notS_upd] at hup
      have HUP := Lib.hid hup
      have HR4 := Lib.hid hr
      have HW := Lib.hid hw
      have hlt' : (k : Int) < (N : Int) := by omega
      have hk0 : (0 : Int) ≤ (k : Int) := by omega
      clear hset hr hw hup
      go_wp2
      refine wp_region_noPanic ?_
      refine wp_region_late (S := (fun w' => w'.cell? ⟨p, 2, none⟩ = some (.slice (some ⟨g, 0, none⟩) N N) ∧ w'.cell? ⟨g, k, none⟩ = some (.bool (T k)))) [14] (by kernel_rfl) ?_ (fun hHeld => ?_)
      · exact ⟨hc2, hat⟩
      refine wpAnyL_free (i := 0) (v := ?_) (some 23) rfl rfl (by kernel_rfl) (by kernel_rfl) (by kernel_rfl) (by decide) (fun _ _ _ h => h) (Or.inl ⟨by rfl, ?_⟩) (fun h0 => by assumption) ?_
      rotate_left
      · intro wS
        go_simp
        try with_reducible rfl
      try simp only [Act.put, List.setIfInBounds_toArray, List.set_cons_zero, List.set_cons_succ]
      refine wpAnyL_free (i := 1) (v := ?_) (some 24) rfl rfl (by kernel_rfl) (by kernel_rfl) (by kernel_rfl) (by decide) (fun _ _ _ h => h) (Or.inl ⟨by rfl, ?_⟩) (fun h0 => by assumption) ?_
      rotate_left
      · intro wS
        go_simp
        try with_reducible rfl
      try simp only [Act.put, List.setIfInBounds_toArray, List.set_cons_zero, List.set_cons_succ]
      refine wpAnyL_free (i := 2) (v := ?_) (some 25) rfl rfl (by kernel_rfl) (by kernel_rfl) (by kernel_rfl) (by decide) (fun _ _ _ h => h) (Or.inl ⟨by rfl, ?_⟩) (fun h0 => by assumption) ?_
      rotate_left
      · intro wS
        go_simp
        try with_reducible rfl
      try simp only [Act.put, List.setIfInBounds_toArray, List.set_cons_zero, List.set_cons_succ]
      refine wpAnyL_take (i := 3) (v := ?_) (some 26) rfl rfl (by kernel_rfl) (by kernel_rfl) (by kernel_rfl) (by kernel_rfl) (by kernel_rfl) (fun _ _ _ h => h) (Or.inl ⟨by rfl, ?_⟩) (by assumption) ?_
      rotate_left
      · intro wS hSw
        try dsimp only at hSw
        go_simp
        try with_reducible rfl
      try simp only [Act.put, List.setIfInBounds_toArray, List.set_cons_zero, List.set_cons_succ]
      refine wpAnyL_free (i := 4) (v := ?_) (some 27) rfl rfl (by kernel_rfl) (by kernel_rfl) (by kernel_rfl) (by decide) (fun _ _ _ h => h) (Or.inl ⟨by rfl, ?_⟩) (fun h0 => by assumption) ?_
      rotate_left
      · intro wS
        go_simp
        try with_reducible rfl
      try simp only [Act.put, List.setIfInBounds_toArray, List.set_cons_zero, List.set_cons_succ]
      refine wpAnyL_free (i := 5) (v := ?_) (some 28) rfl rfl (by kernel_rfl) (by kernel_rfl) (by kernel_rfl) (by decide) (fun _ _ _ h => h) (Or.inl ⟨by rfl, ?_⟩) (fun h0 => by assumption) ?_
      rotate_left
      · intro wS
        go_simp
        try with_reducible rfl
      try simp only [Act.put, List.setIfInBounds_toArray, List.set_cons_zero, List.set_cons_succ]
      refine wpAnyL_free (i := 6) (v := ?_) (some 29) rfl rfl (by kernel_rfl) (by kernel_rfl) (by kernel_rfl) (by decide) (fun _ _ _ h => h) (Or.inl ⟨by rfl, ?_⟩) (fun h0 => by assumption) ?_
      rotate_left
      · intro wS
        go_simp
        try with_reducible rfl
      try simp only [Act.put, List.setIfInBounds_toArray, List.set_cons_zero, List.set_cons_succ]
      refine wpAnyL_free (i := 7) (v := ?_) (some 30) rfl rfl (by kernel_rfl) (by kernel_rfl) (by kernel_rfl) (by decide) (fun _ _ _ h => h) (Or.inl ⟨by rfl, ?_⟩) (fun h0 => by assumption) ?_
      rotate_left
      · intro wS
        go_simp
        try with_reducible rfl
      try simp only [Act.put, List.setIfInBounds_toArray, List.set_cons_zero, List.set_cons_succ]
      refine wpAnyL_take (i := 8) (v := ?_) (some 31) rfl rfl (by kernel_rfl) (by kernel_rfl) (by kernel_rfl) (by kernel_rfl) (by kernel_rfl) (fun _ _ _ h => h) (Or.inl ⟨by rfl, ?_⟩) (by assumption) ?_
      rotate_left
      · intro wS hSw
        try dsimp only at hSw
        go_simp
        try with_reducible rfl
      try simp only [Act.put, List.setIfInBounds_toArray, List.set_cons_zero, List.set_cons_succ]
      refine wpAnyL_free (i := 9) (v := ?_) (some 32) rfl rfl (by kernel_rfl) (by kernel_rfl) (by kernel_rfl) (by decide) (fun _ _ _ h => h) (Or.inl ⟨by rfl, ?_⟩) (fun h0 => by assumption) ?_
      rotate_left
      · intro wS
        go_simp
        try with_reducible rfl
      try simp only [Act.put, List.setIfInBounds_toArray, List.set_cons_zero, List.set_cons_succ]
      refine wpAnyL_free (i := 10) (v := ?_) (some 33) rfl rfl (by kernel_rfl) (by kernel_rfl) (by kernel_rfl) (by decide) (fun _ _ _ h => h) (Or.inl ⟨by rfl, ?_⟩) (fun h0 => by assumption) ?_
      rotate_left
      · intro wS
        go_simp
        try with_reducible rfl
      try simp only [Act.put, List.setIfInBounds_toArray, List.set_cons_zero, List.set_cons_succ]
      refine wpAnyL_take (i := 11) (v := ?_) (some 34) rfl rfl (by kernel_rfl) (by kernel_rfl) (by kernel_rfl) (by kernel_rfl) (by kernel_rfl) (fun _ _ _ h => h) (Or.inl ⟨by rfl, ?_⟩) (by assumption) ?_
      rotate_left
      · intro wS hSw
        try dsimp only at hSw
        go_simp
        try with_reducible rfl
      try simp only [Act.put, List.setIfInBounds_toArray, List.set_cons_zero, List.set_cons_succ]
      refine wpAnyL_free (i := 12) (v := ?_) (some 35) rfl rfl (by kernel_rfl) (by kernel_rfl) (by kernel_rfl) (by decide) (fun _ _ _ h => h) (Or.inl ⟨by rfl, ?_⟩) (fun h0 => by assumption) ?_
      rotate_left
      · intro wS
        go_simp
        try with_reducible rfl
      try simp only [Act.put, List.setIfInBounds_toArray, List.set_cons_zero, List.set_cons_succ]
      refine wpAnyL_free (i := 13) (v := ?_) (some 36) rfl rfl (by kernel_rfl) (by kernel_rfl) (by kernel_rfl) (by decide) (fun _ _ _ h => h) (Or.inl ⟨by rfl, ?_⟩) (fun h0 => by assumption) ?_
      rotate_left
      · intro wS
        go_simp
        try with_reducible rfl
      try simp only [Act.put, List.setIfInBounds_toArray, List.set_cons_zero, List.set_cons_succ]
      refine wpAnyL_ready (rs := [14]) (by kernel_rfl) (by simp) ?_
      refine AllReadyL.last rfl (by kernel_rfl) (fun K hK => ?_) AllReadyL.nil
      go_simp
      refine hK.out _ _ ?_
      clear hK K
      try simp only [Act.put, List.setIfInBounds_toArray, List.set_cons_zero, List.set_cons_succ]
      refine wpAnyL_done (by kernel_rfl) ?_ _
      refine NoPanic.normal ?_
      clear hHeld
      go_wp2
      go_roundw
      case rel => exact ⟨k + 1, by omega, by go_num, HUP.out.below ((QW.refl _).drew.bel), (HR4.out.other (by show w.heap.size + 1 ≠ g; omega) _).below ((QW.refl _).drew.bel), (HW.out.setCell (by show w2.heap.size ≤ g; omega) _).drew⟩
      case measure => simp [intOf]; omega

    · obtain rfl : k = N := by omega
      have HS2 := Lib.hid hset
      have HR4 := Lib.hid hr
      have HW := Lib.hid (K2.out.bel.trans (hw.mono K2.out.bel.size))
      clear hset hr hw
      go_wp2_with fail
      refine (setRel _ p g s r _ _ HS2.out h1 h2 h4).mono ?_
      rintro e w5 ⟨a5, n5, c5, rfl, ho5, hb5⟩
      rw [← HN.out] at ho5
      have hr5 := HR4.out.below hb5
      have d0 := hr5.c0
      have d1 := hr5.c1
      have f0 := hr5.free 0
      have f1 := hr5.free 1
      have HO5 := Lib.hid ho5
      have HW5 := Lib.hid (HW.out.trans (hb5.mono HW.out.size))
      have HZ := Lib.hid HR4.out.lt
      clear ho5 hb5 hr5
      go_wp2
      refine bodyPost_ret (v := .tuple #[.agg #[.int .i64 r, .slice a5 n5 c5], .int .i64 0]) (by simp [results, Tryd.results21, go_sem, d0, d1]) rfl ⟨a5, n5, c5, rfl, ?_, ?_⟩
      · have e1 := HZ.out
        exact (((HO5.out.stored e1 _).stored e1 _).mono (by omega)).full
      · exact (HW5.out.setCell (by show w.heap.size ≤ w.heap.size + 1; omega) _).setCell (by show w.heap.size ≤ w.heap.size + 1; omega) _

set_option maxHeartbeats 1000000 in
set_option maxRecDepth 100000 in
theorem specOppositeRel_no (size x : Int) (a1 : Option Addr) (n1 c1 : Nat) (xs : List (List Int)) (w : World) (g1 : GridAt w (.slice a1 n1 c1) xs) (hc : ¬ RelOk size x xs) :
    Calls Tryd.prog 21 #[.int .i64 size, .agg #[.int .i64 x, .slice a1 n1 c1]] w (MadeRel2 w 0 [] 1) := by
  have hR0 := RelBox.new (w.alloc (.cells #[.int .i64 x, .slice a1 n1 c1] 25)) (.int .i64 0) (.slice none 0 0)
  rw [World.size_alloc] at hR0
  have HR0 := Lib.hid hR0
  have K0 := Lib.hid ((((Kept.start w).read (lives_grid _ _) g1).box w.heap.size rfl (.int .i64 x) (.slice a1 n1 c1) 25).below ((Below.refl _ _).alloc (Nat.le_refl _) (.cells #[.int .i64 0, .slice none 0 0] 25)))
  clear g1 hR0
  have HC := Lib.hid (Tells.no hc)
  clear hc
  go_enter Tryd.func21, Tryd.ntmps21
  go_wp2_with fail
  refine (l01Ok _ _ _ _ _ false _ ⟨(K0.out.c 0 rfl :), a1, n1, c1, (K0.out.c 1 rfl :), (K0.out.r 0 rfl :)⟩ HC.out).mono ?_
  rintro e w2 ⟨rfl, hq⟩
  have hb2 : Below _ _ w2 := hq.bel
  have hr := HR0.out.below hb2
  have d0 := hr.c0
  have d1 := hr.c1
  have f0 := hr.free 0
  have f1 := hr.free 1
  have KE := Lib.hid (K0.out.below hb2)
  clear hq hb2 hr
  go_wp2
  refine bodyPost_ret (v := .tuple #[.agg #[.int .i64 0, .slice none 0 0], .int .i64 1]) (by simp [results, Tryd.results21, go_sem, d0, d1]) rfl ⟨none, 0, 0, rfl, ?_, ?_⟩
  · exact OwnGrid.nil _ _ _ (Nat.le_refl _)
  · exact (KE.out.bel.setCell (by show w.heap.size ≤ w.heap.size + 1; omega) _).setCell (by show w.heap.size ≤ w.heap.size + 1; omega) _

theorem specOppositeRel (size x : Int) (a1 : Option Addr) (n1 c1 : Nat) (xs : List (List Int)) (ar : Int) (zs : List (List Int)) (cd : Int) (w : World) (g1 : GridAt w (.slice a1 n1 c1) xs) (hi : OppositeRelIs size x xs ar zs cd) :
    Calls Tryd.prog 21 #[.int .i64 size, .agg #[.int .i64 x, .slice a1 n1 c1]] w (MadeRel2 w ar zs cd) := by
  rcases hi with ⟨hc, rfl, rfl, rfl⟩ | ⟨hc, rfl, rfl, rfl⟩
  · have e1 := hc.1.1
    have e2 := hc.1.2
    have e3 := hc.2.1.1
    have e4 := hc.2.1.2
    obtain ⟨s, rfl⟩ : ∃ s : Nat, size = s := ⟨size.toNat, by omega⟩
    obtain ⟨r, rfl⟩ : ∃ r : Nat, ar = r := ⟨ar.toNat, by omega⟩
    simp only [Int.toNat_natCast]
    exact specOpp_in s r (by omega) (by omega) (by omega) (by omega) a1 n1 c1 xs w g1 hc
  · exact specOppositeRel_no size x a1 n1 c1 xs w g1 hc

set_option maxHeartbeats 1000000 in
set_option maxRecDepth 100000 in
theorem implOppositeRel_no (size x : Int) (a1 : Option Addr) (n1 c1 : Nat) (xs : List (List Int)) (w : World) (g1 : GridAt w (.slice a1 n1 c1) xs) (hc : ¬ RelOk size x xs) :
    Calls Tryd.prog 23 #[.int .i64 size, .agg #[.int .i64 x, .slice a1 n1 c1]] w (MadeRel2 w 0 [] 1) := by
  have hR0 := RelBox.new (w.alloc (.cells #[.int .i64 x, .slice a1 n1 c1] 25)) (.int .i64 0) (.slice none 0 0)
  rw [World.size_alloc] at hR0
  have HR0 := Lib.hid hR0
  have K0 := Lib.hid ((((Kept.start w).read (lives_grid _ _) g1).box w.heap.size rfl (.int .i64 x) (.slice a1 n1 c1) 25).below ((Below.refl _ _).alloc (Nat.le_refl _) (.cells #[.int .i64 0, .slice none 0 0] 25)))
  clear g1 hR0
  have HC := Lib.hid (Tells.no hc)
  clear hc
  go_enter Tryd.func23, Tryd.ntmps23
  go_wp2_with fail
  refine (implValidRel _ _ _ _ _ _ false _ (K0.out.r 0 rfl :) HC.out).mono ?_
  rintro e w2 ⟨rfl, hq⟩
  have hb2 : Below _ _ w2 := hq
  have hr := HR0.out.below hb2
  have d0 := hr.c0
  have d1 := hr.c1
  have f0 := hr.free 0
  have f1 := hr.free 1
  have KE := Lib.hid (K0.out.below hb2)
  clear hq hb2 hr
  go_wp2
  refine bodyPost_ret (v := .tuple #[.agg #[.int .i64 0, .slice none 0 0], .int .i64 1]) (by simp [results, Tryd.results23, go_sem, d0, d1]) rfl ⟨none, 0, 0, rfl, ?_, ?_⟩
  · exact OwnGrid.nil _ _ _ (Nat.le_refl _)
  · exact (KE.out.bel.setCell (by show w.heap.size ≤ w.heap.size + 1; omega) _).setCell (by show w.heap.size ≤ w.heap.size + 1; omega) _

set_option linter.unusedSimpArgs false in
set_option maxHeartbeats 8000000 in
set_option maxRecDepth 100000 in
theorem implOpp_in (s r : Nat) (h1 : 1 ≤ s) (h2 : s ≤ 4) (h3 : 1 ≤ r) (h4 : r ≤ 4) (a1 : Option Addr) (n1 c1 : Nat) (xs : List (List Int)) (w : World) (g1 : GridAt w (.slice a1 n1 c1) xs) (hT : TzTab w) (hc : RelOk s r xs) :
    Calls Tryd.prog 23 #[.int .i64 s, .agg #[.int .i64 r, .slice a1 n1 c1]] w (MadeRel2 w r (rowsS s r (oppS (s ^ r) (setOf s xs)) 256) 0) := by
  have hR0 := RelBox.new (w.alloc (.cells #[.int .i64 r, .slice a1 n1 c1] 25)) (.int .i64 0) (.slice none 0 0)
  rw [World.size_alloc] at hR0
  have HR0 := Lib.hid hR0
  have K0 := Lib.hid (((((Kept.start w).read lives_tz hT).read (lives_grid _ _) g1).box w.heap.size rfl (.int .i64 r) (.slice a1 n1 c1) 25).below ((Below.refl _ _).alloc (Nat.le_refl _) (.cells #[.int .i64 0, .slice none 0 0] 25)))
  clear g1 hR0 hT
  have HC := Lib.hid (Tells.yes hc)
  have HRK := Lib.hid hc
  clear hc
  go_enter Tryd.func23, Tryd.ntmps23
  go_wp2_with fail
  refine (implValidRel _ _ _ _ _ _ true _ (K0.out.r 0 rfl :) HC.out).mono ?_
  rintro e w2 ⟨rfl, hb2⟩
  have hsz2 : w.heap.size + 2 ≤ w2.heap.size := by have := hb2.size; simpa using this
  have K2 := Lib.hid (K0.out.below hb2)
  have HB2 := Lib.hid (HR0.out.below hb2)
  clear hb2
  go_wp2_with fail
  refine wp_region_noPanic ?_
  refine wp_region_late (S := (fun w' => w'.cell? ⟨w.heap.size, 0, none⟩ = some (.int .i64 r) ∧ w'.cell? ⟨w.heap.size, 1, none⟩ = some (.slice a1 n1 c1) ∧ Kept w [(⟨w.heap.size, 0, none⟩, .int .i64 r), (⟨w.heap.size, 1, none⟩, .slice a1 n1 c1)] [fun w => GridAt w (.slice a1 n1 c1) xs, TzTab] w')) [12] (by kernel_rfl) ?_ (fun hHeld => ?_)
  · exact ⟨(K2.out.drew.c 0 rfl :), (K2.out.drew.c 1 rfl :), K2.out.drew⟩
  refine wpAnyL_free (i := 0) (v := ?_) (some 11) rfl rfl (by kernel_rfl) (by kernel_rfl) (by kernel_rfl) (by decide) (fun _ _ _ h => h) (Or.inl ⟨by rfl, ?_⟩) (fun h0 => by assumption) ?_
  rotate_left
  · intro wS
    go_simp
    try with_reducible rfl
  try simp only [Act.put, List.setIfInBounds_toArray, List.set_cons_zero, List.set_cons_succ]
  refine wpAnyL_free (i := 1) (v := ?_) (some 12) rfl rfl (by kernel_rfl) (by kernel_rfl) (by kernel_rfl) (by decide) (fun _ _ _ h => h) (Or.inl ⟨by rfl, ?_⟩) (fun h0 => by assumption) ?_
  rotate_left
  · intro wS
    go_simp
    try with_reducible rfl
  try simp only [Act.put, List.setIfInBounds_toArray, List.set_cons_zero, List.set_cons_succ]
  refine wpAnyL_take (i := 2) (v := ?_) (some 13) rfl rfl (by kernel_rfl) (by kernel_rfl) (by kernel_rfl) (by kernel_rfl) (by kernel_rfl) (fun _ _ _ h => h) (Or.inl ⟨by rfl, ?_⟩) (by assumption) ?_
  rotate_left
  · intro wS hSw
    try dsimp only at hSw
    go_simp
    try with_reducible rfl
  try simp only [Act.put, List.setIfInBounds_toArray, List.set_cons_zero, List.set_cons_succ]
  refine wpAnyL_free (i := 3) (v := ?_) (some 14) rfl rfl (by kernel_rfl) (by kernel_rfl) (by kernel_rfl) (by decide) (fun _ _ _ h => h) (Or.inl ⟨by rfl, ?_⟩) (fun h0 => by assumption) ?_
  rotate_left
  · intro wS
    go_simp
    try with_reducible rfl
  try simp only [Act.put, List.setIfInBounds_toArray, List.set_cons_zero, List.set_cons_succ]
  refine wpAnyL_free (i := 4) (v := ?_) (some 15) rfl rfl (by kernel_rfl) (by kernel_rfl) (by kernel_rfl) (by decide) (fun _ _ _ h => h) (Or.inl ⟨by rfl, ?_⟩) (fun h0 => by assumption) ?_
  rotate_left
  · intro wS
    go_simp
    try with_reducible rfl
  try simp only [Act.put, List.setIfInBounds_toArray, List.set_cons_zero, List.set_cons_succ]
  refine wpAnyL_take (i := 5) (v := ?_) (some 16) rfl rfl (by kernel_rfl) (by kernel_rfl) (by kernel_rfl) (by kernel_rfl) (by kernel_rfl) (fun _ _ _ h => h) (Or.inl ⟨by rfl, ?_⟩) (by assumption) ?_
  rotate_left
  · intro wS hSw
    try dsimp only at hSw
    go_simp
    try with_reducible rfl
  try simp only [Act.put, List.setIfInBounds_toArray, List.set_cons_zero, List.set_cons_succ]
  refine wpAnyL_free (i := 7) (v := ?_) (some 18) rfl rfl (by kernel_rfl) (by kernel_rfl) (by kernel_rfl) (by decide) (fun _ _ _ h => h) (Or.inl ⟨by rfl, ?_⟩) (fun h0 => by assumption) ?_
  rotate_left
  · intro wS
    go_simp
    try with_reducible rfl
  try simp only [Act.put, List.setIfInBounds_toArray, List.set_cons_zero, List.set_cons_succ]
  refine wpAnyL_take (i := 8) (v := ?_) (some 19) rfl rfl (by kernel_rfl) (by kernel_rfl) (by kernel_rfl) (by kernel_rfl) (by kernel_rfl) (fun _ _ _ h => h) (Or.inl ⟨by rfl, ?_⟩) (by assumption) ?_
  rotate_left
  · intro wS hSw
    try dsimp only at hSw
    go_simp
    try with_reducible rfl
  try simp only [Act.put, List.setIfInBounds_toArray, List.set_cons_zero, List.set_cons_succ]
  refine wpAnyL_ready (rs := [6]) (by kernel_rfl) (by simp) ?_
  refine AllReadyL.cons rfl (fun K hK => ?_) AllReadyL.nil
  go_simp; go_at_call 48; refine (fullBits s r h1 h2 h4 _).mono ?_; rintro e w4 ⟨rfl, hb4⟩
  refine hK.out _ _ ?_ (fun hHeld => ?_)
  · exact ⟨below_cell hb4 hHeld.1, below_cell hb4 hHeld.2.1, hHeld.2.2.below hb4⟩
  clear hK K
  try simp only [Act.put, List.setIfInBounds_toArray, List.set_cons_zero, List.set_cons_succ]
  refine wpAnyL_ready (rs := [9]) (by kernel_rfl) (by simp) ?_
  refine AllReadyL.cons rfl (fun K hK => ?_) AllReadyL.nil
  go_simp; go_at_call 53; refine (bitsOf _ _ _ _ _ _ _ (hHeld.2.2.r 0 rfl :) HRK.out).mono ?_; rintro e w5 ⟨rfl, hb5⟩
  refine hK.out _ _ ?_ (fun hHeld => ?_)
  · exact ⟨below_cell hb5 hHeld.1, below_cell hb5 hHeld.2.1, hHeld.2.2.below hb5⟩
  clear hK K
  try simp only [Act.put, List.setIfInBounds_toArray, List.set_cons_zero, List.set_cons_succ]
  refine wpAnyL_ready (rs := [10]) (by kernel_rfl) (by simp) ?_
  refine AllReadyL.cons rfl (fun K hK => ?_) AllReadyL.nil
  go_simp; go_at_call 52; refine (withoutBits _ _ _).mono ?_; rintro e w7 ⟨rfl, hb7⟩
  refine hK.out _ _ ?_ (fun hHeld => ?_)
  · exact ⟨below_cell hb7 hHeld.1, below_cell hb7 hHeld.2.1, hHeld.2.2.below hb7⟩
  clear hK K
  try simp only [Act.put, List.setIfInBounds_toArray, List.set_cons_zero, List.set_cons_succ]
  refine wpAnyL_ready (rs := [11]) (by kernel_rfl) (by simp) ?_
  refine AllReadyL.cons rfl (fun K hK => ?_) AllReadyL.nil
  go_simp; go_at_call 43; refine (relOf s r h1 h2 h3 h4 _ _ (hHeld.2.2.r 1 rfl :)).mono ?_; rintro e w8 ⟨a8, n8, c8, rfl, ho8, hb8⟩
  have hr8 : RelBox w8 (w.heap.size + 1) (.int .i64 0) (.slice none 0 0) := ((((HB2.out.below ((QW.refl _).drew.bel)).below hb4).below hb5).below hb7).below hb8
  have d0 := hr8.c0
  have d1 := hr8.c1
  have f0 := hr8.free 0
  have f1 := hr8.free 1
  have HO8 := Lib.hid ho8
  have HZ : Hid (w.heap.size + 1 < _) := Lib.hid (((((HB2.out.below ((QW.refl _).drew.bel)).below hb4).below hb5).below hb7).lt)
  clear ho8 hr8
  refine hK.out _ _ ?_ (fun hHeld => ?_)
  · exact ⟨below_cell hb8 hHeld.1, below_cell hb8 hHeld.2.1, hHeld.2.2.below hb8⟩
  clear hK K
  try simp only [Act.put, List.setIfInBounds_toArray, List.set_cons_zero, List.set_cons_succ]
  refine wpAnyL_ready (rs := [12]) (by kernel_rfl) (by simp) ?_
  refine AllReadyL.last rfl (by kernel_rfl) (fun K hK => ?_) AllReadyL.nil
  go_simp
  refine hK.out _ _ ?_
  clear hK K
  try simp only [Act.put, List.setIfInBounds_toArray, List.set_cons_zero, List.set_cons_succ]
  refine wpAnyL_free (i := 13) (v := ?_) (some 5) rfl rfl (by kernel_rfl) (by kernel_rfl) (by kernel_rfl) (by decide) (fun _ _ _ h => h) (Or.inl ⟨by rfl, ?_⟩) (fun h0 => absurd h0 (by decide)) ?_
  rotate_left
  · intro wS
    go_simp
    try with_reducible rfl
  try simp only [Act.put, List.setIfInBounds_toArray, List.set_cons_zero, List.set_cons_succ]
  refine wpAnyL_done (by kernel_rfl) ?_ _
  refine NoPanic.normal ?_
  have K8 := Lib.hid hHeld.2.2
  clear hHeld hb4 hb5 hb7 hb8

  go_wp2
  refine bodyPost_ret (v := .tuple #[.agg #[.int .i64 r, .slice a8 n8 c8], .int .i64 0]) (by simp [results, Tryd.results23, go_sem, d0, d1]) rfl ⟨a8, n8, c8, rfl, ?_, ?_⟩
  · have e1 := HZ.out
    exact (((HO8.out.stored e1 _).stored e1 _).mono (by omega)).full
  · exact (K8.out.bel.setCell (by show w.heap.size ≤ w.heap.size + 1; omega) _).setCell (by show w.heap.size ≤ w.heap.size + 1; omega) _

theorem implOppositeRel (size x : Int) (a1 : Option Addr) (n1 c1 : Nat) (xs : List (List Int)) (ar : Int) (zs : List (List Int)) (cd : Int) (w : World) (g1 : GridAt w (.slice a1 n1 c1) xs) (hT : TzTab w) (hi : OppositeRelIs size x xs ar zs cd) :
    Calls Tryd.prog 23 #[.int .i64 size, .agg #[.int .i64 x, .slice a1 n1 c1]] w (MadeRel2 w ar zs cd) := by
  rcases hi with ⟨hc, rfl, rfl, rfl⟩ | ⟨hc, rfl, rfl, rfl⟩
  · have e1 := hc.1.1
    have e2 := hc.1.2
    have e3 := hc.2.1.1
    have e4 := hc.2.1.2
    obtain ⟨s, rfl⟩ : ∃ s : Nat, size = s := ⟨size.toNat, by omega⟩
    obtain ⟨r, rfl⟩ : ∃ r : Nat, ar = r := ⟨ar.toNat, by omega⟩
    simp only [Int.toNat_natCast]
    exact implOpp_in s r (by omega) (by omega) (by omega) (by omega) a1 n1 c1 xs w g1 hT hc
  · exact implOppositeRel_no size x a1 n1 c1 xs w g1 hc

end Go.Proofs.YtbnmgonfmihicaaDoor
