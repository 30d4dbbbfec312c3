/-
  The tuples of one of two relations in the program: join of its sets, JoinRels.
-/
import Derived.Test.YtbnmgonfmihicaaDoorJoinS
import Derived.Test.YtbnmgonfmihicaaDoorReg
namespace Go.Proofs.YtbnmgonfmihicaaDoor
open Go.RowKit

theorem or_words (S T : Nat → Bool) (k : Nat) : bits BinOp.or IntKind.u64 (word S k) (word T k) = ((wordN 64 fun j => S (64 * k + j) || T (64 * k + j) : Nat) : Int) := by
  rw [bits_or_u64_nat _ _ (word_lt _ _) (word_lt _ _)]
  unfold word
  rw [wordN_or]

set_option maxHeartbeats 1000000 in
set_option maxRecDepth 100000 in
theorem joinBits (S T : Nat → Bool) (w : World) :
    Calls Tryd.prog 58 #[bitsV S, bitsV T] w fun e w' => e = .returned (bitsV (opAll (· || ·) S T)) ∧ Below w.heap.size w w' := by
  have hd1 : bitsV S = .agg (bitsC S).toArray := rfl
  have hd2 : bitsV T = .agg (bitsC T).toArray := rfl
  rw [hd1, hd2]
  have B0 := Lib.hid (((bits_new w S).alloc (.cells (bitsC T).toArray 53)).alloc (.cells #[.int .u64 0, .int .u64 0, .int .u64 0, .int .u64 0] 53))
  have B1 : Hid (BitsBox (((w.alloc (.cells (bitsC S).toArray 53)).alloc (.cells (bitsC T).toArray 53)).alloc (.cells #[.int .u64 0, .int .u64 0, .int .u64 0, .int .u64 0] 53)) (w.heap.size + 1) T) := by
    have h := (bits_new (w.alloc (.cells (bitsC S).toArray 53)) T).alloc (.cells #[.int .u64 0, .int .u64 0, .int .u64 0, .int .u64 0] 53)
    rw [World.size_alloc] at h
    exact h
  have B2 : Hid (BitsBox (((w.alloc (.cells (bitsC S).toArray 53)).alloc (.cells (bitsC T).toArray 53)).alloc (.cells #[.int .u64 0, .int .u64 0, .int .u64 0, .int .u64 0] 53)) (w.heap.size + 1 + 1) (fun _ => false)) := by
    have h := bits_new ((w.alloc (.cells (bitsC S).toArray 53)).alloc (.cells (bitsC T).toArray 53)) (fun _ => false)
    rw [World.size_alloc, World.size_alloc, ← bits_zero] at h
    exact h
  have HW := Lib.hid ((((Below.refl w.heap.size w).alloc (Nat.le_refl _) (.cells (bitsC S).toArray 53)).alloc (by simp) (.cells (bitsC T).toArray 53)).alloc (by simp; omega) (.cells #[.int .u64 0, .int .u64 0, .int .u64 0, .int .u64 0] 53))
  go_enter Tryd.func58, Tryd.ntmps58
  go_wp2
  go_loopw [6] (fun i wr => ∃ k : Nat, k ≤ 4 ∧ i = .int .i64 k ∧ BitsBox wr w.heap.size (opS (· || ·) k S T) ∧ BitsBox wr (w.heap.size + 1) T ∧ BitsBox wr (w.heap.size + 1 + 1) (fun _ => false) ∧ Below w.heap.size w wr) (fun i _ => 4 - (intOf i).toNat)
  case atStart => exact ⟨0, by omega, rfl, by rw [opS_zero]; exact B0.out, B1.out, B2.out, HW.out⟩
  case round =>
    obtain ⟨k, hk, rfl, hb0, hb1, hb2, hw⟩ := hrel
    clear B0 B1 B2 HW
    by_cases hlt : k < 4
    · have hx := hb0.cell k hlt
      rw [word_opS] at hx
      have hf := hb0.free k
      have hy := hb1.cell k hlt
      have hlt' : (k : Int) < 4 := by omega
      have H0 := Lib.hid hb0
      have H1 := Lib.hid hb1
      have H2 := Lib.hid hb2
      have HW := Lib.hid hw
      have HE := Lib.hid (or_words S T k)
      clear hb0 hb1 hb2 hw
      go_wp2
      go_region
      all_goals
        go_wp2
        rw [HE.out]
        go_roundw
        case rel => exact ⟨k + 1, by omega, by go_num, H0.out.opS.drew, (H1.out.other (by simp) _).drew, (H2.out.other (by simp; omega) _).drew, (HW.out.setCell (Nat.le_refl _) _).drew⟩
        case measure => simp [intOf]; omega
    · obtain rfl : k = 4 := by omega
      have hb : BitsBox wr w.heap.size (opAll (· || ·) S T) := by
        unfold BitsBox at hb0 ⊢
        rw [← opS_all]; exact hb0
      have c0 := hb.cell 0 (by omega)
      have c1 := hb.cell 1 (by omega)
      have c2 := hb.cell 2 (by omega)
      have c3 := hb.cell 3 (by omega)
      have d0 := hb2.cell 0 (by omega)
      have d1 := hb2.cell 1 (by omega)
      have d2 := hb2.cell 2 (by omega)
      have d3 := hb2.cell 3 (by omega)
      have f0 := hb2.free 0
      have f1 := hb2.free 1
      have f2 := hb2.free 2
      have f3 := hb2.free 3
      have HW := Lib.hid hw
      clear hb hb0 hb1 hb2 hw
      go_wp2
      refine bodyPost_ret (v := bitsV (opAll (· || ·) S T)) (by simp [results, Tryd.results58, go_sem, d0, d1, d2, d3, bitsV, bitsC]) rfl ⟨rfl, ?_⟩
      exact ((((HW.out.setCell (by simp; omega) _).setCell (by simp; omega) _).setCell (by simp; omega) _).setCell (by simp; omega) _)


theorem join_sets (s r : Nat) (xs ys : List (List Int)) : rowsS s r (opAll (· || ·) (setOf s xs) (setOf s ys)) 256 = rowsS s r (setOf s (xs ++ ys)) 256 := by
  unfold rowsS
  rw [memb_congr (T := setOf s (xs ++ ys)) fun j _ => ?_]
  rw [Bool.eq_iff_iff, setOf_iff]
  unfold opAll
  rw [Bool.or_eq_true, setOf_iff, setOf_iff]
  constructor
  · rintro (⟨x, hx, hc⟩ | ⟨x, hx, hc⟩)
    · exact ⟨x, List.mem_append.2 (.inl hx), hc⟩
    · exact ⟨x, List.mem_append.2 (.inr hx), hc⟩
  · rintro ⟨x, hx, hc⟩
    rcases List.mem_append.1 hx with h | h
    · exact .inl ⟨x, h, hc⟩
    · exact .inr ⟨x, h, hc⟩

set_option linter.unusedSimpArgs false in
set_option linter.unusedSimpArgs false in
set_option linter.unusedSimpArgs false in
set_option maxHeartbeats 8000000 in
set_option maxRecDepth 100000 in
theorem implJoinRels_in (s r : Nat) (h1 : 1 ≤ s) (h2 : s ≤ 4) (h3 : 1 ≤ r) (h4 : r ≤ 4) (a1 : Option Addr) (n1 c1 : Nat) (xs : List (List Int)) (a2 : Option Addr) (n2 c2 : Nat) (ys : List (List Int)) (w : World) (g1 : GridAt w (.slice a1 n1 c1) xs) (g2 : GridAt w (.slice a2 n2 c2) ys) (hT : TzTab w) (hc : TwoCode s r xs r ys 0) :
    Calls Tryd.prog 27 #[.int .i64 s, .agg #[.int .i64 r, .slice a1 n1 c1], .agg #[.int .i64 r, .slice a2 n2 c2]] w (MadeRel2 w r (rowsS s r (setOf s (xs ++ ys)) 256) 0) := by
  have hR0 := RelBox.new ((w.alloc (.cells #[.int .i64 r, .slice a1 n1 c1] 25)).alloc (.cells #[.int .i64 r, .slice a2 n2 c2] 25)) (.int .i64 0) (.slice none 0 0)
  rw [World.size_alloc, World.size_alloc] at hR0
  have HR0 := Lib.hid hR0
  have K0 := Lib.hid (((((((Kept.start w).read lives_tz hT).read (lives_grid _ _) g2).read (lives_grid _ _) g1).box w.heap.size rfl (.int .i64 r) (.slice a1 n1 c1) 25).box (w.heap.size + 1) (by simp) (.int .i64 r) (.slice a2 n2 c2) 25).below ((Below.refl _ _).alloc (Nat.le_refl _) (.cells #[.int .i64 0, .slice none 0 0] 25)))
  clear g1 g2 hR0 hT
  rw [← join_sets s r xs ys]
  have HC := Lib.hid hc
  have HR1 := Lib.hid hc.ok.1
  have HR2 := Lib.hid hc.ok.2.1
  clear hc
  go_enter Tryd.func27, Tryd.ntmps27
  go_wp2_with fail
  refine (pairCode _ _ _ _ _ _ _ _ _ _ _ 0 _ (K0.out.grid 0 rfl) (K0.out.grid 1 rfl) HC.out).mono ?_
  rintro e w2 ⟨rfl, hb2⟩
  have hsz2 : w.heap.size + 3 ≤ w2.heap.size := by have := hb2.size; simpa using this
  have K2 := Lib.hid (K0.out.below hb2)
  have HB2 := Lib.hid (HR0.out.below hb2)
  clear hb2
  go_wp2_with fail
  refine wp_region_noPanic ?_
  refine wp_region_late (S := (fun w' => w'.cell? ⟨w.heap.size + 1, 0, none⟩ = some (.int .i64 r) ∧ w'.cell? ⟨w.heap.size + 1, 1, none⟩ = some (.slice a2 n2 c2) ∧ w'.cell? ⟨w.heap.size, 0, none⟩ = some (.int .i64 r) ∧ w'.cell? ⟨w.heap.size, 1, none⟩ = some (.slice a1 n1 c1) ∧ Kept w [(⟨w.heap.size + 1, 0, none⟩, .int .i64 r), (⟨w.heap.size + 1, 1, none⟩, .slice a2 n2 c2), (⟨w.heap.size, 0, none⟩, .int .i64 r), (⟨w.heap.size, 1, none⟩, .slice a1 n1 c1)] [fun w => GridAt w (.slice a1 n1 c1) xs, fun w => GridAt w (.slice a2 n2 c2) ys, TzTab] w')) [11] (by kernel_rfl) ?_ (fun hHeld => ?_)
  · exact K2.out.drew.two 0 2 rfl rfl rfl rfl
  refine wpAnyL_free (i := 0) (v := ?_) (some 17) rfl rfl (by kernel_rfl) (by kernel_rfl) (by kernel_rfl) (by decide) (fun _ _ _ h => h) (Or.inl ⟨by rfl, ?_⟩) (fun h0 => by assumption) ?_
  rotate_left
  · intro wS
    go_simp
    try with_reducible rfl
  try simp only [Act.put, List.setIfInBounds_toArray, List.set_cons_zero, List.set_cons_succ]
  refine wpAnyL_free (i := 1) (v := ?_) (some 18) rfl rfl (by kernel_rfl) (by kernel_rfl) (by kernel_rfl) (by decide) (fun _ _ _ h => h) (Or.inl ⟨by rfl, ?_⟩) (fun h0 => by assumption) ?_
  rotate_left
  · intro wS
    go_simp
    try with_reducible rfl
  try simp only [Act.put, List.setIfInBounds_toArray, List.set_cons_zero, List.set_cons_succ]
  refine wpAnyL_take (i := 2) (v := ?_) (some 19) rfl rfl (by kernel_rfl) (by kernel_rfl) (by kernel_rfl) (by kernel_rfl) (by kernel_rfl) (fun _ _ _ h => h) (Or.inl ⟨by rfl, ?_⟩) (by assumption) ?_
  rotate_left
  · intro wS hSw
    try dsimp only at hSw
    go_simp
    try with_reducible rfl
  try simp only [Act.put, List.setIfInBounds_toArray, List.set_cons_zero, List.set_cons_succ]
  refine wpAnyL_free (i := 3) (v := ?_) (some 20) rfl rfl (by kernel_rfl) (by kernel_rfl) (by kernel_rfl) (by decide) (fun _ _ _ h => h) (Or.inl ⟨by rfl, ?_⟩) (fun h0 => by assumption) ?_
  rotate_left
  · intro wS
    go_simp
    try with_reducible rfl
  try simp only [Act.put, List.setIfInBounds_toArray, List.set_cons_zero, List.set_cons_succ]
  refine wpAnyL_take (i := 4) (v := ?_) (some 21) rfl rfl (by kernel_rfl) (by kernel_rfl) (by kernel_rfl) (by kernel_rfl) (by kernel_rfl) (fun _ _ _ h => h) (Or.inl ⟨by rfl, ?_⟩) (by assumption) ?_
  rotate_left
  · intro wS hSw
    try dsimp only at hSw
    go_simp
    try with_reducible rfl
  try simp only [Act.put, List.setIfInBounds_toArray, List.set_cons_zero, List.set_cons_succ]
  refine wpAnyL_free (i := 6) (v := ?_) (some 23) rfl rfl (by kernel_rfl) (by kernel_rfl) (by kernel_rfl) (by decide) (fun _ _ _ h => h) (Or.inl ⟨by rfl, ?_⟩) (fun h0 => by assumption) ?_
  rotate_left
  · intro wS
    go_simp
    try with_reducible rfl
  try simp only [Act.put, List.setIfInBounds_toArray, List.set_cons_zero, List.set_cons_succ]
  refine wpAnyL_take (i := 7) (v := ?_) (some 24) rfl rfl (by kernel_rfl) (by kernel_rfl) (by kernel_rfl) (by kernel_rfl) (by kernel_rfl) (fun _ _ _ h => h) (Or.inl ⟨by rfl, ?_⟩) (by assumption) ?_
  rotate_left
  · intro wS hSw
    try dsimp only at hSw
    go_simp
    try with_reducible rfl
  try simp only [Act.put, List.setIfInBounds_toArray, List.set_cons_zero, List.set_cons_succ]
  refine wpAnyL_ready (rs := [5]) (by kernel_rfl) (by simp) ?_
  refine AllReadyL.cons rfl (fun K hK => ?_) AllReadyL.nil
  go_simp; go_at_call 53; refine (bitsOf _ _ _ _ _ _ _ (hHeld.2.2.2.2.r 0 rfl :) HR1.out).mono ?_; rintro e w5 ⟨rfl, hb5⟩
  refine hK.out _ _ ?_ (fun hHeld => ?_)
  · exact ⟨below_cell hb5 hHeld.1, below_cell hb5 hHeld.2.1, below_cell hb5 hHeld.2.2.1, below_cell hb5 hHeld.2.2.2.1, hHeld.2.2.2.2.below hb5⟩
  clear hK K
  try simp only [Act.put, List.setIfInBounds_toArray, List.set_cons_zero, List.set_cons_succ]
  refine wpAnyL_ready (rs := [8]) (by kernel_rfl) (by simp) ?_
  refine AllReadyL.cons rfl (fun K hK => ?_) AllReadyL.nil
  go_simp; go_at_call 53; refine (bitsOf _ _ _ _ _ _ _ (hHeld.2.2.2.2.r 1 rfl :) HR2.out).mono ?_; rintro e w6 ⟨rfl, hb6⟩
  refine hK.out _ _ ?_ (fun hHeld => ?_)
  · exact ⟨below_cell hb6 hHeld.1, below_cell hb6 hHeld.2.1, below_cell hb6 hHeld.2.2.1, below_cell hb6 hHeld.2.2.2.1, hHeld.2.2.2.2.below hb6⟩
  clear hK K
  try simp only [Act.put, List.setIfInBounds_toArray, List.set_cons_zero, List.set_cons_succ]
  refine wpAnyL_ready (rs := [9]) (by kernel_rfl) (by simp) ?_
  refine AllReadyL.cons rfl (fun K hK => ?_) AllReadyL.nil
  go_simp; go_at_call 58; refine (joinBits _ _ _).mono ?_; rintro e w7 ⟨rfl, hb7⟩
  refine hK.out _ _ ?_ (fun hHeld => ?_)
  · exact ⟨below_cell hb7 hHeld.1, below_cell hb7 hHeld.2.1, below_cell hb7 hHeld.2.2.1, below_cell hb7 hHeld.2.2.2.1, hHeld.2.2.2.2.below hb7⟩
  clear hK K
  try simp only [Act.put, List.setIfInBounds_toArray, List.set_cons_zero, List.set_cons_succ]
  refine wpAnyL_ready (rs := [10]) (by kernel_rfl) (by simp) ?_
  refine AllReadyL.cons rfl (fun K hK => ?_) AllReadyL.nil
  go_simp; go_at_call 43; refine (relOf s r h1 h2 h3 h4 _ _ (hHeld.2.2.2.2.r 2 rfl :)).mono ?_; rintro e w8 ⟨a8, n8, c8, rfl, ho8, hb8⟩
  have hr8 : RelBox w8 (w.heap.size + 1 + 1) (.int .i64 0) (.slice none 0 0) := ((((HB2.out.below ((QW.refl _).drew.bel)).below hb5).below hb6).below hb7).below hb8
  have d0 := hr8.c0
  have d1 := hr8.c1
  have f0 := hr8.free 0
  have f1 := hr8.free 1
  have HO8 := Lib.hid ho8
  have HZ : Hid (w.heap.size + 1 + 1 < _) := Lib.hid (((((HB2.out.below ((QW.refl _).drew.bel)).below hb5).below hb6).below hb7).lt)
  clear ho8 hr8
  refine hK.out _ _ ?_ (fun hHeld => ?_)
  · exact ⟨below_cell hb8 hHeld.1, below_cell hb8 hHeld.2.1, below_cell hb8 hHeld.2.2.1, below_cell hb8 hHeld.2.2.2.1, hHeld.2.2.2.2.below hb8⟩
  clear hK K
  try simp only [Act.put, List.setIfInBounds_toArray, List.set_cons_zero, List.set_cons_succ]
  refine wpAnyL_ready (rs := [11]) (by kernel_rfl) (by simp) ?_
  refine AllReadyL.last rfl (by kernel_rfl) (fun K hK => ?_) AllReadyL.nil
  go_simp
  refine hK.out _ _ ?_
  clear hK K
  try simp only [Act.put, List.setIfInBounds_toArray, List.set_cons_zero, List.set_cons_succ]
  refine wpAnyL_free (i := 12) (v := ?_) (some 7) rfl rfl (by kernel_rfl) (by kernel_rfl) (by kernel_rfl) (by decide) (fun _ _ _ h => h) (Or.inl ⟨by rfl, ?_⟩) (fun h0 => absurd h0 (by decide)) ?_
  rotate_left
  · intro wS
    go_simp
    try with_reducible rfl
  try simp only [Act.put, List.setIfInBounds_toArray, List.set_cons_zero, List.set_cons_succ]
  refine wpAnyL_done (by kernel_rfl) ?_ _
  refine NoPanic.normal ?_
  have K8 := Lib.hid hHeld.2.2.2.2
  clear hHeld hb5 hb6 hb7 hb8

  go_wp2
  refine bodyPost_ret (v := .tuple #[.agg #[.int .i64 r, .slice a8 n8 c8], .int .i64 0]) (by simp [results, Tryd.results27, go_sem, d0, d1]) rfl ⟨a8, n8, c8, rfl, ?_, ?_⟩
  · have e1 := HZ.out
    exact (((HO8.out.stored e1 _).stored e1 _).mono (by omega)).full
  · exact (K8.out.bel.setCell (by show w.heap.size ≤ w.heap.size + 1 + 1; omega) _).setCell (by show w.heap.size ≤ w.heap.size + 1 + 1; omega) _

set_option maxHeartbeats 1000000 in
set_option maxRecDepth 100000 in
theorem implJoin_no (size x : Int) (a1 : Option Addr) (n1 c1 : Nat) (xs : List (List Int)) (y : Int) (a2 : Option Addr) (n2 c2 : Nat) (ys : List (List Int)) (cd : Int) (w : World) (g1 : GridAt w (.slice a1 n1 c1) xs) (g2 : GridAt w (.slice a2 n2 c2) ys) (hc : TwoCode size x xs y ys cd) (h0 : cd ≠ 0) :
    Calls Tryd.prog 27 #[.int .i64 size, .agg #[.int .i64 x, .slice a1 n1 c1], .agg #[.int .i64 y, .slice a2 n2 c2]] w (MadeRel2 w 0 [] cd) := by
  have hR0 := RelBox.new ((w.alloc (.cells #[.int .i64 x, .slice a1 n1 c1] 25)).alloc (.cells #[.int .i64 y, .slice a2 n2 c2] 25)) (.int .i64 0) (.slice none 0 0)
  rw [World.size_alloc, World.size_alloc] at hR0
  have HR0 := Lib.hid hR0
  have K0 := Lib.hid ((((((Kept.start w).read (lives_grid _ _) g2).read (lives_grid _ _) g1).box w.heap.size rfl (.int .i64 x) (.slice a1 n1 c1) 25).box (w.heap.size + 1) (by simp) (.int .i64 y) (.slice a2 n2 c2) 25).below ((Below.refl _ _).alloc (Nat.le_refl _) (.cells #[.int .i64 0, .slice none 0 0] 25)))
  clear g1 g2 hR0

  have HC := Lib.hid hc
  have hne : (cd == 0) = false := beq_eq_false_iff_ne.2 h0
  clear hc h0
  go_enter Tryd.func27, Tryd.ntmps27
  go_wp2_with fail
  refine (pairCode _ _ _ _ _ _ _ _ _ _ _ cd _ (K0.out.grid 0 rfl) (K0.out.grid 1 rfl) HC.out).mono ?_
  rintro e w2 ⟨rfl, hq⟩
  have hb2 : Below _ _ w2 := hq
  have hr := HR0.out.below hb2
  have d0 := hr.c0
  have d1 := hr.c1
  have f0 := hr.free 0
  have f1 := hr.free 1
  have KE := Lib.hid (K0.out.below hb2)
  clear hq hb2 hr
  go_wp2
  refine bodyPost_ret (v := .tuple #[.agg #[.int .i64 0, .slice none 0 0], .int .i64 cd]) (by simp [results, Tryd.results27, go_sem, d0, d1]) rfl ⟨none, 0, 0, rfl, ?_, ?_⟩
  · exact OwnGrid.nil _ _ _ (Nat.le_refl _)
  · exact (KE.out.bel.setCell (by show w.heap.size ≤ w.heap.size + 2; omega) _).setCell (by show w.heap.size ≤ w.heap.size + 2; omega) _

theorem implJoinRels (size x : Int) (a1 : Option Addr) (n1 c1 : Nat) (xs : List (List Int)) (y : Int) (a2 : Option Addr) (n2 c2 : Nat) (ys : List (List Int)) (ar : Int) (zs : List (List Int)) (cd : Int) (w : World) (g1 : GridAt w (.slice a1 n1 c1) xs) (g2 : GridAt w (.slice a2 n2 c2) ys) (hT : TzTab w) (hi : JoinRelsIs size x xs y ys ar zs cd) :
    Calls Tryd.prog 27 #[.int .i64 size, .agg #[.int .i64 x, .slice a1 n1 c1], .agg #[.int .i64 y, .slice a2 n2 c2]] w (MadeRel2 w ar zs cd) := by
  obtain ⟨hc, ⟨rfl, rfl, rfl⟩ | ⟨h0, rfl, rfl⟩⟩ := hi
  · obtain ⟨r1, r2, rfl⟩ := hc.ok
    have e1 := r1.1.1
    have e2 := r1.1.2
    have e3 := r1.2.1.1
    have e4 := r1.2.1.2
    obtain ⟨s, rfl⟩ : ∃ s : Nat, size = s := ⟨size.toNat, by omega⟩
    obtain ⟨r, rfl⟩ : ∃ r : Nat, ar = r := ⟨ar.toNat, by omega⟩
    simp only [Int.toNat_natCast]
    exact implJoinRels_in s r (by omega) (by omega) (by omega) (by omega) a1 n1 c1 xs a2 n2 c2 ys w g1 g2 hT hc
  · exact implJoin_no size x a1 n1 c1 xs y a2 n2 c2 ys cd w g1 g2 hc h0

end Go.Proofs.YtbnmgonfmihicaaDoor
