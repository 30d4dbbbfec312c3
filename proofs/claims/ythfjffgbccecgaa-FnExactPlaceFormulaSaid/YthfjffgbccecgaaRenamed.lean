/-
  Atoms with other variables: renamed and renamedAll of the program.
-/
import Derived.Test.YthfjffgbccecgaaTab
import Derived.Test.YthfjffgbccecgaaMoved
import Derived.Test.YthfjffgbccecgaaApplyOp
import Derived.Deep.CutRange
namespace Go.Proofs.Ythfjffgbccecgaa
open Go.RowKit

/-- What the first statement of renamed makes: a box with a row, in either order. -/
def RenMade (w : World) (n : Nat) (rel : Int) (v5 : Value) (wz : World) : Prop :=
  ∃ p g, v5 = .pointer (some ⟨p, 0, none⟩) ∧ w.heap.size + 2 ≤ p ∧ w.heap.size + 2 ≤ g ∧ p ≠ g ∧ Box 96 wz p #[.int .i64 rel, .slice (some ⟨g, 0, none⟩) n n] ∧ wz.ownsRow (w.heap.size + 2) 2 1 (.slice (some ⟨g, 0, none⟩) n n) n (List.replicate n (.int .i64 0)) ∧ Below w.heap.size w wz

set_option linter.unusedSimpArgs false in
set_option maxHeartbeats 2000000 in
set_option maxRecDepth 100000 in
theorem renamed (rel : Int) (a : Option Addr) (n c : Nat) (v2 : Value) (xs tos : List Int) (w : World) (h1 : RowAt w (.slice a n c) xs) (h2 : RowAt w v2 tos) (hl : xs.length ≤ 1000) (hr : ∀ i, i < xs.length → 0 ≤ intN xs i ∧ intN xs i < tos.length) :
    Calls Try.prog 66 #[.agg #[.int .i64 rel, .slice a n c], v2] w (MadeOp w rel (mapped tos xs)) := by
  obtain rfl : n = xs.length := by obtain ⟨_, _, hv, _⟩ := h1; simp only [Value.slice.injEq] at hv; exact hv.2.1
  have hmk := make_row xs.length hl
  have HX := Lib.hid h1
  have HRG := Lib.hid hr
  obtain ⟨a2, c2, rfl, hn2, hc2⟩ := h2
  have HC2 := Lib.hid hc2
  have K0 := Lib.hid (((Kept.start w).box w.heap.size rfl (.int .i64 rel) (.slice a xs.length c) 96).below ((Below.refl _ _).alloc (Nat.le_refl _) (.cells #[.int .i64 0, .slice none 0 0] 96)))
  have HR0 : Hid (Box 96 _ (w.heap.size + 1) #[.int .i64 0, .slice none 0 0]) := Lib.hid (by
    have h := Box.new 96 (w.alloc (.cells #[.int .i64 rel, .slice a xs.length c] 96)) #[.int .i64 0, .slice none 0 0]
    rwa [World.size_alloc] at h)
  have HBP : Hid (Box 96 _ w.heap.size #[.int .i64 rel, .slice a xs.length c]) := Lib.hid ((Box.new 96 w #[.int .i64 rel, .slice a xs.length c]).below ((Below.refl _ _).alloc (Nat.le_refl _) (.cells #[.int .i64 0, .slice none 0 0] 96)))
  have ck0 := K0.out.c 0 rfl
  have ck1 := K0.out.c 1 rfl
  clear h1 hr hc2
  go_enter Try.func66, Try.ntmps66
  go_upto_region 1 with fail
  go_cut [5] from 8 to 14 (fun v5 wz => RenMade w xs.length rel v5 wz ∧ Below ((w.alloc (.cells #[.int .i64 rel, .slice a xs.length c] 96)).alloc (.cells #[.int .i64 0, .slice none 0 0] 96)).heap.size ((w.alloc (.cells #[.int .i64 rel, .slice a xs.length c] 96)).alloc (.cells #[.int .i64 0, .slice none 0 0] 96)) wz)
  case first =>
    refine wp_region_noPanic ?_
    refine wp_region_late (S := (fun w' => w'.cell? ⟨w.heap.size, 0, none⟩ = some (.int .i64 rel) ∧ w'.cell? ⟨w.heap.size, 1, none⟩ = some (.slice a xs.length c))) [8] (by kernel_rfl) ?_ (fun hHeld => ?_)
    · exact ⟨ck0, ck1⟩
    refine wpAnyL_free (i := 0) (v := ?_) (some 8) rfl rfl (by kernel_rfl) (by kernel_rfl) (by kernel_rfl) (by decide) (fun _ _ _ h => h) (Or.inl ⟨by rfl, ?_⟩) (fun h0 => by assumption) ?_
    rotate_left
    · intro wS
      go_simp
      try with_reducible rfl
    try simp only [Act.put, List.setIfInBounds_toArray, List.set_cons_zero, List.set_cons_succ]
    refine wpAnyL_take (i := 1) (v := ?_) (some 9) rfl rfl (by kernel_rfl) (by kernel_rfl) (by kernel_rfl) (by kernel_rfl) (by kernel_rfl) (fun _ _ _ h => h) (Or.inl ⟨by rfl, ?_⟩) (by assumption) ?_
    rotate_left
    · intro wS hSw
      try dsimp only at hSw
      go_simp
      try with_reducible rfl
    try simp only [Act.put, List.setIfInBounds_toArray, List.set_cons_zero, List.set_cons_succ]
    refine wpAnyL_free (i := 2) (v := ?_) (some 10) rfl rfl (by kernel_rfl) (by kernel_rfl) (by kernel_rfl) (by decide) (fun _ _ _ h => h) (Or.inl ⟨by rfl, ?_⟩) (fun h0 => by assumption) ?_
    rotate_left
    · intro wS
      go_simp
      try with_reducible rfl
    try simp only [Act.put, List.setIfInBounds_toArray, List.set_cons_zero, List.set_cons_succ]
    refine wpAnyL_take (i := 3) (v := ?_) (some 11) rfl rfl (by kernel_rfl) (by kernel_rfl) (by kernel_rfl) (by kernel_rfl) (by kernel_rfl) (fun _ _ _ h => h) (Or.inl ⟨by rfl, ?_⟩) (by assumption) ?_
    rotate_left
    · intro wS hSw
      try dsimp only at hSw
      go_simp
      try with_reducible rfl
    try simp only [Act.put, List.setIfInBounds_toArray, List.set_cons_zero, List.set_cons_succ]
    refine wpAnyL_free (i := 4) (v := ?_) (some 12) rfl rfl (by kernel_rfl) (by kernel_rfl) (by kernel_rfl) (by decide) (fun _ _ _ h => h) (Or.inl ⟨by rfl, ?_⟩) (fun h0 => by assumption) ?_
    rotate_left
    · intro wS
      go_simp
      try with_reducible rfl
    try simp only [Act.put, List.setIfInBounds_toArray, List.set_cons_zero, List.set_cons_succ]
    refine wpAnyL_ready (rs := [5, 7]) (by kernel_rfl) (by simp) ?_
    refine AllReadyL.cons rfl (fun K hK => ?_) ?_
    · skip
      go_simp
      refine hK.out _ _ ?_ (fun hHeld => ?_)
      · exact ⟨below_cell ((Below.refl _ _).alloc (Nat.le_refl _) _) hHeld.1, below_cell ((Below.refl _ _).alloc (Nat.le_refl _) _) hHeld.2⟩
      clear hK K
      try simp only [Act.put, List.setIfInBounds_toArray, List.set_cons_zero, List.set_cons_succ]
      refine wpAnyL_free (i := 6) (v := ?_) (some 14) rfl rfl (by kernel_rfl) (by kernel_rfl) (by kernel_rfl) (by decide) (fun _ _ _ h => h) (Or.inl ⟨by rfl, ?_⟩) (fun h0 => by assumption) ?_
      rotate_left
      · intro wS
        go_simp
        try with_reducible rfl
      try simp only [Act.put, List.setIfInBounds_toArray, List.set_cons_zero, List.set_cons_succ]
      refine wpAnyL_ready (rs := [7]) (by kernel_rfl) (by simp) ?_
      refine AllReadyL.cons rfl (fun K hK => ?_) AllReadyL.nil
      go_simp
      refine hK.out _ _ ?_ (fun hHeld => ?_)
      · exact ⟨below_cell ((Below.refl _ _).alloc (Nat.le_refl _) _) hHeld.1, below_cell ((Below.refl _ _).alloc (Nat.le_refl _) _) hHeld.2⟩
      clear hK K
      try simp only [Act.put, List.setIfInBounds_toArray, List.set_cons_zero, List.set_cons_succ]
      refine wpAnyL_ready (rs := [8]) (by kernel_rfl) (by simp) ?_
      refine AllReadyL.last rfl (by kernel_rfl) (fun K hK => ?_) AllReadyL.nil
      go_simp
      refine hK.out _ _ ?_
      clear hK K
      try simp only [Act.put, List.setIfInBounds_toArray, List.set_cons_zero, List.set_cons_succ]
      refine wpAnyL_done (by kernel_rfl) ?_ _
      refine NoPanic.normal ?_
      go_wp2
      go_meet
      refine ⟨?_, (((Below.refl _ ((w.alloc (.cells #[.int .i64 rel, .slice a xs.length c] 96)).alloc (.cells #[.int .i64 0, .slice none 0 0] 96))).alloc (Nat.le_refl _) _).alloc (by simp <;> omega) _).drew⟩
      refine ⟨w.heap.size + 3, w.heap.size + 2, rfl, by omega, by omega, by omega, ?_, ?_, ?_⟩
      · have h := Box.new 96 (((w.alloc (.cells #[.int .i64 rel, .slice a xs.length c] 96)).alloc (.cells #[.int .i64 0, .slice none 0 0] 96)).alloc (.cells (Array.replicate xs.length (Value.int .i64 0)) 2)) #[.int .i64 rel, .slice (some ⟨w.heap.size + 2, 0, none⟩) xs.length xs.length]
        simp only [World.size_alloc] at h
        exact h
      · have h := own_new ((w.alloc (.cells #[.int .i64 rel, .slice a xs.length c] 96)).alloc (.cells #[.int .i64 0, .slice none 0 0] 96)) (w.heap.size + 2) xs.length (.int .i64 0) (by simp) (by omega)
        simp only [World.size_alloc] at h
        exact h.alloc _
      · exact (((((Below.refl _ _).alloc (Nat.le_refl _) _).alloc (by simp) _).alloc (by simp; omega) _).alloc (by simp; omega) _).drew
    refine AllReadyL.cons rfl (fun K hK => ?_) AllReadyL.nil
    go_simp
    refine hK.out _ _ ?_ (fun hHeld => ?_)
    · exact ⟨below_cell ((Below.refl _ _).alloc (Nat.le_refl _) _) hHeld.1, below_cell ((Below.refl _ _).alloc (Nat.le_refl _) _) hHeld.2⟩
    clear hK K
    try simp only [Act.put, List.setIfInBounds_toArray, List.set_cons_zero, List.set_cons_succ]
    refine wpAnyL_ready (rs := [5]) (by kernel_rfl) (by simp) ?_
    refine AllReadyL.cons rfl (fun K hK => ?_) AllReadyL.nil
    go_simp
    refine hK.out _ _ ?_ (fun hHeld => ?_)
    · exact ⟨below_cell ((Below.refl _ _).alloc (Nat.le_refl _) _) hHeld.1, below_cell ((Below.refl _ _).alloc (Nat.le_refl _) _) hHeld.2⟩
    clear hK K
    try simp only [Act.put, List.setIfInBounds_toArray, List.set_cons_zero, List.set_cons_succ]
    refine wpAnyL_free (i := 6) (v := ?_) (some 14) rfl rfl (by kernel_rfl) (by kernel_rfl) (by kernel_rfl) (by decide) (fun _ _ _ h => h) (Or.inl ⟨by rfl, ?_⟩) (fun h0 => by assumption) ?_
    rotate_left
    · intro wS
      go_simp
      try with_reducible rfl
    try simp only [Act.put, List.setIfInBounds_toArray, List.set_cons_zero, List.set_cons_succ]
    refine wpAnyL_ready (rs := [8]) (by kernel_rfl) (by simp) ?_
    refine AllReadyL.last rfl (by kernel_rfl) (fun K hK => ?_) AllReadyL.nil
    go_simp
    refine hK.out _ _ ?_
    clear hK K
    try simp only [Act.put, List.setIfInBounds_toArray, List.set_cons_zero, List.set_cons_succ]
    refine wpAnyL_done (by kernel_rfl) ?_ _
    refine NoPanic.normal ?_
    go_wp2
    go_meet
    refine ⟨?_, (((Below.refl _ ((w.alloc (.cells #[.int .i64 rel, .slice a xs.length c] 96)).alloc (.cells #[.int .i64 0, .slice none 0 0] 96))).alloc (Nat.le_refl _) _).alloc (by simp <;> omega) _).drew⟩
    refine ⟨w.heap.size + 2, w.heap.size + 3, rfl, by omega, by omega, by omega, ?_, ?_, ?_⟩
    · have h := (Box.new 96 ((w.alloc (.cells #[.int .i64 rel, .slice a xs.length c] 96)).alloc (.cells #[.int .i64 0, .slice none 0 0] 96)) #[.int .i64 rel, .slice (some ⟨w.heap.size + 3, 0, none⟩) xs.length xs.length]).below ((Below.refl _ _).alloc (Nat.le_refl _) (.cells (Array.replicate xs.length (Value.int .i64 0)) 2))
      simp only [World.size_alloc] at h
      exact h
    · have h := own_new (((w.alloc (.cells #[.int .i64 rel, .slice a xs.length c] 96)).alloc (.cells #[.int .i64 0, .slice none 0 0] 96)).alloc (.cells #[.int .i64 rel, .slice (some ⟨w.heap.size + 3, 0, none⟩) xs.length xs.length] 96)) (w.heap.size + 2) xs.length (.int .i64 0) (by simp) (by omega)
      simp only [World.size_alloc] at h
      exact h
    · exact (((((Below.refl _ _).alloc (Nat.le_refl _) _).alloc (by simp) _).alloc (by simp; omega) _).alloc (by simp; omega) _).drew

  case rest =>
    obtain ⟨⟨p, g, rfl, hp, hg, hpg, hbx, hrow, hbel⟩, hbel2⟩ := hcut
    have HBX0 := Lib.hid hbx
    have HROW0 := Lib.hid hrow
    have HW0 := Lib.hid hbel
    have HRR0 := Lib.hid (HR0.out.below hbel2)
    have hsz : w.heap.size + 2 ≤ wc.heap.size := by have := hbel2.size; simpa using this
    have cw1 := (HBP.out.below hbel2).c 1 rfl
    clear hbx hrow hbel hbel2 hmk ck0 ck1
    go_wp2
    clear cw1
    go_loopw [18] (fun i wr => ∃ k : Nat, k ≤ xs.length ∧ i = .int .i64 k ∧ Box 96 wr p #[.int .i64 rel, .slice (some ⟨g, 0, none⟩) xs.length xs.length] ∧ Box 96 wr (w.heap.size + 1) #[.int .i64 0, .slice none 0 0] ∧ wr.ownsRow (w.heap.size + 2) 2 1 (.slice (some ⟨g, 0, none⟩) xs.length xs.length) xs.length (upto xs.length k (fun i => .int .i64 (intN tos (intN xs i).toNat)) (.int .i64 0)) ∧ Below w.heap.size w wr) (fun i _ => xs.length - (intOf i).toNat)
    case atStart =>
      refine ⟨0, Nat.zero_le _, rfl, HBX0.out, HRR0.out, ?_, HW0.out⟩
      rw [upto_zero]
      exact HROW0.out
    case round =>
      obtain ⟨k, hk, rfl, hbx, hb0, hown, hbel⟩ := hrel
      have HBX := Lib.hid hbx
      have HB0 := Lib.hid hb0
      have HW := Lib.hid hbel
      by_cases hlt : k < xs.length
      · obtain ⟨b1, off1, rfl, -, hx⟩ := SlAt.some_of HX.out k hlt
        have hx1 := below_cell HW.out hx
        obtain ⟨g0, g1⟩ := HRG.out k hlt
        obtain ⟨b2, off2, rfl, hcell2⟩ := HC2.out (by omega)
        have hx2 := below_cell HW.out (hcell2 (intN xs k).toNat (by omega))
        have hc2 := hown.cellAt k (by omega)
        rw [upto_at _ _ _ _ _ hlt, if_neg (by omega)] at hc2
        have hf2 := hown.frozenAt k
        have hst := Lib.hid (hown.stored k (.int .i64 (intN tos (intN xs k).toNat)))
        have hlt' : (k : Int) < (xs.length : Int) := by omega
        have c1 := HBX.out.c 1 rfl
        have HBX' := Lib.hid (HBX.out.other (a := ⟨g, k, none⟩) hpg (.int .i64 (intN tos (intN xs k).toNat)))
        have HB0' := Lib.hid (HB0.out.other (a := ⟨g, k, none⟩) (show w.heap.size + 1 ≠ g by omega) (.int .i64 (intN tos (intN xs k).toNat)))
        clear hown hbx hb0 hbel hcell2 hx
        go_wp2
        refine wp_region_noPanic ?_
        refine wp_region_late (S := (fun w' => w'.cell? ⟨p, 1, none⟩ = some (.slice (some ⟨g, 0, none⟩) xs.length xs.length) ∧ w'.cell? ⟨b2, off2 + (intN xs k).toNat, none⟩ = some (.int .i64 (intN tos (intN xs k).toNat)))) [8] (by kernel_rfl) ?_ (fun hHeld => ?_)
        · exact ⟨c1, hx2⟩
        refine wpAnyL_free (i := 0) (v := ?_) (some 23) rfl rfl (by kernel_rfl) (by kernel_rfl) (by kernel_rfl) (by decide) (fun _ _ _ h => h) (Or.inl ⟨by rfl, ?_⟩) (fun h0 => by assumption) ?_
        rotate_left
        · intro wS
          go_simp
          try with_reducible rfl
        try simp only [Act.put, List.setIfInBounds_toArray, List.set_cons_zero, List.set_cons_succ]
        refine wpAnyL_take (i := 1) (v := ?_) (some 24) rfl rfl (by kernel_rfl) (by kernel_rfl) (by kernel_rfl) (by kernel_rfl) (by kernel_rfl) (fun _ _ _ h => h) (Or.inl ⟨by rfl, ?_⟩) (by assumption) ?_
        rotate_left
        · intro wS hSw
          try dsimp only at hSw
          go_simp
          try with_reducible rfl
        try simp only [Act.put, List.setIfInBounds_toArray, List.set_cons_zero, List.set_cons_succ]
        refine wpAnyL_free (i := 2) (v := ?_) (some 25) rfl rfl (by kernel_rfl) (by kernel_rfl) (by kernel_rfl) (by decide) (fun _ _ _ h => h) (Or.inl ⟨by rfl, ?_⟩) (fun h0 => by assumption) ?_
        rotate_left
        · intro wS
          go_simp
          try with_reducible rfl
        try simp only [Act.put, List.setIfInBounds_toArray, List.set_cons_zero, List.set_cons_succ]
        refine wpAnyL_free (i := 3) (v := ?_) (some 26) rfl rfl (by kernel_rfl) (by kernel_rfl) (by kernel_rfl) (by decide) (fun _ _ _ h => h) (Or.inl ⟨by rfl, ?_⟩) (fun h0 => by assumption) ?_
        rotate_left
        · intro wS
          go_simp
          try with_reducible rfl
        try simp only [Act.put, List.setIfInBounds_toArray, List.set_cons_zero, List.set_cons_succ]
        refine wpAnyL_free (i := 4) (v := ?_) (some 27) rfl rfl (by kernel_rfl) (by kernel_rfl) (by kernel_rfl) (by decide) (fun _ _ _ h => h) (Or.inl ⟨by rfl, ?_⟩) (fun h0 => by assumption) ?_
        rotate_left
        · intro wS
          go_simp
          try with_reducible rfl
        try simp only [Act.put, List.setIfInBounds_toArray, List.set_cons_zero, List.set_cons_succ]
        refine wpAnyL_free (i := 5) (v := ?_) (some 28) rfl rfl (by kernel_rfl) (by kernel_rfl) (by kernel_rfl) (by decide) (fun _ _ _ h => h) (Or.inl ⟨by rfl, ?_⟩) (fun h0 => by assumption) ?_
        rotate_left
        · intro wS
          go_simp
          try with_reducible rfl
        try simp only [Act.put, List.setIfInBounds_toArray, List.set_cons_zero, List.set_cons_succ]
        refine wpAnyL_take (i := 6) (v := ?_) (some 29) rfl rfl (by kernel_rfl) (by kernel_rfl) (by kernel_rfl) (by kernel_rfl) (by kernel_rfl) (fun _ _ _ h => h) (Or.inl ⟨by rfl, ?_⟩) (by assumption) ?_
        rotate_left
        · intro wS hSw
          try dsimp only at hSw
          go_simp
          try with_reducible rfl
        try simp only [Act.put, List.setIfInBounds_toArray, List.set_cons_zero, List.set_cons_succ]
        refine wpAnyL_free (i := 7) (v := ?_) (some 30) rfl rfl (by kernel_rfl) (by kernel_rfl) (by kernel_rfl) (by decide) (fun _ _ _ h => h) (Or.inl ⟨by rfl, ?_⟩) (fun h0 => by assumption) ?_
        rotate_left
        · intro wS
          go_simp
          try with_reducible rfl
        try simp only [Act.put, List.setIfInBounds_toArray, List.set_cons_zero, List.set_cons_succ]
        refine wpAnyL_ready (rs := [8]) (by kernel_rfl) (by simp) ?_
        refine AllReadyL.last rfl (by kernel_rfl) (fun K hK => ?_) AllReadyL.nil
        go_simp
        refine hK.out _ _ ?_
        clear hK K
        try simp only [Act.put, List.setIfInBounds_toArray, List.set_cons_zero, List.set_cons_succ]
        refine wpAnyL_done (by kernel_rfl) ?_ _
        refine NoPanic.normal ?_
        go_wp2
        go_roundw
        case rel => exact ⟨k + 1, by omega, by go_num, HBX'.out, HB0'.out, by have h := hst.out.1; rwa [upto_set _ _ _ _ _ rfl] at h, (HW.out.setCell (p := ⟨g, k, none⟩) (by show w.heap.size ≤ g; omega) _).drew⟩
        case measure => simp [intOf]; omega

      · obtain rfl : k = xs.length := by omega
        have H : Hid (OwnRow wr (w.heap.size + 2) (.slice (some ⟨g, 0, none⟩) xs.length xs.length) (mapped tos xs)) := Lib.hid (by
          rw [upto_all] at hown
          show World.ownsRow _ _ _ _ _ _ _
          rw [mapped_len]
          unfold mapped mapK
          rw [List.map_map]
          exact hown)
        have d0 := HBX.out.c 0 rfl
        have d1 := HBX.out.c 1 rfl
        have e0 := HB0.out.c 0 rfl
        have e1 := HB0.out.c 1 rfl
        have f0 := HB0.out.free 0
        have f1 := HB0.out.free 1
        clear hown hbx hb0 hbel
        go_wp2
        refine bodyPost_ret (v := .agg #[.int .i64 rel, .slice (some ⟨g, 0, none⟩) xs.length xs.length]) (by simp [results, Try.results66, go_sem, e0, e1]) rfl ⟨_, _, _, rfl, ?_, ?_⟩
        · exact (((H.out.stored (by show w.heap.size + 1 < w.heap.size + 2; omega) _).stored (by show w.heap.size + 1 < w.heap.size + 2; omega) _).mono (by omega)).full
        · exact (HW.out.setCell (by show w.heap.size ≤ w.heap.size + 1; omega) _).setCell (by show w.heap.size ≤ w.heap.size + 1; omega) _

end Go.Proofs.Ythfjffgbccecgaa
