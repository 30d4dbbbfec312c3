/-
  Atoms with other variables: renamed and renamedAll of the program.
-/
import Derived.Test.YtnhamdjenmogjaaTab
import Derived.Test.YtnhamdjenmogjaaMoved
import Derived.Test.YtnhamdjenmogjaaApplyOp
import Derived.Deep.CutRange
namespace Go.Proofs.Ytnhamdjenmogjaa
open Go.RowKit

/-- What the first statement of renamed makes: a box with a row, in either order. -/
def RenMade (w : World) (n : Nat) (rel : Int) (v5 : Value) (wz : World) : Prop :=
  ∃ p g, v5 = .pointer (some ⟨p, 0, none⟩) ∧ w.heap.size + 2 ≤ p ∧ w.heap.size + 2 ≤ g ∧ p ≠ g ∧ Box 135 wz p #[.int .i64 rel, .slice (some ⟨g, 0, none⟩) n n] ∧ wz.ownsRow (w.heap.size + 2) 2 1 (.slice (some ⟨g, 0, none⟩) n n) n (List.replicate n (.int .i64 0)) ∧ Below w.heap.size w wz

set_option linter.unusedSimpArgs false in
set_option maxHeartbeats 2000000 in
set_option maxRecDepth 100000 in
theorem renamed (rel : Int) (a : Option Addr) (n c : Nat) (v2 : Value) (xs tos : List Int) (w : World) (h1 : RowAt w (.slice a n c) xs) (h2 : RowAt w v2 tos) (hl : xs.length ≤ 1000) (hr : ∀ i, i < xs.length → 0 ≤ intN xs i ∧ intN xs i < tos.length) :
    Calls Try.prog 112 #[.agg #[.int .i64 rel, .slice a n c], v2] w (MadeOp w rel (mapped tos xs)) := by
  obtain rfl : n = xs.length := by obtain ⟨_, _, hv, _⟩ := h1; simp only [Value.slice.injEq] at hv; exact hv.2.1
  have hmk := make_row xs.length hl
  have HX := Lib.hid h1
  have HRG := Lib.hid hr
  obtain ⟨a2, c2, rfl, hn2, hc2⟩ := h2
  have HC2 := Lib.hid hc2
  have K0 := Lib.hid (((Kept.start w).box w.heap.size rfl (.int .i64 rel) (.slice a xs.length c) 135).below ((Below.refl _ _).alloc (Nat.le_refl _) (.cells #[.int .i64 0, .slice none 0 0] 135)))
  have HR0 : Hid (Box 135 _ (w.heap.size + 1) #[.int .i64 0, .slice none 0 0]) := Lib.hid (by
    have h := Box.new 135 (w.alloc (.cells #[.int .i64 rel, .slice a xs.length c] 135)) #[.int .i64 0, .slice none 0 0]
    rwa [World.size_alloc] at h)
  have HBP : Hid (Box 135 _ w.heap.size #[.int .i64 rel, .slice a xs.length c]) := Lib.hid ((Box.new 135 w #[.int .i64 rel, .slice a xs.length c]).below ((Below.refl _ _).alloc (Nat.le_refl _) (.cells #[.int .i64 0, .slice none 0 0] 135)))
  have ck0 := K0.out.c 0 rfl
  have ck1 := K0.out.c 1 rfl
  clear h1 hr hc2
  go_enter Try.func112, Try.ntmps112
  go_upto_region 1 with fail
  go_cut [5] from 8 to 14 (fun v5 wz => RenMade w xs.length rel v5 wz ∧ Below ((w.alloc (.cells #[.int .i64 rel, .slice a xs.length c] 135)).alloc (.cells #[.int .i64 0, .slice none 0 0] 135)).heap.size ((w.alloc (.cells #[.int .i64 rel, .slice a xs.length c] 135)).alloc (.cells #[.int .i64 0, .slice none 0 0] 135)) wz)
  case first =>
    refine wp_region_noPanic ?_
    refine wp_region_late (S := (fun w' => w'.cell? ⟨w.heap.size, 0, none⟩ = some (.int .i64 rel) ∧ w'.cell? ⟨w.heap.size, 1, none⟩ = some (.slice a xs.length c))) [8] (by kernel_rfl) ?_ (fun hHeld => ?_)
    · exact ⟨ck0, ck1⟩
    refine wpAnyL_free (i := 0) (v := ?_) (some 8) rfl rfl (by kernel_rfl) (by kernel_rfl) (by kernel_rfl) (by decide) (fun _ _ _ h => h) (Or.inl ⟨by rfl, ?_⟩) (fun h0 => by assumption) ?_
    rotate_left
    · intro wS
      go_simp
      try with_reducible rfl
    try simp only [Act.put, List.setIfInBounds_toArray, List.set_cons_zero, List.set_cons_succ]
    refine wpAnyL_take (i := 1) (v := ?_) (some 9) rfl rfl (by kernel_rfl) (by kernel_rfl) (by kernel_rfl) (by kernel_rfl) (by kernel_rfl) (fun _ _ _ h => h) (Or.inl ⟨by rfl, ?_⟩) (by assumption) ?_
    rotate_left
    · intro wS hSw
      try dsimp only at hSw
      go_simp
      try with_reducible rfl
    try simp only [Act.put, List.setIfInBounds_toArray, List.set_cons_zero, List.set_cons_succ]
    refine wpAnyL_free (i := 2) (v := ?_) (some 10) rfl rfl (by kernel_rfl) (by kernel_rfl) (by kernel_rfl) (by decide) (fun _ _ _ h => h) (Or.inl ⟨by rfl, ?_⟩) (fun h0 => by assumption) ?_
    rotate_left
    · intro wS
      go_simp
      try with_reducible rfl
    try simp only [Act.put, List.setIfInBounds_toArray, List.set_cons_zero, List.set_cons_succ]
    refine wpAnyL_take (i := 3) (v := ?_) (some 11) rfl rfl (by kernel_rfl) (by kernel_rfl) (by kernel_rfl) (by kernel_rfl) (by kernel_rfl) (fun _ _ _ h => h) (Or.inl ⟨by rfl, ?_⟩) (by assumption) ?_
    rotate_left
    · intro wS hSw
      try dsimp only at hSw
      go_simp
      try with_reducible rfl
    try simp only [Act.put, List.setIfInBounds_toArray, List.set_cons_zero, List.set_cons_succ]
    refine wpAnyL_free (i := 4) (v := ?_) (some 12) rfl rfl (by kernel_rfl) (by kernel_rfl) (by kernel_rfl) (by decide) (fun _ _ _ h => h) (Or.inl ⟨by rfl, ?_⟩) (fun h0 => by assumption) ?_
    rotate_left
    · intro wS
      go_simp
      try with_reducible rfl
    try simp only [Act.put, List.setIfInBounds_toArray, List.set_cons_zero, List.set_cons_succ]
    refine wpAnyL_ready (rs := [5, 7]) (by kernel_rfl) (by simp) ?_
    refine AllReadyL.cons rfl (fun K hK => ?_) ?_
    · skip
      go_simp
      refine hK.out _ _ ?_ (fun hHeld => ?_)
      · exact ⟨below_cell ((Below.refl _ _).alloc (Nat.le_refl _) _) hHeld.1, below_cell ((Below.refl _ _).alloc (Nat.le_refl _) _) hHeld.2⟩
      clear hK K
      try simp only [Act.put, List.setIfInBounds_toArray, List.set_cons_zero, List.set_cons_succ]
      refine wpAnyL_free (i := 6) (v := ?_) (some 14) rfl rfl (by kernel_rfl) (by kernel_rfl) (by kernel_rfl) (by decide) (fun _ _ _ h => h) (Or.inl ⟨by rfl, ?_⟩) (fun h0 => by assumption) ?_
      rotate_left
      · intro wS
        go_simp
        try with_reducible rfl
      try simp only [Act.put, List.setIfInBounds_toArray, List.set_cons_zero, List.set_cons_succ]
      refine wpAnyL_ready (rs := [7]) (by kernel_rfl) (by simp) ?_
      refine AllReadyL.cons rfl (fun K hK => ?_) AllReadyL.nil
      go_simp
      refine hK.out _ _ ?_ (fun hHeld => ?_)
      · exact ⟨below_cell ((Below.refl _ _).alloc (Nat.le_refl _) _) hHeld.1, below_cell ((Below.refl _ _).alloc (Nat.le_refl _) _) hHeld.2⟩
      clear hK K
      try simp only [Act.put, List.setIfInBounds_toArray, List.set_cons_zero, List.set_cons_succ]
      refine wpAnyL_ready (rs := [8]) (by kernel_rfl) (by simp) ?_
      refine AllReadyL.last rfl (by kernel_rfl) (fun K hK => ?_) AllReadyL.nil
      go_simp
      refine hK.out _ _ ?_
      clear hK K
      try simp only [Act.put, List.setIfInBounds_toArray, List.set_cons_zero, List.set_cons_succ]
      refine wpAnyL_done (by kernel_rfl) ?_ _
      refine NoPanic.normal ?_
      go_wp2
      go_meet
      refine ⟨?_, (((Below.refl _ ((w.alloc (.cells #[.int .i64 rel, .slice a xs.length c] 135)).alloc (.cells #[.int .i64 0, .slice none 0 0] 135))).alloc (Nat.le_refl _) _).alloc (by simp <;> omega) _).drew⟩
      refine ⟨w.heap.size + 3, w.heap.size + 2, rfl, by omega, by omega, by omega, ?_, ?_, ?_⟩
      · have h := Box.new 135 (((w.alloc (.cells #[.int .i64 rel, .slice a xs.length c] 135)).alloc (.cells #[.int .i64 0, .slice none 0 0] 135)).alloc (.cells (Array.replicate xs.length (Value.int .i64 0)) 2)) #[.int .i64 rel, .slice (some ⟨w.heap.size + 2, 0, none⟩) xs.length xs.length]
        simp only [World.size_alloc] at h
        exact h
      · have h := own_new ((w.alloc (.cells #[.int .i64 rel, .slice a xs.length c] 135)).alloc (.cells #[.int .i64 0, .slice none 0 0] 135)) (w.heap.size + 2) xs.length (.int .i64 0) (by simp) (by omega)
        simp only [World.size_alloc] at h
        exact h.alloc _
      · exact (((((Below.refl _ _).alloc (Nat.le_refl _) _).alloc (by simp) _).alloc (by simp; omega) _).alloc (by simp; omega) _).drew
    refine AllReadyL.cons rfl (fun K hK => ?_) AllReadyL.nil
    go_simp
    refine hK.out _ _ ?_ (fun hHeld => ?_)
    · exact ⟨below_cell ((Below.refl _ _).alloc (Nat.le_refl _) _) hHeld.1, below_cell ((Below.refl _ _).alloc (Nat.le_refl _) _) hHeld.2⟩
    clear hK K
    try simp only [Act.put, List.setIfInBounds_toArray, List.set_cons_zero, List.set_cons_succ]
    refine wpAnyL_ready (rs := [5]) (by kernel_rfl) (by simp) ?_
    refine AllReadyL.cons rfl (fun K hK => ?_) AllReadyL.nil
    go_simp
    refine hK.out _ _ ?_ (fun hHeld => ?_)
    · exact ⟨below_cell ((Below.refl _ _).alloc (Nat.le_refl _) _) hHeld.1, below_cell ((Below.refl _ _).alloc (Nat.le_refl _) _) hHeld.2⟩
    clear hK K
    try simp only [Act.put, List.setIfInBounds_toArray, List.set_cons_zero, List.set_cons_succ]
    refine wpAnyL_free (i := 6) (v := ?_) (some 14) rfl rfl (by kernel_rfl) (by kernel_rfl) (by kernel_rfl) (by decide) (fun _ _ _ h => h) (Or.inl ⟨by rfl, ?_⟩) (fun h0 => by assumption) ?_
    rotate_left
    · intro wS
      go_simp
      try with_reducible rfl
    try simp only [Act.put, List.setIfInBounds_toArray, List.set_cons_zero, List.set_cons_succ]
    refine wpAnyL_ready (rs := [8]) (by kernel_rfl) (by simp) ?_
    refine AllReadyL.last rfl (by kernel_rfl) (fun K hK => ?_) AllReadyL.nil
    go_simp
    refine hK.out _ _ ?_
    clear hK K
    try simp only [Act.put, List.setIfInBounds_toArray, List.set_cons_zero, List.set_cons_succ]
    refine wpAnyL_done (by kernel_rfl) ?_ _
    refine NoPanic.normal ?_
    go_wp2
    go_meet
    refine ⟨?_, (((Below.refl _ ((w.alloc (.cells #[.int .i64 rel, .slice a xs.length c] 135)).alloc (.cells #[.int .i64 0, .slice none 0 0] 135))).alloc (Nat.le_refl _) _).alloc (by simp <;> omega) _).drew⟩
    refine ⟨w.heap.size + 2, w.heap.size + 3, rfl, by omega, by omega, by omega, ?_, ?_, ?_⟩
    · have h := (Box.new 135 ((w.alloc (.cells #[.int .i64 rel, .slice a xs.length c] 135)).alloc (.cells #[.int .i64 0, .slice none 0 0] 135)) #[.int .i64 rel, .slice (some ⟨w.heap.size + 3, 0, none⟩) xs.length xs.length]).below ((Below.refl _ _).alloc (Nat.le_refl _) (.cells (Array.replicate xs.length (Value.int .i64 0)) 2))
      simp only [World.size_alloc] at h
      exact h
    · have h := own_new (((w.alloc (.cells #[.int .i64 rel, .slice a xs.length c] 135)).alloc (.cells #[.int .i64 0, .slice none 0 0] 135)).alloc (.cells #[.int .i64 rel, .slice (some ⟨w.heap.size + 3, 0, none⟩) xs.length xs.length] 135)) (w.heap.size + 2) xs.length (.int .i64 0) (by simp) (by omega)
      simp only [World.size_alloc] at h
      exact h
    · exact (((((Below.refl _ _).alloc (Nat.le_refl _) _).alloc (by simp) _).alloc (by simp; omega) _).alloc (by simp; omega) _).drew

  case rest =>
    obtain ⟨⟨p, g, rfl, hp, hg, hpg, hbx, hrow, hbel⟩, hbel2⟩ := hcut
    have HBX0 := Lib.hid hbx
    have HROW0 := Lib.hid hrow
    have HW0 := Lib.hid hbel
    have HRR0 := Lib.hid (HR0.out.below hbel2)
    have hsz : w.heap.size + 2 ≤ wc.heap.size := by have := hbel2.size; simpa using this
    have cw1 := (HBP.out.below hbel2).c 1 rfl
    clear hbx hrow hbel hbel2 hmk ck0 ck1
    go_wp2
    clear cw1
    go_loopw [18] (fun i wr => ∃ k : Nat, k ≤ xs.length ∧ i = .int .i64 k ∧ Box 135 wr p #[.int .i64 rel, .slice (some ⟨g, 0, none⟩) xs.length xs.length] ∧ Box 135 wr (w.heap.size + 1) #[.int .i64 0, .slice none 0 0] ∧ wr.ownsRow (w.heap.size + 2) 2 1 (.slice (some ⟨g, 0, none⟩) xs.length xs.length) xs.length (upto xs.length k (fun i => .int .i64 (intN tos (intN xs i).toNat)) (.int .i64 0)) ∧ Below w.heap.size w wr) (fun i _ => xs.length - (intOf i).toNat)
    case atStart =>
      refine ⟨0, Nat.zero_le _, rfl, HBX0.out, HRR0.out, ?_, HW0.out⟩
      rw [upto_zero]
      exact HROW0.out
    case round =>
      obtain ⟨k, hk, rfl, hbx, hb0, hown, hbel⟩ := hrel
      have HBX := Lib.hid hbx
      have HB0 := Lib.hid hb0
      have HW := Lib.hid hbel
      by_cases hlt : k < xs.length
      · obtain ⟨b1, off1, rfl, -, hx⟩ := SlAt.some_of HX.out k hlt
        have hx1 := below_cell HW.out hx
        obtain ⟨g0, g1⟩ := HRG.out k hlt
        obtain ⟨b2, off2, rfl, hcell2⟩ := HC2.out (by omega)
        have hx2 := below_cell HW.out (hcell2 (intN xs k).toNat (by omega))
        have hc2 := hown.cellAt k (by omega)
        rw [upto_at _ _ _ _ _ hlt, if_neg (by omega)] at hc2
        have hf2 := hown.frozenAt k
        have hst := Lib.hid (hown.stored k (.int .i64 (intN tos (intN xs k).toNat)))
        have hlt' : (k : Int) < (xs.length : Int) := by omega
        have c1 := HBX.out.c 1 rfl
        have HBX' := Lib.hid (HBX.out.other (a := ⟨g, k, none⟩) hpg (.int .i64 (intN tos (intN xs k).toNat)))
        have HB0' := Lib.hid (HB0.out.other (a := ⟨g, k, none⟩) (show w.heap.size + 1 ≠ g by omega) (.int .i64 (intN tos (intN xs k).toNat)))
        clear hown hbx hb0 hbel hcell2 hx
        go_wp2
        refine wp_region_noPanic ?_
        refine wp_region_late (S := (fun w' => w'.cell? ⟨p, 1, none⟩ = some (.slice (some ⟨g, 0, none⟩) xs.length xs.length) ∧ w'.cell? ⟨b2, off2 + (intN xs k).toNat, none⟩ = some (.int .i64 (intN tos (intN xs k).toNat)))) [8] (by kernel_rfl) ?_ (fun hHeld => ?_)
        · exact ⟨c1, hx2⟩
        refine wpAnyL_free (i := 0) (v := ?_) (some 23) rfl rfl (by kernel_rfl) (by kernel_rfl) (by kernel_rfl) (by decide) (fun _ _ _ h => h) (Or.inl ⟨by rfl, ?_⟩) (fun h0 => by assumption) ?_
        rotate_left
        · intro wS
          go_simp
          try with_reducible rfl
        try simp only [Act.put, List.setIfInBounds_toArray, List.set_cons_zero, List.set_cons_succ]
        refine wpAnyL_take (i := 1) (v := ?_) (some 24) rfl rfl (by kernel_rfl) (by kernel_rfl) (by kernel_rfl) (by kernel_rfl) (by kernel_rfl) (fun _ _ _ h => h) (Or.inl ⟨by rfl, ?_⟩) (by assumption) ?_
        rotate_left
        · intro wS hSw
          try dsimp only at hSw
          go_simp
          try with_reducible rfl
        try simp only [Act.put, List.setIfInBounds_toArray, List.set_cons_zero, List.set_cons_succ]
        refine wpAnyL_free (i := 2) (v := ?_) (some 25) rfl rfl (by kernel_rfl) (by kernel_rfl) (by kernel_rfl) (by decide) (fun _ _ _ h => h) (Or.inl ⟨by rfl, ?_⟩) (fun h0 => by assumption) ?_
        rotate_left
        · intro wS
          go_simp
          try with_reducible rfl
        try simp only [Act.put, List.setIfInBounds_toArray, List.set_cons_zero, List.set_cons_succ]
        refine wpAnyL_free (i := 3) (v := ?_) (some 26) rfl rfl (by kernel_rfl) (by kernel_rfl) (by kernel_rfl) (by decide) (fun _ _ _ h => h) (Or.inl ⟨by rfl, ?_⟩) (fun h0 => by assumption) ?_
        rotate_left
        · intro wS
          go_simp
          try with_reducible rfl
        try simp only [Act.put, List.setIfInBounds_toArray, List.set_cons_zero, List.set_cons_succ]
        refine wpAnyL_free (i := 4) (v := ?_) (some 27) rfl rfl (by kernel_rfl) (by kernel_rfl) (by kernel_rfl) (by decide) (fun _ _ _ h => h) (Or.inl ⟨by rfl, ?_⟩) (fun h0 => by assumption) ?_
        rotate_left
        · intro wS
          go_simp
          try with_reducible rfl
        try simp only [Act.put, List.setIfInBounds_toArray, List.set_cons_zero, List.set_cons_succ]
        refine wpAnyL_free (i := 5) (v := ?_) (some 28) rfl rfl (by kernel_rfl) (by kernel_rfl) (by kernel_rfl) (by decide) (fun _ _ _ h => h) (Or.inl ⟨by rfl, ?_⟩) (fun h0 => by assumption) ?_
        rotate_left
        · intro wS
          go_simp
          try with_reducible rfl
        try simp only [Act.put, List.setIfInBounds_toArray, List.set_cons_zero, List.set_cons_succ]
        refine wpAnyL_take (i := 6) (v := ?_) (some 29) rfl rfl (by kernel_rfl) (by kernel_rfl) (by kernel_rfl) (by kernel_rfl) (by kernel_rfl) (fun _ _ _ h => h) (Or.inl ⟨by rfl, ?_⟩) (by assumption) ?_
        rotate_left
        · intro wS hSw
          try dsimp only at hSw
          go_simp
          try with_reducible rfl
        try simp only [Act.put, List.setIfInBounds_toArray, List.set_cons_zero, List.set_cons_succ]
        refine wpAnyL_free (i := 7) (v := ?_) (some 30) rfl rfl (by kernel_rfl) (by kernel_rfl) (by kernel_rfl) (by decide) (fun _ _ _ h => h) (Or.inl ⟨by rfl, ?_⟩) (fun h0 => by assumption) ?_
        rotate_left
        · intro wS
          go_simp
          try with_reducible rfl
        try simp only [Act.put, List.setIfInBounds_toArray, List.set_cons_zero, List.set_cons_succ]
        refine wpAnyL_ready (rs := [8]) (by kernel_rfl) (by simp) ?_
        refine AllReadyL.last rfl (by kernel_rfl) (fun K hK => ?_) AllReadyL.nil
        go_simp
        refine hK.out _ _ ?_
        clear hK K
        try simp only [Act.put, List.setIfInBounds_toArray, List.set_cons_zero, List.set_cons_succ]
        refine wpAnyL_done (by kernel_rfl) ?_ _
        refine NoPanic.normal ?_
        go_wp2
        go_roundw
        case rel => exact ⟨k + 1, by omega, by go_num, HBX'.out, HB0'.out, by have h := hst.out.1; rwa [upto_set _ _ _ _ _ rfl] at h, (HW.out.setCell (p := ⟨g, k, none⟩) (by show w.heap.size ≤ g; omega) _).drew⟩
        case measure => simp [intOf]; omega

      · obtain rfl : k = xs.length := by omega
        have H : Hid (OwnRow wr (w.heap.size + 2) (.slice (some ⟨g, 0, none⟩) xs.length xs.length) (mapped tos xs)) := Lib.hid (by
          rw [upto_all] at hown
          show World.ownsRow _ _ _ _ _ _ _
          rw [mapped_len]
          unfold mapped mapK
          rw [List.map_map]
          exact hown)
        have d0 := HBX.out.c 0 rfl
        have d1 := HBX.out.c 1 rfl
        have e0 := HB0.out.c 0 rfl
        have e1 := HB0.out.c 1 rfl
        have f0 := HB0.out.free 0
        have f1 := HB0.out.free 1
        clear hown hbx hb0 hbel
        go_wp2
        refine bodyPost_ret (v := .agg #[.int .i64 rel, .slice (some ⟨g, 0, none⟩) xs.length xs.length]) (by simp [results, Try.results112, go_sem, e0, e1]) rfl ⟨_, _, _, rfl, ?_, ?_⟩
        · exact (((H.out.stored (by show w.heap.size + 1 < w.heap.size + 2; omega) _).stored (by show w.heap.size + 1 < w.heap.size + 2; omega) _).mono (by omega)).full
        · exact (HW.out.setCell (by show w.heap.size ≤ w.heap.size + 1; omega) _).setCell (by show w.heap.size ≤ w.heap.size + 1; omega) _

set_option linter.unusedSimpArgs false in
set_option maxHeartbeats 2000000 in
set_option maxRecDepth 100000 in
theorem renamedAll (v1 v2 : Value) (rs : List (Int × List Int)) (tos : List Int) (w : World) (h1 : OpsAt w v1 rs) (h2 : RowAt w v2 tos) (hl : ∀ k, k < rs.length → (rowO rs k).length ≤ 1000) (hr : ∀ k, k < rs.length → ∀ i, i < (rowO rs k).length → 0 ≤ intN (rowO rs k) i ∧ intN (rowO rs k) i < tos.length) (hm : rs.length ≤ 1000) :
    Calls Try.prog 85 #[v1, v2] w (MadeOps 135 w (movedL rs tos)) := by
  obtain ⟨i0, hi, hz0, hz1, hz2⟩ := info_parts info_Atom
  obtain ⟨a1, c1, rfl, hn1, hc1⟩ := h1
  have HC1 := Lib.hid hc1
  have HT0 := Lib.hid h2
  have HL := Lib.hid hl
  have HRR := Lib.hid hr
  clear hc1 h2 hl hr
  go_enter Try.func85, Try.ntmps85
  go_wp2
  go_loopw [5, 10] (fun v i wr => ∃ (k : Nat) (a : Option Addr) (n c : Nat), k ≤ rs.length ∧ i = .int .i64 k ∧ v = .slice a n c ∧ OwnOps 135 wr w.heap.size wr.heap.size (.slice a n c) (movedK rs tos k) ∧ Below w.heap.size w wr) (fun _ i _ => rs.length - (intOf i).toNat)
  case atStart => exact ⟨0, _, _, _, Nat.zero_le _, rfl, rfl, OwnOps.nil _ _ _ _ (Nat.le_refl _), Below.refl _ _⟩
  case round =>
    obtain ⟨k, a, n, c, hk, rfl, rfl, hg, hbr⟩ := hrel
    have HG := Lib.hid hg
    have HBR := Lib.hid hbr
    clear hg hbr
    by_cases hlt : k < rs.length
    · obtain ⟨b1, off1, ha1, hcell1⟩ := HC1.out (by omega)
      subst ha1
      obtain ⟨y0, a2, n2, c2, y1, hr0⟩ := hcell1 k hlt
      have HR0 := Lib.hid hr0
      have HRG := Lib.hid (HRR.out k hlt)
      have hl4 := HL.out k hlt
      have hlt' : (k : Int) < (rs.length : Int) := by omega
      have y0 := below_cell HBR.out y0
      have y1 := below_cell HBR.out y1
      have HAL0 := Lib.hid ((Below.refl wr.heap.size wr).alloc (Nat.le_refl _) (.cells #[.int .i64 (arO rs k), .slice a2 n2 c2] 135))
      clear hcell1 hr0
      go_wp2_with fail
      refine (renamed (arO rs k) a2 n2 c2 _ (rowO rs k) tos _ ((HR0.out.below HBR.out).below HAL0.out) ((HT0.out.below HBR.out).below HAL0.out) hl4 HRG.out).mono ?_
      rintro e w3 ⟨a3, n3, c3, rfl, ho3, hb3⟩
      have HB3 := Lib.hid (HAL0.out.trans (hb3.mono HAL0.out.size))
      have HO3 := Lib.hid (ho3.row.mono HAL0.out.size)
      obtain ⟨V, hV⟩ := HG.out
      have hV' := hV
      obtain ⟨xs, hxo, hxx⟩ := hV'.outer
      have HV := Lib.hid hV
      have HX := Lib.hid hxx
      have HXO := Lib.hid hxo
      have hxl := ownsRow_len hxo
      have HXL := Lib.hid hxl
      have hmk := movedK_len rs tos k (by omega)
      have HMK := Lib.hid hmk
      have HAL := Lib.hid ((Below.refl w3.heap.size w3).alloc (Nat.le_refl _) (.cells #[.int .i64 (arO rs k), .slice a3 n3 c3] 135))
      clear hV hV' hxx hxl hmk hxo ho3 hb3 y0 y1
      go_wp2_with (at_builtin; refine wpList_append_lies _ rfl _ _ 64 rfl w.heap.size 135 i0 (.agg #[.int .i64 0, .slice none 0 0]) 2 32 Try.underlying64 hi hz0 hz1 hz2 rfl (by decide) (.slice a n c) (movedK rs tos k).length _ rfl ((ownsRow_below HXO.out HB3.out).alloc _) _ 1 1 [.int .i64 (arO rs k), .slice a3 n3 c3] rfl rfl (fun j u hu => World.news_of_block (heap_alloc_new w3 _) j u (by simpa using hu)) (by simp [Value.oneCell']) (by omega) (by rw [HMK.out]; unfold maxLen; omega) (by rw [HMK.out]; omega) (by have := HB3.out.size; have := HBR.out.size; simp; omega) _ rfl ?_; intro g5 cap5 w5 hown5 hgrow5 hat5 hlt5; have HGM := Lib.hid (OwnOpsV.grow HV.out rfl HXL.out HX.out (HB3.out.trans (HAL.out.mono HB3.out.size)) (OwnRow.below HO3.out HAL.out) HBR.out.size hown5 hgrow5 (fun g hg => by obtain rfl : g5 = g := by { simpa [Value.ownBlock] using hg }; exact hat5.elim .inl (fun e => .inr (by omega)))); have HB5 := Lib.hid (((HBR.out.trans ((HB3.out.trans (HAL.out.mono HB3.out.size)).mono HBR.out.size))).grown hgrow5 (by have := HB3.out.size; have := HBR.out.size; simp; omega) (fun q hq => (HXO.out.lt q hq).1)); clear hown5 hgrow5 hat5 hlt5)
      go_roundw
      case rel =>
        refine ⟨k + 1, _, _, _, by omega, by go_num, rfl, ?_, HB5.out⟩
        rw [movedK_succ rs tos k hlt]
        have e : (movedK rs tos k ++ [(arO rs k, mapped tos (rowO rs k))]).length = (movedK rs tos k).length + 1 := by simp
        show ∃ V, OwnOpsV _ _ _ _ _ (movedK rs tos k ++ [(arO rs k, mapped tos (rowO rs k))]).length V _
        rw [e]
        exact ⟨_, HGM.out⟩
      case measure => simp [intOf]; omega
    · obtain rfl : k = rs.length := by omega
      go_wp2
      go_ret
      exact ⟨a, n, c, rfl, HG.out, HBR.out⟩

end Go.Proofs.Ytnhamdjenmogjaa
