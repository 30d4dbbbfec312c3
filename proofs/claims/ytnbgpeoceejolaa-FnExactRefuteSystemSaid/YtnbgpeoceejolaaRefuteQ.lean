/-
  RefuteSystem of the program.
-/
import Derived.Test.YtnbgpeoceejolaaRefuteS
import Derived.Test.YtnbgpeoceejolaaGElimP
import Derived.Test.YtnbgpeoceejolaaClone
namespace Go.Proofs.Ytnbgpeoceejolaa
open Go.RowKit

theorem RefuteSystemIs.small {p u : Int} {rs : List (Int × List Int)} {zs : List Int} {cd : Int} (h : RefuteSystemIs p u rs zs cd) : zs.length ≤ 1048576 := by
  rcases h with ⟨h1, ⟨i, _, hi, _, rfl⟩, _⟩ | ⟨_, _, rfl, _⟩ | ⟨_, rfl, _⟩
  · obtain ⟨un, rfl⟩ := h1.unat
    have := (h1.good i hi).1
    have h24 := h1.2.2.1
    have hu := h1.2.1
    unfold InP at hu
    rw [rowScale_len, List.length_drop]
    simp only [Int.toNat_natCast]
    omega
  · simp
  · simp

set_option linter.unusedSimpArgs false in
set_option maxHeartbeats 4000000 in
set_option maxRecDepth 100000 in
theorem implRefuteSystem (p u : Int) (a : Option Addr) (n c : Nat) (rs : List (Int × List Int)) (zs : List Int) (cd : Int) (w : World) (h : EqsAt w (.slice a n c) rs) (hi : RefuteSystemIs p u rs zs cd) :
    Calls Try.prog 23 #[.agg #[.int .i64 p, .int .i64 u, .slice a n c]] w (MadeRow2 w zs cd) := by
  have HBX := Lib.hid (Box.new 30 w #[.int .i64 p, .int .i64 u, .slice a n c])
  have HW : Hid (Below w.heap.size w (w.alloc (.cells #[.int .i64 p, .int .i64 u, .slice a n c] 30))) := Lib.hid ((Below.refl _ _).alloc (Nat.le_refl _) _)
  have HEQ := Lib.hid (h.below HW.out)
  have HI := Lib.hid hi
  have x0 := HBX.out.c 0 rfl
  have x1 := HBX.out.c 1 rfl
  have x2 := HBX.out.c 2 rfl
  clear h hi
  go_enter Try.func23, Try.ntmps23
  by_cases hok : SysOk p u rs
  · have HOK := Lib.hid hok
    obtain ⟨un, rfl⟩ := hok.unat
    have hn24 := hok.2.2.1
    have hu12 : un ≤ 12 := by have := hok.2.1; unfold InP at this; omega
    clear hok
    go_wp2_with fail
    refine (implValidSystem _ _ _ _ _ rs true _ HEQ.out (Tells.yes HOK.out)).mono ?_
    rintro e w2 ⟨rfl, hb2⟩
    have y0 := below_cell hb2 x0
    have y1 := below_cell hb2 x1
    have y2 := below_cell hb2 x2
    have HEQ2 := Lib.hid (HEQ.out.below hb2)
    have HW2 := Lib.hid (HW.out.trans (hb2.mono HW.out.size))
    clear hb2 x0 x1 x2
    go_wp2_with fail
    refine (eliminationOfC p un a n c rs _ HEQ2.out HOK.out).mono ?_
    rintro e w3 ⟨eb, rb, g, s, F, rfl, he, hge, _, hebe, hb3⟩
    have HE := Lib.hid he
    have HW3 := Lib.hid (HW2.out.trans (hb3.mono HW2.out.size))
    have v1 := below_cell hb3 y1
    obtain ⟨m, hm⟩ := FalseAt.exists (elimE p rs.length (row0 rs) un).1 un (elimE p rs.length (row0 rs) un).2 rs.length HOK.out.dn
    have HM := Lib.hid hm
    have HGD := Lib.hid HOK.out.good
    have hdn := HOK.out.dn
    have HIF := Lib.hid fun (i : Nat) => HI.out.found (i := i) HOK.out
    have HIN := Lib.hid (HI.out.none (m := m) HOK.out HM.out)
    have HP := Lib.hid HOK.out.1
    have hp3 : 2 ≤ p ∧ p ≤ 3 := by rcases HOK.out.1 with rfl | rfl <;> omega
    clear he hb3 hm y0 y1 y2
    obtain ⟨S, hS⟩ : ∃ S, elimE p rs.length (row0 rs) un = S := ⟨_, rfl⟩
    obtain ⟨R, d⟩ := S
    rw [hS] at HM hdn HIF HGD HE
    clear hS
    go_wp2_with fail
    refine (contradictionC eb rb g rs.length (un + 1 + rs.length) un d s p F R m _ HE.out (by omega) hdn (by omega) HM.out).mono ?_
    rintro e w4 ⟨hh, rfl⟩
    rcases hh with ⟨i, rfl, h1, h2, rfl⟩ | ⟨rfl, rfl⟩
    · obtain ⟨l, hl⟩ : ∃ l, un + 1 + rs.length = l := ⟨_, rfl⟩
      obtain ⟨so, hso⟩ : ∃ so, s i * l = so := ⟨_, rfl⟩
      obtain ⟨t, ht⟩ : ∃ t, intN (R i) un = t := ⟨_, rfl⟩
      obtain ⟨hgl, hlow⟩ := HGD.out i h2
      have hlt := hlow.any (by omega) un
      rw [ht] at hlt
      have hfit := HE.out.rows.fits h2
      have HEQR := Lib.hid (HE.out.eq i h2)
      have HFLAT := Lib.hid HE.out.rows.flat
      obtain ⟨hcd, hzs⟩ := HIF.out i HM.out
      rw [ht] at hzs
      rw [hl, hso] at hfit
      have HAT : Hid (∀ j, j < l → F (so + j) = intN (R i) j) := Lib.hid fun j hj => by
        rw [← HEQR.out, hl, rowAtF_at hj, hso]
      have HROW : Hid (RowAt w3.drew (.slice (some ⟨g, so + (un + 1), none⟩) rs.length rs.length) ((R i).drop (un + 1))) := Lib.hid (by
        have hln : ((R i).drop (un + 1)).length = rs.length := by rw [List.length_drop, hgl]; omega
        unfold RowAt
        rw [hln]
        refine ⟨_, _, rfl, by omega, fun _ => ⟨g, so + (un + 1), rfl, fun j hj => ?_⟩⟩
        have e := HFLAT.out.1 (so + (un + 1) + j) (by omega)
        rw [Nat.add_assoc, HAT.out (un + 1 + j) (by omega)] at e
        show w3.drew.cell? ⟨g, so + (un + 1) + j, none⟩ = some (.int .i64 (intN ((R i).drop (un + 1)) j))
        rw [intN_drop, Nat.add_assoc]
        exact e)
      have HCELL : Hid (w3.drew.cell? ⟨g, so + un, none⟩ = some (.int .i64 t)) := Lib.hid (by
        have e := HFLAT.out.1 (so + un) (by omega)
        rw [HAT.out un (by omega), ht] at e
        exact e)
      have HMOD : Hid (w3.drew.cell? ⟨eb, 0, none⟩ = some (modV p)) := Lib.hid (HE.out.box.c 0 rfl)
      have v1d : w3.drew.cell? ⟨w.heap.size, 1, none⟩ = some (.int .i64 (un : Int)) := v1
      have HDL : Hid (((R i).drop (un + 1)).length = rs.length) := Lib.hid (by rw [List.length_drop, hgl]; omega)
      have HLD := Lib.hid (hlow.drop (un + 1))
      have HCD := Lib.hid hcd
      have HZS := Lib.hid hzs
      have HT := Lib.hid hlt
      have HWG : Hid (w.heap.size ≤ w3.heap.size) := Lib.hid HW3.out.size
      have hwr : IntKind.i64.wrap ((un : Int) + 1) = ((un + 1 : Nat) : Int) := by rw [IntWalk.i64_in _ (by omega)]; rfl
      have hll : ((un + 1 : Nat) : Int) ≤ (l : Int) := by omega
      have hul : (un : Int) < (l : Int) := by omega
      have hle : l - (un + 1) = rs.length := by omega
      have hne : ¬ l = un + 1 := by omega
      have hrl : 0 < rs.length := by omega
      rw [hl, hso]
      clear hl hso ht hgl hlow hlt hfit hcd hzs v1
      go_wp2_with fail
      refine (cloneInts _ ((R i).drop (un + 1)) _ HROW.out (by rw [HDL.out]; exact hrl) (by rw [HDL.out]; omega)).mono ?_
      rintro e w5 ⟨g5, c5, rfl, ho5, hb5⟩
      rw [HDL.out] at ho5 ⊢
      have hg5 := (ho5.lt g5 (by simp [Value.ownBlock])).1
      have HG5 : Hid (w.heap.size ≤ g5) := Lib.hid (Nat.le_trans HWG.out hg5)
      have HO5 := Lib.hid ho5
      have z0 := below_cell hb5 HMOD.out
      have z1 := below_cell hb5 v1d
      have z2 := below_cell hb5 HCELL.out
      have HW5 := Lib.hid ((HW3.out.drew).trans (hb5.mono HWG.out))
      clear ho5 hb5 hg5 v1d
      go_wp2_with fail
      refine wp_region_noPanic ?_
      refine wp_region_late (S := (fun w' => w'.cell? ⟨eb, 0, none⟩ = some (modV p) ∧ w'.cell? ⟨w.heap.size, 1, none⟩ = some (.int .i64 (un : Int)) ∧ w'.cell? ⟨g, so + un, none⟩ = some (.int .i64 t) ∧ Below w5.heap.size w5 w')) [10] (by kernel_rfl) ?_ (fun hHeld => ?_)
      · exact ⟨z0, z1, z2, (QW.refl _).drew.below _⟩
      refine wpAnyL_free (i := 0) (v := ?_) (some 26) rfl rfl (by kernel_rfl) (by kernel_rfl) (by kernel_rfl) (by decide) (fun _ _ _ h => h) (Or.inl ⟨by rfl, ?_⟩) (fun h0 => by assumption) ?_
      rotate_left
      · intro wS
        go_simp
        try with_reducible rfl
      try simp only [Act.put, List.setIfInBounds_toArray, List.set_cons_zero, List.set_cons_succ]
      refine wpAnyL_free (i := 1) (v := ?_) (some 27) rfl rfl (by kernel_rfl) (by kernel_rfl) (by kernel_rfl) (by decide) (fun _ _ _ h => h) (Or.inl ⟨by rfl, ?_⟩) (fun h0 => by assumption) ?_
      rotate_left
      · intro wS
        go_simp
        try with_reducible rfl
      try simp only [Act.put, List.setIfInBounds_toArray, List.set_cons_zero, List.set_cons_succ]
      refine wpAnyL_free (i := 2) (v := ?_) (some 28) rfl rfl (by kernel_rfl) (by kernel_rfl) (by kernel_rfl) (by decide) (fun _ _ _ h => h) (Or.inl ⟨by rfl, ?_⟩) (fun h0 => by assumption) ?_
      rotate_left
      · intro wS
        go_simp
        try with_reducible rfl
      try simp only [Act.put, List.setIfInBounds_toArray, List.set_cons_zero, List.set_cons_succ]
      refine wpAnyL_take (i := 3) (v := ?_) (some 29) rfl rfl (by kernel_rfl) (by kernel_rfl) (by kernel_rfl) (by kernel_rfl) (by kernel_rfl) (fun _ _ _ h => h) (Or.inl ⟨by rfl, ?_⟩) (by assumption) ?_
      rotate_left
      · intro wS hSw
        try dsimp only at hSw
        go_simp
        try with_reducible rfl
      try simp only [Act.put, List.setIfInBounds_toArray, List.set_cons_zero, List.set_cons_succ]
      refine wpAnyL_free (i := 4) (v := ?_) (some 30) rfl rfl (by kernel_rfl) (by kernel_rfl) (by kernel_rfl) (by decide) (fun _ _ _ h => h) (Or.inl ⟨by rfl, ?_⟩) (fun h0 => by assumption) ?_
      rotate_left
      · intro wS
        go_simp
        try with_reducible rfl
      try simp only [Act.put, List.setIfInBounds_toArray, List.set_cons_zero, List.set_cons_succ]
      refine wpAnyL_free (i := 5) (v := ?_) (some 31) rfl rfl (by kernel_rfl) (by kernel_rfl) (by kernel_rfl) (by decide) (fun _ _ _ h => h) (Or.inl ⟨by rfl, ?_⟩) (fun h0 => by assumption) ?_
      rotate_left
      · intro wS
        go_simp
        try with_reducible rfl
      try simp only [Act.put, List.setIfInBounds_toArray, List.set_cons_zero, List.set_cons_succ]
      refine wpAnyL_free (i := 6) (v := ?_) (some 32) rfl rfl (by kernel_rfl) (by kernel_rfl) (by kernel_rfl) (by decide) (fun _ _ _ h => h) (Or.inl ⟨by rfl, ?_⟩) (fun h0 => by assumption) ?_
      rotate_left
      · intro wS
        go_simp
        try with_reducible rfl
      try simp only [Act.put, List.setIfInBounds_toArray, List.set_cons_zero, List.set_cons_succ]
      refine wpAnyL_take (i := 7) (v := ?_) (some 33) rfl rfl (by kernel_rfl) (by kernel_rfl) (by kernel_rfl) (by kernel_rfl) (by kernel_rfl) (fun _ _ _ h => h) (Or.inl ⟨by rfl, ?_⟩) (by assumption) ?_
      rotate_left
      · intro wS hSw
        try dsimp only at hSw
        go_simp
        try with_reducible rfl
      try simp only [Act.put, List.setIfInBounds_toArray, List.set_cons_zero, List.set_cons_succ]
      refine wpAnyL_free (i := 8) (v := ?_) (some 34) rfl rfl (by kernel_rfl) (by kernel_rfl) (by kernel_rfl) (by decide) (fun _ _ _ h => h) (Or.inl ⟨by rfl, ?_⟩) (fun h0 => by assumption) ?_
      rotate_left
      · intro wS
        go_simp
        try with_reducible rfl
      try simp only [Act.put, List.setIfInBounds_toArray, List.set_cons_zero, List.set_cons_succ]
      refine wpAnyL_take (i := 9) (v := ?_) (some 35) rfl rfl (by kernel_rfl) (by kernel_rfl) (by kernel_rfl) (by kernel_rfl) (by kernel_rfl) (fun _ _ _ h => h) (Or.inl ⟨by rfl, ?_⟩) (by assumption) ?_
      rotate_left
      · intro wS hSw
        try dsimp only at hSw
        go_simp
        try with_reducible rfl
      try simp only [Act.put, List.setIfInBounds_toArray, List.set_cons_zero, List.set_cons_succ]
      refine wpAnyL_ready (rs := [10]) (by kernel_rfl) (by simp) ?_
      refine AllReadyL.last rfl (by kernel_rfl) (fun K hK => ?_) AllReadyL.nil
      go_simp; go_at_call 86; refine (dividedR p g5 _ rs.length c5 t _ _ HP.out (HO5.out.below hHeld.2.2.2) HDL.out HLD.out HT.out (by omega)).mono ?_; rintro e w6 ⟨rfl, ho6, hn6⟩
      refine hK.out _ _ ?_
      clear hK K
      try simp only [Act.put, List.setIfInBounds_toArray, List.set_cons_zero, List.set_cons_succ]
      refine wpAnyL_done (by kernel_rfl) ?_ _
      refine NoPanic.normal ?_
      have HW6 := Lib.hid ((HW5.out.trans (hHeld.2.2.2.mono HW5.out.size)).trans (hn6.below (Nat.le_trans HW5.out.size hHeld.2.2.2.size) (fun q hq => by have := HG5.out; omega)))
      have HO6 := Lib.hid ho6
      clear hHeld ho6 hn6 z0 z1 z2
      go_wp2
      go_ret2
      refine ⟨some ⟨g5, 0, none⟩, rs.length, c5, ?_, ?_, HW6.out⟩
      · rw [HCD.out]; rfl
      · rw [HZS.out]
        exact (HO6.out.mono HWG.out).full
    · obtain ⟨rfl, rfl⟩ := HIN.out (by decide)
      clear v1
      go_wp2
      go_ret2
      exact ⟨_, _, _, rfl, OwnRowE.nil _ _ _ (Nat.le_refl _), HW3.out.drew⟩
  · have HOK := Lib.hid hok
    obtain ⟨rfl, rfl⟩ := HI.out.bad hok
    clear hok
    go_wp2_with fail
    refine (implValidSystem _ _ _ _ _ rs false _ HEQ.out (Tells.no HOK.out)).mono ?_
    rintro e w2 ⟨rfl, hb2⟩
    have HW2 := Lib.hid (HW.out.trans (hb2.mono HW.out.size))
    clear hb2
    go_wp2
    go_ret2
    exact ⟨_, _, _, rfl, OwnRowE.nil _ _ _ (Nat.le_refl _), HW2.out⟩

end Go.Proofs.Ytnbgpeoceejolaa
