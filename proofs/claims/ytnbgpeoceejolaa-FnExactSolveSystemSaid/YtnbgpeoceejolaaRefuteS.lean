/-
  RefuteSystem of the model.
-/
import Derived.Test.YtnbgpeoceejolaaGElimM
import Derived.Test.YtnbgpeoceejolaaDepends
namespace Go.Proofs.Ytnbgpeoceejolaa
open Go.RowKit

/-- What RefuteSystem answers. -/
def RefuteSystemIs (p u : Int) (rs : List (Int × List Int)) (zs : List Int) (cd : Int) : Prop :=
  (SysOk p u rs ∧ (∃ i : Nat, (elimE p rs.length (row0 rs) u.toNat).2 ≤ i ∧ i < rs.length ∧ FalseAt (elimE p rs.length (row0 rs) u.toNat).1 u.toNat (elimE p rs.length (row0 rs) u.toNat).2 rs.length i ∧ zs = rowScale p (intN ((elimE p rs.length (row0 rs) u.toNat).1 i) u.toNat) (((elimE p rs.length (row0 rs) u.toNat).1 i).drop (u.toNat + 1))) ∧ cd = 0) ∨ (SysOk p u rs ∧ ¬ NoAns p u.toNat rs ∧ zs = [] ∧ cd = 6) ∨ (¬ SysOk p u rs ∧ zs = [] ∧ cd = 1)
theorem SysOk.dn {p : Int} {u : Nat} {rs : List (Int × List Int)} (h : SysOk p u rs) : (elimE p rs.length (row0 rs) u).2 ≤ rs.length := (elimE_good (l := u + 1 + rs.length) (by rcases h.1 with rfl | rfl <;> omega) (row0_good h) u).2
theorem SysOk.good {p : Int} {u : Nat} {rs : List (Int × List Int)} (h : SysOk p u rs) : GoodR p rs.length (u + 1 + rs.length) (elimE p rs.length (row0 rs) u).1 := (elimE_good (l := u + 1 + rs.length) (by rcases h.1 with rfl | rfl <;> omega) (row0_good h) u).1
theorem SysOk.unat {p u : Int} {rs : List (Int × List Int)} (h : SysOk p u rs) : ∃ un : Nat, u = un := ⟨u.toNat, by have := h.2.1; unfold InP at this; omega⟩
theorem ownE_new (w : World) (B : Nat) (hB : B ≤ w.heap.size) : OwnRowE (w.alloc (.cells #[] 2)) B (w.alloc (.cells #[] 2)).heap.size (.slice (some ⟨w.heap.size, 0, none⟩) 0 0) [] :=
  OwnRow.full (World.ownsRow_lit (e := 2) (size := 1) w #[] 0 hB (by unfold maxLen; omega) (by simp))
theorem RefuteSystemIs.exists (p u : Int) (rs : List (Int × List Int)) : ∃ zs cd, RefuteSystemIs p u rs zs cd := by
  by_cases h1 : SysOk p u rs
  · obtain ⟨un, rfl⟩ := h1.unat
    obtain ⟨m, hm⟩ := FalseAt.exists (elimE p rs.length (row0 rs) un).1 un (elimE p rs.length (row0 rs) un).2 rs.length h1.dn
    by_cases h2 : NoAns p un rs
    · rcases id hm with ⟨i, g1, g2, rfl, _⟩ | ⟨rfl, g⟩
      · exact ⟨_, 0, .inl ⟨h1, ⟨i, g1, g2, hm, rfl⟩, rfl⟩⟩
      · obtain ⟨j, j1, j2, j3⟩ := h2
        exact absurd (g j j1 j2) j3
    · exact ⟨[], 6, .inr (.inl ⟨h1, h2, rfl, rfl⟩)⟩
  · exact ⟨[], 1, .inr (.inr ⟨h1, rfl, rfl⟩)⟩
theorem FalseAt.unique {R : Nat → List Int} {u d n : Nat} {m m' : Int} (h : FalseAt R u d n m) (h' : FalseAt R u d n m') : m = m' := by
  rcases h with ⟨i, a1, a2, rfl, a4, a5⟩ | ⟨rfl, a⟩ <;> rcases h' with ⟨j, b1, b2, rfl, b4, b5⟩ | ⟨rfl, b⟩
  · rcases Nat.lt_trichotomy i j with h | rfl | h
    · exact absurd (b5 i a1 h) a4
    · rfl
    · exact absurd (a5 j b1 h) b4
  · exact absurd (b i a1 a2) a4
  · exact absurd (a j b1 b2) b4
  · rfl
theorem RefuteSystemIs.found {p : Int} {un : Nat} {rs : List (Int × List Int)} {zs : List Int} {cd : Int} {i : Nat} (h : RefuteSystemIs p un rs zs cd) (hok : SysOk p un rs) (hm : FalseAt (elimE p rs.length (row0 rs) un).1 un (elimE p rs.length (row0 rs) un).2 rs.length i) :
    cd = 0 ∧ zs = rowScale p (intN ((elimE p rs.length (row0 rs) un).1 i) un) (((elimE p rs.length (row0 rs) un).1 i).drop (un + 1)) := by
  rcases h with ⟨_, ⟨j, _, _, hj, rfl⟩, rfl⟩ | ⟨_, h2, _⟩ | ⟨h1, _⟩
  · have e : (j : Int) = (i : Int) := hj.unique hm
    obtain rfl : j = i := by omega
    exact ⟨rfl, rfl⟩
  · exact absurd (show ¬ ∃ j, _ from h2) (fun k => by
      rcases hm with ⟨i', a1, a2, _, a4, _⟩ | ⟨e, _⟩
      · exact k ⟨i', a1, a2, a4⟩
      · omega)
  · exact absurd hok h1
theorem RefuteSystemIs.none {p : Int} {un : Nat} {rs : List (Int × List Int)} {zs : List Int} {cd : Int} {m : Int} (h : RefuteSystemIs p un rs zs cd) (hok : SysOk p un rs) (hm : FalseAt (elimE p rs.length (row0 rs) un).1 un (elimE p rs.length (row0 rs) un).2 rs.length m) (hneg : m < 0) : cd = 6 ∧ zs = [] := by
  rcases h with ⟨_, ⟨j, _, _, hj, _⟩, _⟩ | ⟨_, _, rfl, rfl⟩ | ⟨h1, _⟩
  · have := hj.unique hm
    omega
  · exact ⟨rfl, rfl⟩
  · exact absurd hok h1
theorem RefuteSystemIs.bad {p u : Int} {rs : List (Int × List Int)} {zs : List Int} {cd : Int} (h : RefuteSystemIs p u rs zs cd) (hok : ¬ SysOk p u rs) : cd = 1 ∧ zs = [] := by
  rcases h with ⟨h1, _⟩ | ⟨h1, _⟩ | ⟨_, rfl, rfl⟩
  · exact absurd h1 hok
  · exact absurd h1 hok
  · exact ⟨rfl, rfl⟩

set_option linter.unusedSimpArgs false in
set_option maxHeartbeats 4000000 in
set_option maxRecDepth 100000 in
theorem specRefuteSystem (p u : Int) (a : Option Addr) (n c : Nat) (rs : List (Int × List Int)) (zs : List Int) (cd : Int) (w : World) (h : EqsAt w (.slice a n c) rs) (hi : RefuteSystemIs p u rs zs cd) :
    Calls Try.prog 22 #[.agg #[.int .i64 p, .int .i64 u, .slice a n c]] w (MadeRow2 w zs cd) := by
  have HS := Lib.hid (SysAt.new w p u a n c rs 30 h)
  have HW : Hid (Below w.heap.size w (w.alloc (.cells #[.int .i64 p, .int .i64 u, .slice a n c] 30))) := Lib.hid ((Below.refl _ _).alloc (Nat.le_refl _) _)
  have HI := Lib.hid hi
  clear h hi
  go_enter Try.func22, Try.ntmps22
  by_cases hok : SysOk p u rs
  · have HOK := Lib.hid hok
    obtain ⟨un, rfl⟩ := hok.unat
    have hn24 := hok.2.2.1
    have hu12 : un ≤ 12 := by have := hok.2.1; unfold InP at this; omega
    clear hok
    go_wp2_with fail
    refine (l07Ok _ _ _ _ rs true _ HS.out (Tells.yes HOK.out)).mono ?_
    rintro e w2 ⟨rfl, hq⟩
    have HS2 := Lib.hid (HS.out.below hq.bel)
    have HW2 := Lib.hid (HW.out.trans (hq.bel.mono HW.out.size))
    clear hq
    go_wp2_with fail
    refine (l07ReduceC _ _ p un rs _ HS2.out HOK.out).mono ?_
    rintro e w3 ⟨a3, c3, rfl, hmr, hb3⟩
    have HB3 := Lib.hid hb3
    have HW3 := Lib.hid (HW2.out.trans (hb3.mono HW2.out.size))
    have HBB : Hid (w.heap.size ≤ w2.heap.size) := Lib.hid HW2.out.size
    have x1 : w3.cell? ⟨w.heap.size, 0, none⟩ = some (.int .i64 p) := below_cell hb3 HS2.out.prime
    obtain ⟨m, hm⟩ := FalseAt.exists (elimE p rs.length (row0 rs) un).1 un (elimE p rs.length (row0 rs) un).2 rs.length HOK.out.dn
    have HM := Lib.hid hm
    have HMR : Hid (∃ rb VL VB, 0 < rs.length → a3 = some ⟨rb, 0, none⟩ ∧ MRows w3 rb w2.heap.size rs.length un VL VB (elimE p rs.length (row0 rs) un).1 ∧ w2.heap.size ≤ rb) := Lib.hid (by
      by_cases h0 : 0 < rs.length
      · obtain ⟨rb, VL, VB, h1, h3, _, h2⟩ := hmr h0
        exact ⟨rb, VL, VB, fun _ => ⟨h1, h2, h3⟩⟩
      · exact ⟨0, fun _ => .slice none 0 0, fun _ => .slice none 0 0, fun h => absurd h h0⟩)
    have HGD := Lib.hid HOK.out.good
    have hdn := HOK.out.dn
    have HIF := Lib.hid fun (i : Nat) => HI.out.found (i := i) HOK.out
    have HIN := Lib.hid (HI.out.none (m := m) HOK.out HM.out)
    have HP := Lib.hid HOK.out.1
    have hp3 : 2 ≤ p ∧ p ≤ 3 := by rcases HOK.out.1 with rfl | rfl <;> omega
    clear hmr hb3 hm
    obtain ⟨S, hS⟩ : ∃ S, elimE p rs.length (row0 rs) un = S := ⟨_, rfl⟩
    obtain ⟨R, d⟩ := S
    rw [hS] at HMR HM hdn HIF HGD ⊢
    clear hS
    obtain ⟨rb, VL, VB, hmm⟩ := HMR.out
    have HMM := Lib.hid hmm
    clear hmm
    go_wp2_with fail
    refine (l07FalseC a3 c3 rs.length d rb w2.heap.size un VL VB R m _ (fun h => ⟨(HMM.out h).1, (HMM.out h).2.1⟩) (by omega) hdn HM.out).mono ?_
    rintro e w3' ⟨rfl, rfl⟩
    rcases id HM.out with ⟨i, g1, g2, rfl, g4, g5⟩ | ⟨rfl, g5⟩
    · obtain ⟨rfl, hM, hrb⟩ := HMM.out (by omega)
      have hrow := hM.row i g2
      obtain ⟨la, lc, hvl⟩ : ∃ la lc, VL i = .slice la ((R i).take un).length lc := by obtain ⟨a, c, he, _⟩ := hrow.ownL.rowAt; exact ⟨a, c, he⟩
      obtain ⟨ba, bn, bc, hvb⟩ : ∃ ba bn bc, VB i = .slice ba bn bc := by obtain ⟨a, c, he, _⟩ := hrow.ownB.rowAt; exact ⟨a, _, c, he⟩
      rw [hvl, hvb] at hrow
      obtain ⟨hgl, hlow⟩ := HGD.out i g2
      obtain ⟨t, ht⟩ : ∃ t, intN (R i) un = t := ⟨_, rfl⟩
      have hlt := hlow.any (by omega) un
      rw [ht] at hlt hrow g4
      have x0 := hrow.right
      have HROW := Lib.hid hrow
      have HT : Hid (0 ≤ t ∧ t ≤ 2) := Lib.hid (by omega)
      have HL1 : Hid (Low3 ((R i).take un)) := Lib.hid ((hlow.take un).low3 hp3.2)
      have HL2 : Hid (Low3 ((R i).drop (un + 1))) := Lib.hid ((hlow.drop (un + 1)).low3 hp3.2)
      have HN1 : Hid (((R i).take un).length ≤ 1000) := Lib.hid (by rw [List.length_take]; omega)
      have HN2 : Hid (((R i).drop (un + 1)).length ≤ 1000) := Lib.hid (by rw [List.length_drop]; omega)
      have HRB := Lib.hid hrb
      obtain ⟨hcd, hzs⟩ := HIF.out i HM.out
      have HCD := Lib.hid hcd
      have HZS : Hid (zs = rowScale p t ((R i).drop (un + 1))) := Lib.hid (by rw [← ht]; exact hzs)
      have hneg : ¬ ((i : Int) < 0) := by omega
      have hin : (i : Int) < (rs.length : Int) := by omega
      clear hM hrow hgl hlow ht hlt hvl hvb hrb hcd hzs g4 g5
      go_wp2_with fail
      refine wp_region_noPanic ?_
      refine wp_region_late (S := (fun w' => w'.cell? ⟨rb, i * 3 + 1, none⟩ = some (.int .i64 t) ∧ w'.cell? ⟨w.heap.size, 0, none⟩ = some (.int .i64 p) ∧ Below w3.heap.size w3 w')) [10] (by kernel_rfl) ?_ (fun hHeld => ?_)
      · exact ⟨x0, x1, (QW.refl _).drew.below _⟩
      refine wpAnyL_free (i := 0) (v := ?_) (some 20) rfl rfl (by kernel_rfl) (by kernel_rfl) (by kernel_rfl) (by decide) (fun _ _ _ h => h) (Or.inl ⟨by rfl, ?_⟩) (fun h0 => by assumption) ?_
      rotate_left
      · intro wS
        go_simp
        try with_reducible rfl
      try simp only [Act.put, List.setIfInBounds_toArray, List.set_cons_zero, List.set_cons_succ]
      refine wpAnyL_free (i := 1) (v := ?_) (some 21) rfl rfl (by kernel_rfl) (by kernel_rfl) (by kernel_rfl) (by decide) (fun _ _ _ h => h) (Or.inl ⟨by rfl, ?_⟩) (fun h0 => by assumption) ?_
      rotate_left
      · intro wS
        go_simp
        try with_reducible rfl
      try simp only [Act.put, List.setIfInBounds_toArray, List.set_cons_zero, List.set_cons_succ]
      refine wpAnyL_free (i := 2) (v := ?_) (some 22) rfl rfl (by kernel_rfl) (by kernel_rfl) (by kernel_rfl) (by decide) (fun _ _ _ h => h) (Or.inl ⟨by rfl, ?_⟩) (fun h0 => by assumption) ?_
      rotate_left
      · intro wS
        go_simp
        try with_reducible rfl
      try simp only [Act.put, List.setIfInBounds_toArray, List.set_cons_zero, List.set_cons_succ]
      refine wpAnyL_free (i := 3) (v := ?_) (some 23) rfl rfl (by kernel_rfl) (by kernel_rfl) (by kernel_rfl) (by decide) (fun _ _ _ h => h) (Or.inl ⟨by rfl, ?_⟩) (fun h0 => by assumption) ?_
      rotate_left
      · intro wS
        go_simp
        try with_reducible rfl
      try simp only [Act.put, List.setIfInBounds_toArray, List.set_cons_zero, List.set_cons_succ]
      refine wpAnyL_free (i := 4) (v := ?_) (some 24) rfl rfl (by kernel_rfl) (by kernel_rfl) (by kernel_rfl) (by decide) (fun _ _ _ h => h) (Or.inl ⟨by rfl, ?_⟩) (fun h0 => by assumption) ?_
      rotate_left
      · intro wS
        go_simp
        try with_reducible rfl
      try simp only [Act.put, List.setIfInBounds_toArray, List.set_cons_zero, List.set_cons_succ]
      refine wpAnyL_free (i := 5) (v := ?_) (some 25) rfl rfl (by kernel_rfl) (by kernel_rfl) (by kernel_rfl) (by decide) (fun _ _ _ h => h) (Or.inl ⟨by rfl, ?_⟩) (fun h0 => by assumption) ?_
      rotate_left
      · intro wS
        go_simp
        try with_reducible rfl
      try simp only [Act.put, List.setIfInBounds_toArray, List.set_cons_zero, List.set_cons_succ]
      refine wpAnyL_free (i := 6) (v := ?_) (some 26) rfl rfl (by kernel_rfl) (by kernel_rfl) (by kernel_rfl) (by decide) (fun _ _ _ h => h) (Or.inl ⟨by rfl, ?_⟩) (fun h0 => by assumption) ?_
      rotate_left
      · intro wS
        go_simp
        try with_reducible rfl
      try simp only [Act.put, List.setIfInBounds_toArray, List.set_cons_zero, List.set_cons_succ]
      refine wpAnyL_take (i := 7) (v := ?_) (some 27) rfl rfl (by kernel_rfl) (by kernel_rfl) (by kernel_rfl) (by kernel_rfl) (by kernel_rfl) (fun _ _ _ h => h) (Or.inl ⟨by rfl, ?_⟩) (by assumption) ?_
      rotate_left
      · intro wS hSw
        try dsimp only at hSw
        go_simp
        try with_reducible rfl
      try simp only [Act.put, List.setIfInBounds_toArray, List.set_cons_zero, List.set_cons_succ]
      refine wpAnyL_free (i := 8) (v := ?_) (some 28) rfl rfl (by kernel_rfl) (by kernel_rfl) (by kernel_rfl) (by decide) (fun _ _ _ h => h) (Or.inl ⟨by rfl, ?_⟩) (fun h0 => by assumption) ?_
      rotate_left
      · intro wS
        go_simp
        try with_reducible rfl
      try simp only [Act.put, List.setIfInBounds_toArray, List.set_cons_zero, List.set_cons_succ]
      refine wpAnyL_take (i := 9) (v := ?_) (some 29) rfl rfl (by kernel_rfl) (by kernel_rfl) (by kernel_rfl) (by kernel_rfl) (by kernel_rfl) (fun _ _ _ h => h) (Or.inl ⟨by rfl, ?_⟩) (by assumption) ?_
      rotate_left
      · intro wS hSw
        try dsimp only at hSw
        go_simp
        try with_reducible rfl
      try simp only [Act.put, List.setIfInBounds_toArray, List.set_cons_zero, List.set_cons_succ]
      refine wpAnyL_ready (rs := [10]) (by kernel_rfl) (by simp) ?_
      refine AllReadyL.last rfl (by kernel_rfl) (fun K hK => ?_) AllReadyL.nil
      go_simp; go_at_call 83; refine (scaleC rb (i * 3) _ p t (.slice la (R i |>.take un).length lc) _ _ _ _ _ (HROW.out.bel hHeld.2.2) HP.out HT.out HL1.out HL2.out HT.out HRB.out HN1.out HN2.out).mono ?_; rintro e w4 ⟨rfl, hr4, hb4, _⟩; have HB4 := Lib.hid (hb4.mono HBB.out)
      refine hK.out _ _ ?_
      clear hK K
      try simp only [Act.put, List.setIfInBounds_toArray, List.set_cons_zero, List.set_cons_succ]
      refine wpAnyL_done (by kernel_rfl) ?_ _
      refine NoPanic.normal ?_
      have HW4 := Lib.hid ((HW3.out.trans (hHeld.2.2.mono HW3.out.size)).trans HB4.out)
      have HR4 := Lib.hid hr4
      have y0 := hr4.by_
      clear hHeld hr4 hb4 x0 x1
      go_wp2
      go_ret2
      refine ⟨ba, bn, bc, ?_, ?_, HW4.out⟩
      · rw [HCD.out]; rfl
      · have e := (HR4.out.ownB.mono HBB.out).full
        rw [HZS.out]
        exact e
    · obtain ⟨rfl, rfl⟩ := HIN.out (by decide)
      clear x1
      go_wp2
      go_ret2
      exact ⟨_, _, _, rfl, ownE_new _ _ HW3.out.size, HW3.out.alloc HW3.out.size _⟩
  · have HOK := Lib.hid hok
    obtain ⟨rfl, rfl⟩ := HI.out.bad hok
    clear hok
    go_wp2_with fail
    refine (l07Ok _ _ _ _ rs false _ HS.out (Tells.no HOK.out)).mono ?_
    rintro e w2 ⟨rfl, hq⟩
    have HW2 := Lib.hid (HW.out.trans (hq.bel.mono HW.out.size))
    clear hq
    go_wp2
    go_ret2
    exact ⟨_, _, _, rfl, ownE_new _ _ HW2.out.size, HW2.out.alloc HW2.out.size _⟩

end Go.Proofs.Ytnbgpeoceejolaa
