/-  RefuteSystem of the model. beginOf of the program, and where the rows of the reduced form begin. SolveSystem of the model. complete and SolveSystem of the program. The derivation of an equation in the model: l07Derive. DerivationOf and Follows of the model. takeAway of the program at a row in a block of its own; slices.Clone of a slice that may be empty. rest of the program: what is left of an equation. DerivationOf and Follows of the program. -/
import Derived.Test.YtnbgpeoceejolaaGElimM
import Derived.Test.YtnbgpeoceejolaaDepends
import Derived.Test.YtnbgpeoceejolaaFirst7
import Derived.Test.YtnbgpeoceejolaaGElimP
import Derived.Test.YtnbgpeoceejolaaClone
namespace Go.Proofs.Ytnbgpeoceejolaa
open Go.RowKit

/-- What RefuteSystem answers. -/
def RefuteSystemIs (p u : Int) (rs : List (Int × List Int)) (zs : List Int) (cd : Int) : Prop :=
  (SysOk p u rs ∧ (∃ i : Nat, (elimE p rs.length (row0 rs) u.toNat).2 ≤ i ∧ i < rs.length ∧ FalseAt (elimE p rs.length (row0 rs) u.toNat).1 u.toNat (elimE p rs.length (row0 rs) u.toNat).2 rs.length i ∧ zs = rowScale p (intN ((elimE p rs.length (row0 rs) u.toNat).1 i) u.toNat) (((elimE p rs.length (row0 rs) u.toNat).1 i).drop (u.toNat + 1))) ∧ cd = 0) ∨ (SysOk p u rs ∧ ¬ NoAns p u.toNat rs ∧ zs = [] ∧ cd = 6) ∨ (¬ SysOk p u rs ∧ zs = [] ∧ cd = 1)
theorem SysOk.dn {p : Int} {u : Nat} {rs : List (Int × List Int)} (h : SysOk p u rs) : (elimE p rs.length (row0 rs) u).2 ≤ rs.length := (elimE_good (l := u + 1 + rs.length) (by rcases h.1 with rfl | rfl <;> omega) (row0_good h) u).2
theorem SysOk.good {p : Int} {u : Nat} {rs : List (Int × List Int)} (h : SysOk p u rs) : GoodR p rs.length (u + 1 + rs.length) (elimE p rs.length (row0 rs) u).1 := (elimE_good (l := u + 1 + rs.length) (by rcases h.1 with rfl | rfl <;> omega) (row0_good h) u).1
theorem SysOk.unat {p u : Int} {rs : List (Int × List Int)} (h : SysOk p u rs) : ∃ un : Nat, u = un := ⟨u.toNat, by have := h.2.1; unfold InP at this; omega⟩
theorem ownE_new (w : World) (B : Nat) (hB : B ≤ w.heap.size) : OwnRowE (w.alloc (.cells #[] 2)) B (w.alloc (.cells #[] 2)).heap.size (.slice (some ⟨w.heap.size, 0, none⟩) 0 0) [] :=
  OwnRow.full (World.ownsRow_lit (e := 2) (size := 1) w #[] 0 hB (by unfold maxLen; omega) (by simp))
theorem RefuteSystemIs.exists (p u : Int) (rs : List (Int × List Int)) : ∃ zs cd, RefuteSystemIs p u rs zs cd := by
  by_cases h1 : SysOk p u rs
  · obtain ⟨un, rfl⟩ := h1.unat
    obtain ⟨m, hm⟩ := FalseAt.exists (elimE p rs.length (row0 rs) un).1 un (elimE p rs.length (row0 rs) un).2 rs.length h1.dn
    by_cases h2 : NoAns p un rs
    · rcases id hm with ⟨i, g1, g2, rfl, _⟩ | ⟨rfl, g⟩
      · exact ⟨_, 0, .inl ⟨h1, ⟨i, g1, g2, hm, rfl⟩, rfl⟩⟩
      · obtain ⟨j, j1, j2, j3⟩ := h2
        exact absurd (g j j1 j2) j3
    · exact ⟨[], 6, .inr (.inl ⟨h1, h2, rfl, rfl⟩)⟩
  · exact ⟨[], 1, .inr (.inr ⟨h1, rfl, rfl⟩)⟩
theorem FalseAt.unique {R : Nat → List Int} {u d n : Nat} {m m' : Int} (h : FalseAt R u d n m) (h' : FalseAt R u d n m') : m = m' := by
  rcases h with ⟨i, a1, a2, rfl, a4, a5⟩ | ⟨rfl, a⟩ <;> rcases h' with ⟨j, b1, b2, rfl, b4, b5⟩ | ⟨rfl, b⟩
  · rcases Nat.lt_trichotomy i j with h | rfl | h
    · exact absurd (b5 i a1 h) a4
    · rfl
    · exact absurd (a5 j b1 h) b4
  · exact absurd (b i a1 a2) a4
  · exact absurd (a j b1 b2) b4
  · rfl
theorem RefuteSystemIs.found {p : Int} {un : Nat} {rs : List (Int × List Int)} {zs : List Int} {cd : Int} {i : Nat} (h : RefuteSystemIs p un rs zs cd) (hok : SysOk p un rs) (hm : FalseAt (elimE p rs.length (row0 rs) un).1 un (elimE p rs.length (row0 rs) un).2 rs.length i) :
    cd = 0 ∧ zs = rowScale p (intN ((elimE p rs.length (row0 rs) un).1 i) un) (((elimE p rs.length (row0 rs) un).1 i).drop (un + 1)) := by
  rcases h with ⟨_, ⟨j, _, _, hj, rfl⟩, rfl⟩ | ⟨_, h2, _⟩ | ⟨h1, _⟩
  · have e : (j : Int) = (i : Int) := hj.unique hm
    obtain rfl : j = i := by omega
    exact ⟨rfl, rfl⟩
  · exact absurd (show ¬ ∃ j, _ from h2) (fun k => by
      rcases hm with ⟨i', a1, a2, _, a4, _⟩ | ⟨e, _⟩
      · exact k ⟨i', a1, a2, a4⟩
      · omega)
  · exact absurd hok h1
theorem RefuteSystemIs.none {p : Int} {un : Nat} {rs : List (Int × List Int)} {zs : List Int} {cd : Int} {m : Int} (h : RefuteSystemIs p un rs zs cd) (hok : SysOk p un rs) (hm : FalseAt (elimE p rs.length (row0 rs) un).1 un (elimE p rs.length (row0 rs) un).2 rs.length m) (hneg : m < 0) : cd = 6 ∧ zs = [] := by
  rcases h with ⟨_, ⟨j, _, _, hj, _⟩, _⟩ | ⟨_, _, rfl, rfl⟩ | ⟨h1, _⟩
  · have := hj.unique hm
    omega
  · exact ⟨rfl, rfl⟩
  · exact absurd hok h1
theorem RefuteSystemIs.bad {p u : Int} {rs : List (Int × List Int)} {zs : List Int} {cd : Int} (h : RefuteSystemIs p u rs zs cd) (hok : ¬ SysOk p u rs) : cd = 1 ∧ zs = [] := by
  rcases h with ⟨h1, _⟩ | ⟨h1, _⟩ | ⟨_, rfl, rfl⟩
  · exact absurd h1 hok
  · exact absurd h1 hok
  · exact ⟨rfl, rfl⟩

set_option linter.unusedSimpArgs false in
set_option maxHeartbeats 4000000 in
set_option maxRecDepth 100000 in
theorem specRefuteSystem (p u : Int) (a : Option Addr) (n c : Nat) (rs : List (Int × List Int)) (zs : List Int) (cd : Int) (w : World) (h : EqsAt w (.slice a n c) rs) (hi : RefuteSystemIs p u rs zs cd) :
    Calls Try.prog 22 #[.agg #[.int .i64 p, .int .i64 u, .slice a n c]] w (MadeRow2 w zs cd) := by
  have HS := Lib.hid (SysAt.new w p u a n c rs 30 h)
  have HW : Hid (Below w.heap.size w (w.alloc (.cells #[.int .i64 p, .int .i64 u, .slice a n c] 30))) := Lib.hid ((Below.refl _ _).alloc (Nat.le_refl _) _)
  have HI := Lib.hid hi
  clear h hi
  go_enter Try.func22, Try.ntmps22
  by_cases hok : SysOk p u rs
  · have HOK := Lib.hid hok
    obtain ⟨un, rfl⟩ := hok.unat
    have hn24 := hok.2.2.1
    have hu12 : un ≤ 12 := by have := hok.2.1; unfold InP at this; omega
    clear hok
    go_wp2_with fail
    refine (l07Ok _ _ _ _ rs true _ HS.out (Tells.yes HOK.out)).mono ?_
    rintro e w2 ⟨rfl, hq⟩
    have HS2 := Lib.hid (HS.out.below hq.bel)
    have HW2 := Lib.hid (HW.out.trans (hq.bel.mono HW.out.size))
    clear hq
    go_wp2_with fail
    refine (l07ReduceC _ _ p un rs _ HS2.out HOK.out).mono ?_
    rintro e w3 ⟨a3, c3, rfl, hmr, hb3⟩
    have HB3 := Lib.hid hb3
    have HW3 := Lib.hid (HW2.out.trans (hb3.mono HW2.out.size))
    have HBB : Hid (w.heap.size ≤ w2.heap.size) := Lib.hid HW2.out.size
    have x1 : w3.cell? ⟨w.heap.size, 0, none⟩ = some (.int .i64 p) := below_cell hb3 HS2.out.prime
    obtain ⟨m, hm⟩ := FalseAt.exists (elimE p rs.length (row0 rs) un).1 un (elimE p rs.length (row0 rs) un).2 rs.length HOK.out.dn
    have HM := Lib.hid hm
    have HMR : Hid (∃ rb VL VB, 0 < rs.length → a3 = some ⟨rb, 0, none⟩ ∧ MRows w3 rb w2.heap.size rs.length un VL VB (elimE p rs.length (row0 rs) un).1 ∧ w2.heap.size ≤ rb) := Lib.hid (by
      by_cases h0 : 0 < rs.length
      · obtain ⟨rb, VL, VB, h1, h3, _, h2⟩ := hmr h0
        exact ⟨rb, VL, VB, fun _ => ⟨h1, h2, h3⟩⟩
      · exact ⟨0, fun _ => .slice none 0 0, fun _ => .slice none 0 0, fun h => absurd h h0⟩)
    have HGD := Lib.hid HOK.out.good
    have hdn := HOK.out.dn
    have HIF := Lib.hid fun (i : Nat) => HI.out.found (i := i) HOK.out
    have HIN := Lib.hid (HI.out.none (m := m) HOK.out HM.out)
    have HP := Lib.hid HOK.out.1
    have hp3 : 2 ≤ p ∧ p ≤ 3 := by rcases HOK.out.1 with rfl | rfl <;> omega
    clear hmr hb3 hm
    obtain ⟨S, hS⟩ : ∃ S, elimE p rs.length (row0 rs) un = S := ⟨_, rfl⟩
    obtain ⟨R, d⟩ := S
    rw [hS] at HMR HM hdn HIF HGD ⊢
    clear hS
    obtain ⟨rb, VL, VB, hmm⟩ := HMR.out
    have HMM := Lib.hid hmm
    clear hmm
    go_wp2_with fail
    refine (l07FalseC a3 c3 rs.length d rb w2.heap.size un VL VB R m _ (fun h => ⟨(HMM.out h).1, (HMM.out h).2.1⟩) (by omega) hdn HM.out).mono ?_
    rintro e w3' ⟨rfl, rfl⟩
    rcases id HM.out with ⟨i, g1, g2, rfl, g4, g5⟩ | ⟨rfl, g5⟩
    · obtain ⟨rfl, hM, hrb⟩ := HMM.out (by omega)
      have hrow := hM.row i g2
      obtain ⟨la, lc, hvl⟩ : ∃ la lc, VL i = .slice la ((R i).take un).length lc := by obtain ⟨a, c, he, _⟩ := hrow.ownL.rowAt; exact ⟨a, c, he⟩
      obtain ⟨ba, bn, bc, hvb⟩ : ∃ ba bn bc, VB i = .slice ba bn bc := by obtain ⟨a, c, he, _⟩ := hrow.ownB.rowAt; exact ⟨a, _, c, he⟩
      rw [hvl, hvb] at hrow
      obtain ⟨hgl, hlow⟩ := HGD.out i g2
      obtain ⟨t, ht⟩ : ∃ t, intN (R i) un = t := ⟨_, rfl⟩
      have hlt := hlow.any (by omega) un
      rw [ht] at hlt hrow g4
      have x0 := hrow.right
      have HROW := Lib.hid hrow
      have HT : Hid (0 ≤ t ∧ t ≤ 2) := Lib.hid (by omega)
      have HL1 : Hid (Low3 ((R i).take un)) := Lib.hid ((hlow.take un).low3 hp3.2)
      have HL2 : Hid (Low3 ((R i).drop (un + 1))) := Lib.hid ((hlow.drop (un + 1)).low3 hp3.2)
      have HN1 : Hid (((R i).take un).length ≤ 1000) := Lib.hid (by rw [List.length_take]; omega)
      have HN2 : Hid (((R i).drop (un + 1)).length ≤ 1000) := Lib.hid (by rw [List.length_drop]; omega)
      have HRB := Lib.hid hrb
      obtain ⟨hcd, hzs⟩ := HIF.out i HM.out
      have HCD := Lib.hid hcd
      have HZS : Hid (zs = rowScale p t ((R i).drop (un + 1))) := Lib.hid (by rw [← ht]; exact hzs)
      have hneg : ¬ ((i : Int) < 0) := by omega
      have hin : (i : Int) < (rs.length : Int) := by omega
      clear hM hrow hgl hlow ht hlt hvl hvb hrb hcd hzs g4 g5
      go_wp2_with fail
      refine wp_region_noPanic ?_
      refine wp_region_late (S := (fun w' => w'.cell? ⟨rb, i * 3 + 1, none⟩ = some (.int .i64 t) ∧ w'.cell? ⟨w.heap.size, 0, none⟩ = some (.int .i64 p) ∧ Below w3.heap.size w3 w')) [10] (by kernel_rfl) ?_ (fun hHeld => ?_)
      · exact ⟨x0, x1, (QW.refl _).drew.below _⟩
      refine wpAnyL_free (i := 0) (v := ?_) (some 20) rfl rfl (by kernel_rfl) (by kernel_rfl) (by kernel_rfl) (by decide) (fun _ _ _ h => h) (Or.inl ⟨by rfl, ?_⟩) (fun h0 => by assumption) ?_
      rotate_left
      · intro wS
        go_simp
        try with_reducible rfl
      try simp only [Act.put, List.setIfInBounds_toArray, List.set_cons_zero, List.set_cons_succ]
      refine wpAnyL_free (i := 1) (v := ?_) (some 21) rfl rfl (by kernel_rfl) (by kernel_rfl) (by kernel_rfl) (by decide) (fun _ _ _ h => h) (Or.inl ⟨by rfl, ?_⟩) (fun h0 => by assumption) ?_
      rotate_left
      · intro wS
        go_simp
        try with_reducible rfl
      try simp only [Act.put, List.setIfInBounds_toArray, List.set_cons_zero, List.set_cons_succ]
      refine wpAnyL_free (i := 2) (v := ?_) (some 22) rfl rfl (by kernel_rfl) (by kernel_rfl) (by kernel_rfl) (by decide) (fun _ _ _ h => h) (Or.inl ⟨by rfl, ?_⟩) (fun h0 => by assumption) ?_
      rotate_left
      · intro wS
        go_simp
        try with_reducible rfl
      try simp only [Act.put, List.setIfInBounds_toArray, List.set_cons_zero, List.set_cons_succ]
      refine wpAnyL_free (i := 3) (v := ?_) (some 23) rfl rfl (by kernel_rfl) (by kernel_rfl) (by kernel_rfl) (by decide) (fun _ _ _ h => h) (Or.inl ⟨by rfl, ?_⟩) (fun h0 => by assumption) ?_
      rotate_left
      · intro wS
        go_simp
        try with_reducible rfl
      try simp only [Act.put, List.setIfInBounds_toArray, List.set_cons_zero, List.set_cons_succ]
      refine wpAnyL_free (i := 4) (v := ?_) (some 24) rfl rfl (by kernel_rfl) (by kernel_rfl) (by kernel_rfl) (by decide) (fun _ _ _ h => h) (Or.inl ⟨by rfl, ?_⟩) (fun h0 => by assumption) ?_
      rotate_left
      · intro wS
        go_simp
        try with_reducible rfl
      try simp only [Act.put, List.setIfInBounds_toArray, List.set_cons_zero, List.set_cons_succ]
      refine wpAnyL_free (i := 5) (v := ?_) (some 25) rfl rfl (by kernel_rfl) (by kernel_rfl) (by kernel_rfl) (by decide) (fun _ _ _ h => h) (Or.inl ⟨by rfl, ?_⟩) (fun h0 => by assumption) ?_
      rotate_left
      · intro wS
        go_simp
        try with_reducible rfl
      try simp only [Act.put, List.setIfInBounds_toArray, List.set_cons_zero, List.set_cons_succ]
      refine wpAnyL_free (i := 6) (v := ?_) (some 26) rfl rfl (by kernel_rfl) (by kernel_rfl) (by kernel_rfl) (by decide) (fun _ _ _ h => h) (Or.inl ⟨by rfl, ?_⟩) (fun h0 => by assumption) ?_
      rotate_left
      · intro wS
        go_simp
        try with_reducible rfl
      try simp only [Act.put, List.setIfInBounds_toArray, List.set_cons_zero, List.set_cons_succ]
      refine wpAnyL_take (i := 7) (v := ?_) (some 27) rfl rfl (by kernel_rfl) (by kernel_rfl) (by kernel_rfl) (by kernel_rfl) (by kernel_rfl) (fun _ _ _ h => h) (Or.inl ⟨by rfl, ?_⟩) (by assumption) ?_
      rotate_left
      · intro wS hSw
        try dsimp only at hSw
        go_simp
        try with_reducible rfl
      try simp only [Act.put, List.setIfInBounds_toArray, List.set_cons_zero, List.set_cons_succ]
      refine wpAnyL_free (i := 8) (v := ?_) (some 28) rfl rfl (by kernel_rfl) (by kernel_rfl) (by kernel_rfl) (by decide) (fun _ _ _ h => h) (Or.inl ⟨by rfl, ?_⟩) (fun h0 => by assumption) ?_
      rotate_left
      · intro wS
        go_simp
        try with_reducible rfl
      try simp only [Act.put, List.setIfInBounds_toArray, List.set_cons_zero, List.set_cons_succ]
      refine wpAnyL_take (i := 9) (v := ?_) (some 29) rfl rfl (by kernel_rfl) (by kernel_rfl) (by kernel_rfl) (by kernel_rfl) (by kernel_rfl) (fun _ _ _ h => h) (Or.inl ⟨by rfl, ?_⟩) (by assumption) ?_
      rotate_left
      · intro wS hSw
        try dsimp only at hSw
        go_simp
        try with_reducible rfl
      try simp only [Act.put, List.setIfInBounds_toArray, List.set_cons_zero, List.set_cons_succ]
      refine wpAnyL_ready (rs := [10]) (by kernel_rfl) (by simp) ?_
      refine AllReadyL.last rfl (by kernel_rfl) (fun K hK => ?_) AllReadyL.nil
      go_simp; go_at_call 83; refine (scaleC rb (i * 3) _ p t (.slice la (R i |>.take un).length lc) _ _ _ _ _ (HROW.out.bel hHeld.2.2) HP.out HT.out HL1.out HL2.out HT.out HRB.out HN1.out HN2.out).mono ?_; rintro e w4 ⟨rfl, hr4, hb4, _⟩; have HB4 := Lib.hid (hb4.mono HBB.out)
      refine hK.out _ _ ?_
      clear hK K
      try simp only [Act.put, List.setIfInBounds_toArray, List.set_cons_zero, List.set_cons_succ]
      refine wpAnyL_done (by kernel_rfl) ?_ _
      refine NoPanic.normal ?_
      have HW4 := Lib.hid ((HW3.out.trans (hHeld.2.2.mono HW3.out.size)).trans HB4.out)
      have HR4 := Lib.hid hr4
      have y0 := hr4.by_
      clear hHeld hr4 hb4 x0 x1
      go_wp2
      go_ret2
      refine ⟨ba, bn, bc, ?_, ?_, HW4.out⟩
      · rw [HCD.out]; rfl
      · have e := (HR4.out.ownB.mono HBB.out).full
        rw [HZS.out]
        exact e
    · obtain ⟨rfl, rfl⟩ := HIN.out (by decide)
      clear x1
      go_wp2
      go_ret2
      exact ⟨_, _, _, rfl, ownE_new _ _ HW3.out.size, HW3.out.alloc HW3.out.size _⟩
  · have HOK := Lib.hid hok
    obtain ⟨rfl, rfl⟩ := HI.out.bad hok
    clear hok
    go_wp2_with fail
    refine (l07Ok _ _ _ _ rs false _ HS.out (Tells.no HOK.out)).mono ?_
    rintro e w2 ⟨rfl, hq⟩
    have HW2 := Lib.hid (HW.out.trans (hq.bel.mono HW.out.size))
    clear hq
    go_wp2
    go_ret2
    exact ⟨_, _, _, rfl, ownE_new _ _ HW2.out.size, HW2.out.alloc HW2.out.size _⟩

end Go.Proofs.Ytnbgpeoceejolaa

namespace Go.Proofs.Ytnbgpeoceejolaa
open Go.RowKit

set_option linter.unusedSimpArgs false in
set_option maxHeartbeats 4000000 in
set_option maxRecDepth 100000 in
theorem isNonzeroB (x : Int) (w : World) : Calls Try.prog 100 #[.int .i64 x] w fun e w' => e = .returned (.bool (x != 0)) ∧ w = w' := by
  go_enter Try.func100, Try.ntmps100
  go_wp2
  go_ret
  exact ⟨rfl, rfl⟩

set_option linter.unusedSimpArgs false in
set_option maxHeartbeats 4000000 in
set_option maxRecDepth 100000 in
theorem indexNZ2 (v : Value) (xs : List Int) (w : World) (h : RowAt w v xs) :
    Calls Try.prog 147 #[v, .func (.func 100) #[] #[]] w fun e w' => ∃ m : Int, e = .returned (.int .i64 m) ∧ (0 ≤ m ↔ ¬ ∀ j, j < xs.length → intN xs j = 0) ∧ w = w' := by
  obtain ⟨a1, c1, rfl, hn1, hc1⟩ := h
  have HC1 := Lib.hid hc1
  clear hc1
  go_enter Try.func147, Try.ntmps147
  go_wp2
  go_loop [8] (fun i => ∃ k : Nat, k ≤ xs.length ∧ i = .int .i64 k ∧ (∀ j, j < k → intN xs j = 0)) (fun i => xs.length - (intOf i).toNat)
  case atStart => exact ⟨0, Nat.zero_le _, rfl, fun j hj => absurd hj (Nat.not_lt_zero _)⟩
  case round =>
    obtain ⟨k, hk, rfl, hall⟩ := hrel
    have HA := Lib.hid hall
    clear hall
    by_cases hlt : k < xs.length
    · obtain ⟨b1, off1, rfl, hd1⟩ := HC1.out (by omega)
      have e1 := hd1 k hlt
      obtain ⟨x, hx⟩ : ∃ x, intN xs k = x := ⟨_, rfl⟩
      have e2 : w.cell? ⟨b1, off1 + k, none⟩ = some (.int .i64 x) := by rw [← hx]; exact e1
      have HX := Lib.hid hx
      have hlt2 : (k : Int) < (xs.length : Int) := by omega
      clear hd1 e1 hx
      by_cases hz : x = 0
      · have HZ := Lib.hid hz
        have hzb : (x != 0) = false := by rw [hz]; rfl
        clear hz
        go_wp2_with fail
        refine (isNonzeroB x _).mono ?_
        rintro e w2 ⟨rfl, rfl⟩
        go_wp2
        go_round
        case rel =>
          refine ⟨k + 1, by omega, by go_num, fun j hj => ?_⟩
          by_cases hjk : j = k
          · subst hjk; rw [HX.out]; exact HZ.out
          · exact HA.out j (by omega)
        case measure => simp [intOf]; omega
      · have hzb : (x != 0) = true := bne_iff_ne.2 hz
        have HF : Hid (¬ ∀ j, j < xs.length → intN xs j = 0) := Lib.hid fun h => hz (by rw [← HX.out]; exact h k hlt)
        clear hz
        go_wp2_with fail
        refine (isNonzeroB x _).mono ?_
        rintro e w2 ⟨rfl, rfl⟩
        go_wp2
        go_ret
        exact ⟨_, rfl, ⟨fun _ => HF.out, fun _ => by omega⟩, rfl⟩
    · obtain rfl : k = xs.length := by omega
      go_wp2
      go_ret
      exact ⟨_, rfl, ⟨fun h => absurd h (by decide), by rintro ⟨x, h1, h2⟩; exact absurd (HA.out x h1) h2⟩, rfl⟩

set_option linter.unusedSimpArgs false in
set_option maxHeartbeats 4000000 in
set_option maxRecDepth 100000 in
theorem containsNZ2 (v : Value) (xs : List Int) (b : Bool) (w : World) (h : RowAt w v xs) (hb : Tells b (∀ j, j < xs.length → intN xs j = 0)) :
    Calls Try.prog 99 #[v, .func (.func 100) #[] #[]] w fun e w' => e = .returned (.bool (!b)) ∧ w = w' := by
  have H := Lib.hid h
  have HB := Lib.hid hb
  clear h hb
  go_enter Try.func99, Try.ntmps99
  go_wp2_with fail
  refine (indexNZ2 v xs _ H.out).mono ?_
  rintro e w2 ⟨m, rfl, hm, rfl⟩
  cases b with
  | true =>
    have hm0 : decide (m ≥ 0) = false := by
      have : ¬ 0 ≤ m := fun h => hm.1 h (HB.out.1 rfl)
      simpa using this
    have hm1 : ¬ m ≥ 0 := by simpa using hm0
    clear hm
    go_wp2
    go_ret
    exact ⟨by first | rfl | simp [hm0], rfl⟩
  | false =>
    have hm0 : decide (m ≥ 0) = true := by
      have : 0 ≤ m := hm.2 fun h => absurd (HB.out.2 h) (by simp)
      simpa using this
    have hm1 : m ≥ 0 := by simpa using hm0
    clear hm
    go_wp2
    go_ret
    exact ⟨by first | rfl | simp [hm0], rfl⟩

set_option linter.unusedSimpArgs false in
set_option maxHeartbeats 4000000 in
set_option maxRecDepth 100000 in
theorem indexFV (v : Value) (xs : List Int) (w : World) (h : RowAt w v xs) :
    Calls Try.prog 147 #[v, .func (.func 100) #[] #[]] w fun e w' => e = .returned (.int .i64 (firstV xs)) ∧ w = w' := by
  obtain ⟨a1, c1, rfl, hn1, hc1⟩ := h
  have HC1 := Lib.hid hc1
  clear hc1
  go_enter Try.func147, Try.ntmps147
  go_wp2
  go_loop [8] (fun i => ∃ k : Nat, k ≤ xs.length ∧ i = .int .i64 k ∧ (∀ j, j < k → intN xs j = 0)) (fun i => xs.length - (intOf i).toNat)
  case atStart => exact ⟨0, Nat.zero_le _, rfl, fun j hj => absurd hj (Nat.not_lt_zero _)⟩
  case round =>
    obtain ⟨k, hk, rfl, hall⟩ := hrel
    have HA := Lib.hid hall
    clear hall
    by_cases hlt : k < xs.length
    · obtain ⟨b1, off1, rfl, hd1⟩ := HC1.out (by omega)
      have e1 := hd1 k hlt
      obtain ⟨x, hx⟩ : ∃ x, intN xs k = x := ⟨_, rfl⟩
      have e2 : w.cell? ⟨b1, off1 + k, none⟩ = some (.int .i64 x) := by rw [← hx]; exact e1
      have HX := Lib.hid hx
      have hlt2 : (k : Int) < (xs.length : Int) := by omega
      clear hd1 e1 hx
      by_cases hz : x = 0
      · have HZ := Lib.hid hz
        have hzb : (x != 0) = false := by rw [hz]; rfl
        clear hz
        go_wp2_with fail
        refine (isNonzeroB x _).mono ?_
        rintro e w2 ⟨rfl, rfl⟩
        go_wp2
        go_round
        case rel =>
          refine ⟨k + 1, by omega, by go_num, fun j hj => ?_⟩
          by_cases hjk : j = k
          · subst hjk; rw [HX.out]; exact HZ.out
          · exact HA.out j (by omega)
        case measure => simp [intOf]; omega
      · have hzb : (x != 0) = true := bne_iff_ne.2 hz
        have HF := Lib.hid (firstV_at hlt HA.out (by rw [HX.out]; exact hz))
        clear hz
        go_wp2_with fail
        refine (isNonzeroB x _).mono ?_
        rintro e w2 ⟨rfl, rfl⟩
        go_wp2
        go_ret
        exact ⟨by rw [HF.out]; rfl, rfl⟩
    · obtain rfl : k = xs.length := by omega
      have HN := Lib.hid (firstV_none HA.out)
      go_wp2
      go_ret
      exact ⟨by rw [HN.out]; rfl, rfl⟩

set_option linter.unusedSimpArgs false in
set_option maxHeartbeats 4000000 in
set_option maxRecDepth 100000 in
theorem beginOfC (v : Value) (xs : List Int) (w : World) (h : RowAt w v xs) :
    Calls Try.prog 143 #[v] w fun e w' => e = .returned (.int .i64 (firstV xs)) ∧ w = w' := by
  have H := Lib.hid h
  clear h
  go_enter Try.func143, Try.ntmps143
  go_wp2_with fail
  refine (indexFV v xs _ H.out).mono ?_
  rintro e w2 ⟨rfl, rfl⟩
  go_wp2
  go_ret
  exact ⟨rfl, rfl⟩

/-- Where a row begins, among the first u numbers. -/
def pivE (R : Nat → List Int) (u i : Nat) : Nat := (firstV ((R i).take u)).toNat
theorem Piv.first {n u : Nat} {R : Nat → List Int} {d : Nat} {c : Nat → Nat} (h : Piv n u R d c) (hd : d ≤ n) {i : Nat} (hi : i < d) (hl : u ≤ (R i).length) : firstV ((R i).take u) = c i := by
  have h1 := h.lt i hi
  refine firstV_at (by rw [List.length_take]; omega) (fun j hj => ?_) ?_
  · rw [intN_take (by omega)]; exact h.lead i hi j hj
  · rw [intN_take h1, h.one i hi i (by omega), if_pos rfl]; decide
theorem Piv.firstW {n u : Nat} {R : Nat → List Int} {d : Nat} {c : Nat → Nat} (h : Piv n u R d c) (hd : d ≤ n) {i : Nat} (hi : i < d) (hl : u ≤ (R i).length) : firstV (R i) = c i := by
  have h1 := h.lt i hi
  refine firstV_at (by omega) (fun j hj => h.lead i hi j hj) ?_
  rw [h.one i hi i (by omega), if_pos rfl]; decide
theorem Piv.congr {n u : Nat} {R : Nat → List Int} {d : Nat} {c c' : Nat → Nat} (h : Piv n u R d c) (he : ∀ i, i < d → c i = c' i) : Piv n u R d c' :=
  ⟨fun i hi => he i hi ▸ h.lt i hi, fun i hi => he i hi ▸ h.one i hi, fun i hi => he i hi ▸ h.lead i hi, h.rest⟩
theorem sysOk_dn {p : Int} {u : Nat} {rs : List (Int × List Int)} (h : SysOk p u rs) : (elimE p rs.length (row0 rs) u).2 ≤ rs.length := (elimE_good (l := u + 1 + rs.length) (by rcases h.1 with rfl | rfl <;> omega) (row0_good h) u).2
theorem sysOk_good {p : Int} {u : Nat} {rs : List (Int × List Int)} (h : SysOk p u rs) : GoodR p rs.length (u + 1 + rs.length) (elimE p rs.length (row0 rs) u).1 := (elimE_good (l := u + 1 + rs.length) (by rcases h.1 with rfl | rfl <;> omega) (row0_good h) u).1
theorem sysOk_piv {p : Int} {u : Nat} {rs : List (Int × List Int)} (h : SysOk p u rs) : Piv rs.length u (elimE p rs.length (row0 rs) u).1 (elimE p rs.length (row0 rs) u).2 (pivE (elimE p rs.length (row0 rs) u).1 u) := by
  obtain ⟨c, hc⟩ := elimE_piv (l := u + 1 + rs.length) h.1 (row0_good h) u (by omega)
  refine hc.congr fun i hi => ?_
  unfold pivE
  have hdn := sysOk_dn h
  rw [hc.first hdn hi (by rw [(sysOk_good h i (by omega)).1]; omega), Int.toNat_natCast]

/-- The values that the first k rows tell. -/
def solV (R : Nat → List Int) (c : Nat → Nat) (u : Nat) : Nat → List Int
  | 0 => List.replicate u 0
  | k + 1 => (solV R c u k).set (c k) (intN (R k) u)
theorem solV_len (R : Nat → List Int) (c : Nat → Nat) (u k : Nat) : (solV R c u k).length = u := by
  induction k with
  | zero => simp [solV]
  | succ k ih => simp [solV, ih]
theorem solV_zero {R : Nat → List Int} {c : Nat → Nat} {u q : Nat} : ∀ {k : Nat}, (∀ i, i < k → c i ≠ q) → intN (solV R c u k) q = 0 := by
  intro k
  induction k with
  | zero =>
    intro _
    by_cases h : q < u
    · rw [intN_at _ _ (by rw [solV_len]; exact h)]; simp [solV]
    · rw [intN_out (by rw [solV_len]; omega)]
  | succ k ih =>
    intro h
    have e := ih fun i hi => h i (by omega)
    have hk := h k (Nat.lt_succ_self k)
    show intN ((solV R c u k).set (c k) (intN (R k) u)) q = 0
    unfold intN at e ⊢
    rw [List.getD_eq_getElem?_getD, List.getElem?_set_ne hk, ← List.getD_eq_getElem?_getD]
    exact e
theorem solV_low {p : Int} {R : Nat → List Int} {c : Nat → Nat} {u : Nat} (hp : 0 < p) : ∀ {k : Nat}, (∀ i, i < k → 0 ≤ intN (R i) u ∧ intN (R i) u < p) → LowP p (solV R c u k) := by
  intro k
  induction k with
  | zero =>
    intro _ j hj
    rw [intN_at _ _ hj]
    simp [solV]; omega
  | succ k ih =>
    intro h j hj
    have e := ih (fun i hi => h i (by omega)) j (by rw [solV_len] at hj ⊢; exact hj)
    show 0 ≤ intN ((solV R c u k).set (c k) (intN (R k) u)) j ∧ intN ((solV R c u k).set (c k) (intN (R k) u)) j < p
    unfold intN at e ⊢
    rw [List.getD_eq_getElem?_getD, List.getElem?_set]
    by_cases hc : c k = j
    · rw [if_pos hc]
      split
      · exact h k (Nat.lt_succ_self k)
      · simp; omega
    · rw [if_neg hc, ← List.getD_eq_getElem?_getD]
      exact e
theorem dotK_nil {xs ys : List Int} : ∀ {m : Nat}, (∀ q, q < m → intN xs q = 0 ∨ intN ys q = 0) → dotK xs ys m = 0 := by
  intro m
  induction m with
  | zero => intro _; rfl
  | succ m ih =>
    intro h
    show dotK xs ys m + intN xs m * intN ys m = 0
    rw [ih fun q hq => h q (by omega)]
    rcases h m (Nat.lt_succ_self m) with e | e <;> rw [e] <;> simp
theorem Piv.others {n u : Nat} {R : Nat → List Int} {d : Nat} {c : Nat → Nat} (h : Piv n u R d c) (hd : d ≤ n) {k : Nat} (hk : k < d) : dotK ((R k).take u) (solV R c u k) u = 0 := dotK_nil fun q hq => by
  by_cases hz : ∀ i, i < k → c i ≠ q
  · exact .inr (solV_zero hz)
  · obtain ⟨i, hi⟩ := Classical.not_forall.1 hz
    obtain ⟨hik, hc⟩ := Classical.not_imp.1 hi
    have hcq : c i = q := Classical.not_not.1 hc
    refine .inl ?_
    rw [intN_take hq, ← hcq, h.one i (by omega) k (by omega), if_neg (by omega)]

end Go.Proofs.Ytnbgpeoceejolaa

namespace Go.Proofs.Ytnbgpeoceejolaa
open Go.RowKit

/-- What SolveSystem answers. -/
def SolveSystemIs (p u : Int) (rs : List (Int × List Int)) (zs : List Int) (cd : Int) : Prop :=
  (SysOk p u rs ∧ ¬ NoAns p u.toNat rs ∧ zs = solV (elimE p rs.length (row0 rs) u.toNat).1 (pivE (elimE p rs.length (row0 rs) u.toNat).1 u.toNat) u.toNat (elimE p rs.length (row0 rs) u.toNat).2 ∧ cd = 0) ∨ (SysOk p u rs ∧ NoAns p u.toNat rs ∧ zs = [] ∧ cd = 6) ∨ (¬ SysOk p u rs ∧ zs = [] ∧ cd = 1)
theorem SolveSystemIs.exists (p u : Int) (rs : List (Int × List Int)) : ∃ zs cd, SolveSystemIs p u rs zs cd := by
  by_cases h1 : SysOk p u rs
  · by_cases h2 : NoAns p u.toNat rs
    · exact ⟨[], 6, .inr (.inl ⟨h1, h2, rfl, rfl⟩)⟩
    · exact ⟨_, 0, .inl ⟨h1, h2, rfl, rfl⟩⟩
  · exact ⟨[], 1, .inr (.inr ⟨h1, rfl, rfl⟩)⟩
theorem SolveSystemIs.small {p u : Int} {rs : List (Int × List Int)} {zs : List Int} {cd : Int} (h : SolveSystemIs p u rs zs cd) : zs.length ≤ 1048576 := by
  rcases h with ⟨h1, _, rfl, _⟩ | ⟨_, _, rfl, _⟩ | ⟨_, rfl, _⟩
  · rw [solV_len]
    have := h1.2.1
    unfold InP at this
    omega
  · simp
  · simp

set_option linter.unusedSimpArgs false in
set_option maxHeartbeats 4000000 in
set_option maxRecDepth 100000 in
theorem specSolveSystem (p u : Int) (a : Option Addr) (n c : Nat) (rs : List (Int × List Int)) (zs : List Int) (cd : Int) (w : World) (h : EqsAt w (.slice a n c) rs) (hi : SolveSystemIs p u rs zs cd) :
    Calls Try.prog 31 #[.agg #[.int .i64 p, .int .i64 u, .slice a n c]] w (MadeRow2 w zs cd) := by
  have HS := Lib.hid (SysAt.new w p u a n c rs 30 h)
  have HW : Hid (Below w.heap.size w (w.alloc (.cells #[.int .i64 p, .int .i64 u, .slice a n c] 30))) := Lib.hid ((Below.refl _ _).alloc (Nat.le_refl _) _)
  have HI := Lib.hid hi
  clear h hi
  go_enter Try.func31, Try.ntmps31
  by_cases hok : SysOk p u rs
  · have HOK := Lib.hid hok
    obtain ⟨un, rfl⟩ := hok.unat
    have hn24 := hok.2.2.1
    have hu12 : un ≤ 12 := by have := hok.2.1; unfold InP at this; omega
    clear hok
    go_wp2_with fail
    refine (l07Ok _ _ _ _ rs true _ HS.out (Tells.yes HOK.out)).mono ?_
    rintro e w2 ⟨rfl, hq⟩
    have HS2 := Lib.hid (HS.out.below hq.bel)
    have HW2 := Lib.hid (HW.out.trans (hq.bel.mono HW.out.size))
    clear hq
    go_wp2_with fail
    refine (l07ReduceC _ _ p un rs _ HS2.out HOK.out).mono ?_
    rintro e w3 ⟨a3, c3, rfl, hmr, hb3⟩
    have HW3 := Lib.hid (HW2.out.trans (hb3.mono HW2.out.size))
    have xu : w3.cell? ⟨w.heap.size, 1, none⟩ = some (.int .i64 (un : Int)) := below_cell hb3 HS2.out.unknowns
    obtain ⟨m, hm⟩ := FalseAt.exists (elimE p rs.length (row0 rs) un).1 un (elimE p rs.length (row0 rs) un).2 rs.length HOK.out.dn
    have HM := Lib.hid hm
    have HMR : Hid (∃ rb VL VB, 0 < rs.length → a3 = some ⟨rb, 0, none⟩ ∧ MRows w3 rb w2.heap.size rs.length un VL VB (elimE p rs.length (row0 rs) un).1 ∧ rb < w3.heap.size) := Lib.hid (by
      by_cases h0 : 0 < rs.length
      · obtain ⟨rb, VL, VB, h1, _, h3, h2⟩ := hmr h0
        exact ⟨rb, VL, VB, fun _ => ⟨h1, h2, h3⟩⟩
      · exact ⟨0, fun _ => .slice none 0 0, fun _ => .slice none 0 0, fun h => absurd h h0⟩)
    have HGD := Lib.hid HOK.out.good
    have HPV := Lib.hid (sysOk_piv HOK.out)
    have hdn := HOK.out.dn
    have HI2 : Hid ((NoAns p un rs → cd = 6 ∧ zs = []) ∧ (¬ NoAns p un rs → cd = 0 ∧ zs = solV (elimE p rs.length (row0 rs) un).1 (pivE (elimE p rs.length (row0 rs) un).1 un) un (elimE p rs.length (row0 rs) un).2)) := Lib.hid (by
      rcases HI.out with ⟨_, h2, rfl, rfl⟩ | ⟨_, h2, rfl, rfl⟩ | ⟨h1, _⟩
      · exact ⟨fun h => absurd h h2, fun _ => ⟨rfl, rfl⟩⟩
      · exact ⟨fun _ => ⟨rfl, rfl⟩, fun h => absurd h2 h⟩
      · exact absurd HOK.out h1)
    have hp3 : 2 ≤ p ∧ p ≤ 3 := by rcases HOK.out.1 with rfl | rfl <;> omega
    unfold NoAns at HI2
    clear hmr hb3 hm
    obtain ⟨S, hS⟩ : ∃ S, elimE p rs.length (row0 rs) un = S := ⟨_, rfl⟩
    obtain ⟨R, d⟩ := S
    rw [hS] at HMR HM hdn HGD HPV HI2 ⊢
    clear hS
    obtain ⟨rb, VL, VB, hmm⟩ := HMR.out
    have HMM := Lib.hid hmm
    clear hmm
    go_wp2_with fail
    refine (l07FalseC a3 c3 rs.length d rb w2.heap.size un VL VB R m _ (fun h => ⟨(HMM.out h).1, (HMM.out h).2.1⟩) (by omega) hdn HM.out).mono ?_
    rintro e w3' ⟨rfl, rfl⟩
    have HNG := Lib.hid HM.out.neg
    by_cases hmz : m < 0
    · obtain ⟨hcd, hzs⟩ := HI2.out.2 (HNG.out.1 hmz)
      have HCD := Lib.hid hcd
      have HZS := Lib.hid hzs
      have hge : ¬ (m ≥ 0) := by omega
      have hmk := make_row un (by omega) w3
      have hOZ := own_zeros w3 w3.heap.size un (Nat.le_refl _) (by omega)
      have HVZ : Hid (OwnRow (w3.alloc (.cells (Array.replicate un (Value.int .i64 0)) 2)) w3.heap.size (.slice (some ⟨w3.heap.size, 0, none⟩) un un) (solV R (pivE R un) un 0)) := Lib.hid hOZ
      have HBZ := Lib.hid ((Below.refl w3.heap.size w3).alloc (Nat.le_refl _) (.cells (Array.replicate un (Value.int .i64 0)) 2))
      clear hcd hzs hOZ
      go_wp2
      obtain ⟨wz, hwz⟩ : ∃ wz, w3.alloc (.cells (Array.replicate un (Value.int .i64 0)) 2) = wz := ⟨_, rfl⟩
      rw [hwz] at HVZ HBZ ⊢
      have HVL0 : Hid (w3.heap.size < wz.heap.size) := Lib.hid (by rw [← hwz]; simp)
      clear hwz hmk
      obtain ⟨vb, hvb⟩ : ∃ vb, w3.heap.size = vb := ⟨_, rfl⟩
      rw [hvb] at HVZ HVL0 ⊢
      have HVE := Lib.hid hvb
      clear hvb
      go_loopw [7] (fun v wr => ∃ k : Nat, k ≤ d ∧ v = .int .i64 k ∧ OwnRow wr vb (.slice (some ⟨vb, 0, none⟩) un un) (solV R (pivE R un) un k) ∧ Below w3.heap.size w3 wr) (fun v _ => d - (intOf v).toNat)
      case atStart => exact ⟨0, Nat.zero_le _, rfl, HVZ.out, HBZ.out⟩
      case round =>
        obtain ⟨k, hk, rfl, hv, hbl⟩ := hrel
        have HV := Lib.hid hv
        have HBL := Lib.hid hbl
        have HVB : Hid (w3.heap.size ≤ vb) := Lib.hid (Nat.le_of_eq HVE.out)
        have HVL : Hid (vb < wr.heap.size) := Lib.hid (hv.lt vb (by simp [Value.ownBlock])).2
        clear hv hbl
        by_cases hlt : k < d
        · have hkd : (k : Int) < (d : Int) := by omega
          have hkn : (k : Int) < (rs.length : Int) := by omega
          obtain ⟨rfl, hM, hrb⟩ := HMM.out (by omega)
          have hrow := (hM.below HBL.out hrb).row k (by omega)
          obtain ⟨la, lc, hvl⟩ : ∃ la lc, VL k = .slice la ((R k).take un).length lc := by obtain ⟨a, c, he, _⟩ := hrow.ownL.rowAt; exact ⟨a, c, he⟩
          obtain ⟨hgl, hlow⟩ := HGD.out k (by omega)
          have HROW := Lib.hid hrow.ownL.rowAt
          obtain ⟨lnn, hlnn⟩ : ∃ lnn, ((R k).take un).length = lnn := ⟨_, rfl⟩
          rw [hvl, hlnn] at HROW
          have x0 := hrow.left
          rw [hvl, hlnn] at x0
          have x1 := hrow.right
          obtain ⟨r, hr⟩ : ∃ r, intN (R k) un = r := ⟨_, rfl⟩
          rw [hr] at x1
          obtain ⟨ck, hck⟩ : ∃ ck, pivE R un k = ck := ⟨_, rfl⟩
          have HFV : Hid (firstV ((R k).take un) = (ck : Int)) := Lib.hid (by rw [HPV.out.first hdn hlt (by omega), hck])
          have hckn : ck < un := by rw [← hck]; exact HPV.out.lt k hlt
          have hcki : (ck : Int) < (un : Int) := by omega
          have HSV : Hid ((solV R (pivE R un) un k).set ck r = solV R (pivE R un) un (k + 1)) := Lib.hid (by rw [← hr, ← hck]; rfl)
          clear hM hrow hvl hgl hlow hlnn hr hck
          go_wp2
          refine wp_region_noPanic ?_
          refine wp_region_late (S := (fun w' => w'.cell? ⟨rb, k * 3, none⟩ = some (.slice la lnn lc) ∧ w'.cell? ⟨rb, k * 3 + 1, none⟩ = some (.int .i64 r) ∧ Below wr.heap.size wr w')) [13] (by kernel_rfl) ?_ (fun hHeld => ?_)
          · exact ⟨x0, x1, (QW.refl _).drew.below _⟩
          refine wpAnyL_free (i := 0) (v := ?_) (some 28) rfl rfl (by kernel_rfl) (by kernel_rfl) (by kernel_rfl) (by decide) (fun _ _ _ h => h) (Or.inl ⟨by rfl, ?_⟩) (fun h0 => by assumption) ?_
          rotate_left
          · intro wS
            go_simp
            try with_reducible rfl
          try simp only [Act.put, List.setIfInBounds_toArray, List.set_cons_zero, List.set_cons_succ]
          refine wpAnyL_free (i := 1) (v := ?_) (some 29) rfl rfl (by kernel_rfl) (by kernel_rfl) (by kernel_rfl) (by decide) (fun _ _ _ h => h) (Or.inl ⟨by rfl, ?_⟩) (fun h0 => by assumption) ?_
          rotate_left
          · intro wS
            go_simp
            try with_reducible rfl
          try simp only [Act.put, List.setIfInBounds_toArray, List.set_cons_zero, List.set_cons_succ]
          refine wpAnyL_free (i := 2) (v := ?_) (some 30) rfl rfl (by kernel_rfl) (by kernel_rfl) (by kernel_rfl) (by decide) (fun _ _ _ h => h) (Or.inl ⟨by rfl, ?_⟩) (fun h0 => by assumption) ?_
          rotate_left
          · intro wS
            go_simp
            try with_reducible rfl
          try simp only [Act.put, List.setIfInBounds_toArray, List.set_cons_zero, List.set_cons_succ]
          refine wpAnyL_free (i := 3) (v := ?_) (some 31) rfl rfl (by kernel_rfl) (by kernel_rfl) (by kernel_rfl) (by decide) (fun _ _ _ h => h) (Or.inl ⟨by rfl, ?_⟩) (fun h0 => by assumption) ?_
          rotate_left
          · intro wS
            go_simp
            try with_reducible rfl
          try simp only [Act.put, List.setIfInBounds_toArray, List.set_cons_zero, List.set_cons_succ]
          refine wpAnyL_free (i := 4) (v := ?_) (some 32) rfl rfl (by kernel_rfl) (by kernel_rfl) (by kernel_rfl) (by decide) (fun _ _ _ h => h) (Or.inl ⟨by rfl, ?_⟩) (fun h0 => by assumption) ?_
          rotate_left
          · intro wS
            go_simp
            try with_reducible rfl
          try simp only [Act.put, List.setIfInBounds_toArray, List.set_cons_zero, List.set_cons_succ]
          refine wpAnyL_take (i := 5) (v := ?_) (some 33) rfl rfl (by kernel_rfl) (by kernel_rfl) (by kernel_rfl) (by kernel_rfl) (by kernel_rfl) (fun _ _ _ h => h) (Or.inl ⟨by rfl, ?_⟩) (by assumption) ?_
          rotate_left
          · intro wS hSw
            try dsimp only at hSw
            go_simp
            try with_reducible rfl
          try simp only [Act.put, List.setIfInBounds_toArray, List.set_cons_zero, List.set_cons_succ]
          refine wpAnyL_free (i := 7) (v := ?_) (some 35) rfl rfl (by kernel_rfl) (by kernel_rfl) (by kernel_rfl) (by decide) (fun _ _ _ h => h) (Or.inl ⟨by rfl, ?_⟩) (fun h0 => by assumption) ?_
          rotate_left
          · intro wS
            go_simp
            try with_reducible rfl
          try simp only [Act.put, List.setIfInBounds_toArray, List.set_cons_zero, List.set_cons_succ]
          refine wpAnyL_free (i := 8) (v := ?_) (some 36) rfl rfl (by kernel_rfl) (by kernel_rfl) (by kernel_rfl) (by decide) (fun _ _ _ h => h) (Or.inl ⟨by rfl, ?_⟩) (fun h0 => by assumption) ?_
          rotate_left
          · intro wS
            go_simp
            try with_reducible rfl
          try simp only [Act.put, List.setIfInBounds_toArray, List.set_cons_zero, List.set_cons_succ]
          refine wpAnyL_free (i := 9) (v := ?_) (some 37) rfl rfl (by kernel_rfl) (by kernel_rfl) (by kernel_rfl) (by decide) (fun _ _ _ h => h) (Or.inl ⟨by rfl, ?_⟩) (fun h0 => by assumption) ?_
          rotate_left
          · intro wS
            go_simp
            try with_reducible rfl
          try simp only [Act.put, List.setIfInBounds_toArray, List.set_cons_zero, List.set_cons_succ]
          refine wpAnyL_free (i := 10) (v := ?_) (some 38) rfl rfl (by kernel_rfl) (by kernel_rfl) (by kernel_rfl) (by decide) (fun _ _ _ h => h) (Or.inl ⟨by rfl, ?_⟩) (fun h0 => by assumption) ?_
          rotate_left
          · intro wS
            go_simp
            try with_reducible rfl
          try simp only [Act.put, List.setIfInBounds_toArray, List.set_cons_zero, List.set_cons_succ]
          refine wpAnyL_take (i := 11) (v := ?_) (some 39) rfl rfl (by kernel_rfl) (by kernel_rfl) (by kernel_rfl) (by kernel_rfl) (by kernel_rfl) (fun _ _ _ h => h) (Or.inl ⟨by rfl, ?_⟩) (by assumption) ?_
          rotate_left
          · intro wS hSw
            try dsimp only at hSw
            go_simp
            try with_reducible rfl
          try simp only [Act.put, List.setIfInBounds_toArray, List.set_cons_zero, List.set_cons_succ]
          refine wpAnyL_ready (rs := [6]) (by kernel_rfl) (by simp) ?_
          refine AllReadyL.cons rfl (fun K hK => ?_) AllReadyL.nil
          go_simp; go_at_call 91; refine (l07First _ _ _ (HROW.out.below hHeld.2.2)).mono ?_; rw [HFV.out]; rintro e w4 ⟨rfl, rfl⟩
          refine hK.out _ _ ?_ (fun hHeld => ?_)
          · exact hHeld
          clear hK K
          try simp only [Act.put, List.setIfInBounds_toArray, List.set_cons_zero, List.set_cons_succ]
          refine wpAnyL_free (i := 12) (v := ?_) (some 40) rfl rfl (by kernel_rfl) (by kernel_rfl) (by kernel_rfl) (by decide) (fun _ _ _ h => h) (Or.inl ⟨by rfl, ?_⟩) (fun h0 => by assumption) ?_
          rotate_left
          · intro wS
            go_simp
            try with_reducible rfl
          try simp only [Act.put, List.setIfInBounds_toArray, List.set_cons_zero, List.set_cons_succ]
          refine wpAnyL_ready (rs := [13]) (by kernel_rfl) (by simp) ?_
          refine AllReadyL.last rfl (by kernel_rfl) (fun K hK => ?_) AllReadyL.nil
          have HB5 := Lib.hid hHeld.2.2
          have hfl5 := HV.out.below HB5.out
          have ex5 := hfl5.cell_of ck (by rw [solV_len]; exact hckn)
          have fz5 := hfl5.free ck
          have HF5 := Lib.hid (hfl5.set ck r)
          clear hfl5
          go_simp
          refine hK.out _ _ ?_
          clear hK K
          try simp only [Act.put, List.setIfInBounds_toArray, List.set_cons_zero, List.set_cons_succ]
          refine wpAnyL_done (by kernel_rfl) ?_ _
          refine NoPanic.normal ?_
          have HB6 := Lib.hid ((HBL.out.trans (HB5.out.mono (Nat.le_trans HVB.out (Nat.le_of_lt HVL.out)))).setCell (p := ⟨vb, ck, none⟩) HVB.out (.int .i64 r))
          clear hHeld ex5 fz5 x0 x1
          go_wp2
          go_roundw
          case rel => exact ⟨k + 1, by omega, by go_num, by rw [← HSV.out]; exact HF5.out, HB6.out⟩
          case measure => simp [intOf]; omega
        · obtain rfl : k = d := by omega
          have HFF : Hid (OwnRow wr vb (.slice (some ⟨vb, 0, none⟩) un un) zs) := Lib.hid (by rw [HZS.out]; exact HV.out)
          have HWF := Lib.hid (HW3.out.trans (HBL.out.mono HW3.out.size))
          have HBB : Hid (w.heap.size ≤ vb) := Lib.hid (Nat.le_trans HW3.out.size HVB.out)
          go_wp2
          go_ret2
          exact ⟨some ⟨vb, 0, none⟩, un, un, by rw [HCD.out]; rfl, (HFF.out.mono HBB.out).full, HWF.out⟩
    · have hnn : ∃ j, d ≤ j ∧ j < rs.length ∧ intN (R j) un ≠ 0 := Classical.not_not.1 fun h => hmz (HNG.out.2 h)
      obtain ⟨rfl, rfl⟩ := HI2.out.1 hnn
      have hge : m ≥ 0 := by omega
      clear xu hnn
      go_wp2
      go_ret2
      exact ⟨_, _, _, rfl, ownE_new _ _ HW3.out.size, HW3.out.alloc HW3.out.size _⟩
  · have HOK := Lib.hid hok
    obtain ⟨rfl, rfl⟩ : zs = [] ∧ cd = 1 := by
      rcases HI.out with ⟨h1, _⟩ | ⟨h1, _⟩ | ⟨_, rfl, rfl⟩
      · exact absurd h1 hok
      · exact absurd h1 hok
      · exact ⟨rfl, rfl⟩
    clear hok
    go_wp2_with fail
    refine (l07Ok _ _ _ _ rs false _ HS.out (Tells.no HOK.out)).mono ?_
    rintro e w2 ⟨rfl, hq⟩
    have HW2 := Lib.hid (HW.out.trans (hq.bel.mono HW.out.size))
    clear hq
    go_wp2
    go_ret2
    exact ⟨_, _, _, rfl, ownE_new _ _ HW2.out.size, HW2.out.alloc HW2.out.size _⟩

end Go.Proofs.Ytnbgpeoceejolaa

namespace Go.Proofs.Ytnbgpeoceejolaa
open Go.RowKit

theorem ElimAt.onlyV {S : Nat → Prop} {w w' : World} {eb rb g n l u d : Nat} {s : Nat → Nat} {p : Int} {F : Nat → Int} {R : Nat → List Int} (h : ElimAt w eb rb g n l u d s p F R) (ho : Only S w w') (h1 : ¬ S eb) (h2 : ¬ S rb) (h3 : ¬ S g) : ElimAt w' eb rb g n l u d s p F R :=
  ⟨h.box.same (ho.block eb h.heb h1), ⟨fun i hi => (World.cell?_of_block (ho.block rb h.hrb h2)).trans (h.rows.at_ i hi), fun o => (World.frozen?_of_block (ho.block rb h.hrb h2)).trans (h.rows.frz o), h.rows.flat.same (ho.block g h.rows.inn h3), h.rows.low, h.rows.lt, h.rows.inj, h.rows.ne, h.rows.fit, Nat.lt_of_lt_of_le h.rows.inn ho.size⟩, h.eq, Nat.lt_of_lt_of_le h.hrb ho.size, Nat.lt_of_lt_of_le h.heb ho.size, h.heg, h.her⟩

set_option linter.unusedSimpArgs false in
set_option maxHeartbeats 4000000 in
set_option maxRecDepth 100000 in
theorem complete2 (B eb rb g n l u d vb cv : Nat) (s : Nat → Nat) (F : Nat → Int) (R : Nat → List Int) (c : Nat → Nat) (w : World) (h : ElimAt w eb rb g n l u d s 2 F R) (hul : u < l) (hd : d ≤ n) (hn : n ≤ 24) (hu : u ≤ 12) (hpv : Piv n u R d c) (hgd : GoodR 2 n l R) (hv : OwnRow w B (.slice (some ⟨vb, 0, none⟩) u cv) (solV R c u 0)) (hne : vb ≠ eb ∧ vb ≠ rb ∧ vb ≠ g) :
    Calls Try.prog 92 #[.pointer (some ⟨eb, 0, none⟩), .slice (some ⟨vb, 0, none⟩) u cv] w fun e w' => e = .returned (.tuple #[]) ∧ OwnRow w' B (.slice (some ⟨vb, 0, none⟩) u cv) (solV R c u d) ∧ Only (fun q => q = vb ∨ w.heap.size ≤ q) w w' := by
  have HE := Lib.hid h
  have HPV := Lib.hid hpv
  have HGD := Lib.hid hgd
  have HV0 := Lib.hid hv
  have HPP : Hid (PrimeP 2) := Lib.hid (by unfold PrimeP; omega)
  have hl37 : l ≤ 888 ∨ n = 0 := by
    by_cases h0 : n = 0
    · exact .inr h0
    · refine .inl ?_
      have h1 := Nat.mul_le_mul_right l (show 1 ≤ n by omega)
      have := h.rows.fit
      omega
  have hmp := method_prime2
  have y0 : w.cell? ⟨eb, 0, none⟩ = some (.iface 247 (.agg #[])) := h.box.c 0 rfl
  clear h hpv hgd hv
  go_enter Try.func92, Try.ntmps92
  go_wp2_with fail
  refine (prime2 _).mono ?_
  rintro e w1 ⟨rfl, hb1⟩
  have HE1 := Lib.hid (HE.out.below hb1)
  have HV1 := Lib.hid (HV0.out.below hb1)
  have HO1 : Hid (Only (fun q => q = vb ∨ w.heap.size ≤ q) w w1) := Lib.hid hb1.only
  have y2 : w1.cell? ⟨eb, 2, none⟩ = some (.slice (some ⟨rb, 0, none⟩) n n) := HE1.out.box.c 2 rfl
  have y3 : w1.cell? ⟨eb, 3, none⟩ = some (.int .i64 (d : Int)) := HE1.out.box.c 3 rfl
  have hdn : (d : Int) ≤ (n : Int) := by omega
  clear hb1 y0
  go_wp2_with fail
  refine wp_region_noPanic ?_
  refine wp_region_late (S := (fun w' => w'.cell? ⟨eb, 2, none⟩ = some (.slice (some ⟨rb, 0, none⟩) n n) ∧ w'.cell? ⟨eb, 3, none⟩ = some (.int .i64 (d : Int)))) [] (by kernel_rfl) ?_ (fun hHeld => ?_)
  · exact ⟨y2, y3⟩
  refine wpAnyL_free (i := 0) (v := ?_) (some 13) rfl rfl (by kernel_rfl) (by kernel_rfl) (by kernel_rfl) (by decide) (fun _ _ _ h => h) (Or.inl ⟨by rfl, ?_⟩) (fun h0 => by assumption) ?_
  rotate_left
  · intro wS
    go_simp
    try with_reducible rfl
  try simp only [Act.put, List.setIfInBounds_toArray, List.set_cons_zero, List.set_cons_succ]
  refine wpAnyL_free (i := 1) (v := ?_) (some 14) rfl rfl (by kernel_rfl) (by kernel_rfl) (by kernel_rfl) (by decide) (fun _ _ _ h => h) (Or.inl ⟨by rfl, ?_⟩) (fun h0 => by assumption) ?_
  rotate_left
  · intro wS
    go_simp
    try with_reducible rfl
  try simp only [Act.put, List.setIfInBounds_toArray, List.set_cons_zero, List.set_cons_succ]
  refine wpAnyL_free (i := 2) (v := ?_) (some 15) rfl rfl (by kernel_rfl) (by kernel_rfl) (by kernel_rfl) (by decide) (fun _ _ _ h => h) (Or.inl ⟨by rfl, ?_⟩) (fun h0 => by assumption) ?_
  rotate_left
  · intro wS
    go_simp
    try with_reducible rfl
  try simp only [Act.put, List.setIfInBounds_toArray, List.set_cons_zero, List.set_cons_succ]
  refine wpAnyL_take (i := 3) (v := ?_) (some 16) rfl rfl (by kernel_rfl) (by kernel_rfl) (by kernel_rfl) (by kernel_rfl) (by kernel_rfl) (fun _ _ _ h => h) (Or.inl ⟨by rfl, ?_⟩) (by assumption) ?_
  rotate_left
  · intro wS hSw
    try dsimp only at hSw
    go_simp
    try with_reducible rfl
  try simp only [Act.put, List.setIfInBounds_toArray, List.set_cons_zero, List.set_cons_succ]
  refine wpAnyL_free (i := 4) (v := ?_) (some 17) rfl rfl (by kernel_rfl) (by kernel_rfl) (by kernel_rfl) (by decide) (fun _ _ _ h => h) (Or.inl ⟨by rfl, ?_⟩) (fun h0 => by assumption) ?_
  rotate_left
  · intro wS
    go_simp
    try with_reducible rfl
  try simp only [Act.put, List.setIfInBounds_toArray, List.set_cons_zero, List.set_cons_succ]
  refine wpAnyL_free (i := 5) (v := ?_) (some 18) rfl rfl (by kernel_rfl) (by kernel_rfl) (by kernel_rfl) (by decide) (fun _ _ _ h => h) (Or.inl ⟨by rfl, ?_⟩) (fun h0 => by assumption) ?_
  rotate_left
  · intro wS
    go_simp
    try with_reducible rfl
  try simp only [Act.put, List.setIfInBounds_toArray, List.set_cons_zero, List.set_cons_succ]
  refine wpAnyL_free (i := 6) (v := ?_) (some 19) rfl rfl (by kernel_rfl) (by kernel_rfl) (by kernel_rfl) (by decide) (fun _ _ _ h => h) (Or.inl ⟨by rfl, ?_⟩) (fun h0 => by assumption) ?_
  rotate_left
  · intro wS
    go_simp
    try with_reducible rfl
  try simp only [Act.put, List.setIfInBounds_toArray, List.set_cons_zero, List.set_cons_succ]
  refine wpAnyL_take (i := 7) (v := ?_) (some 20) rfl rfl (by kernel_rfl) (by kernel_rfl) (by kernel_rfl) (by kernel_rfl) (by kernel_rfl) (fun _ _ _ h => h) (Or.inl ⟨by rfl, ?_⟩) (by assumption) ?_
  rotate_left
  · intro wS hSw
    try dsimp only at hSw
    go_simp
    try with_reducible rfl
  try simp only [Act.put, List.setIfInBounds_toArray, List.set_cons_zero, List.set_cons_succ]
  refine wpAnyL_free (i := 8) (v := ?_) (some 21) rfl rfl (by kernel_rfl) (by kernel_rfl) (by kernel_rfl) (by decide) (fun _ _ _ h => h) (Or.inl ⟨by rfl, ?_⟩) (fun h0 => by assumption) ?_
  rotate_left
  · intro wS
    go_simp
    try with_reducible rfl
  try simp only [Act.put, List.setIfInBounds_toArray, List.set_cons_zero, List.set_cons_succ]
  refine wpAnyL_free (i := 9) (v := ?_) (some 22) rfl rfl (by kernel_rfl) (by kernel_rfl) (by kernel_rfl) (by decide) (fun _ _ _ h => h) (Or.inl ⟨by rfl, ?_⟩) (fun h0 => by assumption) ?_
  rotate_left
  · intro wS
    go_simp
    try with_reducible rfl
  try simp only [Act.put, List.setIfInBounds_toArray, List.set_cons_zero, List.set_cons_succ]
  refine wpAnyL_free (i := 10) (v := ?_) (some 23) rfl rfl (by kernel_rfl) (by kernel_rfl) (by kernel_rfl) (by decide) (fun _ _ _ h => h) (Or.inl ⟨by rfl, ?_⟩) (fun h0 => by assumption) ?_
  rotate_left
  · intro wS
    go_simp
    try with_reducible rfl
  try simp only [Act.put, List.setIfInBounds_toArray, List.set_cons_zero, List.set_cons_succ]
  refine wpAnyL_done (by kernel_rfl) ?_ _
  refine NoPanic.normal ?_
  clear hHeld
  obtain ⟨w1d, hw1d⟩ : ∃ w1d, w1.drew = w1d := ⟨_, rfl⟩
  have HE2 := Lib.hid (HE1.out.drew)
  rw [hw1d] at HE2
  have HV2 : Hid (OwnRow w1d B (.slice (some ⟨vb, 0, none⟩) u cv) (solV R c u 0)) := Lib.hid (by rw [← hw1d]; exact HV1.out.below (Below.refl _ _).drew)
  have HO2 : Hid (Only (fun q => q = vb ∨ w.heap.size ≤ q) w w1d) := Lib.hid (by rw [← hw1d]; exact HO1.out.drew)
  rw [show w1.drew = w1d from hw1d]
  clear hw1d y2 y3
  try simp only [ite_self]
  go_wp2
  go_loopw [23] (fun v wr => ∃ k : Nat, k ≤ d ∧ v = .int .i64 k ∧ OwnRow wr B (.slice (some ⟨vb, 0, none⟩) u cv) (solV R c u k) ∧ Only (fun q => q = vb ∨ w.heap.size ≤ q) w wr) (fun v _ => d - (intOf v).toNat)
  case atStart => exact ⟨0, Nat.zero_le _, rfl, HV2.out, HO2.out⟩
  case round =>
    obtain ⟨k, hk, rfl, hv, ho⟩ := hrel
    have HV := Lib.hid hv
    have HOV := Lib.hid ho
    have HEK := Lib.hid (HE.out.onlyV ho (by rintro (h | h); exact hne.1 h.symm; have := HE.out.heb; omega) (by rintro (h | h); exact hne.2.1 h.symm; have := HE.out.hrb; omega) (by rintro (h | h); exact hne.2.2 h.symm; have := HE.out.rows.inn; omega))
    clear hv ho
    by_cases hlt : k < d
    · have hkd : (k : Int) < (d : Int) := by omega
      have hkn : k < n := by omega
      obtain ⟨hgl, hlow⟩ := HGD.out k hkn
      have hfit := HEK.out.rows.fits hkn
      have e0 := HEK.out.rows.at_ k hkn
      obtain ⟨so, hso⟩ : ∃ so, s k * l = so := ⟨_, rfl⟩
      obtain ⟨r, hr⟩ : ∃ r, intN (R k) u = r := ⟨_, rfl⟩
      obtain ⟨ck, hck⟩ : ∃ ck, c k = ck := ⟨_, rfl⟩
      rw [hso] at e0 hfit
      have HAT : Hid (∀ j, j < l → F (so + j) = intN (R k) j) := Lib.hid fun j hj => by
        rw [← HEK.out.eq k hkn, rowAtF_at hj, hso]
      have HFLAT := Lib.hid HEK.out.rows.flat
      have HRA : Hid (RowAt wr (.slice (some ⟨g, so, none⟩) l l) (R k)) := Lib.hid (by
        unfold RowAt
        rw [hgl]
        refine ⟨_, _, rfl, by omega, fun _ => ⟨g, so, rfl, fun j hj => ?_⟩⟩
        have e := HFLAT.out.1 (so + j) (by omega)
        rw [HAT.out j hj] at e
        exact e)
      have htl : ((R k).take u).length = u := by rw [List.length_take, hgl]; omega
      have HRU : Hid (RowAt wr (.slice (some ⟨g, so, none⟩) u l) ((R k).take u)) := Lib.hid (by
        unfold RowAt
        rw [htl]
        refine ⟨_, _, rfl, by omega, fun _ => ⟨g, so, rfl, fun j hj => ?_⟩⟩
        have e := HFLAT.out.1 (so + j) (by omega)
        rw [HAT.out j (by omega)] at e
        show wr.cell? ⟨g, so + j, none⟩ = some (.int .i64 (intN ((R k).take u) j))
        rw [intN_take hj]
        exact e)
      have x1 : wr.cell? ⟨eb, 1, none⟩ = some (.int .i64 (u : Int)) := HEK.out.box.c 1 rfl
      have x2 : wr.cell? ⟨g, so + u, none⟩ = some (.int .i64 r) := by
        have e := HFLAT.out.1 (so + u) (by omega)
        rw [HAT.out u hul, hr] at e
        exact e
      have HFV : Hid (firstV (R k) = (ck : Int)) := Lib.hid (by rw [HPV.out.firstW hd hlt (by omega), hck])
      have hcku : ck < u := by rw [← hck]; exact HPV.out.lt k hlt
      have hcki : (ck : Int) < (u : Int) := by omega
      have HSV : Hid ((solV R c u k).set ck r = solV R c u (k + 1)) := Lib.hid (by rw [← hr, ← hck]; rfl)
      have HL1 : Hid (Low3 ((R k).take u)) := Lib.hid ((hlow.take u).low3 (by decide))
      have HL2 : Hid (Low3 (solV R c u k)) := Lib.hid ((solV_low (by decide) (fun i hi => (HGD.out i (by omega)).2.any (by decide) u)).low3 (by decide : (2 : Int) ≤ 3))
      have HLN : Hid (((R k).take u).length = (solV R c u k).length) := Lib.hid (by rw [htl, solV_len])
      have HL12 : Hid (((R k).take u).length ≤ 12) := Lib.hid (by omega)
      have HDOT : Hid (dotK ((R k).take u) (solV R c u k) ((R k).take u).length % 2 = 0) := Lib.hid (by rw [htl, HPV.out.others hd hlt]; rfl)
      have HVR := Lib.hid HV.out.rowAt
      have hrl := hlow.any (by decide) u
      rw [hr] at hrl
      have hul2 : (u : Int) < (l : Int) := by omega
      have hul3 : (u : Int) ≤ (l : Int) := by omega
      have hw0 : IntKind.i64.wrap r = r := IntWalk.i64_in _ (by omega)
      have hw1 : IntKind.i64.wrap (r + 2) = r + 2 := IntWalk.i64_in _ (by omega)
      have hm0 : Int.tmod (r + 2) 2 = r := by rw [Int.tmod_eq_emod_of_nonneg (by omega)]; omega
      clear hgl hlow hfit hso hr hck htl
      go_wp2_with fail
      refine (sumOfM 2 _ _ _ ((R k).take u) _ _ _ (solV R c u k) 0 _ HRU.out HVR.out HLN.out HPP.out HL1.out HL2.out HL12.out HDOT.out).mono ?_
      rintro e w3 ⟨rfl, rfl⟩
      go_wp2_with fail
      refine wp_region_noPanic ?_
      refine wp_region_late (S := (fun w' => w'.cell? ⟨eb, 1, none⟩ = some (.int .i64 (u : Int)) ∧ w'.cell? ⟨g, so + u, none⟩ = some (.int .i64 r) ∧ Below wr.heap.size wr w')) [17] (by kernel_rfl) ?_ (fun hHeld => ?_)
      · exact ⟨x1, x2, (QW.refl _).drew.below _⟩
      refine wpAnyL_free (i := 0) (v := ?_) (some 36) rfl rfl (by kernel_rfl) (by kernel_rfl) (by kernel_rfl) (by decide) (fun _ _ _ h => h) (Or.inl ⟨by rfl, ?_⟩) (fun h0 => by assumption) ?_
      rotate_left
      · intro wS
        go_simp
        try with_reducible rfl
      try simp only [Act.put, List.setIfInBounds_toArray, List.set_cons_zero, List.set_cons_succ]
      refine wpAnyL_free (i := 1) (v := ?_) (some 37) rfl rfl (by kernel_rfl) (by kernel_rfl) (by kernel_rfl) (by decide) (fun _ _ _ h => h) (Or.inl ⟨by rfl, ?_⟩) (fun h0 => by assumption) ?_
      rotate_left
      · intro wS
        go_simp
        try with_reducible rfl
      try simp only [Act.put, List.setIfInBounds_toArray, List.set_cons_zero, List.set_cons_succ]
      refine wpAnyL_free (i := 3) (v := ?_) (some 39) rfl rfl (by kernel_rfl) (by kernel_rfl) (by kernel_rfl) (by decide) (fun _ _ _ h => h) (Or.inl ⟨by rfl, ?_⟩) (fun h0 => by assumption) ?_
      rotate_left
      · intro wS
        go_simp
        try with_reducible rfl
      try simp only [Act.put, List.setIfInBounds_toArray, List.set_cons_zero, List.set_cons_succ]
      refine wpAnyL_free (i := 4) (v := ?_) (some 40) rfl rfl (by kernel_rfl) (by kernel_rfl) (by kernel_rfl) (by decide) (fun _ _ _ h => h) (Or.inl ⟨by rfl, ?_⟩) (fun h0 => by assumption) ?_
      rotate_left
      · intro wS
        go_simp
        try with_reducible rfl
      try simp only [Act.put, List.setIfInBounds_toArray, List.set_cons_zero, List.set_cons_succ]
      refine wpAnyL_free (i := 5) (v := ?_) (some 41) rfl rfl (by kernel_rfl) (by kernel_rfl) (by kernel_rfl) (by decide) (fun _ _ _ h => h) (Or.inl ⟨by rfl, ?_⟩) (fun h0 => by assumption) ?_
      rotate_left
      · intro wS
        go_simp
        try with_reducible rfl
      try simp only [Act.put, List.setIfInBounds_toArray, List.set_cons_zero, List.set_cons_succ]
      refine wpAnyL_free (i := 6) (v := ?_) (some 42) rfl rfl (by kernel_rfl) (by kernel_rfl) (by kernel_rfl) (by decide) (fun _ _ _ h => h) (Or.inl ⟨by rfl, ?_⟩) (fun h0 => by assumption) ?_
      rotate_left
      · intro wS
        go_simp
        try with_reducible rfl
      try simp only [Act.put, List.setIfInBounds_toArray, List.set_cons_zero, List.set_cons_succ]
      refine wpAnyL_take (i := 7) (v := ?_) (some 43) rfl rfl (by kernel_rfl) (by kernel_rfl) (by kernel_rfl) (by kernel_rfl) (by kernel_rfl) (fun _ _ _ h => h) (Or.inl ⟨by rfl, ?_⟩) (by assumption) ?_
      rotate_left
      · intro wS hSw
        try dsimp only at hSw
        go_simp
        try with_reducible rfl
      try simp only [Act.put, List.setIfInBounds_toArray, List.set_cons_zero, List.set_cons_succ]
      refine wpAnyL_free (i := 8) (v := ?_) (some 44) rfl rfl (by kernel_rfl) (by kernel_rfl) (by kernel_rfl) (by decide) (fun _ _ _ h => h) (Or.inl ⟨by rfl, ?_⟩) (fun h0 => by assumption) ?_
      rotate_left
      · intro wS
        go_simp
        try with_reducible rfl
      try simp only [Act.put, List.setIfInBounds_toArray, List.set_cons_zero, List.set_cons_succ]
      refine wpAnyL_take (i := 9) (v := ?_) (some 45) rfl rfl (by kernel_rfl) (by kernel_rfl) (by kernel_rfl) (by kernel_rfl) (by kernel_rfl) (fun _ _ _ h => h) (Or.inl ⟨by rfl, ?_⟩) (by assumption) ?_
      rotate_left
      · intro wS hSw
        try dsimp only at hSw
        go_simp
        try with_reducible rfl
      try simp only [Act.put, List.setIfInBounds_toArray, List.set_cons_zero, List.set_cons_succ]
      refine wpAnyL_free (i := 10) (v := ?_) (some 46) rfl rfl (by kernel_rfl) (by kernel_rfl) (by kernel_rfl) (by decide) (fun _ _ _ h => h) (Or.inl ⟨by rfl, ?_⟩) (fun h0 => by assumption) ?_
      rotate_left
      · intro wS
        go_simp
        try with_reducible rfl
      try simp only [Act.put, List.setIfInBounds_toArray, List.set_cons_zero, List.set_cons_succ]
      refine wpAnyL_free (i := 11) (v := ?_) (some 47) rfl rfl (by kernel_rfl) (by kernel_rfl) (by kernel_rfl) (by decide) (fun _ _ _ h => h) (Or.inl ⟨by rfl, ?_⟩) (fun h0 => by assumption) ?_
      rotate_left
      · intro wS
        go_simp
        try with_reducible rfl
      try simp only [Act.put, List.setIfInBounds_toArray, List.set_cons_zero, List.set_cons_succ]
      refine wpAnyL_free (i := 12) (v := ?_) (some 48) rfl rfl (by kernel_rfl) (by kernel_rfl) (by kernel_rfl) (by decide) (fun _ _ _ h => h) (Or.inl ⟨by rfl, ?_⟩) (fun h0 => by assumption) ?_
      rotate_left
      · intro wS
        go_simp
        try with_reducible rfl
      try simp only [Act.put, List.setIfInBounds_toArray, List.set_cons_zero, List.set_cons_succ]
      refine wpAnyL_free (i := 13) (v := ?_) (some 49) rfl rfl (by kernel_rfl) (by kernel_rfl) (by kernel_rfl) (by decide) (fun _ _ _ h => h) (Or.inl ⟨by rfl, ?_⟩) (fun h0 => by assumption) ?_
      rotate_left
      · intro wS
        go_simp
        try with_reducible rfl
      try simp only [Act.put, List.setIfInBounds_toArray, List.set_cons_zero, List.set_cons_succ]
      refine wpAnyL_free (i := 14) (v := ?_) (some 50) rfl rfl (by kernel_rfl) (by kernel_rfl) (by kernel_rfl) (by decide) (fun _ _ _ h => h) (Or.inl ⟨by rfl, ?_⟩) (fun h0 => by assumption) ?_
      rotate_left
      · intro wS
        go_simp
        try with_reducible rfl
      try simp only [Act.put, List.setIfInBounds_toArray, List.set_cons_zero, List.set_cons_succ]
      refine wpAnyL_free (i := 15) (v := ?_) (some 51) rfl rfl (by kernel_rfl) (by kernel_rfl) (by kernel_rfl) (by decide) (fun _ _ _ h => h) (Or.inl ⟨by rfl, ?_⟩) (fun h0 => by assumption) ?_
      rotate_left
      · intro wS
        go_simp
        try with_reducible rfl
      try simp only [Act.put, List.setIfInBounds_toArray, List.set_cons_zero, List.set_cons_succ]
      refine wpAnyL_ready (rs := [2]) (by kernel_rfl) (by simp) ?_
      refine AllReadyL.cons rfl (fun K hK => ?_) AllReadyL.nil
      go_simp; go_at_call 143; refine (beginOfC _ _ _ (HRA.out.below hHeld.2.2)).mono ?_; rw [HFV.out]; rintro e w4 ⟨rfl, rfl⟩
      refine hK.out _ _ ?_ (fun hHeld => ?_)
      · exact hHeld
      clear hK K
      try simp only [Act.put, List.setIfInBounds_toArray, List.set_cons_zero, List.set_cons_succ]
      refine wpAnyL_free (i := 16) (v := ?_) (some 52) rfl rfl (by kernel_rfl) (by kernel_rfl) (by kernel_rfl) (by decide) (fun _ _ _ h => h) (Or.inl ⟨by rfl, ?_⟩) (fun h0 => by assumption) ?_
      rotate_left
      · intro wS
        go_simp
        try with_reducible rfl
      try simp only [Act.put, List.setIfInBounds_toArray, List.set_cons_zero, List.set_cons_succ]
      refine wpAnyL_ready (rs := [17]) (by kernel_rfl) (by simp) ?_
      refine AllReadyL.last rfl (by kernel_rfl) (fun K hK => ?_) AllReadyL.nil
      have HB5 := Lib.hid hHeld.2.2
      have hfl5 := HV.out.below HB5.out
      have ex5 := hfl5.cell_of ck (by rw [solV_len]; exact hcku)
      have fz5 := hfl5.free ck
      have HF5 := Lib.hid (hfl5.set ck r)
      clear hfl5
      go_simp
      refine hK.out _ _ ?_
      clear hK K
      try simp only [Act.put, List.setIfInBounds_toArray, List.set_cons_zero, List.set_cons_succ]
      refine wpAnyL_done (by kernel_rfl) ?_ _
      refine NoPanic.normal ?_
      have HO6 := Lib.hid ((HOV.out.trans (HB5.out.only)).setCell (p := ⟨vb, ck, none⟩) (Or.inl rfl) (.int .i64 r))
      clear hHeld ex5 fz5 x1 x2
      go_wp2
      go_roundw
      case rel => exact ⟨k + 1, by omega, by go_num, by rw [← HSV.out]; exact HF5.out, HO6.out⟩
      case measure => simp [intOf]; omega
    · obtain rfl : k = d := by omega
      go_wp2
      go_end0
      exact ⟨rfl, HV.out, HOV.out⟩

set_option linter.unusedSimpArgs false in
set_option maxHeartbeats 4000000 in
set_option maxRecDepth 100000 in
theorem complete3 (B eb rb g n l u d vb cv : Nat) (s : Nat → Nat) (F : Nat → Int) (R : Nat → List Int) (c : Nat → Nat) (w : World) (h : ElimAt w eb rb g n l u d s 3 F R) (hul : u < l) (hd : d ≤ n) (hn : n ≤ 24) (hu : u ≤ 12) (hpv : Piv n u R d c) (hgd : GoodR 3 n l R) (hv : OwnRow w B (.slice (some ⟨vb, 0, none⟩) u cv) (solV R c u 0)) (hne : vb ≠ eb ∧ vb ≠ rb ∧ vb ≠ g) :
    Calls Try.prog 92 #[.pointer (some ⟨eb, 0, none⟩), .slice (some ⟨vb, 0, none⟩) u cv] w fun e w' => e = .returned (.tuple #[]) ∧ OwnRow w' B (.slice (some ⟨vb, 0, none⟩) u cv) (solV R c u d) ∧ Only (fun q => q = vb ∨ w.heap.size ≤ q) w w' := by
  have HE := Lib.hid h
  have HPV := Lib.hid hpv
  have HGD := Lib.hid hgd
  have HV0 := Lib.hid hv
  have HPP : Hid (PrimeP 3) := Lib.hid (by unfold PrimeP; omega)
  have hl37 : l ≤ 888 ∨ n = 0 := by
    by_cases h0 : n = 0
    · exact .inr h0
    · refine .inl ?_
      have h1 := Nat.mul_le_mul_right l (show 1 ≤ n by omega)
      have := h.rows.fit
      omega
  have hmp := method_prime3
  have y0 : w.cell? ⟨eb, 0, none⟩ = some (.iface 248 (.agg #[])) := h.box.c 0 rfl
  clear h hpv hgd hv
  go_enter Try.func92, Try.ntmps92
  go_wp2_with fail
  refine (prime3 _).mono ?_
  rintro e w1 ⟨rfl, hb1⟩
  have HE1 := Lib.hid (HE.out.below hb1)
  have HV1 := Lib.hid (HV0.out.below hb1)
  have HO1 : Hid (Only (fun q => q = vb ∨ w.heap.size ≤ q) w w1) := Lib.hid hb1.only
  have y2 : w1.cell? ⟨eb, 2, none⟩ = some (.slice (some ⟨rb, 0, none⟩) n n) := HE1.out.box.c 2 rfl
  have y3 : w1.cell? ⟨eb, 3, none⟩ = some (.int .i64 (d : Int)) := HE1.out.box.c 3 rfl
  have hdn : (d : Int) ≤ (n : Int) := by omega
  clear hb1 y0
  go_wp2_with fail
  refine wp_region_noPanic ?_
  refine wp_region_late (S := (fun w' => w'.cell? ⟨eb, 2, none⟩ = some (.slice (some ⟨rb, 0, none⟩) n n) ∧ w'.cell? ⟨eb, 3, none⟩ = some (.int .i64 (d : Int)))) [] (by kernel_rfl) ?_ (fun hHeld => ?_)
  · exact ⟨y2, y3⟩
  refine wpAnyL_free (i := 0) (v := ?_) (some 13) rfl rfl (by kernel_rfl) (by kernel_rfl) (by kernel_rfl) (by decide) (fun _ _ _ h => h) (Or.inl ⟨by rfl, ?_⟩) (fun h0 => by assumption) ?_
  rotate_left
  · intro wS
    go_simp
    try with_reducible rfl
  try simp only [Act.put, List.setIfInBounds_toArray, List.set_cons_zero, List.set_cons_succ]
  refine wpAnyL_free (i := 1) (v := ?_) (some 14) rfl rfl (by kernel_rfl) (by kernel_rfl) (by kernel_rfl) (by decide) (fun _ _ _ h => h) (Or.inl ⟨by rfl, ?_⟩) (fun h0 => by assumption) ?_
  rotate_left
  · intro wS
    go_simp
    try with_reducible rfl
  try simp only [Act.put, List.setIfInBounds_toArray, List.set_cons_zero, List.set_cons_succ]
  refine wpAnyL_free (i := 2) (v := ?_) (some 15) rfl rfl (by kernel_rfl) (by kernel_rfl) (by kernel_rfl) (by decide) (fun _ _ _ h => h) (Or.inl ⟨by rfl, ?_⟩) (fun h0 => by assumption) ?_
  rotate_left
  · intro wS
    go_simp
    try with_reducible rfl
  try simp only [Act.put, List.setIfInBounds_toArray, List.set_cons_zero, List.set_cons_succ]
  refine wpAnyL_take (i := 3) (v := ?_) (some 16) rfl rfl (by kernel_rfl) (by kernel_rfl) (by kernel_rfl) (by kernel_rfl) (by kernel_rfl) (fun _ _ _ h => h) (Or.inl ⟨by rfl, ?_⟩) (by assumption) ?_
  rotate_left
  · intro wS hSw
    try dsimp only at hSw
    go_simp
    try with_reducible rfl
  try simp only [Act.put, List.setIfInBounds_toArray, List.set_cons_zero, List.set_cons_succ]
  refine wpAnyL_free (i := 4) (v := ?_) (some 17) rfl rfl (by kernel_rfl) (by kernel_rfl) (by kernel_rfl) (by decide) (fun _ _ _ h => h) (Or.inl ⟨by rfl, ?_⟩) (fun h0 => by assumption) ?_
  rotate_left
  · intro wS
    go_simp
    try with_reducible rfl
  try simp only [Act.put, List.setIfInBounds_toArray, List.set_cons_zero, List.set_cons_succ]
  refine wpAnyL_free (i := 5) (v := ?_) (some 18) rfl rfl (by kernel_rfl) (by kernel_rfl) (by kernel_rfl) (by decide) (fun _ _ _ h => h) (Or.inl ⟨by rfl, ?_⟩) (fun h0 => by assumption) ?_
  rotate_left
  · intro wS
    go_simp
    try with_reducible rfl
  try simp only [Act.put, List.setIfInBounds_toArray, List.set_cons_zero, List.set_cons_succ]
  refine wpAnyL_free (i := 6) (v := ?_) (some 19) rfl rfl (by kernel_rfl) (by kernel_rfl) (by kernel_rfl) (by decide) (fun _ _ _ h => h) (Or.inl ⟨by rfl, ?_⟩) (fun h0 => by assumption) ?_
  rotate_left
  · intro wS
    go_simp
    try with_reducible rfl
  try simp only [Act.put, List.setIfInBounds_toArray, List.set_cons_zero, List.set_cons_succ]
  refine wpAnyL_take (i := 7) (v := ?_) (some 20) rfl rfl (by kernel_rfl) (by kernel_rfl) (by kernel_rfl) (by kernel_rfl) (by kernel_rfl) (fun _ _ _ h => h) (Or.inl ⟨by rfl, ?_⟩) (by assumption) ?_
  rotate_left
  · intro wS hSw
    try dsimp only at hSw
    go_simp
    try with_reducible rfl
  try simp only [Act.put, List.setIfInBounds_toArray, List.set_cons_zero, List.set_cons_succ]
  refine wpAnyL_free (i := 8) (v := ?_) (some 21) rfl rfl (by kernel_rfl) (by kernel_rfl) (by kernel_rfl) (by decide) (fun _ _ _ h => h) (Or.inl ⟨by rfl, ?_⟩) (fun h0 => by assumption) ?_
  rotate_left
  · intro wS
    go_simp
    try with_reducible rfl
  try simp only [Act.put, List.setIfInBounds_toArray, List.set_cons_zero, List.set_cons_succ]
  refine wpAnyL_free (i := 9) (v := ?_) (some 22) rfl rfl (by kernel_rfl) (by kernel_rfl) (by kernel_rfl) (by decide) (fun _ _ _ h => h) (Or.inl ⟨by rfl, ?_⟩) (fun h0 => by assumption) ?_
  rotate_left
  · intro wS
    go_simp
    try with_reducible rfl
  try simp only [Act.put, List.setIfInBounds_toArray, List.set_cons_zero, List.set_cons_succ]
  refine wpAnyL_free (i := 10) (v := ?_) (some 23) rfl rfl (by kernel_rfl) (by kernel_rfl) (by kernel_rfl) (by decide) (fun _ _ _ h => h) (Or.inl ⟨by rfl, ?_⟩) (fun h0 => by assumption) ?_
  rotate_left
  · intro wS
    go_simp
    try with_reducible rfl
  try simp only [Act.put, List.setIfInBounds_toArray, List.set_cons_zero, List.set_cons_succ]
  refine wpAnyL_done (by kernel_rfl) ?_ _
  refine NoPanic.normal ?_
  clear hHeld
  obtain ⟨w1d, hw1d⟩ : ∃ w1d, w1.drew = w1d := ⟨_, rfl⟩
  have HE2 := Lib.hid (HE1.out.drew)
  rw [hw1d] at HE2
  have HV2 : Hid (OwnRow w1d B (.slice (some ⟨vb, 0, none⟩) u cv) (solV R c u 0)) := Lib.hid (by rw [← hw1d]; exact HV1.out.below (Below.refl _ _).drew)
  have HO2 : Hid (Only (fun q => q = vb ∨ w.heap.size ≤ q) w w1d) := Lib.hid (by rw [← hw1d]; exact HO1.out.drew)
  rw [show w1.drew = w1d from hw1d]
  clear hw1d y2 y3
  try simp only [ite_self]
  go_wp2
  go_loopw [23] (fun v wr => ∃ k : Nat, k ≤ d ∧ v = .int .i64 k ∧ OwnRow wr B (.slice (some ⟨vb, 0, none⟩) u cv) (solV R c u k) ∧ Only (fun q => q = vb ∨ w.heap.size ≤ q) w wr) (fun v _ => d - (intOf v).toNat)
  case atStart => exact ⟨0, Nat.zero_le _, rfl, HV2.out, HO2.out⟩
  case round =>
    obtain ⟨k, hk, rfl, hv, ho⟩ := hrel
    have HV := Lib.hid hv
    have HOV := Lib.hid ho
    have HEK := Lib.hid (HE.out.onlyV ho (by rintro (h | h); exact hne.1 h.symm; have := HE.out.heb; omega) (by rintro (h | h); exact hne.2.1 h.symm; have := HE.out.hrb; omega) (by rintro (h | h); exact hne.2.2 h.symm; have := HE.out.rows.inn; omega))
    clear hv ho
    by_cases hlt : k < d
    · have hkd : (k : Int) < (d : Int) := by omega
      have hkn : k < n := by omega
      obtain ⟨hgl, hlow⟩ := HGD.out k hkn
      have hfit := HEK.out.rows.fits hkn
      have e0 := HEK.out.rows.at_ k hkn
      obtain ⟨so, hso⟩ : ∃ so, s k * l = so := ⟨_, rfl⟩
      obtain ⟨r, hr⟩ : ∃ r, intN (R k) u = r := ⟨_, rfl⟩
      obtain ⟨ck, hck⟩ : ∃ ck, c k = ck := ⟨_, rfl⟩
      rw [hso] at e0 hfit
      have HAT : Hid (∀ j, j < l → F (so + j) = intN (R k) j) := Lib.hid fun j hj => by
        rw [← HEK.out.eq k hkn, rowAtF_at hj, hso]
      have HFLAT := Lib.hid HEK.out.rows.flat
      have HRA : Hid (RowAt wr (.slice (some ⟨g, so, none⟩) l l) (R k)) := Lib.hid (by
        unfold RowAt
        rw [hgl]
        refine ⟨_, _, rfl, by omega, fun _ => ⟨g, so, rfl, fun j hj => ?_⟩⟩
        have e := HFLAT.out.1 (so + j) (by omega)
        rw [HAT.out j hj] at e
        exact e)
      have htl : ((R k).take u).length = u := by rw [List.length_take, hgl]; omega
      have HRU : Hid (RowAt wr (.slice (some ⟨g, so, none⟩) u l) ((R k).take u)) := Lib.hid (by
        unfold RowAt
        rw [htl]
        refine ⟨_, _, rfl, by omega, fun _ => ⟨g, so, rfl, fun j hj => ?_⟩⟩
        have e := HFLAT.out.1 (so + j) (by omega)
        rw [HAT.out j (by omega)] at e
        show wr.cell? ⟨g, so + j, none⟩ = some (.int .i64 (intN ((R k).take u) j))
        rw [intN_take hj]
        exact e)
      have x1 : wr.cell? ⟨eb, 1, none⟩ = some (.int .i64 (u : Int)) := HEK.out.box.c 1 rfl
      have x2 : wr.cell? ⟨g, so + u, none⟩ = some (.int .i64 r) := by
        have e := HFLAT.out.1 (so + u) (by omega)
        rw [HAT.out u hul, hr] at e
        exact e
      have HFV : Hid (firstV (R k) = (ck : Int)) := Lib.hid (by rw [HPV.out.firstW hd hlt (by omega), hck])
      have hcku : ck < u := by rw [← hck]; exact HPV.out.lt k hlt
      have hcki : (ck : Int) < (u : Int) := by omega
      have HSV : Hid ((solV R c u k).set ck r = solV R c u (k + 1)) := Lib.hid (by rw [← hr, ← hck]; rfl)
      have HL1 : Hid (Low3 ((R k).take u)) := Lib.hid ((hlow.take u).low3 (by decide))
      have HL2 : Hid (Low3 (solV R c u k)) := Lib.hid ((solV_low (by decide) (fun i hi => (HGD.out i (by omega)).2.any (by decide) u)).low3 (by decide : (3 : Int) ≤ 3))
      have HLN : Hid (((R k).take u).length = (solV R c u k).length) := Lib.hid (by rw [htl, solV_len])
      have HL12 : Hid (((R k).take u).length ≤ 12) := Lib.hid (by omega)
      have HDOT : Hid (dotK ((R k).take u) (solV R c u k) ((R k).take u).length % 3 = 0) := Lib.hid (by rw [htl, HPV.out.others hd hlt]; rfl)
      have HVR := Lib.hid HV.out.rowAt
      have hrl := hlow.any (by decide) u
      rw [hr] at hrl
      have hul2 : (u : Int) < (l : Int) := by omega
      have hul3 : (u : Int) ≤ (l : Int) := by omega
      have hw0 : IntKind.i64.wrap r = r := IntWalk.i64_in _ (by omega)
      have hw1 : IntKind.i64.wrap (r + 3) = r + 3 := IntWalk.i64_in _ (by omega)
      have hm0 : Int.tmod (r + 3) 3 = r := by rw [Int.tmod_eq_emod_of_nonneg (by omega)]; omega
      clear hgl hlow hfit hso hr hck htl
      go_wp2_with fail
      refine (sumOfM 3 _ _ _ ((R k).take u) _ _ _ (solV R c u k) 0 _ HRU.out HVR.out HLN.out HPP.out HL1.out HL2.out HL12.out HDOT.out).mono ?_
      rintro e w3 ⟨rfl, rfl⟩
      go_wp2_with fail
      refine wp_region_noPanic ?_
      refine wp_region_late (S := (fun w' => w'.cell? ⟨eb, 1, none⟩ = some (.int .i64 (u : Int)) ∧ w'.cell? ⟨g, so + u, none⟩ = some (.int .i64 r) ∧ Below wr.heap.size wr w')) [17] (by kernel_rfl) ?_ (fun hHeld => ?_)
      · exact ⟨x1, x2, (QW.refl _).drew.below _⟩
      refine wpAnyL_free (i := 0) (v := ?_) (some 36) rfl rfl (by kernel_rfl) (by kernel_rfl) (by kernel_rfl) (by decide) (fun _ _ _ h => h) (Or.inl ⟨by rfl, ?_⟩) (fun h0 => by assumption) ?_
      rotate_left
      · intro wS
        go_simp
        try with_reducible rfl
      try simp only [Act.put, List.setIfInBounds_toArray, List.set_cons_zero, List.set_cons_succ]
      refine wpAnyL_free (i := 1) (v := ?_) (some 37) rfl rfl (by kernel_rfl) (by kernel_rfl) (by kernel_rfl) (by decide) (fun _ _ _ h => h) (Or.inl ⟨by rfl, ?_⟩) (fun h0 => by assumption) ?_
      rotate_left
      · intro wS
        go_simp
        try with_reducible rfl
      try simp only [Act.put, List.setIfInBounds_toArray, List.set_cons_zero, List.set_cons_succ]
      refine wpAnyL_free (i := 3) (v := ?_) (some 39) rfl rfl (by kernel_rfl) (by kernel_rfl) (by kernel_rfl) (by decide) (fun _ _ _ h => h) (Or.inl ⟨by rfl, ?_⟩) (fun h0 => by assumption) ?_
      rotate_left
      · intro wS
        go_simp
        try with_reducible rfl
      try simp only [Act.put, List.setIfInBounds_toArray, List.set_cons_zero, List.set_cons_succ]
      refine wpAnyL_free (i := 4) (v := ?_) (some 40) rfl rfl (by kernel_rfl) (by kernel_rfl) (by kernel_rfl) (by decide) (fun _ _ _ h => h) (Or.inl ⟨by rfl, ?_⟩) (fun h0 => by assumption) ?_
      rotate_left
      · intro wS
        go_simp
        try with_reducible rfl
      try simp only [Act.put, List.setIfInBounds_toArray, List.set_cons_zero, List.set_cons_succ]
      refine wpAnyL_free (i := 5) (v := ?_) (some 41) rfl rfl (by kernel_rfl) (by kernel_rfl) (by kernel_rfl) (by decide) (fun _ _ _ h => h) (Or.inl ⟨by rfl, ?_⟩) (fun h0 => by assumption) ?_
      rotate_left
      · intro wS
        go_simp
        try with_reducible rfl
      try simp only [Act.put, List.setIfInBounds_toArray, List.set_cons_zero, List.set_cons_succ]
      refine wpAnyL_free (i := 6) (v := ?_) (some 42) rfl rfl (by kernel_rfl) (by kernel_rfl) (by kernel_rfl) (by decide) (fun _ _ _ h => h) (Or.inl ⟨by rfl, ?_⟩) (fun h0 => by assumption) ?_
      rotate_left
      · intro wS
        go_simp
        try with_reducible rfl
      try simp only [Act.put, List.setIfInBounds_toArray, List.set_cons_zero, List.set_cons_succ]
      refine wpAnyL_take (i := 7) (v := ?_) (some 43) rfl rfl (by kernel_rfl) (by kernel_rfl) (by kernel_rfl) (by kernel_rfl) (by kernel_rfl) (fun _ _ _ h => h) (Or.inl ⟨by rfl, ?_⟩) (by assumption) ?_
      rotate_left
      · intro wS hSw
        try dsimp only at hSw
        go_simp
        try with_reducible rfl
      try simp only [Act.put, List.setIfInBounds_toArray, List.set_cons_zero, List.set_cons_succ]
      refine wpAnyL_free (i := 8) (v := ?_) (some 44) rfl rfl (by kernel_rfl) (by kernel_rfl) (by kernel_rfl) (by decide) (fun _ _ _ h => h) (Or.inl ⟨by rfl, ?_⟩) (fun h0 => by assumption) ?_
      rotate_left
      · intro wS
        go_simp
        try with_reducible rfl
      try simp only [Act.put, List.setIfInBounds_toArray, List.set_cons_zero, List.set_cons_succ]
      refine wpAnyL_take (i := 9) (v := ?_) (some 45) rfl rfl (by kernel_rfl) (by kernel_rfl) (by kernel_rfl) (by kernel_rfl) (by kernel_rfl) (fun _ _ _ h => h) (Or.inl ⟨by rfl, ?_⟩) (by assumption) ?_
      rotate_left
      · intro wS hSw
        try dsimp only at hSw
        go_simp
        try with_reducible rfl
      try simp only [Act.put, List.setIfInBounds_toArray, List.set_cons_zero, List.set_cons_succ]
      refine wpAnyL_free (i := 10) (v := ?_) (some 46) rfl rfl (by kernel_rfl) (by kernel_rfl) (by kernel_rfl) (by decide) (fun _ _ _ h => h) (Or.inl ⟨by rfl, ?_⟩) (fun h0 => by assumption) ?_
      rotate_left
      · intro wS
        go_simp
        try with_reducible rfl
      try simp only [Act.put, List.setIfInBounds_toArray, List.set_cons_zero, List.set_cons_succ]
      refine wpAnyL_free (i := 11) (v := ?_) (some 47) rfl rfl (by kernel_rfl) (by kernel_rfl) (by kernel_rfl) (by decide) (fun _ _ _ h => h) (Or.inl ⟨by rfl, ?_⟩) (fun h0 => by assumption) ?_
      rotate_left
      · intro wS
        go_simp
        try with_reducible rfl
      try simp only [Act.put, List.setIfInBounds_toArray, List.set_cons_zero, List.set_cons_succ]
      refine wpAnyL_free (i := 12) (v := ?_) (some 48) rfl rfl (by kernel_rfl) (by kernel_rfl) (by kernel_rfl) (by decide) (fun _ _ _ h => h) (Or.inl ⟨by rfl, ?_⟩) (fun h0 => by assumption) ?_
      rotate_left
      · intro wS
        go_simp
        try with_reducible rfl
      try simp only [Act.put, List.setIfInBounds_toArray, List.set_cons_zero, List.set_cons_succ]
      refine wpAnyL_free (i := 13) (v := ?_) (some 49) rfl rfl (by kernel_rfl) (by kernel_rfl) (by kernel_rfl) (by decide) (fun _ _ _ h => h) (Or.inl ⟨by rfl, ?_⟩) (fun h0 => by assumption) ?_
      rotate_left
      · intro wS
        go_simp
        try with_reducible rfl
      try simp only [Act.put, List.setIfInBounds_toArray, List.set_cons_zero, List.set_cons_succ]
      refine wpAnyL_free (i := 14) (v := ?_) (some 50) rfl rfl (by kernel_rfl) (by kernel_rfl) (by kernel_rfl) (by decide) (fun _ _ _ h => h) (Or.inl ⟨by rfl, ?_⟩) (fun h0 => by assumption) ?_
      rotate_left
      · intro wS
        go_simp
        try with_reducible rfl
      try simp only [Act.put, List.setIfInBounds_toArray, List.set_cons_zero, List.set_cons_succ]
      refine wpAnyL_free (i := 15) (v := ?_) (some 51) rfl rfl (by kernel_rfl) (by kernel_rfl) (by kernel_rfl) (by decide) (fun _ _ _ h => h) (Or.inl ⟨by rfl, ?_⟩) (fun h0 => by assumption) ?_
      rotate_left
      · intro wS
        go_simp
        try with_reducible rfl
      try simp only [Act.put, List.setIfInBounds_toArray, List.set_cons_zero, List.set_cons_succ]
      refine wpAnyL_ready (rs := [2]) (by kernel_rfl) (by simp) ?_
      refine AllReadyL.cons rfl (fun K hK => ?_) AllReadyL.nil
      go_simp; go_at_call 143; refine (beginOfC _ _ _ (HRA.out.below hHeld.2.2)).mono ?_; rw [HFV.out]; rintro e w4 ⟨rfl, rfl⟩
      refine hK.out _ _ ?_ (fun hHeld => ?_)
      · exact hHeld
      clear hK K
      try simp only [Act.put, List.setIfInBounds_toArray, List.set_cons_zero, List.set_cons_succ]
      refine wpAnyL_free (i := 16) (v := ?_) (some 52) rfl rfl (by kernel_rfl) (by kernel_rfl) (by kernel_rfl) (by decide) (fun _ _ _ h => h) (Or.inl ⟨by rfl, ?_⟩) (fun h0 => by assumption) ?_
      rotate_left
      · intro wS
        go_simp
        try with_reducible rfl
      try simp only [Act.put, List.setIfInBounds_toArray, List.set_cons_zero, List.set_cons_succ]
      refine wpAnyL_ready (rs := [17]) (by kernel_rfl) (by simp) ?_
      refine AllReadyL.last rfl (by kernel_rfl) (fun K hK => ?_) AllReadyL.nil
      have HB5 := Lib.hid hHeld.2.2
      have hfl5 := HV.out.below HB5.out
      have ex5 := hfl5.cell_of ck (by rw [solV_len]; exact hcku)
      have fz5 := hfl5.free ck
      have HF5 := Lib.hid (hfl5.set ck r)
      clear hfl5
      go_simp
      refine hK.out _ _ ?_
      clear hK K
      try simp only [Act.put, List.setIfInBounds_toArray, List.set_cons_zero, List.set_cons_succ]
      refine wpAnyL_done (by kernel_rfl) ?_ _
      refine NoPanic.normal ?_
      have HO6 := Lib.hid ((HOV.out.trans (HB5.out.only)).setCell (p := ⟨vb, ck, none⟩) (Or.inl rfl) (.int .i64 r))
      clear hHeld ex5 fz5 x1 x2
      go_wp2
      go_roundw
      case rel => exact ⟨k + 1, by omega, by go_num, by rw [← HSV.out]; exact HF5.out, HO6.out⟩
      case measure => simp [intOf]; omega
    · obtain rfl : k = d := by omega
      go_wp2
      go_end0
      exact ⟨rfl, HV.out, HOV.out⟩

theorem completeP (B eb rb g n l u d vb cv : Nat) (s : Nat → Nat) (p : Int) (F : Nat → Int) (R : Nat → List Int) (c : Nat → Nat) (w : World) (hp : PrimeP p) (h : ElimAt w eb rb g n l u d s p F R) (hul : u < l) (hd : d ≤ n) (hn : n ≤ 24) (hu : u ≤ 12) (hpv : Piv n u R d c) (hgd : GoodR p n l R) (hv : OwnRow w B (.slice (some ⟨vb, 0, none⟩) u cv) (solV R c u 0)) (hne : vb ≠ eb ∧ vb ≠ rb ∧ vb ≠ g) :
    Calls Try.prog 92 #[.pointer (some ⟨eb, 0, none⟩), .slice (some ⟨vb, 0, none⟩) u cv] w fun e w' => e = .returned (.tuple #[]) ∧ OwnRow w' B (.slice (some ⟨vb, 0, none⟩) u cv) (solV R c u d) ∧ Only (fun q => q = vb ∨ w.heap.size ≤ q) w w' := by
  rcases hp with rfl | rfl
  · exact complete2 B eb rb g n l u d vb cv s F R c w h hul hd hn hu hpv hgd hv hne
  · exact complete3 B eb rb g n l u d vb cv s F R c w h hul hd hn hu hpv hgd hv hne

set_option linter.unusedSimpArgs false in
set_option maxHeartbeats 4000000 in
set_option maxRecDepth 100000 in
theorem implSolveSystem (p u : Int) (a : Option Addr) (n c : Nat) (rs : List (Int × List Int)) (zs : List Int) (cd : Int) (w : World) (h : EqsAt w (.slice a n c) rs) (hi : SolveSystemIs p u rs zs cd) :
    Calls Try.prog 32 #[.agg #[.int .i64 p, .int .i64 u, .slice a n c]] w (MadeRow2 w zs cd) := by
  have HBX := Lib.hid (Box.new 30 w #[.int .i64 p, .int .i64 u, .slice a n c])
  have HW : Hid (Below w.heap.size w (w.alloc (.cells #[.int .i64 p, .int .i64 u, .slice a n c] 30))) := Lib.hid ((Below.refl _ _).alloc (Nat.le_refl _) _)
  have HEQ := Lib.hid (h.below HW.out)
  have HI := Lib.hid hi
  have x0 := HBX.out.c 0 rfl
  have x1 := HBX.out.c 1 rfl
  have x2 := HBX.out.c 2 rfl
  clear h hi
  go_enter Try.func32, Try.ntmps32
  by_cases hok : SysOk p u rs
  · have HOK := Lib.hid hok
    obtain ⟨un, rfl⟩ := hok.unat
    have hn24 := hok.2.2.1
    have hu12 : un ≤ 12 := by have := hok.2.1; unfold InP at this; omega
    clear hok
    go_wp2_with fail
    refine (implValidSystem _ _ _ _ _ rs true _ HEQ.out (Tells.yes HOK.out)).mono ?_
    rintro e w2 ⟨rfl, hb2⟩
    have y0 := below_cell hb2 x0
    have y1 := below_cell hb2 x1
    have y2 := below_cell hb2 x2
    have HEQ2 := Lib.hid (HEQ.out.below hb2)
    have HW2 := Lib.hid (HW.out.trans (hb2.mono HW.out.size))
    clear hb2 x0 x1 x2
    go_wp2_with fail
    refine (eliminationOfC p un a n c rs _ HEQ2.out HOK.out).mono ?_
    rintro e w3 ⟨eb, rb, g, s, F, rfl, he, hge, _, hebe, hb3⟩
    have HE := Lib.hid he
    have HW3 := Lib.hid (HW2.out.trans (hb3.mono HW2.out.size))
    have v1 : w3.drew.cell? ⟨w.heap.size, 1, none⟩ = some (.int .i64 (un : Int)) := below_cell hb3 y1
    have HGD := Lib.hid HOK.out.good
    have HPV := Lib.hid (sysOk_piv HOK.out)
    have hdn := HOK.out.dn
    have HP := Lib.hid HOK.out.1
    have HI2 : Hid ((NoAns p un rs → cd = 6 ∧ zs = []) ∧ (¬ NoAns p un rs → cd = 0 ∧ zs = solV (elimE p rs.length (row0 rs) un).1 (pivE (elimE p rs.length (row0 rs) un).1 un) un (elimE p rs.length (row0 rs) un).2)) := Lib.hid (by
      rcases HI.out with ⟨_, h2, rfl, rfl⟩ | ⟨_, h2, rfl, rfl⟩ | ⟨h1, _⟩
      · exact ⟨fun h => absurd h h2, fun _ => ⟨rfl, rfl⟩⟩
      · exact ⟨fun _ => ⟨rfl, rfl⟩, fun h => absurd h2 h⟩
      · exact absurd HOK.out h1)
    unfold NoAns at HI2
    clear he hb3 y0 y1 y2
    obtain ⟨S, hS⟩ : ∃ S, elimE p rs.length (row0 rs) un = S := ⟨_, rfl⟩
    obtain ⟨R, d⟩ := S
    rw [hS] at hdn HGD HPV HI2 HE
    clear hS
    obtain ⟨b, hb⟩ := Tells.exists (¬ ∃ j, d ≤ j ∧ j < rs.length ∧ intN (R j) un ≠ 0)
    have HB := Lib.hid hb
    clear hb
    go_wp2_with fail
    refine (hasAnswersC eb rb g rs.length (un + 1 + rs.length) un d s p F R b _ HE.out (by omega) hdn (by omega) HB.out).mono ?_
    rintro e w4 ⟨rfl, rfl⟩
    cases b with
    | true =>
      obtain ⟨hcd, hzs⟩ := HI2.out.2 (HB.out.1 rfl)
      have HCD := Lib.hid hcd
      have HZS := Lib.hid hzs
      have hmk := make_row un (by omega) w3.drew
      have hOZ := own_zeros w3.drew w3.drew.heap.size un (Nat.le_refl _) (by omega)
      have HVZ : Hid (OwnRow (w3.drew.alloc (.cells (Array.replicate un (Value.int .i64 0)) 2)) w3.drew.heap.size (.slice (some ⟨w3.drew.heap.size, 0, none⟩) un un) (solV R (pivE R un) un 0)) := Lib.hid hOZ
      have HBZ := Lib.hid ((Below.refl w3.drew.heap.size w3.drew).alloc (Nat.le_refl _) (.cells (Array.replicate un (Value.int .i64 0)) 2))
      obtain ⟨w5, hw5⟩ : ∃ w5, w3.drew = w5 := ⟨_, rfl⟩
      have HE5 := Lib.hid HE.out.drew
      have HW5 := Lib.hid HW3.out.drew
      rw [hw5] at hmk HVZ HBZ HE5 v1 HW5
      rw [show w3.drew = w5 from hw5]
      clear hcd hzs hOZ hw5
      have HE6 := Lib.hid (HE5.out.below HBZ.out)
      have HNE : Hid (w5.heap.size ≠ eb ∧ w5.heap.size ≠ rb ∧ w5.heap.size ≠ g) := Lib.hid ⟨by have := HE5.out.heb; omega, by have := HE5.out.hrb; omega, by have := HE5.out.rows.inn; omega⟩
      go_wp2_with fail
      refine (completeP _ eb rb g rs.length (un + 1 + rs.length) un d w5.heap.size un s p F R (pivE R un) _ HP.out HE6.out (by omega) hdn hn24 hu12 HPV.out HGD.out HVZ.out HNE.out).mono ?_
      rintro e w6 ⟨rfl, ho6, hn6⟩
      have HWF := Lib.hid (HW5.out.trans (HBZ.out.mono HW5.out.size) |>.trans (hn6.below (Nat.le_trans HW5.out.size HBZ.out.size) (fun q hq => by have h5 := HW5.out.size; have h6 := HBZ.out.size; omega)))
      have HFF : Hid (OwnRow w6 w.heap.size (.slice (some ⟨w5.heap.size, 0, none⟩) un un) zs) := Lib.hid (by rw [HZS.out]; exact ho6.mono HW5.out.size)
      clear ho6 hn6 hmk v1
      go_wp2
      go_ret2
      exact ⟨some ⟨w5.heap.size, 0, none⟩, un, un, by rw [HCD.out]; rfl, HFF.out.full, HWF.out⟩
    | false =>
      have hnn : ∃ j, d ≤ j ∧ j < rs.length ∧ intN (R j) un ≠ 0 := Classical.not_not.1 fun h => absurd (HB.out.2 h) (by simp)
      obtain ⟨rfl, rfl⟩ := HI2.out.1 hnn
      clear v1 hnn
      go_wp2
      go_ret2
      exact ⟨_, _, _, rfl, OwnRowE.nil _ _ _ (Nat.le_refl _), HW3.out.drew⟩
  · have HOK := Lib.hid hok
    obtain ⟨rfl, rfl⟩ : zs = [] ∧ cd = 1 := by
      rcases HI.out with ⟨h1, _⟩ | ⟨h1, _⟩ | ⟨_, rfl, rfl⟩
      · exact absurd h1 hok
      · exact absurd h1 hok
      · exact ⟨rfl, rfl⟩
    clear hok
    go_wp2_with fail
    refine (implValidSystem _ _ _ _ _ rs false _ HEQ.out (Tells.no HOK.out)).mono ?_
    rintro e w2 ⟨rfl, hb2⟩
    have HW2 := Lib.hid (HW.out.trans (hb2.mono HW.out.size))
    clear hb2
    go_wp2
    go_ret2
    exact ⟨_, _, _, rfl, OwnRowE.nil _ _ _ (Nat.le_refl _), HW2.out⟩

end Go.Proofs.Ytnbgpeoceejolaa

namespace Go.Proofs.Ytnbgpeoceejolaa
open Go.RowKit

/-- What is left of a row when the first k rows have been taken away at where they begin. -/
def restE (p : Int) (R : Nat → List Int) (c : Nat → Nat) (x0 : List Int) : Nat → List Int
  | 0 => x0
  | k + 1 => rowSub p (intN (restE p R c x0 k) (c k)) (restE p R c x0 k) (R k)
theorem restE_len (p : Int) (R : Nat → List Int) (c : Nat → Nat) (x0 : List Int) (k : Nat) : (restE p R c x0 k).length = x0.length := by
  induction k with
  | zero => rfl
  | succ k ih => exact (rowSub_len _ _ _ _).trans ih
theorem restE_low {p : Int} {R : Nat → List Int} {c : Nat → Nat} {x0 : List Int} (hp : 0 < p) (h : LowP p x0) : ∀ k, LowP p (restE p R c x0 k)
  | 0 => h
  | _ + 1 => LowP.sub _ _ hp
/-- The row of an equation. -/
def eqnRow (ys : List Int) (r : Int) (n : Nat) : List Int := ys ++ [r] ++ List.replicate n 0
theorem eqnRow_parts (ys : List Int) (r : Int) (n : Nat) : (eqnRow ys r n).take ys.length = ys ∧ intN (eqnRow ys r n) ys.length = r ∧ (eqnRow ys r n).drop (ys.length + 1) = List.replicate n 0 ∧ (eqnRow ys r n).length = ys.length + 1 + n := by
  unfold eqnRow
  refine ⟨?_, ?_, ?_, by simp; omega⟩
  · rw [List.append_assoc, List.take_left' rfl]
  · rw [List.append_assoc]
    have := intN_append_right (x := ys) (y := [r] ++ List.replicate n (0 : Int)) (i := 0)
    rw [Nat.add_zero] at this
    rw [this]
    rfl
  · rw [List.drop_left' (by simp)]
theorem eqnRow_low {p u r : Int} {ys : List Int} {n : Nat} (h : EqnOk p u r ys) (hp : 2 ≤ p) : LowP p (eqnRow ys r n) := fun j hj => by
  obtain ⟨h1, h2, h3, h4⟩ := eqnRow_parts ys r n
  rw [h4] at hj
  by_cases h5 : j < ys.length
  · have e := intN_take (x := eqnRow ys r n) h5
    rw [h1] at e
    rw [← e]
    have := h.2.2 j h5
    unfold InP at this
    omega
  · by_cases h6 : j = ys.length
    · subst h6
      rw [h2]
      have := h.2.1
      unfold InP at this
      omega
    · have e := intN_drop (x := eqnRow ys r n) (u := ys.length + 1) (i := j - (ys.length + 1))
      rw [h3, show ys.length + 1 + (j - (ys.length + 1)) = j by omega, intN_at _ _ (by simp; omega)] at e
      rw [← e]
      simp
      omega
/-- What is left in the end. -/
def restD (p : Int) (u : Nat) (rs : List (Int × List Int)) (r : Int) (ys : List Int) : List Int := restE p (elimE p rs.length (row0 rs) u).1 (pivE (elimE p rs.length (row0 rs) u).1 u) (eqnRow ys r rs.length) (elimE p rs.length (row0 rs) u).2
/-- How l07Derive ends. -/
def DerEnd (p : Int) (u : Nat) (rs : List (Int × List Int)) (r : Int) (ys : List Int) (w : World) (e : Ending) (w' : World) : Prop :=
  (¬ NoAns p u rs ∧ (∀ j, j < u + 1 → intN (restD p u rs r ys) j = 0) ∧ MadeRow2 w (rowScale p (p - 1) ((restD p u rs r ys).drop (u + 1))) 0 e w') ∨ (¬ NoAns p u rs ∧ (¬ ∀ j, j < u + 1 → intN (restD p u rs r ys) j = 0) ∧ MadeRow2 w [] 6 e w') ∨ (NoAns p u rs ∧ MadeRow2 w [] 4 e w')
theorem RowK.read {w w' : World} {b5 rb B n u : Nat} {VL VB : Nat → Value} {R : Nat → List Int} {v1 v2 : Value} (h : MRows w rb B n u VL VB R) (h1 : ∀ g, v1.ownBlock = some g → w.heap.size ≤ g) (h2 : ∀ g, v2.ownBlock = some g → w.heap.size ≤ g) (hb5 : w.heap.size ≤ b5) (hrl : rb < w.heap.size) {k : Nat} (hk : k < n) {wr : World} (hb : Below w.heap.size w wr) (hK : RowK b5 0 v1.ownBlock v2.ownBlock wr w') : RowRd w' rb (k * 3) ((R k).take u) (intN (R k) u) ((R k).drop (u + 1)) := by
  have hr := h.row k hk
  have keep : ∀ g, g < w.heap.size → w'.heap[g]? = w.heap[g]? := fun g hg =>
    (hK.rest.2 g (by have := hb.size; omega) (by omega) (fun e => by have := h1 g e.symm; omega) (fun e => by have := h2 g e.symm; omega)).trans (hb.block g hg)
  have kk : RowSt w' rb (k * 3) B (VL k) ((R k).take u) (intN (R k) u) (VB k) ((R k).drop (u + 1)) := by
    refine hr.keep (fun o _ _ => World.cell?_of_block (keep rb hrl)) ((World.frozen?_of_block (keep rb hrl)).trans (h.frz _)) (fun g hg => keep g (hr.ownL.lt g hg).2) (fun g hg => keep g (hr.ownB.lt g hg).2)
  refine ⟨?_, kk.right, ?_⟩
  · obtain ⟨a, c, he, ha⟩ := kk.ownL.rowAt
    have hra := kk.ownL.rowAt
    rw [he] at hra
    exact ⟨a, c, by rw [kk.left, he], hra⟩
  · obtain ⟨a, c, he, ha⟩ := kk.ownB.rowAt
    have hra := kk.ownB.rowAt
    rw [he] at hra
    exact ⟨a, c, by rw [kk.by_, he], hra⟩

set_option linter.unusedSimpArgs false in
set_option maxHeartbeats 4000000 in
set_option maxRecDepth 100000 in
theorem l07DeriveC (sb so qb qo : Nat) (p : Int) (u : Nat) (rs : List (Int × List Int)) (r : Int) (ys : List Int) (w : World) (hs : SysAt w sb so p u rs) (hok : SysOk p u rs) (hq : EqnAt w qb qo r ys) (hqk : EqnOk p u r ys) :
    Calls Try.prog 95 #[.pointer (some ⟨sb, so, none⟩), .pointer (some ⟨qb, qo, none⟩)] w (DerEnd p u rs r ys w) := by
  have HS := Lib.hid hs
  have HOK := Lib.hid hok
  have HQ := Lib.hid hq
  have HQK := Lib.hid hqk
  have hn24 := hok.2.2.1
  have hu12 : 1 ≤ u ∧ u ≤ 12 := by have := hok.2.1; unfold InP at this; omega
  have HYL : Hid (ys.length = u) := Lib.hid (by have := hqk.1; omega)
  have hp3 : 2 ≤ p ∧ p ≤ 3 := by rcases hok.1 with rfl | rfl <;> omega
  have HP := Lib.hid hok.1
  clear hs hok hq hqk
  go_enter Try.func95, Try.ntmps95
  go_wp2_with fail
  refine (l07ReduceC sb so p u rs _ HS.out HOK.out).mono ?_
  rintro e w3 ⟨a3, c3, rfl, hmr, hb3⟩
  have HW3 := Lib.hid hb3
  have HS3 := Lib.hid (HS.out.below hb3)
  have HQ3 := Lib.hid (HQ.out.below hb3)
  obtain ⟨m, hm⟩ := FalseAt.exists (elimE p rs.length (row0 rs) u).1 u (elimE p rs.length (row0 rs) u).2 rs.length HOK.out.dn
  have HM := Lib.hid hm
  have HMR : Hid (∃ rb VL VB, 0 < rs.length → a3 = some ⟨rb, 0, none⟩ ∧ MRows w3 rb w.heap.size rs.length u VL VB (elimE p rs.length (row0 rs) u).1 ∧ rb < w3.heap.size) := Lib.hid (by
    by_cases h0 : 0 < rs.length
    · obtain ⟨rb, VL, VB, h1, _, h3, h2⟩ := hmr h0
      exact ⟨rb, VL, VB, fun _ => ⟨h1, h2, h3⟩⟩
    · exact ⟨0, fun _ => .slice none 0 0, fun _ => .slice none 0 0, fun h => absurd h h0⟩)
  have HGD := Lib.hid HOK.out.good
  have HPV := Lib.hid (sysOk_piv HOK.out)
  have hdn := HOK.out.dn
  have HRD : Hid (restD p u rs r ys = restE p (elimE p rs.length (row0 rs) u).1 (pivE (elimE p rs.length (row0 rs) u).1 u) (eqnRow ys r rs.length) (elimE p rs.length (row0 rs) u).2) := Lib.hid rfl
  have HNG : Hid (m < 0 ↔ ¬ NoAns p u rs) := Lib.hid hm.neg
  clear hmr hb3 hm
  obtain ⟨S, hS⟩ : ∃ S, elimE p rs.length (row0 rs) u = S := ⟨_, rfl⟩
  obtain ⟨R, d⟩ := S
  rw [hS] at HMR HM hdn HGD HPV HRD ⊢
  clear hS
  obtain ⟨rb, VL, VB, hmm⟩ := HMR.out
  have HMM := Lib.hid hmm
  clear hmm
  go_wp2_with fail
  refine (l07FalseC a3 c3 rs.length d rb w.heap.size u VL VB R m _ (fun h => ⟨(HMM.out h).1, (HMM.out h).2.1⟩) (by omega) hdn HM.out).mono ?_
  rintro e w3' ⟨rfl, rfl⟩
  by_cases hmz : m < 0
  · have HNA := Lib.hid (HNG.out.1 hmz)
    have hge : ¬ (m ≥ 0) := by omega
    obtain ⟨_, _, sl, sn, sc, hls, hes⟩ := HS3.out
    obtain rfl : sn = rs.length := by obtain ⟨_, _, he, _⟩ := hes; simp only [Value.slice.injEq] at he; exact he.2.1
    obtain ⟨er, la, ln, lc, el, hrow⟩ := HQ3.out
    obtain rfl : ln = ys.length := by obtain ⟨_, _, hv, _, _⟩ := hrow; simp only [Value.slice.injEq] at hv; exact hv.2.1
    have HLR := Lib.hid hrow
    have hl1 : 1 ≤ ys.length := by have := HYL.out; omega
    have hl12 : ys.length ≤ 12 := by have := HYL.out; omega
    have d0 := el
    have d1 := er
    have d2 := hls
    have hmk := make_row rs.length (by omega)
    clear hls hes el er hrow
    go_wp2_with fail
    go_upto_region 4 with fail
    go_cut [8] from 20 to 35 (fun v5 wz => ∃ b5 a1 c1 g2, v5 = .pointer (some ⟨b5, 0, none⟩) ∧ Box 123 wz b5 #[.slice a1 ys.length c1, .int .i64 r, .slice (some ⟨g2, 0, none⟩) rs.length rs.length] ∧ OwnRow wz w3.heap.size (.slice a1 ys.length c1) ys ∧ OwnRow wz w3.heap.size (.slice (some ⟨g2, 0, none⟩) rs.length rs.length) (List.replicate rs.length 0) ∧ (∀ g, (Value.slice a1 ys.length c1).ownBlock = some g → g ≠ g2) ∧ (∀ g, (Value.slice a1 ys.length c1).ownBlock = some g → g ≠ b5) ∧ g2 ≠ b5 ∧ Below w3.heap.size w3 wz ∧ w3.heap.size ≤ b5)
    case first =>
      refine wp_region_noPanic ?_
      refine wp_region_late (S := (fun w' => w'.cell? ⟨qb, qo, none⟩ = some (.slice la ys.length lc) ∧ w'.cell? ⟨qb, qo + 1, none⟩ = some (.int .i64 r) ∧ w'.cell? ⟨sb, so + 2, none⟩ = some (.slice sl rs.length sc) ∧ Below w3.heap.size w3 w')) [17] (by kernel_rfl) ?_ (fun hHeld => ?_)
      · exact ⟨d0, d1, d2, (QW.refl _).drew.below _⟩
      refine wpAnyL_free (i := 0) (v := ?_) (some 20) rfl rfl (by kernel_rfl) (by kernel_rfl) (by kernel_rfl) (by decide) (fun _ _ _ h => h) (Or.inl ⟨by rfl, ?_⟩) (fun h0 => by assumption) ?_
      rotate_left
      · intro wS
        go_simp
        try with_reducible rfl
      try simp only [Act.put, List.setIfInBounds_toArray, List.set_cons_zero, List.set_cons_succ]
      refine wpAnyL_free (i := 1) (v := ?_) (some 21) rfl rfl (by kernel_rfl) (by kernel_rfl) (by kernel_rfl) (by decide) (fun _ _ _ h => h) (Or.inl ⟨by rfl, ?_⟩) (fun h0 => by assumption) ?_
      rotate_left
      · intro wS
        go_simp
        try with_reducible rfl
      try simp only [Act.put, List.setIfInBounds_toArray, List.set_cons_zero, List.set_cons_succ]
      refine wpAnyL_free (i := 2) (v := ?_) (some 22) rfl rfl (by kernel_rfl) (by kernel_rfl) (by kernel_rfl) (by decide) (fun _ _ _ h => h) (Or.inl ⟨by rfl, ?_⟩) (fun h0 => by assumption) ?_
      rotate_left
      · intro wS
        go_simp
        try with_reducible rfl
      try simp only [Act.put, List.setIfInBounds_toArray, List.set_cons_zero, List.set_cons_succ]
      refine wpAnyL_take (i := 3) (v := ?_) (some 23) rfl rfl (by kernel_rfl) (by kernel_rfl) (by kernel_rfl) (by kernel_rfl) (by kernel_rfl) (fun _ _ _ h => h) (Or.inl ⟨by rfl, ?_⟩) (by assumption) ?_
      rotate_left
      · intro wS hSw
        try dsimp only at hSw
        go_simp
        try with_reducible rfl
      try simp only [Act.put, List.setIfInBounds_toArray, List.set_cons_zero, List.set_cons_succ]
      refine wpAnyL_free (i := 5) (v := ?_) (some 25) rfl rfl (by kernel_rfl) (by kernel_rfl) (by kernel_rfl) (by decide) (fun _ _ _ h => h) (Or.inl ⟨by rfl, ?_⟩) (fun h0 => by assumption) ?_
      rotate_left
      · intro wS
        go_simp
        try with_reducible rfl
      try simp only [Act.put, List.setIfInBounds_toArray, List.set_cons_zero, List.set_cons_succ]
      refine wpAnyL_free (i := 6) (v := ?_) (some 26) rfl rfl (by kernel_rfl) (by kernel_rfl) (by kernel_rfl) (by decide) (fun _ _ _ h => h) (Or.inl ⟨by rfl, ?_⟩) (fun h0 => by assumption) ?_
      rotate_left
      · intro wS
        go_simp
        try with_reducible rfl
      try simp only [Act.put, List.setIfInBounds_toArray, List.set_cons_zero, List.set_cons_succ]
      refine wpAnyL_free (i := 7) (v := ?_) (some 27) rfl rfl (by kernel_rfl) (by kernel_rfl) (by kernel_rfl) (by decide) (fun _ _ _ h => h) (Or.inl ⟨by rfl, ?_⟩) (fun h0 => by assumption) ?_
      rotate_left
      · intro wS
        go_simp
        try with_reducible rfl
      try simp only [Act.put, List.setIfInBounds_toArray, List.set_cons_zero, List.set_cons_succ]
      refine wpAnyL_take (i := 8) (v := ?_) (some 28) rfl rfl (by kernel_rfl) (by kernel_rfl) (by kernel_rfl) (by kernel_rfl) (by kernel_rfl) (fun _ _ _ h => h) (Or.inl ⟨by rfl, ?_⟩) (by assumption) ?_
      rotate_left
      · intro wS hSw
        try dsimp only at hSw
        go_simp
        try with_reducible rfl
      try simp only [Act.put, List.setIfInBounds_toArray, List.set_cons_zero, List.set_cons_succ]
      refine wpAnyL_free (i := 9) (v := ?_) (some 29) rfl rfl (by kernel_rfl) (by kernel_rfl) (by kernel_rfl) (by decide) (fun _ _ _ h => h) (Or.inl ⟨by rfl, ?_⟩) (fun h0 => by assumption) ?_
      rotate_left
      · intro wS
        go_simp
        try with_reducible rfl
      try simp only [Act.put, List.setIfInBounds_toArray, List.set_cons_zero, List.set_cons_succ]
      refine wpAnyL_free (i := 10) (v := ?_) (some 30) rfl rfl (by kernel_rfl) (by kernel_rfl) (by kernel_rfl) (by decide) (fun _ _ _ h => h) (Or.inl ⟨by rfl, ?_⟩) (fun h0 => by assumption) ?_
      rotate_left
      · intro wS
        go_simp
        try with_reducible rfl
      try simp only [Act.put, List.setIfInBounds_toArray, List.set_cons_zero, List.set_cons_succ]
      refine wpAnyL_free (i := 11) (v := ?_) (some 31) rfl rfl (by kernel_rfl) (by kernel_rfl) (by kernel_rfl) (by decide) (fun _ _ _ h => h) (Or.inl ⟨by rfl, ?_⟩) (fun h0 => by assumption) ?_
      rotate_left
      · intro wS
        go_simp
        try with_reducible rfl
      try simp only [Act.put, List.setIfInBounds_toArray, List.set_cons_zero, List.set_cons_succ]
      refine wpAnyL_take (i := 12) (v := ?_) (some 32) rfl rfl (by kernel_rfl) (by kernel_rfl) (by kernel_rfl) (by kernel_rfl) (by kernel_rfl) (fun _ _ _ h => h) (Or.inl ⟨by rfl, ?_⟩) (by assumption) ?_
      rotate_left
      · intro wS hSw
        try dsimp only at hSw
        go_simp
        try with_reducible rfl
      try simp only [Act.put, List.setIfInBounds_toArray, List.set_cons_zero, List.set_cons_succ]
      refine wpAnyL_free (i := 13) (v := ?_) (some 33) rfl rfl (by kernel_rfl) (by kernel_rfl) (by kernel_rfl) (by decide) (fun _ _ _ h => h) (Or.inl ⟨by rfl, ?_⟩) (fun h0 => by assumption) ?_
      rotate_left
      · intro wS
        go_simp
        try with_reducible rfl
      try simp only [Act.put, List.setIfInBounds_toArray, List.set_cons_zero, List.set_cons_succ]
      refine wpAnyL_ready (rs := [4, 14, 16]) (by kernel_rfl) (by simp) ?_
      refine AllReadyL.cons rfl (fun K hK => ?_) ?_
      · skip
        go_simp; go_at_call 144; refine (l00Own _ _ _ (ys) _ (HLR.out.below hHeld.2.2.2) hl1 (by omega)).mono ?_; rintro e wA ⟨a1, c1, rfl, hoA, hbA⟩
        have HA1 := Lib.hid (hoA.mono hHeld.2.2.2.size)
        have hnA : ∀ g, (Value.slice a1 (ys).length c1).ownBlock = some g → w3.drew.heap.size ≤ g := fun g hg => (hoA.lt g hg).1
        have HNA := Lib.hid hnA
        clear hoA hnA
        refine hK.out _ _ ?_ (fun hHeld => ?_)
        · exact ⟨below_cell hbA hHeld.1, below_cell hbA hHeld.2.1, below_cell hbA hHeld.2.2.1, hHeld.2.2.2.trans (hbA.mono hHeld.2.2.2.size)⟩
        clear hK K
        try simp only [Act.put, List.setIfInBounds_toArray, List.set_cons_zero, List.set_cons_succ]
        refine wpAnyL_ready (rs := [14, 16]) (by kernel_rfl) (by simp) ?_
        refine AllReadyL.cons rfl (fun K hK => ?_) ?_
        · skip
          go_simp
          obtain ⟨wB, hwB⟩ : ∃ wB, wA.alloc (.cells (Array.replicate rs.length (Value.int .i64 0)) 2) = wB := ⟨_, rfl⟩
          obtain ⟨g2, hg2⟩ : ∃ g2, wA.heap.size = g2 := ⟨_, rfl⟩
          have hbB : Below wA.heap.size wA wB := by rw [← hwB]; exact (Below.refl _ _).alloc (Nat.le_refl _) _
          have HB2 : Hid (OwnRow wB w3.heap.size (.slice (some ⟨g2, 0, none⟩) rs.length rs.length) (List.replicate rs.length 0)) := Lib.hid (by rw [← hwB, ← hg2]; exact own_zeros _ _ _ hHeld.2.2.2.size (by omega))
          have HNB := Lib.hid hg2
          try simp only [World.drew_heap]
          try rw [show w3.heap.size = g2 from hg2]
          try rw [hg2]
          rw [hwB]
          clear hwB
          have HA2 := Lib.hid (HA1.out.below hbB)
          refine hK.out _ _ ?_ (fun hHeld => ?_)
          · exact ⟨below_cell hbB hHeld.1, below_cell hbB hHeld.2.1, below_cell hbB hHeld.2.2.1, hHeld.2.2.2.trans (hbB.mono hHeld.2.2.2.size)⟩
          clear hK K
          try simp only [Act.put, List.setIfInBounds_toArray, List.set_cons_zero, List.set_cons_succ]
          refine wpAnyL_free (i := 15) (v := ?_) (some 35) rfl rfl (by kernel_rfl) (by kernel_rfl) (by kernel_rfl) (by decide) (fun _ _ _ h => h) (Or.inl ⟨by rfl, ?_⟩) (fun h0 => by assumption) ?_
          rotate_left
          · intro wS
            go_simp
            try with_reducible rfl
          try simp only [Act.put, List.setIfInBounds_toArray, List.set_cons_zero, List.set_cons_succ]
          refine wpAnyL_ready (rs := [16]) (by kernel_rfl) (by simp) ?_
          refine AllReadyL.cons rfl (fun K hK => ?_) AllReadyL.nil
          go_simp
          obtain ⟨wC, hwC⟩ : ∃ wC, wB.alloc (.cells #[.slice none 0 0, .int .i64 0, .slice none 0 0] 123) = wC := ⟨_, rfl⟩
          obtain ⟨b5, hb5⟩ : ∃ b5, wB.heap.size = b5 := ⟨_, rfl⟩
          have hbC : Below wB.heap.size wB wC := by rw [← hwC]; exact (Below.refl _ _).alloc (Nat.le_refl _) _
          have HC3 : Hid (Box 123 wC b5 #[.slice none 0 0, .int .i64 0, .slice none 0 0]) := Lib.hid (by rw [← hwC, ← hb5]; exact Box.new _ _ _)
          have HNC := Lib.hid hb5
          have HLC : Hid (w3.heap.size ≤ b5) := Lib.hid (by rw [← hb5]; exact hHeld.2.2.2.size)
          try simp only [World.drew_heap]
          try rw [show w3.heap.size = b5 from hb5]
          try rw [hb5]
          rw [hwC]
          clear hwC
          have HA3 := Lib.hid (HA2.out.below hbC)
          have HB3 := Lib.hid (HB2.out.below hbC)
          refine hK.out _ _ ?_ (fun hHeld => ?_)
          · exact ⟨below_cell hbC hHeld.1, below_cell hbC hHeld.2.1, below_cell hbC hHeld.2.2.1, hHeld.2.2.2.trans (hbC.mono hHeld.2.2.2.size)⟩
          clear hK K
          try simp only [Act.put, List.setIfInBounds_toArray, List.set_cons_zero, List.set_cons_succ]
          refine wpAnyL_ready (rs := [17]) (by kernel_rfl) (by simp) ?_
          refine AllReadyL.last rfl (by kernel_rfl) (fun K hK => ?_) AllReadyL.nil
          have HBW := Lib.hid hHeld.2.2.2
          have hAB : ∀ g, (Value.slice a1 (ys).length c1).ownBlock = some g → g ≠ g2 := fun g hg e => by
            have h1 := (HA1.out.lt g hg).2
            have h2 := HNB.out
            omega
          have hAC : ∀ g, (Value.slice a1 (ys).length c1).ownBlock = some g → g ≠ b5 := fun g hg e => by
            have h1 := (HA2.out.lt g hg).2
            have h2 := HNC.out
            omega
          have hBC : g2 ≠ b5 := fun e => by
            have h1 := (HB2.out.lt g2 (by simp [Value.ownBlock])).2
            have h2 := HNC.out
            omega
          have HAB := Lib.hid hAB
          have HAC := Lib.hid hAC
          have HBC := Lib.hid hBC
          have z0 : wC.cell? ⟨b5, 0, none⟩ = some (.slice none 0 0) := HC3.out.c 0 rfl
          have y0 := HC3.out.free 0
          have z1 : wC.cell? ⟨b5, 1, none⟩ = some (.int .i64 0) := HC3.out.c 1 rfl
          have y1 := HC3.out.free 1
          have z2 : wC.cell? ⟨b5, 2, none⟩ = some (.slice none 0 0) := HC3.out.c 2 rfl
          have y2 := HC3.out.free 2
          clear hAB hAC hBC
          go_simp
          refine hK.out _ _ ?_
          clear hK K
          try simp only [Act.put, List.setIfInBounds_toArray, List.set_cons_zero, List.set_cons_succ]
          refine wpAnyL_done (by kernel_rfl) ?_ _
          refine NoPanic.normal ?_
          have HF := Lib.hid (((HC3.out.set 0 (.slice a1 (ys).length c1)).set 1 (.int .i64 r)).set 2 (.slice (some ⟨g2, 0, none⟩) rs.length rs.length))
          have hlo : w3.heap.size ≤ b5 := HLC.out
          have HBF := Lib.hid (((HBW.out.setCell (p := ⟨b5, 0, none⟩) hlo (.slice a1 (ys).length c1)).setCell (p := ⟨b5, 1, none⟩) hlo (.int .i64 r)).setCell (p := ⟨b5, 2, none⟩) hlo (.slice (some ⟨g2, 0, none⟩) rs.length rs.length))
          have HAF := Lib.hid (OwnRow.setO (OwnRow.setO (OwnRow.setO HA3.out ⟨b5, 0, none⟩ (.slice a1 (ys).length c1) (fun e => HAC.out b5 e rfl)) ⟨b5, 1, none⟩ (.int .i64 r) (fun e => HAC.out b5 e rfl)) ⟨b5, 2, none⟩ (.slice (some ⟨g2, 0, none⟩) rs.length rs.length) (fun e => HAC.out b5 e rfl))
          have hg2n : ∀ o : Nat, (Value.slice (some ⟨g2, 0, none⟩) rs.length rs.length).ownBlock ≠ some (Addr.mk b5 o none).block := fun o e => HBC.out (by simpa [Value.ownBlock] using e)
          have HGF := Lib.hid (OwnRow.setO (OwnRow.setO (OwnRow.setO HB3.out ⟨b5, 0, none⟩ (.slice a1 (ys).length c1) (hg2n 0)) ⟨b5, 1, none⟩ (.int .i64 r) (hg2n 1)) ⟨b5, 2, none⟩ (.slice (some ⟨g2, 0, none⟩) rs.length rs.length) (hg2n 2))
          clear z0 z1 z2 y0 y1 y2 hHeld hlo hg2n
          go_wp2_with fail
          go_meet
          exact ⟨b5, a1, c1, g2, rfl, HF.out, HAF.out, HGF.out, HAB.out, HAC.out, HBC.out, HBF.out, HLC.out⟩
        refine AllReadyL.cons rfl (fun K hK => ?_) AllReadyL.nil
        go_simp
        obtain ⟨wC, hwC⟩ : ∃ wC, wA.alloc (.cells #[.slice none 0 0, .int .i64 0, .slice none 0 0] 123) = wC := ⟨_, rfl⟩
        obtain ⟨b5, hb5⟩ : ∃ b5, wA.heap.size = b5 := ⟨_, rfl⟩
        have hbC : Below wA.heap.size wA wC := by rw [← hwC]; exact (Below.refl _ _).alloc (Nat.le_refl _) _
        have HC2 : Hid (Box 123 wC b5 #[.slice none 0 0, .int .i64 0, .slice none 0 0]) := Lib.hid (by rw [← hwC, ← hb5]; exact Box.new _ _ _)
        have HNC := Lib.hid hb5
        have HLC : Hid (w3.heap.size ≤ b5) := Lib.hid (by rw [← hb5]; exact hHeld.2.2.2.size)
        try simp only [World.drew_heap]
        try rw [show w3.heap.size = b5 from hb5]
        try rw [hb5]
        rw [hwC]
        clear hwC
        have HA2 := Lib.hid (HA1.out.below hbC)
        refine hK.out _ _ ?_ (fun hHeld => ?_)
        · exact ⟨below_cell hbC hHeld.1, below_cell hbC hHeld.2.1, below_cell hbC hHeld.2.2.1, hHeld.2.2.2.trans (hbC.mono hHeld.2.2.2.size)⟩
        clear hK K
        try simp only [Act.put, List.setIfInBounds_toArray, List.set_cons_zero, List.set_cons_succ]
        refine wpAnyL_ready (rs := [14]) (by kernel_rfl) (by simp) ?_
        refine AllReadyL.cons rfl (fun K hK => ?_) AllReadyL.nil
        go_simp
        obtain ⟨wB, hwB⟩ : ∃ wB, wC.alloc (.cells (Array.replicate rs.length (Value.int .i64 0)) 2) = wB := ⟨_, rfl⟩
        obtain ⟨g2, hg2⟩ : ∃ g2, wC.heap.size = g2 := ⟨_, rfl⟩
        have hbB : Below wC.heap.size wC wB := by rw [← hwB]; exact (Below.refl _ _).alloc (Nat.le_refl _) _
        have HB3 : Hid (OwnRow wB w3.heap.size (.slice (some ⟨g2, 0, none⟩) rs.length rs.length) (List.replicate rs.length 0)) := Lib.hid (by rw [← hwB, ← hg2]; exact own_zeros _ _ _ hHeld.2.2.2.size (by omega))
        have HNB := Lib.hid hg2
        try simp only [World.drew_heap]
        try rw [show w3.heap.size = g2 from hg2]
        try rw [hg2]
        rw [hwB]
        clear hwB
        have HA3 := Lib.hid (HA2.out.below hbB)
        have HC3 := Lib.hid (HC2.out.below hbB)
        refine hK.out _ _ ?_ (fun hHeld => ?_)
        · exact ⟨below_cell hbB hHeld.1, below_cell hbB hHeld.2.1, below_cell hbB hHeld.2.2.1, hHeld.2.2.2.trans (hbB.mono hHeld.2.2.2.size)⟩
        clear hK K
        try simp only [Act.put, List.setIfInBounds_toArray, List.set_cons_zero, List.set_cons_succ]
        refine wpAnyL_free (i := 15) (v := ?_) (some 35) rfl rfl (by kernel_rfl) (by kernel_rfl) (by kernel_rfl) (by decide) (fun _ _ _ h => h) (Or.inl ⟨by rfl, ?_⟩) (fun h0 => by assumption) ?_
        rotate_left
        · intro wS
          go_simp
          try with_reducible rfl
        try simp only [Act.put, List.setIfInBounds_toArray, List.set_cons_zero, List.set_cons_succ]
        refine wpAnyL_ready (rs := [17]) (by kernel_rfl) (by simp) ?_
        refine AllReadyL.last rfl (by kernel_rfl) (fun K hK => ?_) AllReadyL.nil
        have HBW := Lib.hid hHeld.2.2.2
        have hAB : ∀ g, (Value.slice a1 (ys).length c1).ownBlock = some g → g ≠ g2 := fun g hg e => by
          have h1 := (HA2.out.lt g hg).2
          have h2 := HNB.out
          omega
        have hAC : ∀ g, (Value.slice a1 (ys).length c1).ownBlock = some g → g ≠ b5 := fun g hg e => by
          have h1 := (HA1.out.lt g hg).2
          have h2 := HNC.out
          omega
        have hBC : g2 ≠ b5 := fun e => by
          have h1 := HNB.out
          have h2 := HC2.out.lt
          omega
        have HAB := Lib.hid hAB
        have HAC := Lib.hid hAC
        have HBC := Lib.hid hBC
        have z0 : wB.cell? ⟨b5, 0, none⟩ = some (.slice none 0 0) := HC3.out.c 0 rfl
        have y0 := HC3.out.free 0
        have z1 : wB.cell? ⟨b5, 1, none⟩ = some (.int .i64 0) := HC3.out.c 1 rfl
        have y1 := HC3.out.free 1
        have z2 : wB.cell? ⟨b5, 2, none⟩ = some (.slice none 0 0) := HC3.out.c 2 rfl
        have y2 := HC3.out.free 2
        clear hAB hAC hBC
        go_simp
        refine hK.out _ _ ?_
        clear hK K
        try simp only [Act.put, List.setIfInBounds_toArray, List.set_cons_zero, List.set_cons_succ]
        refine wpAnyL_done (by kernel_rfl) ?_ _
        refine NoPanic.normal ?_
        have HF := Lib.hid (((HC3.out.set 0 (.slice a1 (ys).length c1)).set 1 (.int .i64 r)).set 2 (.slice (some ⟨g2, 0, none⟩) rs.length rs.length))
        have hlo : w3.heap.size ≤ b5 := HLC.out
        have HBF := Lib.hid (((HBW.out.setCell (p := ⟨b5, 0, none⟩) hlo (.slice a1 (ys).length c1)).setCell (p := ⟨b5, 1, none⟩) hlo (.int .i64 r)).setCell (p := ⟨b5, 2, none⟩) hlo (.slice (some ⟨g2, 0, none⟩) rs.length rs.length))
        have HAF := Lib.hid (OwnRow.setO (OwnRow.setO (OwnRow.setO HA3.out ⟨b5, 0, none⟩ (.slice a1 (ys).length c1) (fun e => HAC.out b5 e rfl)) ⟨b5, 1, none⟩ (.int .i64 r) (fun e => HAC.out b5 e rfl)) ⟨b5, 2, none⟩ (.slice (some ⟨g2, 0, none⟩) rs.length rs.length) (fun e => HAC.out b5 e rfl))
        have hg2n : ∀ o : Nat, (Value.slice (some ⟨g2, 0, none⟩) rs.length rs.length).ownBlock ≠ some (Addr.mk b5 o none).block := fun o e => HBC.out (by simpa [Value.ownBlock] using e)
        have HGF := Lib.hid (OwnRow.setO (OwnRow.setO (OwnRow.setO HB3.out ⟨b5, 0, none⟩ (.slice a1 (ys).length c1) (hg2n 0)) ⟨b5, 1, none⟩ (.int .i64 r) (hg2n 1)) ⟨b5, 2, none⟩ (.slice (some ⟨g2, 0, none⟩) rs.length rs.length) (hg2n 2))
        clear z0 z1 z2 y0 y1 y2 hHeld hlo hg2n
        go_wp2_with fail
        go_meet
        exact ⟨b5, a1, c1, g2, rfl, HF.out, HAF.out, HGF.out, HAB.out, HAC.out, HBC.out, HBF.out, HLC.out⟩
      refine AllReadyL.cons rfl (fun K hK => ?_) ?_
      · skip
        go_simp
        obtain ⟨wB, hwB⟩ : ∃ wB, (w3.alloc (.cells (Array.replicate rs.length (Value.int .i64 0)) 2)).drew = wB := ⟨_, rfl⟩
        obtain ⟨g2, hg2⟩ : ∃ g2, w3.drew.heap.size = g2 := ⟨_, rfl⟩
        have hbB : Below w3.drew.heap.size w3.drew wB := by rw [← hwB]; exact (Below.refl _ _).alloc (Nat.le_refl _) _
        have HB1 : Hid (OwnRow wB w3.heap.size (.slice (some ⟨g2, 0, none⟩) rs.length rs.length) (List.replicate rs.length 0)) := Lib.hid (by rw [← hwB, ← hg2]; exact own_zeros _ _ _ hHeld.2.2.2.size (by omega))
        have HNB := Lib.hid hg2
        try simp only [World.drew_heap]
        try rw [show w3.heap.size = g2 from hg2]
        try rw [hg2]
        rw [hwB]
        clear hwB
        refine hK.out _ _ ?_ (fun hHeld => ?_)
        · exact ⟨below_cell hbB hHeld.1, below_cell hbB hHeld.2.1, below_cell hbB hHeld.2.2.1, hHeld.2.2.2.trans (hbB.mono hHeld.2.2.2.size)⟩
        clear hK K
        try simp only [Act.put, List.setIfInBounds_toArray, List.set_cons_zero, List.set_cons_succ]
        refine wpAnyL_ready (rs := [4, 16]) (by kernel_rfl) (by simp) ?_
        refine AllReadyL.cons rfl (fun K hK => ?_) ?_
        · skip
          go_simp; go_at_call 144; refine (l00Own _ _ _ (ys) _ (HLR.out.below hHeld.2.2.2) hl1 (by omega)).mono ?_; rintro e wA ⟨a1, c1, rfl, hoA, hbA⟩
          have HA2 := Lib.hid (hoA.mono hHeld.2.2.2.size)
          have hnA : ∀ g, (Value.slice a1 (ys).length c1).ownBlock = some g → wB.heap.size ≤ g := fun g hg => (hoA.lt g hg).1
          have HNA := Lib.hid hnA
          clear hoA hnA
          have HB2 := Lib.hid (HB1.out.below hbA)
          refine hK.out _ _ ?_ (fun hHeld => ?_)
          · exact ⟨below_cell hbA hHeld.1, below_cell hbA hHeld.2.1, below_cell hbA hHeld.2.2.1, hHeld.2.2.2.trans (hbA.mono hHeld.2.2.2.size)⟩
          clear hK K
          try simp only [Act.put, List.setIfInBounds_toArray, List.set_cons_zero, List.set_cons_succ]
          refine wpAnyL_free (i := 15) (v := ?_) (some 35) rfl rfl (by kernel_rfl) (by kernel_rfl) (by kernel_rfl) (by decide) (fun _ _ _ h => h) (Or.inl ⟨by rfl, ?_⟩) (fun h0 => by assumption) ?_
          rotate_left
          · intro wS
            go_simp
            try with_reducible rfl
          try simp only [Act.put, List.setIfInBounds_toArray, List.set_cons_zero, List.set_cons_succ]
          refine wpAnyL_ready (rs := [16]) (by kernel_rfl) (by simp) ?_
          refine AllReadyL.cons rfl (fun K hK => ?_) AllReadyL.nil
          go_simp
          obtain ⟨wC, hwC⟩ : ∃ wC, wA.alloc (.cells #[.slice none 0 0, .int .i64 0, .slice none 0 0] 123) = wC := ⟨_, rfl⟩
          obtain ⟨b5, hb5⟩ : ∃ b5, wA.heap.size = b5 := ⟨_, rfl⟩
          have hbC : Below wA.heap.size wA wC := by rw [← hwC]; exact (Below.refl _ _).alloc (Nat.le_refl _) _
          have HC3 : Hid (Box 123 wC b5 #[.slice none 0 0, .int .i64 0, .slice none 0 0]) := Lib.hid (by rw [← hwC, ← hb5]; exact Box.new _ _ _)
          have HNC := Lib.hid hb5
          have HLC : Hid (w3.heap.size ≤ b5) := Lib.hid (by rw [← hb5]; exact hHeld.2.2.2.size)
          try simp only [World.drew_heap]
          try rw [show w3.heap.size = b5 from hb5]
          try rw [hb5]
          rw [hwC]
          clear hwC
          have HB3 := Lib.hid (HB2.out.below hbC)
          have HA3 := Lib.hid (HA2.out.below hbC)
          refine hK.out _ _ ?_ (fun hHeld => ?_)
          · exact ⟨below_cell hbC hHeld.1, below_cell hbC hHeld.2.1, below_cell hbC hHeld.2.2.1, hHeld.2.2.2.trans (hbC.mono hHeld.2.2.2.size)⟩
          clear hK K
          try simp only [Act.put, List.setIfInBounds_toArray, List.set_cons_zero, List.set_cons_succ]
          refine wpAnyL_ready (rs := [17]) (by kernel_rfl) (by simp) ?_
          refine AllReadyL.last rfl (by kernel_rfl) (fun K hK => ?_) AllReadyL.nil
          have HBW := Lib.hid hHeld.2.2.2
          have hAB : ∀ g, (Value.slice a1 (ys).length c1).ownBlock = some g → g ≠ g2 := fun g hg e => by
            have h1 := HNA.out g hg
            have h2 := (HB1.out.lt g2 (by simp [Value.ownBlock])).2
            omega
          have hAC : ∀ g, (Value.slice a1 (ys).length c1).ownBlock = some g → g ≠ b5 := fun g hg e => by
            have h1 := (HA2.out.lt g hg).2
            have h2 := HNC.out
            omega
          have hBC : g2 ≠ b5 := fun e => by
            have h1 := (HB2.out.lt g2 (by simp [Value.ownBlock])).2
            have h2 := HNC.out
            omega
          have HAB := Lib.hid hAB
          have HAC := Lib.hid hAC
          have HBC := Lib.hid hBC
          have z0 : wC.cell? ⟨b5, 0, none⟩ = some (.slice none 0 0) := HC3.out.c 0 rfl
          have y0 := HC3.out.free 0
          have z1 : wC.cell? ⟨b5, 1, none⟩ = some (.int .i64 0) := HC3.out.c 1 rfl
          have y1 := HC3.out.free 1
          have z2 : wC.cell? ⟨b5, 2, none⟩ = some (.slice none 0 0) := HC3.out.c 2 rfl
          have y2 := HC3.out.free 2
          clear hAB hAC hBC
          go_simp
          refine hK.out _ _ ?_
          clear hK K
          try simp only [Act.put, List.setIfInBounds_toArray, List.set_cons_zero, List.set_cons_succ]
          refine wpAnyL_done (by kernel_rfl) ?_ _
          refine NoPanic.normal ?_
          have HF := Lib.hid (((HC3.out.set 0 (.slice a1 (ys).length c1)).set 1 (.int .i64 r)).set 2 (.slice (some ⟨g2, 0, none⟩) rs.length rs.length))
          have hlo : w3.heap.size ≤ b5 := HLC.out
          have HBF := Lib.hid (((HBW.out.setCell (p := ⟨b5, 0, none⟩) hlo (.slice a1 (ys).length c1)).setCell (p := ⟨b5, 1, none⟩) hlo (.int .i64 r)).setCell (p := ⟨b5, 2, none⟩) hlo (.slice (some ⟨g2, 0, none⟩) rs.length rs.length))
          have HAF := Lib.hid (OwnRow.setO (OwnRow.setO (OwnRow.setO HA3.out ⟨b5, 0, none⟩ (.slice a1 (ys).length c1) (fun e => HAC.out b5 e rfl)) ⟨b5, 1, none⟩ (.int .i64 r) (fun e => HAC.out b5 e rfl)) ⟨b5, 2, none⟩ (.slice (some ⟨g2, 0, none⟩) rs.length rs.length) (fun e => HAC.out b5 e rfl))
          have hg2n : ∀ o : Nat, (Value.slice (some ⟨g2, 0, none⟩) rs.length rs.length).ownBlock ≠ some (Addr.mk b5 o none).block := fun o e => HBC.out (by simpa [Value.ownBlock] using e)
          have HGF := Lib.hid (OwnRow.setO (OwnRow.setO (OwnRow.setO HB3.out ⟨b5, 0, none⟩ (.slice a1 (ys).length c1) (hg2n 0)) ⟨b5, 1, none⟩ (.int .i64 r) (hg2n 1)) ⟨b5, 2, none⟩ (.slice (some ⟨g2, 0, none⟩) rs.length rs.length) (hg2n 2))
          clear z0 z1 z2 y0 y1 y2 hHeld hlo hg2n
          go_wp2_with fail
          go_meet
          exact ⟨b5, a1, c1, g2, rfl, HF.out, HAF.out, HGF.out, HAB.out, HAC.out, HBC.out, HBF.out, HLC.out⟩
        refine AllReadyL.cons rfl (fun K hK => ?_) AllReadyL.nil
        go_simp
        obtain ⟨wC, hwC⟩ : ∃ wC, wB.alloc (.cells #[.slice none 0 0, .int .i64 0, .slice none 0 0] 123) = wC := ⟨_, rfl⟩
        obtain ⟨b5, hb5⟩ : ∃ b5, wB.heap.size = b5 := ⟨_, rfl⟩
        have hbC : Below wB.heap.size wB wC := by rw [← hwC]; exact (Below.refl _ _).alloc (Nat.le_refl _) _
        have HC2 : Hid (Box 123 wC b5 #[.slice none 0 0, .int .i64 0, .slice none 0 0]) := Lib.hid (by rw [← hwC, ← hb5]; exact Box.new _ _ _)
        have HNC := Lib.hid hb5
        have HLC : Hid (w3.heap.size ≤ b5) := Lib.hid (by rw [← hb5]; exact hHeld.2.2.2.size)
        try simp only [World.drew_heap]
        try rw [show w3.heap.size = b5 from hb5]
        try rw [hb5]
        rw [hwC]
        clear hwC
        have HB2 := Lib.hid (HB1.out.below hbC)
        refine hK.out _ _ ?_ (fun hHeld => ?_)
        · exact ⟨below_cell hbC hHeld.1, below_cell hbC hHeld.2.1, below_cell hbC hHeld.2.2.1, hHeld.2.2.2.trans (hbC.mono hHeld.2.2.2.size)⟩
        clear hK K
        try simp only [Act.put, List.setIfInBounds_toArray, List.set_cons_zero, List.set_cons_succ]
        refine wpAnyL_ready (rs := [4]) (by kernel_rfl) (by simp) ?_
        refine AllReadyL.cons rfl (fun K hK => ?_) AllReadyL.nil
        go_simp; go_at_call 144; refine (l00Own _ _ _ (ys) _ (HLR.out.below hHeld.2.2.2) hl1 (by omega)).mono ?_; rintro e wA ⟨a1, c1, rfl, hoA, hbA⟩
        have HA3 := Lib.hid (hoA.mono hHeld.2.2.2.size)
        have hnA : ∀ g, (Value.slice a1 (ys).length c1).ownBlock = some g → wC.heap.size ≤ g := fun g hg => (hoA.lt g hg).1
        have HNA := Lib.hid hnA
        clear hoA hnA
        have HB3 := Lib.hid (HB2.out.below hbA)
        have HC3 := Lib.hid (HC2.out.below hbA)
        refine hK.out _ _ ?_ (fun hHeld => ?_)
        · exact ⟨below_cell hbA hHeld.1, below_cell hbA hHeld.2.1, below_cell hbA hHeld.2.2.1, hHeld.2.2.2.trans (hbA.mono hHeld.2.2.2.size)⟩
        clear hK K
        try simp only [Act.put, List.setIfInBounds_toArray, List.set_cons_zero, List.set_cons_succ]
        refine wpAnyL_free (i := 15) (v := ?_) (some 35) rfl rfl (by kernel_rfl) (by kernel_rfl) (by kernel_rfl) (by decide) (fun _ _ _ h => h) (Or.inl ⟨by rfl, ?_⟩) (fun h0 => by assumption) ?_
        rotate_left
        · intro wS
          go_simp
          try with_reducible rfl
        try simp only [Act.put, List.setIfInBounds_toArray, List.set_cons_zero, List.set_cons_succ]
        refine wpAnyL_ready (rs := [17]) (by kernel_rfl) (by simp) ?_
        refine AllReadyL.last rfl (by kernel_rfl) (fun K hK => ?_) AllReadyL.nil
        have HBW := Lib.hid hHeld.2.2.2
        have hAB : ∀ g, (Value.slice a1 (ys).length c1).ownBlock = some g → g ≠ g2 := fun g hg e => by
          have h1 := HNA.out g hg
          have h2 := (HB2.out.lt g2 (by simp [Value.ownBlock])).2
          omega
        have hAC : ∀ g, (Value.slice a1 (ys).length c1).ownBlock = some g → g ≠ b5 := fun g hg e => by
          have h1 := HNA.out g hg
          have h2 := HC2.out.lt
          omega
        have hBC : g2 ≠ b5 := fun e => by
          have h1 := (HB1.out.lt g2 (by simp [Value.ownBlock])).2
          have h2 := HNC.out
          omega
        have HAB := Lib.hid hAB
        have HAC := Lib.hid hAC
        have HBC := Lib.hid hBC
        have z0 : wA.cell? ⟨b5, 0, none⟩ = some (.slice none 0 0) := HC3.out.c 0 rfl
        have y0 := HC3.out.free 0
        have z1 : wA.cell? ⟨b5, 1, none⟩ = some (.int .i64 0) := HC3.out.c 1 rfl
        have y1 := HC3.out.free 1
        have z2 : wA.cell? ⟨b5, 2, none⟩ = some (.slice none 0 0) := HC3.out.c 2 rfl
        have y2 := HC3.out.free 2
        clear hAB hAC hBC
        go_simp
        refine hK.out _ _ ?_
        clear hK K
        try simp only [Act.put, List.setIfInBounds_toArray, List.set_cons_zero, List.set_cons_succ]
        refine wpAnyL_done (by kernel_rfl) ?_ _
        refine NoPanic.normal ?_
        have HF := Lib.hid (((HC3.out.set 0 (.slice a1 (ys).length c1)).set 1 (.int .i64 r)).set 2 (.slice (some ⟨g2, 0, none⟩) rs.length rs.length))
        have hlo : w3.heap.size ≤ b5 := HLC.out
        have HBF := Lib.hid (((HBW.out.setCell (p := ⟨b5, 0, none⟩) hlo (.slice a1 (ys).length c1)).setCell (p := ⟨b5, 1, none⟩) hlo (.int .i64 r)).setCell (p := ⟨b5, 2, none⟩) hlo (.slice (some ⟨g2, 0, none⟩) rs.length rs.length))
        have HAF := Lib.hid (OwnRow.setO (OwnRow.setO (OwnRow.setO HA3.out ⟨b5, 0, none⟩ (.slice a1 (ys).length c1) (fun e => HAC.out b5 e rfl)) ⟨b5, 1, none⟩ (.int .i64 r) (fun e => HAC.out b5 e rfl)) ⟨b5, 2, none⟩ (.slice (some ⟨g2, 0, none⟩) rs.length rs.length) (fun e => HAC.out b5 e rfl))
        have hg2n : ∀ o : Nat, (Value.slice (some ⟨g2, 0, none⟩) rs.length rs.length).ownBlock ≠ some (Addr.mk b5 o none).block := fun o e => HBC.out (by simpa [Value.ownBlock] using e)
        have HGF := Lib.hid (OwnRow.setO (OwnRow.setO (OwnRow.setO HB3.out ⟨b5, 0, none⟩ (.slice a1 (ys).length c1) (hg2n 0)) ⟨b5, 1, none⟩ (.int .i64 r) (hg2n 1)) ⟨b5, 2, none⟩ (.slice (some ⟨g2, 0, none⟩) rs.length rs.length) (hg2n 2))
        clear z0 z1 z2 y0 y1 y2 hHeld hlo hg2n
        go_wp2_with fail
        go_meet
        exact ⟨b5, a1, c1, g2, rfl, HF.out, HAF.out, HGF.out, HAB.out, HAC.out, HBC.out, HBF.out, HLC.out⟩
      refine AllReadyL.cons rfl (fun K hK => ?_) AllReadyL.nil
      go_simp
      obtain ⟨wC, hwC⟩ : ∃ wC, (w3.alloc (.cells #[.slice none 0 0, .int .i64 0, .slice none 0 0] 123)).drew = wC := ⟨_, rfl⟩
      obtain ⟨b5, hb5⟩ : ∃ b5, w3.drew.heap.size = b5 := ⟨_, rfl⟩
      have hbC : Below w3.drew.heap.size w3.drew wC := by rw [← hwC]; exact (Below.refl _ _).alloc (Nat.le_refl _) _
      have HC1 : Hid (Box 123 wC b5 #[.slice none 0 0, .int .i64 0, .slice none 0 0]) := Lib.hid (by rw [← hwC, ← hb5]; exact Box.new _ _ _)
      have HNC := Lib.hid hb5
      have HLC : Hid (w3.heap.size ≤ b5) := Lib.hid (by rw [← hb5]; exact hHeld.2.2.2.size)
      try simp only [World.drew_heap]
      try rw [show w3.heap.size = b5 from hb5]
      try rw [hb5]
      rw [hwC]
      clear hwC
      refine hK.out _ _ ?_ (fun hHeld => ?_)
      · exact ⟨below_cell hbC hHeld.1, below_cell hbC hHeld.2.1, below_cell hbC hHeld.2.2.1, hHeld.2.2.2.trans (hbC.mono hHeld.2.2.2.size)⟩
      clear hK K
      try simp only [Act.put, List.setIfInBounds_toArray, List.set_cons_zero, List.set_cons_succ]
      refine wpAnyL_ready (rs := [4, 14]) (by kernel_rfl) (by simp) ?_
      refine AllReadyL.cons rfl (fun K hK => ?_) ?_
      · skip
        go_simp; go_at_call 144; refine (l00Own _ _ _ (ys) _ (HLR.out.below hHeld.2.2.2) hl1 (by omega)).mono ?_; rintro e wA ⟨a1, c1, rfl, hoA, hbA⟩
        have HA2 := Lib.hid (hoA.mono hHeld.2.2.2.size)
        have hnA : ∀ g, (Value.slice a1 (ys).length c1).ownBlock = some g → wC.heap.size ≤ g := fun g hg => (hoA.lt g hg).1
        have HNA := Lib.hid hnA
        clear hoA hnA
        have HC2 := Lib.hid (HC1.out.below hbA)
        refine hK.out _ _ ?_ (fun hHeld => ?_)
        · exact ⟨below_cell hbA hHeld.1, below_cell hbA hHeld.2.1, below_cell hbA hHeld.2.2.1, hHeld.2.2.2.trans (hbA.mono hHeld.2.2.2.size)⟩
        clear hK K
        try simp only [Act.put, List.setIfInBounds_toArray, List.set_cons_zero, List.set_cons_succ]
        refine wpAnyL_ready (rs := [14]) (by kernel_rfl) (by simp) ?_
        refine AllReadyL.cons rfl (fun K hK => ?_) AllReadyL.nil
        go_simp
        obtain ⟨wB, hwB⟩ : ∃ wB, wA.alloc (.cells (Array.replicate rs.length (Value.int .i64 0)) 2) = wB := ⟨_, rfl⟩
        obtain ⟨g2, hg2⟩ : ∃ g2, wA.heap.size = g2 := ⟨_, rfl⟩
        have hbB : Below wA.heap.size wA wB := by rw [← hwB]; exact (Below.refl _ _).alloc (Nat.le_refl _) _
        have HB3 : Hid (OwnRow wB w3.heap.size (.slice (some ⟨g2, 0, none⟩) rs.length rs.length) (List.replicate rs.length 0)) := Lib.hid (by rw [← hwB, ← hg2]; exact own_zeros _ _ _ hHeld.2.2.2.size (by omega))
        have HNB := Lib.hid hg2
        try simp only [World.drew_heap]
        try rw [show w3.heap.size = g2 from hg2]
        try rw [hg2]
        rw [hwB]
        clear hwB
        have HC3 := Lib.hid (HC2.out.below hbB)
        have HA3 := Lib.hid (HA2.out.below hbB)
        refine hK.out _ _ ?_ (fun hHeld => ?_)
        · exact ⟨below_cell hbB hHeld.1, below_cell hbB hHeld.2.1, below_cell hbB hHeld.2.2.1, hHeld.2.2.2.trans (hbB.mono hHeld.2.2.2.size)⟩
        clear hK K
        try simp only [Act.put, List.setIfInBounds_toArray, List.set_cons_zero, List.set_cons_succ]
        refine wpAnyL_free (i := 15) (v := ?_) (some 35) rfl rfl (by kernel_rfl) (by kernel_rfl) (by kernel_rfl) (by decide) (fun _ _ _ h => h) (Or.inl ⟨by rfl, ?_⟩) (fun h0 => by assumption) ?_
        rotate_left
        · intro wS
          go_simp
          try with_reducible rfl
        try simp only [Act.put, List.setIfInBounds_toArray, List.set_cons_zero, List.set_cons_succ]
        refine wpAnyL_ready (rs := [17]) (by kernel_rfl) (by simp) ?_
        refine AllReadyL.last rfl (by kernel_rfl) (fun K hK => ?_) AllReadyL.nil
        have HBW := Lib.hid hHeld.2.2.2
        have hAB : ∀ g, (Value.slice a1 (ys).length c1).ownBlock = some g → g ≠ g2 := fun g hg e => by
          have h1 := (HA2.out.lt g hg).2
          have h2 := HNB.out
          omega
        have hAC : ∀ g, (Value.slice a1 (ys).length c1).ownBlock = some g → g ≠ b5 := fun g hg e => by
          have h1 := HNA.out g hg
          have h2 := HC1.out.lt
          omega
        have hBC : g2 ≠ b5 := fun e => by
          have h1 := HNB.out
          have h2 := HC2.out.lt
          omega
        have HAB := Lib.hid hAB
        have HAC := Lib.hid hAC
        have HBC := Lib.hid hBC
        have z0 : wB.cell? ⟨b5, 0, none⟩ = some (.slice none 0 0) := HC3.out.c 0 rfl
        have y0 := HC3.out.free 0
        have z1 : wB.cell? ⟨b5, 1, none⟩ = some (.int .i64 0) := HC3.out.c 1 rfl
        have y1 := HC3.out.free 1
        have z2 : wB.cell? ⟨b5, 2, none⟩ = some (.slice none 0 0) := HC3.out.c 2 rfl
        have y2 := HC3.out.free 2
        clear hAB hAC hBC
        go_simp
        refine hK.out _ _ ?_
        clear hK K
        try simp only [Act.put, List.setIfInBounds_toArray, List.set_cons_zero, List.set_cons_succ]
        refine wpAnyL_done (by kernel_rfl) ?_ _
        refine NoPanic.normal ?_
        have HF := Lib.hid (((HC3.out.set 0 (.slice a1 (ys).length c1)).set 1 (.int .i64 r)).set 2 (.slice (some ⟨g2, 0, none⟩) rs.length rs.length))
        have hlo : w3.heap.size ≤ b5 := HLC.out
        have HBF := Lib.hid (((HBW.out.setCell (p := ⟨b5, 0, none⟩) hlo (.slice a1 (ys).length c1)).setCell (p := ⟨b5, 1, none⟩) hlo (.int .i64 r)).setCell (p := ⟨b5, 2, none⟩) hlo (.slice (some ⟨g2, 0, none⟩) rs.length rs.length))
        have HAF := Lib.hid (OwnRow.setO (OwnRow.setO (OwnRow.setO HA3.out ⟨b5, 0, none⟩ (.slice a1 (ys).length c1) (fun e => HAC.out b5 e rfl)) ⟨b5, 1, none⟩ (.int .i64 r) (fun e => HAC.out b5 e rfl)) ⟨b5, 2, none⟩ (.slice (some ⟨g2, 0, none⟩) rs.length rs.length) (fun e => HAC.out b5 e rfl))
        have hg2n : ∀ o : Nat, (Value.slice (some ⟨g2, 0, none⟩) rs.length rs.length).ownBlock ≠ some (Addr.mk b5 o none).block := fun o e => HBC.out (by simpa [Value.ownBlock] using e)
        have HGF := Lib.hid (OwnRow.setO (OwnRow.setO (OwnRow.setO HB3.out ⟨b5, 0, none⟩ (.slice a1 (ys).length c1) (hg2n 0)) ⟨b5, 1, none⟩ (.int .i64 r) (hg2n 1)) ⟨b5, 2, none⟩ (.slice (some ⟨g2, 0, none⟩) rs.length rs.length) (hg2n 2))
        clear z0 z1 z2 y0 y1 y2 hHeld hlo hg2n
        go_wp2_with fail
        go_meet
        exact ⟨b5, a1, c1, g2, rfl, HF.out, HAF.out, HGF.out, HAB.out, HAC.out, HBC.out, HBF.out, HLC.out⟩
      refine AllReadyL.cons rfl (fun K hK => ?_) AllReadyL.nil
      go_simp
      obtain ⟨wB, hwB⟩ : ∃ wB, wC.alloc (.cells (Array.replicate rs.length (Value.int .i64 0)) 2) = wB := ⟨_, rfl⟩
      obtain ⟨g2, hg2⟩ : ∃ g2, wC.heap.size = g2 := ⟨_, rfl⟩
      have hbB : Below wC.heap.size wC wB := by rw [← hwB]; exact (Below.refl _ _).alloc (Nat.le_refl _) _
      have HB2 : Hid (OwnRow wB w3.heap.size (.slice (some ⟨g2, 0, none⟩) rs.length rs.length) (List.replicate rs.length 0)) := Lib.hid (by rw [← hwB, ← hg2]; exact own_zeros _ _ _ hHeld.2.2.2.size (by omega))
      have HNB := Lib.hid hg2
      try simp only [World.drew_heap]
      try rw [show w3.heap.size = g2 from hg2]
      try rw [hg2]
      rw [hwB]
      clear hwB
      have HC2 := Lib.hid (HC1.out.below hbB)
      refine hK.out _ _ ?_ (fun hHeld => ?_)
      · exact ⟨below_cell hbB hHeld.1, below_cell hbB hHeld.2.1, below_cell hbB hHeld.2.2.1, hHeld.2.2.2.trans (hbB.mono hHeld.2.2.2.size)⟩
      clear hK K
      try simp only [Act.put, List.setIfInBounds_toArray, List.set_cons_zero, List.set_cons_succ]
      refine wpAnyL_ready (rs := [4]) (by kernel_rfl) (by simp) ?_
      refine AllReadyL.cons rfl (fun K hK => ?_) AllReadyL.nil
      go_simp; go_at_call 144; refine (l00Own _ _ _ (ys) _ (HLR.out.below hHeld.2.2.2) hl1 (by omega)).mono ?_; rintro e wA ⟨a1, c1, rfl, hoA, hbA⟩
      have HA3 := Lib.hid (hoA.mono hHeld.2.2.2.size)
      have hnA : ∀ g, (Value.slice a1 (ys).length c1).ownBlock = some g → wB.heap.size ≤ g := fun g hg => (hoA.lt g hg).1
      have HNA := Lib.hid hnA
      clear hoA hnA
      have HC3 := Lib.hid (HC2.out.below hbA)
      have HB3 := Lib.hid (HB2.out.below hbA)
      refine hK.out _ _ ?_ (fun hHeld => ?_)
      · exact ⟨below_cell hbA hHeld.1, below_cell hbA hHeld.2.1, below_cell hbA hHeld.2.2.1, hHeld.2.2.2.trans (hbA.mono hHeld.2.2.2.size)⟩
      clear hK K
      try simp only [Act.put, List.setIfInBounds_toArray, List.set_cons_zero, List.set_cons_succ]
      refine wpAnyL_free (i := 15) (v := ?_) (some 35) rfl rfl (by kernel_rfl) (by kernel_rfl) (by kernel_rfl) (by decide) (fun _ _ _ h => h) (Or.inl ⟨by rfl, ?_⟩) (fun h0 => by assumption) ?_
      rotate_left
      · intro wS
        go_simp
        try with_reducible rfl
      try simp only [Act.put, List.setIfInBounds_toArray, List.set_cons_zero, List.set_cons_succ]
      refine wpAnyL_ready (rs := [17]) (by kernel_rfl) (by simp) ?_
      refine AllReadyL.last rfl (by kernel_rfl) (fun K hK => ?_) AllReadyL.nil
      have HBW := Lib.hid hHeld.2.2.2
      have hAB : ∀ g, (Value.slice a1 (ys).length c1).ownBlock = some g → g ≠ g2 := fun g hg e => by
        have h1 := HNA.out g hg
        have h2 := (HB2.out.lt g2 (by simp [Value.ownBlock])).2
        omega
      have hAC : ∀ g, (Value.slice a1 (ys).length c1).ownBlock = some g → g ≠ b5 := fun g hg e => by
        have h1 := HNA.out g hg
        have h2 := HC2.out.lt
        omega
      have hBC : g2 ≠ b5 := fun e => by
        have h1 := HNB.out
        have h2 := HC1.out.lt
        omega
      have HAB := Lib.hid hAB
      have HAC := Lib.hid hAC
      have HBC := Lib.hid hBC
      have z0 : wA.cell? ⟨b5, 0, none⟩ = some (.slice none 0 0) := HC3.out.c 0 rfl
      have y0 := HC3.out.free 0
      have z1 : wA.cell? ⟨b5, 1, none⟩ = some (.int .i64 0) := HC3.out.c 1 rfl
      have y1 := HC3.out.free 1
      have z2 : wA.cell? ⟨b5, 2, none⟩ = some (.slice none 0 0) := HC3.out.c 2 rfl
      have y2 := HC3.out.free 2
      clear hAB hAC hBC
      go_simp
      refine hK.out _ _ ?_
      clear hK K
      try simp only [Act.put, List.setIfInBounds_toArray, List.set_cons_zero, List.set_cons_succ]
      refine wpAnyL_done (by kernel_rfl) ?_ _
      refine NoPanic.normal ?_
      have HF := Lib.hid (((HC3.out.set 0 (.slice a1 (ys).length c1)).set 1 (.int .i64 r)).set 2 (.slice (some ⟨g2, 0, none⟩) rs.length rs.length))
      have hlo : w3.heap.size ≤ b5 := HLC.out
      have HBF := Lib.hid (((HBW.out.setCell (p := ⟨b5, 0, none⟩) hlo (.slice a1 (ys).length c1)).setCell (p := ⟨b5, 1, none⟩) hlo (.int .i64 r)).setCell (p := ⟨b5, 2, none⟩) hlo (.slice (some ⟨g2, 0, none⟩) rs.length rs.length))
      have HAF := Lib.hid (OwnRow.setO (OwnRow.setO (OwnRow.setO HA3.out ⟨b5, 0, none⟩ (.slice a1 (ys).length c1) (fun e => HAC.out b5 e rfl)) ⟨b5, 1, none⟩ (.int .i64 r) (fun e => HAC.out b5 e rfl)) ⟨b5, 2, none⟩ (.slice (some ⟨g2, 0, none⟩) rs.length rs.length) (fun e => HAC.out b5 e rfl))
      have hg2n : ∀ o : Nat, (Value.slice (some ⟨g2, 0, none⟩) rs.length rs.length).ownBlock ≠ some (Addr.mk b5 o none).block := fun o e => HBC.out (by simpa [Value.ownBlock] using e)
      have HGF := Lib.hid (OwnRow.setO (OwnRow.setO (OwnRow.setO HB3.out ⟨b5, 0, none⟩ (.slice a1 (ys).length c1) (hg2n 0)) ⟨b5, 1, none⟩ (.int .i64 r) (hg2n 1)) ⟨b5, 2, none⟩ (.slice (some ⟨g2, 0, none⟩) rs.length rs.length) (hg2n 2))
      clear z0 z1 z2 y0 y1 y2 hHeld hlo hg2n
      go_wp2_with fail
      go_meet
      exact ⟨b5, a1, c1, g2, rfl, HF.out, HAF.out, HGF.out, HAB.out, HAC.out, HBC.out, HBF.out, HLC.out⟩
    case rest =>
      obtain ⟨b5, a1, c1, g2, rfl, hbx, hA, hG, hAB, hAC, hBC, hbw, hb5⟩ := hcut
      obtain rfl : u = ys.length := HYL.out.symm
      have HB5 := Lib.hid hb5
      obtain ⟨q1, q2, q3, q4⟩ := eqnRow_parts ys r rs.length
      have HX0 : Hid (RowSt wc b5 0 w3.heap.size (.slice a1 ys.length c1) ((restE p R (pivE R ys.length) (eqnRow ys r rs.length) 0).take ys.length) (intN (restE p R (pivE R ys.length) (eqnRow ys r rs.length) 0) ys.length) (.slice (some ⟨g2, 0, none⟩) rs.length rs.length) ((restE p R (pivE R ys.length) (eqnRow ys r rs.length) 0).drop (ys.length + 1))) := Lib.hid (by
        show RowSt wc b5 0 w3.heap.size (.slice a1 ys.length c1) ((eqnRow ys r rs.length).take ys.length) (intN (eqnRow ys r rs.length) ys.length) (.slice (some ⟨g2, 0, none⟩) rs.length rs.length) ((eqnRow ys r rs.length).drop (ys.length + 1))
        rw [q1, q2, q3]
        exact ⟨hbx.c 0 rfl, hbx.c 1 rfl, hbx.c 2 rfl, hbx.free 1, hA, hG, fun e => hAC b5 e rfl, fun e => hBC (by simpa [Value.ownBlock] using e), fun g hg e => hAB g hg (by simpa [Value.ownBlock, eq_comm] using e)⟩)
      obtain ⟨x0, hx0⟩ : ∃ x0, eqnRow ys r rs.length = x0 := ⟨_, rfl⟩
      have HLP : Hid (LowP p x0) := Lib.hid (by rw [← hx0]; exact eqnRow_low HQK.out hp3.1)
      rw [hx0] at HX0 q4 HRD
      have HXL0 := Lib.hid q4
      have HW0 := Lib.hid hbw
      have HVA : Hid (∀ g, (Value.slice a1 ys.length c1).ownBlock = some g → w3.heap.size ≤ g) := Lib.hid fun g hg => (hA.lt g hg).1
      have HVG : Hid (∀ g, (Value.slice (some ⟨g2, 0, none⟩) rs.length rs.length).ownBlock = some g → w3.heap.size ≤ g) := Lib.hid fun g hg => (hG.lt g hg).1
      obtain ⟨u, hu⟩ : ∃ u, ys.length = u := ⟨_, rfl⟩
      rw [hu] at HX0 HXL0 HVA HRD HGD HPV HMM hu12
      have HUY := Lib.hid hu
      clear hbx hA hG hAB hAC hBC hbw hb5 q1 q2 q3 q4 hx0 hu hl1 hl12 d0 d1 d2
      go_wp2
      go_loopw [9] (fun v wr => ∃ k : Nat, k ≤ d ∧ v = .int .i64 k ∧ RowSt wr b5 0 w3.heap.size (.slice a1 u c1) ((restE p R (pivE R u) x0 k).take u) (intN (restE p R (pivE R u) x0 k) u) (.slice (some ⟨g2, 0, none⟩) rs.length rs.length) ((restE p R (pivE R u) x0 k).drop (u + 1)) ∧ Below w3.heap.size w3 wr) (fun v _ => d - (intOf v).toNat)
      case atStart => exact ⟨0, Nat.zero_le _, rfl, HX0.out, HW0.out⟩
      case round =>
        obtain ⟨k, hk, rfl, hx, hbk⟩ := hrel
        have HXR := Lib.hid hx
        have HBK := Lib.hid hbk
        have HXL : Hid ((restE p R (pivE R u) x0 k).length = u + 1 + rs.length) := Lib.hid ((restE_len _ _ _ _ _).trans HXL0.out)
        have HXLOW := Lib.hid (restE_low (R := R) (c := pivE R u) (show 0 < p by omega) HLP.out k)
        have x2c := below_cell hbk HS3.out.prime
        have x0c := hx.left
        have HL1 : Hid (Low3 ((restE p R (pivE R u) x0 k).take u)) := Lib.hid ((HXLOW.out.take u).low3 hp3.2)
        have HL2 : Hid (Low3 ((restE p R (pivE R u) x0 k).drop (u + 1))) := Lib.hid ((HXLOW.out.drop (u + 1)).low3 hp3.2)
        have HQ1 : Hid (0 ≤ intN (restE p R (pivE R u) x0 k) u ∧ intN (restE p R (pivE R u) x0 k) u ≤ 2) := Lib.hid (by have := HXLOW.out.any (by omega) u; omega)
        have HN1 : Hid (((restE p R (pivE R u) x0 k).take u).length ≤ 1000) := Lib.hid (by rw [List.length_take]; omega)
        have HN2 : Hid (((restE p R (pivE R u) x0 k).drop (u + 1)).length ≤ 1000) := Lib.hid (by rw [List.length_drop, HXL.out]; omega)
        clear hbk
        by_cases hlt : k < d
        · have hkd : (k : Int) < (d : Int) := by omega
          have hkn : (k : Int) < (rs.length : Int) := by omega
          obtain ⟨rfl, hM, hrb⟩ := HMM.out (by omega)
          have hrow := hM.row k (by omega)
          obtain ⟨ka, kc, hvl⟩ : ∃ ka kc, VL k = .slice ka ((R k).take u).length kc := by obtain ⟨a, c, he, _⟩ := hrow.ownL.rowAt; exact ⟨a, c, he⟩
          obtain ⟨hgl, hlow⟩ := HGD.out k (by omega)
          have htl : ((R k).take u).length = u := by rw [List.length_take, hgl]; omega
          have hkr := hrow.ownL.rowAt.below HBK.out
          rw [hvl, htl] at hkr
          have HKR := Lib.hid hkr
          have x1c := below_cell HBK.out hrow.left
          rw [hvl, htl] at x1c
          obtain ⟨ck, hck⟩ : ∃ ck, pivE R u k = ck := ⟨_, rfl⟩
          have HFV : Hid (firstV ((R k).take u) = (ck : Int)) := Lib.hid (by rw [HPV.out.first hdn hlt (by omega), hck])
          have hcku : ck < u := by rw [← hck]; exact HPV.out.lt k hlt
          have hcki : (ck : Int) < (u : Int) := by omega
          obtain ⟨t, ht⟩ : ∃ t, intN (restE p R (pivE R u) x0 k) ck = t := ⟨_, rfl⟩
          have htl2 : ((restE p R (pivE R u) x0 k).take u).length = u := by rw [List.length_take, HXL.out]; omega
          obtain ⟨ag, rfl⟩ : ∃ ag, a1 = some ⟨ag, 0, none⟩ := by
            rcases hx.ownL.rowIn with ⟨e, _⟩ | ⟨g', c', e, _⟩
            · simp only [Value.slice.injEq] at e; omega
            · simp only [Value.slice.injEq] at e; exact ⟨g', e.1⟩
          have x3c : wr.cell? ⟨ag, ck, none⟩ = some (.int .i64 t) := by
            have e := hx.ownL.cell_of ck (by rw [htl2]; exact hcku)
            rw [intN_take hcku, ht] at e
            exact e
          have htb := HXLOW.out.any (show 0 < p by omega) ck
          rw [ht] at htb
          have HTE : Hid (intN (restE p R (pivE R u) x0 k) (pivE R u k) = t) := Lib.hid (by rw [hck]; exact ht)
          have HT3 : Hid (0 ≤ t ∧ t ≤ 3) := Lib.hid (by omega)
          have HL3 : Hid (Low3 ((R k).take u)) := Lib.hid ((hlow.take u).low3 hp3.2)
          have HL4 : Hid (Low3 ((R k).drop (u + 1))) := Lib.hid ((hlow.drop (u + 1)).low3 hp3.2)
          have HQ2 : Hid (0 ≤ intN (R k) u ∧ intN (R k) u ≤ 2) := Lib.hid (by have := hlow.any (show 0 < p by omega) u; omega)
          have HE1 : Hid (((restE p R (pivE R u) x0 k).take u).length = ((R k).take u).length) := Lib.hid (by rw [htl, htl2])
          have HE2 : Hid (((restE p R (pivE R u) x0 k).drop (u + 1)).length = ((R k).drop (u + 1)).length) := Lib.hid (by rw [List.length_drop, List.length_drop, HXL.out, hgl])
          have HRD8 : Hid (∀ wa w', Below wr.heap.size wr wa → RowK b5 0 (Value.slice (some ⟨ag, 0, none⟩) u c1).ownBlock (Value.slice (some ⟨g2, 0, none⟩) rs.length rs.length).ownBlock wa w' → RowRd w' rb (k * 3) ((R k).take u) (intN (R k) u) ((R k).drop (u + 1))) := Lib.hid fun wa w' ha hK => RowK.read hM HVA.out HVG.out HB5.out hrb (by omega) (HBK.out.trans (ha.mono HBK.out.size)) hK
          clear hM hrow hvl hgl hlow htl hkr ht htl2 htb hx hck
          go_wp2
          refine wp_region_noPanic ?_
          refine wp_region_late (S := (fun w' => w'.cell? ⟨b5, 0, none⟩ = some (.slice (some ⟨ag, 0, none⟩) u c1) ∧ w'.cell? ⟨rb, k * 3, none⟩ = some (.slice ka u kc) ∧ w'.cell? ⟨sb, so, none⟩ = some (.int .i64 p) ∧ w'.cell? ⟨ag, ck, none⟩ = some (.int .i64 t) ∧ Below wr.heap.size wr w')) [17] (by kernel_rfl) ?_ (fun hHeld => ?_)
          · exact ⟨x0c, x1c, x2c, x3c, (QW.refl _).drew.below _⟩
          refine wpAnyL_free (i := 0) (v := ?_) (some 41) rfl rfl (by kernel_rfl) (by kernel_rfl) (by kernel_rfl) (by decide) (fun _ _ _ h => h) (Or.inl ⟨by rfl, ?_⟩) (fun h0 => by assumption) ?_
          rotate_left
          · intro wS
            go_simp
            try with_reducible rfl
          try simp only [Act.put, List.setIfInBounds_toArray, List.set_cons_zero, List.set_cons_succ]
          refine wpAnyL_free (i := 1) (v := ?_) (some 42) rfl rfl (by kernel_rfl) (by kernel_rfl) (by kernel_rfl) (by decide) (fun _ _ _ h => h) (Or.inl ⟨by rfl, ?_⟩) (fun h0 => by assumption) ?_
          rotate_left
          · intro wS
            go_simp
            try with_reducible rfl
          try simp only [Act.put, List.setIfInBounds_toArray, List.set_cons_zero, List.set_cons_succ]
          refine wpAnyL_free (i := 2) (v := ?_) (some 43) rfl rfl (by kernel_rfl) (by kernel_rfl) (by kernel_rfl) (by decide) (fun _ _ _ h => h) (Or.inl ⟨by rfl, ?_⟩) (fun h0 => by assumption) ?_
          rotate_left
          · intro wS
            go_simp
            try with_reducible rfl
          try simp only [Act.put, List.setIfInBounds_toArray, List.set_cons_zero, List.set_cons_succ]
          refine wpAnyL_free (i := 3) (v := ?_) (some 44) rfl rfl (by kernel_rfl) (by kernel_rfl) (by kernel_rfl) (by decide) (fun _ _ _ h => h) (Or.inl ⟨by rfl, ?_⟩) (fun h0 => by assumption) ?_
          rotate_left
          · intro wS
            go_simp
            try with_reducible rfl
          try simp only [Act.put, List.setIfInBounds_toArray, List.set_cons_zero, List.set_cons_succ]
          refine wpAnyL_take (i := 4) (v := ?_) (some 45) rfl rfl (by kernel_rfl) (by kernel_rfl) (by kernel_rfl) (by kernel_rfl) (by kernel_rfl) (fun _ _ _ h => h) (Or.inl ⟨by rfl, ?_⟩) (by assumption) ?_
          rotate_left
          · intro wS hSw
            try dsimp only at hSw
            go_simp
            try with_reducible rfl
          try simp only [Act.put, List.setIfInBounds_toArray, List.set_cons_zero, List.set_cons_succ]
          refine wpAnyL_free (i := 5) (v := ?_) (some 46) rfl rfl (by kernel_rfl) (by kernel_rfl) (by kernel_rfl) (by decide) (fun _ _ _ h => h) (Or.inl ⟨by rfl, ?_⟩) (fun h0 => by assumption) ?_
          rotate_left
          · intro wS
            go_simp
            try with_reducible rfl
          try simp only [Act.put, List.setIfInBounds_toArray, List.set_cons_zero, List.set_cons_succ]
          refine wpAnyL_free (i := 6) (v := ?_) (some 47) rfl rfl (by kernel_rfl) (by kernel_rfl) (by kernel_rfl) (by decide) (fun _ _ _ h => h) (Or.inl ⟨by rfl, ?_⟩) (fun h0 => by assumption) ?_
          rotate_left
          · intro wS
            go_simp
            try with_reducible rfl
          try simp only [Act.put, List.setIfInBounds_toArray, List.set_cons_zero, List.set_cons_succ]
          refine wpAnyL_free (i := 7) (v := ?_) (some 48) rfl rfl (by kernel_rfl) (by kernel_rfl) (by kernel_rfl) (by decide) (fun _ _ _ h => h) (Or.inl ⟨by rfl, ?_⟩) (fun h0 => by assumption) ?_
          rotate_left
          · intro wS
            go_simp
            try with_reducible rfl
          try simp only [Act.put, List.setIfInBounds_toArray, List.set_cons_zero, List.set_cons_succ]
          refine wpAnyL_free (i := 8) (v := ?_) (some 49) rfl rfl (by kernel_rfl) (by kernel_rfl) (by kernel_rfl) (by decide) (fun _ _ _ h => h) (Or.inl ⟨by rfl, ?_⟩) (fun h0 => by assumption) ?_
          rotate_left
          · intro wS
            go_simp
            try with_reducible rfl
          try simp only [Act.put, List.setIfInBounds_toArray, List.set_cons_zero, List.set_cons_succ]
          refine wpAnyL_take (i := 9) (v := ?_) (some 50) rfl rfl (by kernel_rfl) (by kernel_rfl) (by kernel_rfl) (by kernel_rfl) (by kernel_rfl) (fun _ _ _ h => h) (Or.inl ⟨by rfl, ?_⟩) (by assumption) ?_
          rotate_left
          · intro wS hSw
            try dsimp only at hSw
            go_simp
            try with_reducible rfl
          try simp only [Act.put, List.setIfInBounds_toArray, List.set_cons_zero, List.set_cons_succ]
          refine wpAnyL_free (i := 13) (v := ?_) (some 54) rfl rfl (by kernel_rfl) (by kernel_rfl) (by kernel_rfl) (by decide) (fun _ _ _ h => h) (Or.inl ⟨by rfl, ?_⟩) (fun h0 => by assumption) ?_
          rotate_left
          · intro wS
            go_simp
            try with_reducible rfl
          try simp only [Act.put, List.setIfInBounds_toArray, List.set_cons_zero, List.set_cons_succ]
          refine wpAnyL_free (i := 14) (v := ?_) (some 55) rfl rfl (by kernel_rfl) (by kernel_rfl) (by kernel_rfl) (by decide) (fun _ _ _ h => h) (Or.inl ⟨by rfl, ?_⟩) (fun h0 => by assumption) ?_
          rotate_left
          · intro wS
            go_simp
            try with_reducible rfl
          try simp only [Act.put, List.setIfInBounds_toArray, List.set_cons_zero, List.set_cons_succ]
          refine wpAnyL_free (i := 15) (v := ?_) (some 56) rfl rfl (by kernel_rfl) (by kernel_rfl) (by kernel_rfl) (by decide) (fun _ _ _ h => h) (Or.inl ⟨by rfl, ?_⟩) (fun h0 => by assumption) ?_
          rotate_left
          · intro wS
            go_simp
            try with_reducible rfl
          try simp only [Act.put, List.setIfInBounds_toArray, List.set_cons_zero, List.set_cons_succ]
          refine wpAnyL_take (i := 16) (v := ?_) (some 57) rfl rfl (by kernel_rfl) (by kernel_rfl) (by kernel_rfl) (by kernel_rfl) (by kernel_rfl) (fun _ _ _ h => h) (Or.inl ⟨by rfl, ?_⟩) (by assumption) ?_
          rotate_left
          · intro wS hSw
            try dsimp only at hSw
            go_simp
            try with_reducible rfl
          try simp only [Act.put, List.setIfInBounds_toArray, List.set_cons_zero, List.set_cons_succ]
          refine wpAnyL_ready (rs := [10]) (by kernel_rfl) (by simp) ?_
          refine AllReadyL.cons rfl (fun K hK => ?_) AllReadyL.nil
          go_simp; go_at_call 91; refine (l07First _ _ _ (HKR.out.below hHeld.2.2.2.2)).mono ?_; rw [HFV.out]; rintro e w4 ⟨rfl, rfl⟩
          refine hK.out _ _ ?_ (fun hHeld => ?_)
          · exact hHeld
          clear hK K
          try simp only [Act.put, List.setIfInBounds_toArray, List.set_cons_zero, List.set_cons_succ]
          refine wpAnyL_free (i := 11) (v := ?_) (some 52) rfl rfl (by kernel_rfl) (by kernel_rfl) (by kernel_rfl) (by decide) (fun _ _ _ h => h) (Or.inl ⟨by rfl, ?_⟩) (fun h0 => by assumption) ?_
          rotate_left
          · intro wS
            go_simp
            try with_reducible rfl
          try simp only [Act.put, List.setIfInBounds_toArray, List.set_cons_zero, List.set_cons_succ]
          refine wpAnyL_take (i := 12) (v := ?_) (some 53) rfl rfl (by kernel_rfl) (by kernel_rfl) (by kernel_rfl) (by kernel_rfl) (by kernel_rfl) (fun _ _ _ h => h) (Or.inl ⟨by rfl, ?_⟩) (by assumption) ?_
          rotate_left
          · intro wS hSw
            try dsimp only at hSw
            go_simp
            try with_reducible rfl
          try simp only [Act.put, List.setIfInBounds_toArray, List.set_cons_zero, List.set_cons_succ]
          refine wpAnyL_ready (rs := [17]) (by kernel_rfl) (by simp) ?_
          refine AllReadyL.last rfl (by kernel_rfl) (fun K hK => ?_) AllReadyL.nil
          go_simp; go_at_call 141; refine (lessR b5 0 rb (k * 3) _ p t _ _ _ _ _ _ _ _ _ (HXR.out.bel hHeld.2.2.2.2) (fun w' hk => HRD8.out _ w' hHeld.2.2.2.2 hk) HP.out HT3.out HL1.out HL3.out HL2.out HL4.out HQ1.out HQ2.out HE1.out HE2.out HB5.out HN1.out HN2.out).mono ?_; rintro e w5 ⟨rfl, hr5, hb5, hk5⟩
          refine hK.out _ _ ?_
          clear hK K
          try simp only [Act.put, List.setIfInBounds_toArray, List.set_cons_zero, List.set_cons_succ]
          refine wpAnyL_done (by kernel_rfl) ?_ _
          refine NoPanic.normal ?_
          have HX6 : Hid (RowSt w5 b5 0 w3.heap.size (.slice (some ⟨ag, 0, none⟩) u c1) ((restE p R (pivE R u) x0 (k + 1)).take u) (intN (restE p R (pivE R u) x0 (k + 1)) u) (.slice (some ⟨g2, 0, none⟩) rs.length rs.length) ((restE p R (pivE R u) x0 (k + 1)).drop (u + 1))) := Lib.hid (by
            show RowSt w5 b5 0 w3.heap.size (.slice (some ⟨ag, 0, none⟩) u c1) ((rowSub p (intN (restE p R (pivE R u) x0 k) (pivE R u k)) (restE p R (pivE R u) x0 k) (R k)).take u) (intN (rowSub p (intN (restE p R (pivE R u) x0 k) (pivE R u k)) (restE p R (pivE R u) x0 k) (R k)) u) (.slice (some ⟨g2, 0, none⟩) rs.length rs.length) ((rowSub p (intN (restE p R (pivE R u) x0 k) (pivE R u k)) (restE p R (pivE R u) x0 k) (R k)).drop (u + 1))
            rw [HTE.out, rowSub_take, rowSub_at (by rw [HXL.out]; omega), rowSub_drop]
            exact hr5)
          have HBW := Lib.hid ((HBK.out.trans (hHeld.2.2.2.2.mono HBK.out.size)).trans hb5)
          clear hHeld hr5 hb5 hk5
          go_wp2
          go_roundw
          case rel => exact ⟨k + 1, by omega, by go_num, HX6.out, HBW.out⟩
          case measure => simp [intOf]; omega
        · obtain rfl : k = d := by omega
          obtain ⟨xl, hxl⟩ : ∃ xl, restE p R (pivE R u) x0 k = xl := ⟨_, rfl⟩
          rw [hxl] at HXR HXL HXLOW HL1 HL2 HQ1 HN1 HN2 HRD hx
          clear hxl
          have hxr := hx.ownL.rowAt
          have htl2 : (xl.take u).length = u := by rw [List.length_take, HXL.out]; omega
          have HXA := Lib.hid hxr
          have x4c := hx.right
          obtain ⟨f, hf⟩ : ∃ f, firstV (xl.take u) = f := ⟨_, rfl⟩
          have HF := Lib.hid hf
          have HFN : Hid (f < 0 ↔ ∀ j, j < u → intN xl j = 0) := Lib.hid (by
            rw [← hf, firstV_neg, htl2]
            exact ⟨fun h j hj => by rw [← intN_take hj]; exact h j hj, fun h j hj => by rw [intN_take hj]; exact h j hj⟩)
          obtain ⟨q, hq⟩ : ∃ q, intN xl u = q := ⟨_, rfl⟩
          rw [hq] at x4c
          have HQE := Lib.hid hq
          have HUYE := HUY.out
          have HT : Hid (0 ≤ p - 1 ∧ p - 1 ≤ 2) := Lib.hid (by omega)
          have hpm : IntKind.i64.wrap (p - 1) = p - 1 := IntWalk.i64_in _ (by omega)
          clear hx hxr hf hq HUYE
          go_wp2_with fail
          refine (l07First _ _ _ HXA.out).mono ?_
          rw [HF.out]
          rintro e w4 ⟨rfl, rfl⟩
          by_cases hf0 : f < 0
          · have hfg : ¬ (f ≥ 0) := by omega
            by_cases hq0 : q = 0
            · have HZ : Hid (∀ j, j < u + 1 → intN (restD p u rs r ys) j = 0) := Lib.hid fun j hj => by
                rw [HRD.out]
                by_cases hju : j = u
                · subst hju; rw [HQE.out]; exact hq0
                · exact HFN.out.1 hf0 j (by omega)
              have hqb : (q != 0) = false := by rw [hq0]; rfl
              have HRDR := Lib.hid HRD.out
              clear hq0
              go_wp2
              refine wp_region_noPanic ?_
              refine wp_region_late (S := (fun w' => w'.cell? ⟨sb, so, none⟩ = some (.int .i64 p) ∧ Below wr.heap.size wr w')) [9] (by kernel_rfl) ?_ (fun hHeld => ?_)
              · exact ⟨x2c, (QW.refl _).drew.below _⟩
              refine wpAnyL_free (i := 0) (v := ?_) (some 69) rfl rfl (by kernel_rfl) (by kernel_rfl) (by kernel_rfl) (by decide) (fun _ _ _ h => h) (Or.inl ⟨by rfl, ?_⟩) (fun h0 => by assumption) ?_
              rotate_left
              · intro wS
                go_simp
                try with_reducible rfl
              try simp only [Act.put, List.setIfInBounds_toArray, List.set_cons_zero, List.set_cons_succ]
              refine wpAnyL_free (i := 1) (v := ?_) (some 70) rfl rfl (by kernel_rfl) (by kernel_rfl) (by kernel_rfl) (by decide) (fun _ _ _ h => h) (Or.inl ⟨by rfl, ?_⟩) (fun h0 => by assumption) ?_
              rotate_left
              · intro wS
                go_simp
                try with_reducible rfl
              try simp only [Act.put, List.setIfInBounds_toArray, List.set_cons_zero, List.set_cons_succ]
              refine wpAnyL_free (i := 2) (v := ?_) (some 71) rfl rfl (by kernel_rfl) (by kernel_rfl) (by kernel_rfl) (by decide) (fun _ _ _ h => h) (Or.inl ⟨by rfl, ?_⟩) (fun h0 => by assumption) ?_
              rotate_left
              · intro wS
                go_simp
                try with_reducible rfl
              try simp only [Act.put, List.setIfInBounds_toArray, List.set_cons_zero, List.set_cons_succ]
              refine wpAnyL_take (i := 3) (v := ?_) (some 72) rfl rfl (by kernel_rfl) (by kernel_rfl) (by kernel_rfl) (by kernel_rfl) (by kernel_rfl) (fun _ _ _ h => h) (Or.inl ⟨by rfl, ?_⟩) (by assumption) ?_
              rotate_left
              · intro wS hSw
                try dsimp only at hSw
                go_simp
                try with_reducible rfl
              try simp only [Act.put, List.setIfInBounds_toArray, List.set_cons_zero, List.set_cons_succ]
              refine wpAnyL_free (i := 4) (v := ?_) (some 73) rfl rfl (by kernel_rfl) (by kernel_rfl) (by kernel_rfl) (by decide) (fun _ _ _ h => h) (Or.inl ⟨by rfl, ?_⟩) (fun h0 => by assumption) ?_
              rotate_left
              · intro wS
                go_simp
                try with_reducible rfl
              try simp only [Act.put, List.setIfInBounds_toArray, List.set_cons_zero, List.set_cons_succ]
              refine wpAnyL_free (i := 5) (v := ?_) (some 74) rfl rfl (by kernel_rfl) (by kernel_rfl) (by kernel_rfl) (by decide) (fun _ _ _ h => h) (Or.inl ⟨by rfl, ?_⟩) (fun h0 => by assumption) ?_
              rotate_left
              · intro wS
                go_simp
                try with_reducible rfl
              try simp only [Act.put, List.setIfInBounds_toArray, List.set_cons_zero, List.set_cons_succ]
              refine wpAnyL_free (i := 6) (v := ?_) (some 75) rfl rfl (by kernel_rfl) (by kernel_rfl) (by kernel_rfl) (by decide) (fun _ _ _ h => h) (Or.inl ⟨by rfl, ?_⟩) (fun h0 => by assumption) ?_
              rotate_left
              · intro wS
                go_simp
                try with_reducible rfl
              try simp only [Act.put, List.setIfInBounds_toArray, List.set_cons_zero, List.set_cons_succ]
              refine wpAnyL_free (i := 7) (v := ?_) (some 76) rfl rfl (by kernel_rfl) (by kernel_rfl) (by kernel_rfl) (by decide) (fun _ _ _ h => h) (Or.inl ⟨by rfl, ?_⟩) (fun h0 => by assumption) ?_
              rotate_left
              · intro wS
                go_simp
                try with_reducible rfl
              try simp only [Act.put, List.setIfInBounds_toArray, List.set_cons_zero, List.set_cons_succ]
              refine wpAnyL_take (i := 8) (v := ?_) (some 77) rfl rfl (by kernel_rfl) (by kernel_rfl) (by kernel_rfl) (by kernel_rfl) (by kernel_rfl) (fun _ _ _ h => h) (Or.inl ⟨by rfl, ?_⟩) (by assumption) ?_
              rotate_left
              · intro wS hSw
                try dsimp only at hSw
                go_simp
                try with_reducible rfl
              try simp only [Act.put, List.setIfInBounds_toArray, List.set_cons_zero, List.set_cons_succ]
              refine wpAnyL_ready (rs := [9]) (by kernel_rfl) (by simp) ?_
              refine AllReadyL.last rfl (by kernel_rfl) (fun K hK => ?_) AllReadyL.nil
              go_simp; go_at_call 83; refine (scaleC b5 0 _ p (p - 1) _ _ _ _ _ _ (HXR.out.bel hHeld.2) HP.out HT.out HL1.out HL2.out HQ1.out HB5.out HN1.out HN2.out).mono ?_; rintro e w5 ⟨rfl, hr5, hb5, _⟩
              refine hK.out _ _ ?_
              clear hK K
              try simp only [Act.put, List.setIfInBounds_toArray, List.set_cons_zero, List.set_cons_succ]
              refine wpAnyL_done (by kernel_rfl) ?_ _
              refine NoPanic.normal ?_
              have HBW := Lib.hid ((HBK.out.trans (hHeld.2.mono HBK.out.size)).trans hb5)
              have HR5 := Lib.hid hr5
              have y2 := hr5.by_
              clear hHeld hr5 hb5
              go_wp2
              go_ret2
              obtain rfl := HUY.out
              refine .inl ⟨HNA.out, HZ.out, some ⟨g2, 0, none⟩, rs.length, rs.length, rfl, ?_, HW3.out.trans (HBW.out.mono HW3.out.size)⟩
              have e := (HR5.out.ownB.mono HW3.out.size).full
              rw [HRDR.out]
              exact e
            · have HZ : Hid (¬ ∀ j, j < u + 1 → intN (restD p u rs r ys) j = 0) := Lib.hid fun h => hq0 (by rw [← HQE.out, ← HRD.out]; exact h u (by omega))
              have hqb : (q != 0) = true := bne_iff_ne.2 hq0
              clear hq0
              go_wp2
              go_ret2
              obtain rfl := HUY.out
              exact .inr (.inl ⟨HNA.out, HZ.out, _, _, _, rfl, ownE_new _ _ (HW3.out.trans (HBK.out.mono HW3.out.size)).size, (HW3.out.trans (HBK.out.mono HW3.out.size)).alloc (HW3.out.trans (HBK.out.mono HW3.out.size)).size _⟩)
          · have hfg : f ≥ 0 := by omega
            have HZ : Hid (¬ ∀ j, j < u + 1 → intN (restD p u rs r ys) j = 0) := Lib.hid fun h => hf0 (HFN.out.2 fun j hj => by rw [← HRD.out]; exact h j (by omega))
            go_wp2
            go_ret2
            obtain rfl := HUY.out
            exact .inr (.inl ⟨HNA.out, HZ.out, _, _, _, rfl, ownE_new _ _ (HW3.out.trans (HBK.out.mono HW3.out.size)).size, (HW3.out.trans (HBK.out.mono HW3.out.size)).alloc (HW3.out.trans (HBK.out.mono HW3.out.size)).size _⟩)
  · have hnn : NoAns p u rs := Classical.not_not.1 fun h => hmz (HNG.out.2 h)
    have hge : m ≥ 0 := by omega
    have HNN := Lib.hid hnn
    clear hnn
    go_wp2
    go_ret2
    exact .inr (.inr ⟨HNN.out, _, _, _, rfl, ownE_new _ _ HW3.out.size, HW3.out.alloc HW3.out.size _⟩)

end Go.Proofs.Ytnbgpeoceejolaa

namespace Go.Proofs.Ytnbgpeoceejolaa
open Go.RowKit

/-- What l07Asked answers. -/
def AskedIs (p u : Int) (rs : List (Int × List Int)) (ys : List Int) (r : Int) (k : Int) : Prop :=
  (¬ SysOk p u rs ∧ k = 1) ∨ (SysOk p u rs ∧ ¬ EqnOk p u r ys ∧ k = 2) ∨ (SysOk p u rs ∧ EqnOk p u r ys ∧ k = 0)
theorem AskedIs.exists (p u : Int) (rs : List (Int × List Int)) (ys : List Int) (r : Int) : ∃ k, AskedIs p u rs ys r k := by
  by_cases h1 : SysOk p u rs
  · by_cases h2 : EqnOk p u r ys
    · exact ⟨0, .inr (.inr ⟨h1, h2, rfl⟩)⟩
    · exact ⟨2, .inr (.inl ⟨h1, h2, rfl⟩)⟩
  · exact ⟨1, .inl ⟨h1, rfl⟩⟩
/-- What l07Derive answers. -/
def DerV (p : Int) (u : Nat) (rs : List (Int × List Int)) (r : Int) (ys : List Int) (zs : List Int) (cd : Int) : Prop :=
  (¬ NoAns p u rs ∧ (∀ j, j < u + 1 → intN (restD p u rs r ys) j = 0) ∧ zs = rowScale p (p - 1) ((restD p u rs r ys).drop (u + 1)) ∧ cd = 0) ∨ (¬ NoAns p u rs ∧ (¬ ∀ j, j < u + 1 → intN (restD p u rs r ys) j = 0) ∧ zs = [] ∧ cd = 6) ∨ (NoAns p u rs ∧ zs = [] ∧ cd = 4)
theorem DerV.exists (p : Int) (u : Nat) (rs : List (Int × List Int)) (r : Int) (ys : List Int) : ∃ zs cd, DerV p u rs r ys zs cd := by
  by_cases h1 : NoAns p u rs
  · exact ⟨[], 4, .inr (.inr ⟨h1, rfl, rfl⟩)⟩
  · by_cases h2 : ∀ j, j < u + 1 → intN (restD p u rs r ys) j = 0
    · exact ⟨_, 0, .inl ⟨h1, h2, rfl, rfl⟩⟩
    · exact ⟨[], 6, .inr (.inl ⟨h1, h2, rfl, rfl⟩)⟩
theorem DerV.made {p : Int} {u : Nat} {rs : List (Int × List Int)} {r : Int} {ys zs : List Int} {cd : Int} {w w' : World} {e : Ending} (h : DerV p u rs r ys zs cd) (hd : DerEnd p u rs r ys w e w') : MadeRow2 w zs cd e w' := by
  rcases h with ⟨h1, h2, rfl, rfl⟩ | ⟨h1, h2, rfl, rfl⟩ | ⟨h1, rfl, rfl⟩ <;> rcases hd with ⟨g1, g2, g3⟩ | ⟨g1, g2, g3⟩ | ⟨g1, g3⟩
  · exact g3
  · exact absurd h2 g2
  · exact absurd g1 h1
  · exact absurd g2 h2
  · exact g3
  · exact absurd g1 h1
  · exact absurd h1 g1
  · exact absurd h1 g1
  · exact g3
/-- What DerivationOf answers. -/
def DerivationOfIs (p u : Int) (rs : List (Int × List Int)) (ys : List Int) (r : Int) (zs : List Int) (cd : Int) : Prop :=
  (∃ k, AskedIs p u rs ys r k ∧ k ≠ 0 ∧ zs = [] ∧ cd = k) ∨ (SysOk p u rs ∧ EqnOk p u r ys ∧ DerV p u.toNat rs r ys zs cd)
theorem DerivationOfIs.exists (p u : Int) (rs : List (Int × List Int)) (ys : List Int) (r : Int) : ∃ zs cd, DerivationOfIs p u rs ys r zs cd := by
  obtain ⟨k, hk⟩ := AskedIs.exists p u rs ys r
  by_cases h0 : k = 0
  · rcases hk with ⟨_, rfl⟩ | ⟨_, _, rfl⟩ | ⟨h1, h2, _⟩
    · exact absurd h0 (by decide)
    · exact absurd h0 (by decide)
    · obtain ⟨zs, cd, h⟩ := DerV.exists p u.toNat rs r ys
      exact ⟨zs, cd, .inr ⟨h1, h2, h⟩⟩
  · exact ⟨[], k, .inl ⟨k, hk, h0, rfl, rfl⟩⟩
theorem AskedIs.zero {p u : Int} {rs : List (Int × List Int)} {ys : List Int} {r k : Int} (h : AskedIs p u rs ys r k) : k = 0 ↔ SysOk p u rs ∧ EqnOk p u r ys := by
  rcases h with ⟨h1, rfl⟩ | ⟨h1, h2, rfl⟩ | ⟨h1, h2, rfl⟩
  · exact ⟨fun h => absurd h (by decide), fun h => absurd h.1 h1⟩
  · exact ⟨fun h => absurd h (by decide), fun h => absurd h.2 h2⟩
  · exact ⟨fun _ => ⟨h1, h2⟩, fun _ => rfl⟩
theorem AskedIs.unique {p u : Int} {rs : List (Int × List Int)} {ys : List Int} {r k k' : Int} (h : AskedIs p u rs ys r k) (h' : AskedIs p u rs ys r k') : k = k' := by
  rcases h with ⟨h1, rfl⟩ | ⟨h1, h2, rfl⟩ | ⟨h1, h2, rfl⟩ <;> rcases h' with ⟨g1, rfl⟩ | ⟨g1, g2, rfl⟩ | ⟨g1, g2, rfl⟩ <;> first | rfl | exact absurd g1 h1 | exact absurd h1 g1 | exact absurd g2 h2 | exact absurd h2 g2
theorem DerivationOfIs.bad {p u : Int} {rs : List (Int × List Int)} {ys zs : List Int} {r cd k : Int} (h : DerivationOfIs p u rs ys r zs cd) (hk : AskedIs p u rs ys r k) (h0 : k ≠ 0) : zs = [] ∧ cd = k := by
  rcases h with ⟨k', h1, _, rfl, rfl⟩ | ⟨h1, h2, _⟩
  · exact ⟨rfl, h1.unique hk⟩
  · exact absurd (hk.zero.2 ⟨h1, h2⟩) h0
theorem DerivationOfIs.good {p u : Int} {rs : List (Int × List Int)} {ys zs : List Int} {r cd : Int} (h : DerivationOfIs p u rs ys r zs cd) (h1 : SysOk p u rs) (h2 : EqnOk p u r ys) : DerV p u.toNat rs r ys zs cd := by
  rcases h with ⟨k', hk, h0, _⟩ | ⟨_, _, h⟩
  · exact absurd (hk.zero.2 ⟨h1, h2⟩) h0
  · exact h
/-- What Follows answers. -/
def FollowsIs (p u : Int) (rs : List (Int × List Int)) (ys : List Int) (r : Int) (b : Bool) (cd : Int) : Prop :=
  ∃ zs c, DerivationOfIs p u rs ys r zs c ∧ (((c = 1 ∨ c = 2) ∧ b = false ∧ cd = c) ∨ ((c = 0 ∨ c = 4) ∧ b = true ∧ cd = 0) ∨ (c = 6 ∧ b = false ∧ cd = 0))
theorem DerivationOfIs.codes {p u : Int} {rs : List (Int × List Int)} {ys zs : List Int} {r cd : Int} (h : DerivationOfIs p u rs ys r zs cd) : (cd = 1 ∨ cd = 2) ∨ (cd = 0 ∨ cd = 4) ∨ cd = 6 := by
  rcases h with ⟨k, hk, h0, _, rfl⟩ | ⟨_, _, h⟩
  · rcases hk with ⟨_, rfl⟩ | ⟨_, _, rfl⟩ | ⟨_, _, rfl⟩
    · exact .inl (.inl rfl)
    · exact .inl (.inr rfl)
    · exact absurd rfl h0
  · rcases h with ⟨_, _, _, rfl⟩ | ⟨_, _, _, rfl⟩ | ⟨_, _, rfl⟩
    · exact .inr (.inl (.inl rfl))
    · exact .inr (.inr rfl)
    · exact .inr (.inl (.inr rfl))
theorem FollowsIs.exists (p u : Int) (rs : List (Int × List Int)) (ys : List Int) (r : Int) : ∃ b cd, FollowsIs p u rs ys r b cd := by
  obtain ⟨zs, c, h⟩ := DerivationOfIs.exists p u rs ys r
  rcases h.codes with k | k | k
  · exact ⟨false, c, zs, c, h, .inl ⟨k, rfl, rfl⟩⟩
  · exact ⟨true, 0, zs, c, h, .inr (.inl ⟨k, rfl, rfl⟩)⟩
  · exact ⟨false, 0, zs, c, h, .inr (.inr ⟨k, rfl, rfl⟩)⟩

set_option linter.unusedSimpArgs false in
set_option maxHeartbeats 4000000 in
set_option maxRecDepth 100000 in
theorem l07AskedC (sb so qb qo : Nat) (p u : Int) (rs : List (Int × List Int)) (r : Int) (ys : List Int) (k : Int) (w : World) (hs : SysAt w sb so p u rs) (hq : EqnAt w qb qo r ys) (hk : AskedIs p u rs ys r k) :
    Calls Try.prog 94 #[.pointer (some ⟨sb, so, none⟩), .pointer (some ⟨qb, qo, none⟩)] w fun e w' => e = .returned (.int .i64 k) ∧ Below w.heap.size w w' := by
  have HS := Lib.hid hs
  have HQ := Lib.hid hq
  clear hs hq
  rcases hk with ⟨h1, rfl⟩ | ⟨h1, h2, rfl⟩ | ⟨h1, h2, rfl⟩
  · have HOK := Lib.hid h1
    clear h1
    go_enter Try.func94, Try.ntmps94
    go_wp2_with fail
    refine (l07Ok _ _ _ _ rs false _ HS.out (Tells.no HOK.out)).mono ?_
    rintro e w2 ⟨rfl, hq2⟩
    have HW2 := Lib.hid hq2.bel
    clear hq2
    go_wp2
    go_ret
    exact ⟨rfl, HW2.out⟩
  · have HOK := Lib.hid h1
    have HP := Lib.hid h1.1
    have HB : Hid (Tells false (EqnOk p u r ys)) := Lib.hid (Tells.no h2)
    clear h1 h2
    go_enter Try.func94, Try.ntmps94
    go_wp2_with fail
    refine (l07Ok _ _ _ _ rs true _ HS.out (Tells.yes HOK.out)).mono ?_
    rintro e w2 ⟨rfl, hq2⟩
    have HW2 := Lib.hid hq2.bel
    have HQ2 := Lib.hid (HQ.out.below hq2.bel)
    have x0 := (HS.out.below hq2.bel).prime
    have x1 := (HS.out.below hq2.bel).unknowns
    clear hq2
    go_wp2
    refine wp_region_noPanic ?_
    refine wp_region_late (S := (fun w' => w'.cell? ⟨sb, so, none⟩ = some (.int .i64 p) ∧ w'.cell? ⟨sb, so + 1, none⟩ = some (.int .i64 u) ∧ Below w2.heap.size w2 w')) [] (by kernel_rfl) ?_ (fun hHeld => ?_)
    · exact ⟨x0, x1, (QW.refl _).drew.below _⟩
    refine wpAnyL_free (i := 0) (v := ?_) (some 8) rfl rfl (by kernel_rfl) (by kernel_rfl) (by kernel_rfl) (by decide) (fun _ _ _ h => h) (Or.inl ⟨by rfl, ?_⟩) (fun h0 => by assumption) ?_
    rotate_left
    · intro wS
      go_simp
      try with_reducible rfl
    try simp only [Act.put, List.setIfInBounds_toArray, List.set_cons_zero, List.set_cons_succ]
    refine wpAnyL_free (i := 1) (v := ?_) (some 9) rfl rfl (by kernel_rfl) (by kernel_rfl) (by kernel_rfl) (by decide) (fun _ _ _ h => h) (Or.inl ⟨by rfl, ?_⟩) (fun h0 => by assumption) ?_
    rotate_left
    · intro wS
      go_simp
      try with_reducible rfl
    try simp only [Act.put, List.setIfInBounds_toArray, List.set_cons_zero, List.set_cons_succ]
    refine wpAnyL_free (i := 2) (v := ?_) (some 10) rfl rfl (by kernel_rfl) (by kernel_rfl) (by kernel_rfl) (by decide) (fun _ _ _ h => h) (Or.inl ⟨by rfl, ?_⟩) (fun h0 => by assumption) ?_
    rotate_left
    · intro wS
      go_simp
      try with_reducible rfl
    try simp only [Act.put, List.setIfInBounds_toArray, List.set_cons_zero, List.set_cons_succ]
    refine wpAnyL_take (i := 3) (v := ?_) (some 11) rfl rfl (by kernel_rfl) (by kernel_rfl) (by kernel_rfl) (by kernel_rfl) (by kernel_rfl) (fun _ _ _ h => h) (Or.inl ⟨by rfl, ?_⟩) (by assumption) ?_
    rotate_left
    · intro wS hSw
      try dsimp only at hSw
      go_simp
      try with_reducible rfl
    try simp only [Act.put, List.setIfInBounds_toArray, List.set_cons_zero, List.set_cons_succ]
    refine wpAnyL_free (i := 4) (v := ?_) (some 12) rfl rfl (by kernel_rfl) (by kernel_rfl) (by kernel_rfl) (by decide) (fun _ _ _ h => h) (Or.inl ⟨by rfl, ?_⟩) (fun h0 => by assumption) ?_
    rotate_left
    · intro wS
      go_simp
      try with_reducible rfl
    try simp only [Act.put, List.setIfInBounds_toArray, List.set_cons_zero, List.set_cons_succ]
    refine wpAnyL_free (i := 5) (v := ?_) (some 13) rfl rfl (by kernel_rfl) (by kernel_rfl) (by kernel_rfl) (by decide) (fun _ _ _ h => h) (Or.inl ⟨by rfl, ?_⟩) (fun h0 => by assumption) ?_
    rotate_left
    · intro wS
      go_simp
      try with_reducible rfl
    try simp only [Act.put, List.setIfInBounds_toArray, List.set_cons_zero, List.set_cons_succ]
    refine wpAnyL_free (i := 6) (v := ?_) (some 14) rfl rfl (by kernel_rfl) (by kernel_rfl) (by kernel_rfl) (by decide) (fun _ _ _ h => h) (Or.inl ⟨by rfl, ?_⟩) (fun h0 => by assumption) ?_
    rotate_left
    · intro wS
      go_simp
      try with_reducible rfl
    try simp only [Act.put, List.setIfInBounds_toArray, List.set_cons_zero, List.set_cons_succ]
    refine wpAnyL_take (i := 7) (v := ?_) (some 15) rfl rfl (by kernel_rfl) (by kernel_rfl) (by kernel_rfl) (by kernel_rfl) (by kernel_rfl) (fun _ _ _ h => h) (Or.inl ⟨by rfl, ?_⟩) (by assumption) ?_
    rotate_left
    · intro wS hSw
      try dsimp only at hSw
      go_simp
      try with_reducible rfl
    try simp only [Act.put, List.setIfInBounds_toArray, List.set_cons_zero, List.set_cons_succ]
    refine wpAnyL_free (i := 8) (v := ?_) (some 16) rfl rfl (by kernel_rfl) (by kernel_rfl) (by kernel_rfl) (by decide) (fun _ _ _ h => h) (Or.inl ⟨by rfl, ?_⟩) (fun h0 => by assumption) ?_
    rotate_left
    · intro wS
      go_simp
      try with_reducible rfl
    try simp only [Act.put, List.setIfInBounds_toArray, List.set_cons_zero, List.set_cons_succ]
    refine wpAnyL_ready (rs := [9]) (by kernel_rfl) (by simp) ?_
    refine AllReadyL.cons rfl (fun K hK => ?_) AllReadyL.nil
    go_simp; go_at_call 132; refine (l07Equation p u r qb qo ys false _ (HQ2.out.below hHeld.2.2) HP.out HB.out).mono ?_; rintro e w4 ⟨rfl, rfl⟩
    refine hK.out _ _ ?_ (fun hHeld => ?_)
    · exact hHeld
    clear hK K
    try simp only [Act.put, List.setIfInBounds_toArray, List.set_cons_zero, List.set_cons_succ]
    refine wpAnyL_free (i := 10) (v := ?_) (some 18) rfl rfl (by kernel_rfl) (by kernel_rfl) (by kernel_rfl) (by decide) (fun _ _ _ h => h) (Or.inl ⟨by rfl, ?_⟩) (fun h0 => by assumption) ?_
    rotate_left
    · intro wS
      go_simp
      try with_reducible rfl
    try simp only [Act.put, List.setIfInBounds_toArray, List.set_cons_zero, List.set_cons_succ]
    refine wpAnyL_done (by kernel_rfl) ?_ _
    refine NoPanic.normal ?_
    have HWF := Lib.hid (HW2.out.trans (hHeld.2.2.mono HW2.out.size))
    clear hHeld x0 x1
    go_wp2
    go_ret
    exact ⟨rfl, HWF.out⟩
  · have HOK := Lib.hid h1
    have HP := Lib.hid h1.1
    have HB : Hid (Tells true (EqnOk p u r ys)) := Lib.hid (Tells.yes h2)
    clear h1 h2
    go_enter Try.func94, Try.ntmps94
    go_wp2_with fail
    refine (l07Ok _ _ _ _ rs true _ HS.out (Tells.yes HOK.out)).mono ?_
    rintro e w2 ⟨rfl, hq2⟩
    have HW2 := Lib.hid hq2.bel
    have HQ2 := Lib.hid (HQ.out.below hq2.bel)
    have x0 := (HS.out.below hq2.bel).prime
    have x1 := (HS.out.below hq2.bel).unknowns
    clear hq2
    go_wp2
    refine wp_region_noPanic ?_
    refine wp_region_late (S := (fun w' => w'.cell? ⟨sb, so, none⟩ = some (.int .i64 p) ∧ w'.cell? ⟨sb, so + 1, none⟩ = some (.int .i64 u) ∧ Below w2.heap.size w2 w')) [] (by kernel_rfl) ?_ (fun hHeld => ?_)
    · exact ⟨x0, x1, (QW.refl _).drew.below _⟩
    refine wpAnyL_free (i := 0) (v := ?_) (some 8) rfl rfl (by kernel_rfl) (by kernel_rfl) (by kernel_rfl) (by decide) (fun _ _ _ h => h) (Or.inl ⟨by rfl, ?_⟩) (fun h0 => by assumption) ?_
    rotate_left
    · intro wS
      go_simp
      try with_reducible rfl
    try simp only [Act.put, List.setIfInBounds_toArray, List.set_cons_zero, List.set_cons_succ]
    refine wpAnyL_free (i := 1) (v := ?_) (some 9) rfl rfl (by kernel_rfl) (by kernel_rfl) (by kernel_rfl) (by decide) (fun _ _ _ h => h) (Or.inl ⟨by rfl, ?_⟩) (fun h0 => by assumption) ?_
    rotate_left
    · intro wS
      go_simp
      try with_reducible rfl
    try simp only [Act.put, List.setIfInBounds_toArray, List.set_cons_zero, List.set_cons_succ]
    refine wpAnyL_free (i := 2) (v := ?_) (some 10) rfl rfl (by kernel_rfl) (by kernel_rfl) (by kernel_rfl) (by decide) (fun _ _ _ h => h) (Or.inl ⟨by rfl, ?_⟩) (fun h0 => by assumption) ?_
    rotate_left
    · intro wS
      go_simp
      try with_reducible rfl
    try simp only [Act.put, List.setIfInBounds_toArray, List.set_cons_zero, List.set_cons_succ]
    refine wpAnyL_take (i := 3) (v := ?_) (some 11) rfl rfl (by kernel_rfl) (by kernel_rfl) (by kernel_rfl) (by kernel_rfl) (by kernel_rfl) (fun _ _ _ h => h) (Or.inl ⟨by rfl, ?_⟩) (by assumption) ?_
    rotate_left
    · intro wS hSw
      try dsimp only at hSw
      go_simp
      try with_reducible rfl
    try simp only [Act.put, List.setIfInBounds_toArray, List.set_cons_zero, List.set_cons_succ]
    refine wpAnyL_free (i := 4) (v := ?_) (some 12) rfl rfl (by kernel_rfl) (by kernel_rfl) (by kernel_rfl) (by decide) (fun _ _ _ h => h) (Or.inl ⟨by rfl, ?_⟩) (fun h0 => by assumption) ?_
    rotate_left
    · intro wS
      go_simp
      try with_reducible rfl
    try simp only [Act.put, List.setIfInBounds_toArray, List.set_cons_zero, List.set_cons_succ]
    refine wpAnyL_free (i := 5) (v := ?_) (some 13) rfl rfl (by kernel_rfl) (by kernel_rfl) (by kernel_rfl) (by decide) (fun _ _ _ h => h) (Or.inl ⟨by rfl, ?_⟩) (fun h0 => by assumption) ?_
    rotate_left
    · intro wS
      go_simp
      try with_reducible rfl
    try simp only [Act.put, List.setIfInBounds_toArray, List.set_cons_zero, List.set_cons_succ]
    refine wpAnyL_free (i := 6) (v := ?_) (some 14) rfl rfl (by kernel_rfl) (by kernel_rfl) (by kernel_rfl) (by decide) (fun _ _ _ h => h) (Or.inl ⟨by rfl, ?_⟩) (fun h0 => by assumption) ?_
    rotate_left
    · intro wS
      go_simp
      try with_reducible rfl
    try simp only [Act.put, List.setIfInBounds_toArray, List.set_cons_zero, List.set_cons_succ]
    refine wpAnyL_take (i := 7) (v := ?_) (some 15) rfl rfl (by kernel_rfl) (by kernel_rfl) (by kernel_rfl) (by kernel_rfl) (by kernel_rfl) (fun _ _ _ h => h) (Or.inl ⟨by rfl, ?_⟩) (by assumption) ?_
    rotate_left
    · intro wS hSw
      try dsimp only at hSw
      go_simp
      try with_reducible rfl
    try simp only [Act.put, List.setIfInBounds_toArray, List.set_cons_zero, List.set_cons_succ]
    refine wpAnyL_free (i := 8) (v := ?_) (some 16) rfl rfl (by kernel_rfl) (by kernel_rfl) (by kernel_rfl) (by decide) (fun _ _ _ h => h) (Or.inl ⟨by rfl, ?_⟩) (fun h0 => by assumption) ?_
    rotate_left
    · intro wS
      go_simp
      try with_reducible rfl
    try simp only [Act.put, List.setIfInBounds_toArray, List.set_cons_zero, List.set_cons_succ]
    refine wpAnyL_ready (rs := [9]) (by kernel_rfl) (by simp) ?_
    refine AllReadyL.cons rfl (fun K hK => ?_) AllReadyL.nil
    go_simp; go_at_call 132; refine (l07Equation p u r qb qo ys true _ (HQ2.out.below hHeld.2.2) HP.out HB.out).mono ?_; rintro e w4 ⟨rfl, rfl⟩
    refine hK.out _ _ ?_ (fun hHeld => ?_)
    · exact hHeld
    clear hK K
    try simp only [Act.put, List.setIfInBounds_toArray, List.set_cons_zero, List.set_cons_succ]
    refine wpAnyL_free (i := 10) (v := ?_) (some 18) rfl rfl (by kernel_rfl) (by kernel_rfl) (by kernel_rfl) (by decide) (fun _ _ _ h => h) (Or.inl ⟨by rfl, ?_⟩) (fun h0 => by assumption) ?_
    rotate_left
    · intro wS
      go_simp
      try with_reducible rfl
    try simp only [Act.put, List.setIfInBounds_toArray, List.set_cons_zero, List.set_cons_succ]
    refine wpAnyL_done (by kernel_rfl) ?_ _
    refine NoPanic.normal ?_
    have HWF := Lib.hid (HW2.out.trans (hHeld.2.2.mono HW2.out.size))
    clear hHeld x0 x1
    go_wp2
    go_ret
    exact ⟨rfl, HWF.out⟩

set_option linter.unusedSimpArgs false in
set_option maxHeartbeats 4000000 in
set_option maxRecDepth 100000 in
theorem specDerivationOf (p u : Int) (a : Option Addr) (n c : Nat) (rs : List (Int × List Int)) (r : Int) (qa : Option Addr) (qn qc : Nat) (ys : List Int) (zs : List Int) (cd : Int) (w : World) (h : EqsAt w (.slice a n c) rs) (hq : RowAt w (.slice qa qn qc) ys) (hi : DerivationOfIs p u rs ys r zs cd) :
    Calls Try.prog 34 #[.agg #[.int .i64 p, .int .i64 u, .slice a n c], .agg #[.slice qa qn qc, .int .i64 r]] w (MadeRow2 w zs cd) := by
  have HS := Lib.hid (SysAt.new w p u a n c rs 30 h)
  have HW1 : Hid (Below w.heap.size w (w.alloc (.cells #[.int .i64 p, .int .i64 u, .slice a n c] 30))) := Lib.hid ((Below.refl _ _).alloc (Nat.le_refl _) _)
  obtain ⟨w1, hw1⟩ : ∃ w1, w.alloc (.cells #[.int .i64 p, .int .i64 u, .slice a n c] 30) = w1 := ⟨_, rfl⟩
  rw [hw1] at HS HW1
  have HWB := Lib.hid ((Below.refl w1.heap.size w1).alloc (Nat.le_refl _) (.cells #[.slice qa qn qc, .int .i64 r] 46))
  have HQ : Hid (EqnAt (w1.alloc (.cells #[.slice qa qn qc, .int .i64 r] 46)) w1.heap.size 0 r ys) := Lib.hid ⟨by simp [World.cell?_alloc_new], qa, qn, qc, by simp [World.cell?_alloc_new], (hq.below HW1.out).below HWB.out⟩
  have HS2 := Lib.hid (HS.out.below HWB.out)
  have HW2 := Lib.hid (HW1.out.trans (HWB.out.mono HW1.out.size))
  have HI := Lib.hid hi
  obtain ⟨k, hk⟩ := AskedIs.exists p u rs ys r
  have HK := Lib.hid hk
  clear h hq hi hk
  go_enter Try.func34, Try.ntmps34
  go_wp2_with fail
  try rw [hw1]
  clear hw1
  refine (l07AskedC _ _ _ _ p u rs r ys k _ HS2.out HQ.out HK.out).mono ?_
  rintro e w3 ⟨rfl, hb3⟩
  have HW3 := Lib.hid (HW2.out.trans (hb3.mono HW2.out.size))
  have HS3 := Lib.hid (HS2.out.below hb3)
  have HQ3 := Lib.hid (HQ.out.below hb3)
  clear hb3
  by_cases h0 : k = 0
  · obtain ⟨hok, hqk⟩ := HK.out.zero.1 h0
    obtain ⟨un, rfl⟩ := hok.unat
    have HV := Lib.hid (HI.out.good hok hqk)
    have HOK := Lib.hid hok
    have HQK := Lib.hid hqk
    have hne : (k != 0) = false := by rw [h0]; rfl
    clear hok hqk h0
    go_wp2_with fail
    refine (l07DeriveC _ _ _ _ p un rs r ys _ HS3.out HOK.out HQ3.out HQK.out).mono ?_
    rintro e w4 hd
    obtain ⟨a5, n5, c5, rfl, ho5, hb5⟩ := HV.out.made hd
    have HO5 := Lib.hid (ho5.mono HW3.out.size)
    have HW5 := Lib.hid (HW3.out.trans (hb5.mono HW3.out.size))
    clear hd ho5 hb5
    go_wp2
    go_ret2
    exact ⟨a5, n5, c5, rfl, HO5.out, HW5.out⟩
  · obtain ⟨rfl, hcd⟩ := HI.out.bad HK.out h0
    have HCD := Lib.hid hcd
    have hne : (k != 0) = true := bne_iff_ne.2 h0
    clear h0 hcd
    go_wp2
    go_ret2
    exact ⟨_, _, _, by rw [HCD.out]; rfl, ownE_new _ _ HW3.out.size, HW3.out.alloc HW3.out.size _⟩

set_option linter.unusedSimpArgs false in
set_option maxHeartbeats 4000000 in
set_option maxRecDepth 100000 in
theorem specFollows (p u : Int) (a : Option Addr) (n c : Nat) (rs : List (Int × List Int)) (r : Int) (qa : Option Addr) (qn qc : Nat) (ys : List Int) (b : Bool) (cd : Int) (w : World) (h : EqsAt w (.slice a n c) rs) (hq : RowAt w (.slice qa qn qc) ys) (hi : FollowsIs p u rs ys r b cd) :
    Calls Try.prog 39 #[.agg #[.int .i64 p, .int .i64 u, .slice a n c], .agg #[.slice qa qn qc, .int .i64 r]] w fun e w' => e = .returned (.tuple #[.bool b, .int .i64 cd]) ∧ Below w.heap.size w w' := by
  have HS := Lib.hid (SysAt.new w p u a n c rs 30 h)
  have HW1 : Hid (Below w.heap.size w (w.alloc (.cells #[.int .i64 p, .int .i64 u, .slice a n c] 30))) := Lib.hid ((Below.refl _ _).alloc (Nat.le_refl _) _)
  obtain ⟨w1, hw1⟩ : ∃ w1, w.alloc (.cells #[.int .i64 p, .int .i64 u, .slice a n c] 30) = w1 := ⟨_, rfl⟩
  rw [hw1] at HS HW1
  have HWB := Lib.hid ((Below.refl w1.heap.size w1).alloc (Nat.le_refl _) (.cells #[.slice qa qn qc, .int .i64 r] 46))
  have HQ : Hid (EqnAt (w1.alloc (.cells #[.slice qa qn qc, .int .i64 r] 46)) w1.heap.size 0 r ys) := Lib.hid ⟨by simp [World.cell?_alloc_new], qa, qn, qc, by simp [World.cell?_alloc_new], (hq.below HW1.out).below HWB.out⟩
  have HS2 := Lib.hid (HS.out.below HWB.out)
  have HW2 := Lib.hid (HW1.out.trans (HWB.out.mono HW1.out.size))
  have HI := Lib.hid hi
  obtain ⟨k, hk⟩ := AskedIs.exists p u rs ys r
  have HK := Lib.hid hk
  clear h hq hi hk
  go_enter Try.func39, Try.ntmps39
  go_wp2_with fail
  try rw [hw1]
  clear hw1
  refine (l07AskedC _ _ _ _ p u rs r ys k _ HS2.out HQ.out HK.out).mono ?_
  rintro e w3 ⟨rfl, hb3⟩
  have HW3 := Lib.hid (HW2.out.trans (hb3.mono HW2.out.size))
  have HS3 := Lib.hid (HS2.out.below hb3)
  have HQ3 := Lib.hid (HQ.out.below hb3)
  clear hb3
  obtain ⟨zs, cc, hdi, hcs⟩ := HI.out
  have HCS := Lib.hid hcs
  clear hcs
  by_cases h0 : k = 0
  · obtain ⟨hok, hqk⟩ := HK.out.zero.1 h0
    obtain ⟨un, rfl⟩ := hok.unat
    have hv := hdi.good hok hqk
    have HC3 : Hid (cc = 0 ∨ cc = 4 ∨ cc = 6) := Lib.hid (by
      rcases id hv with ⟨_, _, _, h⟩ | ⟨_, _, _, h⟩ | ⟨_, _, h⟩
      · exact .inl h
      · exact .inr (.inr h)
      · exact .inr (.inl h))
    have HV := Lib.hid hv
    have HOK := Lib.hid hok
    have HQK := Lib.hid hqk
    have hne : (k != 0) = false := by rw [h0]; rfl
    clear hok hqk h0 hdi hv
    go_wp2_with fail
    refine (l07DeriveC _ _ _ _ p un rs r ys _ HS3.out HOK.out HQ3.out HQK.out).mono ?_
    rintro e w4 hd
    obtain ⟨a5, n5, c5, rfl, ho5, hb5⟩ := HV.out.made hd
    have HW5 := Lib.hid (HW3.out.trans (hb5.mono HW3.out.size))
    clear hd ho5 hb5
    rcases HC3.out with rfl | rfl | rfl
    · go_wp2
      go_ret2
      rcases HCS.out with ⟨h, _⟩ | ⟨_, rfl, rfl⟩ | ⟨h, _⟩
      · omega
      · exact ⟨rfl, HW5.out⟩
      · omega
    · go_wp2
      go_ret2
      rcases HCS.out with ⟨h, _⟩ | ⟨_, rfl, rfl⟩ | ⟨h, _⟩
      · omega
      · exact ⟨rfl, HW5.out⟩
      · omega
    · go_wp2
      go_ret2
      rcases HCS.out with ⟨h, _⟩ | ⟨h, _⟩ | ⟨_, rfl, rfl⟩
      · omega
      · omega
      · exact ⟨rfl, HW5.out⟩
  · obtain ⟨_, hcd⟩ := hdi.bad HK.out h0
    have HC3 : Hid (b = false ∧ cd = k) := Lib.hid (by
      rcases HCS.out with ⟨_, h1, h2⟩ | ⟨h, _⟩ | ⟨h, _⟩
      · exact ⟨h1, by omega⟩
      · rcases HK.out with ⟨_, hk⟩ | ⟨_, _, hk⟩ | ⟨_, _, hk⟩ <;> omega
      · rcases HK.out with ⟨_, hk⟩ | ⟨_, _, hk⟩ | ⟨_, _, hk⟩ <;> omega)
    have hne : (k != 0) = true := bne_iff_ne.2 h0
    clear h0 hcd hdi
    go_wp2
    go_ret2
    exact ⟨by rw [HC3.out.1, HC3.out.2]; rfl, HW3.out⟩

end Go.Proofs.Ytnbgpeoceejolaa

namespace Go.Proofs.Ytnbgpeoceejolaa
open Go.RowKit

set_option linter.unusedSimpArgs false in
set_option maxHeartbeats 4000000 in
set_option maxRecDepth 100000 in
theorem takeAwayR2 (f B l c1 yb yo c2 : Nat) (t : Int) (xs ys : List Int) (w : World) (h : OwnRow w B (.slice (some ⟨f, 0, none⟩) l c1) xs) (hy : ∀ j, j < l → w.cell? ⟨yb, yo + j, none⟩ = some (.int .i64 (intN ys j))) (hyb : yb < w.heap.size) (hne : yb ≠ f) (hl : xs.length = l) (hxl : LowP 2 xs) (hyl : ∀ j, j < l → 0 ≤ intN ys j ∧ intN ys j < 2) (htl : 0 ≤ t ∧ t < 2) (hN : l ≤ 1000) :
    Calls Try.prog 146 #[modV 2, .slice (some ⟨f, 0, none⟩) l c1, .slice (some ⟨yb, yo, none⟩) l c2, .int .i64 t] w fun e w' => e = .returned (.tuple #[]) ∧ OwnRow w' B (.slice (some ⟨f, 0, none⟩) l c1) (rowSub 2 t xs ys) ∧ Only (fun q => q = f) w w' := by
  have HF0 := Lib.hid h
  have HXL := Lib.hid hl
  have HL := Lib.hid hxl
  have HYL := Lib.hid hyl
  have HY := Lib.hid hy
  have hm : modV 2 = .iface 247 (.agg #[]) := rfl
  rw [hm]
  clear h hl hm hy hxl hyl
  go_enter Try.func146, Try.ntmps146
  have q1 := as22 w
  go_wp2
  clear q1
  go_loopw [18] (fun i wr => ∃ k : Nat, k ≤ l ∧ i = .int .i64 k ∧ OwnRow wr B (.slice (some ⟨f, 0, none⟩) l c1) (lessK 2 t xs ys k) ∧ Only (fun q => q = f) w wr) (fun i _ => l - (intOf i).toNat)
  case atStart => exact ⟨0, Nat.zero_le _, rfl, by rw [lessK_zero]; exact HF0.out, Only.refl _ _⟩
  case round =>
    obtain ⟨k, hk, rfl, hfl, hbl⟩ := hrel
    have HF := Lib.hid hfl
    have HB := Lib.hid hbl
    by_cases hlt : k < l
    · have hkl : (k : Int) < (l : Int) := by omega
      have ex := hfl.cell_of k (by rw [lessK_len, HXL.out]; exact hlt)
      have ey := (World.cell?_of_block (hbl.block yb hyb hne)).trans (HY.out k hlt)
      rw [lessK_at _ _ _ _ _ _ (by rw [HXL.out]; exact hlt), if_neg (Nat.lt_irrefl _)] at ex
      have fz := hfl.free k
      have bx := HL.out k (by rw [HXL.out]; exact hlt)
      have by_ := HYL.out k hlt
      clear hfl hbl
      obtain ⟨x, hx⟩ : ∃ x, intN xs k = x := ⟨_, rfl⟩
      obtain ⟨y, hy⟩ : ∃ y, intN ys k = y := ⟨_, rfl⟩
      rw [hx] at ex bx
      rw [hy] at ey by_
      have HZ : Hid (intN xs k - t * intN ys k = x - t * y) := Lib.hid (by rw [hx, hy])
      clear hx hy
      have hbz : bits BinOp.xor IntKind.i64 x (bits BinOp.and IntKind.i64 y t) = (x - t * y) % 2 := by
        have hz : (x = 0 ∨ x = 1) ∧ (y = 0 ∨ y = 1) ∧ (t = 0 ∨ t = 1) := by omega
        obtain ⟨hx, hy, ht⟩ := hz
        rcases hx with rfl | rfl <;> rcases hy with rfl | rfl <;> rcases ht with rfl | rfl <;> rfl
      obtain ⟨z, hze⟩ : ∃ z, (x - t * y) % 2 = z := ⟨_, rfl⟩
      have HF2 := Lib.hid (HF.out.set k ((intN xs k - t * intN ys k) % 2))
      have HB2 := Lib.hid (Only.setCell HB.out (p := ⟨f, k, none⟩) rfl (.int .i64 ((intN xs k - t * intN ys k) % 2)))
      have HZZ := Lib.hid HZ.out
      rw [HZ.out, hze] at HF2 HB2
      rw [hze] at hbz
      have HZ2 := Lib.hid hze
      have HTF : Hid ((lessK 2 t xs ys k).set k z = lessK 2 t xs ys (k + 1)) := Lib.hid (by rw [← HZ2.out, ← HZZ.out]; exact lessK_set _ _ _ _ _)
      clear bx by_ hze
      go_wp2
      go_roundw
      case rel => exact ⟨k + 1, by omega, by go_num, by have h := HF2.out; rw [HTF.out] at h; exact h, HB2.out⟩
      case measure => simp [intOf]; omega
    · obtain rfl : k = l := by omega
      have HFE : Hid (OwnRow wr B (.slice (some ⟨f, 0, none⟩) k c1) (rowSub 2 t xs ys)) := Lib.hid (by unfold rowSub; rw [HXL.out]; exact hfl)
      clear hfl hbl
      go_wp2
      go_end0
      exact ⟨rfl, HFE.out, HB.out⟩

set_option linter.unusedSimpArgs false in
set_option maxHeartbeats 4000000 in
set_option maxRecDepth 100000 in
theorem takeAwayR3 (f B l c1 yb yo c2 : Nat) (t : Int) (xs ys : List Int) (w : World) (h : OwnRow w B (.slice (some ⟨f, 0, none⟩) l c1) xs) (hy : ∀ j, j < l → w.cell? ⟨yb, yo + j, none⟩ = some (.int .i64 (intN ys j))) (hyb : yb < w.heap.size) (hne : yb ≠ f) (hl : xs.length = l) (hxl : LowP 3 xs) (hyl : ∀ j, j < l → 0 ≤ intN ys j ∧ intN ys j < 3) (htl : 0 ≤ t ∧ t < 3) (hN : l ≤ 1000) :
    Calls Try.prog 146 #[modV 3, .slice (some ⟨f, 0, none⟩) l c1, .slice (some ⟨yb, yo, none⟩) l c2, .int .i64 t] w fun e w' => e = .returned (.tuple #[]) ∧ OwnRow w' B (.slice (some ⟨f, 0, none⟩) l c1) (rowSub 3 t xs ys) ∧ Only (fun q => q = f) w w' := by
  have HF0 := Lib.hid h
  have HXL := Lib.hid hl
  have HL := Lib.hid hxl
  have HYL := Lib.hid hyl
  have HY := Lib.hid hy
  have hm : modV 3 = .iface 248 (.agg #[]) := rfl
  rw [hm]
  clear h hl hm hy hxl hyl
  go_enter Try.func146, Try.ntmps146
  have q1 := as32 w
  have q2 := as33 w
  go_wp2
  clear q1 q2
  go_loopw [38] (fun i wr => ∃ k : Nat, k ≤ l ∧ i = .int .i64 k ∧ OwnRow wr B (.slice (some ⟨f, 0, none⟩) l c1) (lessK 3 t xs ys k) ∧ Only (fun q => q = f) w wr) (fun i _ => l - (intOf i).toNat)
  case atStart => exact ⟨0, Nat.zero_le _, rfl, by rw [lessK_zero]; exact HF0.out, Only.refl _ _⟩
  case round =>
    obtain ⟨k, hk, rfl, hfl, hbl⟩ := hrel
    have HF := Lib.hid hfl
    have HB := Lib.hid hbl
    by_cases hlt : k < l
    · have hkl : (k : Int) < (l : Int) := by omega
      have ex := hfl.cell_of k (by rw [lessK_len, HXL.out]; exact hlt)
      have ey := (World.cell?_of_block (hbl.block yb hyb hne)).trans (HY.out k hlt)
      rw [lessK_at _ _ _ _ _ _ (by rw [HXL.out]; exact hlt), if_neg (Nat.lt_irrefl _)] at ex
      have fz := hfl.free k
      have bx := HL.out k (by rw [HXL.out]; exact hlt)
      have by_ := HYL.out k hlt
      clear hfl hbl
      obtain ⟨x, hx⟩ : ∃ x, intN xs k = x := ⟨_, rfl⟩
      obtain ⟨y, hy⟩ : ∃ y, intN ys k = y := ⟨_, rfl⟩
      rw [hx] at ex bx
      rw [hy] at ey by_
      have HZ : Hid (intN xs k - t * intN ys k = x - t * y) := Lib.hid (by rw [hx, hy])
      clear hx hy
      have hyt := prodT (t := t) (y := y) ⟨htl.1, by omega⟩ ⟨by_.1, by omega⟩
      have hz : (x + 2 * (t * y)) % 3 = (x - t * y) % 3 := by omega
      obtain ⟨z, hze⟩ : ∃ z, (x - t * y) % 3 = z := ⟨_, rfl⟩
      have HF2 := Lib.hid (HF.out.set k ((intN xs k - t * intN ys k) % 3))
      have HB2 := Lib.hid (Only.setCell HB.out (p := ⟨f, k, none⟩) rfl (.int .i64 ((intN xs k - t * intN ys k) % 3)))
      have HZZ := Lib.hid HZ.out
      rw [HZ.out] at HF2 HB2
      have hw1 : IntKind.i64.wrap (2 * t) = 2 * t := IntWalk.i64_in _ (by omega)
      have e2 : 2 * t * y = 2 * (t * y) := Int.mul_assoc _ _ _
      have hw2 : IntKind.i64.wrap (2 * t * y) = 2 * (t * y) := by rw [e2]; exact IntWalk.i64_in _ (by omega)
      obtain ⟨ty, hty⟩ : ∃ ty, t * y = ty := ⟨_, rfl⟩
      rw [hty] at hyt hz hw2 hze
      have hw3 : IntKind.i64.wrap (x + 2 * ty) = x + 2 * ty := IntWalk.i64_in _ (by omega)
      have hm : Int.tmod (x + 2 * ty) 3 = z := by rw [Int.tmod_eq_emod_of_nonneg (by omega), hz]; exact hze
      have hw4 : IntKind.i64.wrap z = z := IntWalk.i64_in _ (by omega)
      have HZ2 : Hid ((x - t * y) % 3 = z) := Lib.hid (by rw [hty]; exact hze)
      rw [HZ2.out] at HF2 HB2
      have HTF : Hid ((lessK 3 t xs ys k).set k z = lessK 3 t xs ys (k + 1)) := Lib.hid (by rw [← HZ2.out, ← HZZ.out]; exact lessK_set _ _ _ _ _)
      clear bx by_ e2 hz hze hty hyt
      go_wp2
      go_roundw
      case rel => exact ⟨k + 1, by omega, by go_num, by have h := HF2.out; rw [HTF.out] at h; exact h, HB2.out⟩
      case measure => simp [intOf]; omega
    · obtain rfl : k = l := by omega
      have HFE : Hid (OwnRow wr B (.slice (some ⟨f, 0, none⟩) k c1) (rowSub 3 t xs ys)) := Lib.hid (by unfold rowSub; rw [HXL.out]; exact hfl)
      clear hfl hbl
      go_wp2
      go_end0
      exact ⟨rfl, HFE.out, HB.out⟩

theorem takeAwayR (p : Int) (f B l c1 yb yo c2 : Nat) (t : Int) (xs ys : List Int) (w : World) (hp : PrimeP p) (h : OwnRow w B (.slice (some ⟨f, 0, none⟩) l c1) xs) (hy : ∀ j, j < l → w.cell? ⟨yb, yo + j, none⟩ = some (.int .i64 (intN ys j))) (hyb : yb < w.heap.size) (hne : yb ≠ f) (hl : xs.length = l) (hxl : LowP p xs) (hyl : ∀ j, j < l → 0 ≤ intN ys j ∧ intN ys j < p) (htl : 0 ≤ t ∧ t < p) (hN : l ≤ 1000) :
    Calls Try.prog 146 #[modV p, .slice (some ⟨f, 0, none⟩) l c1, .slice (some ⟨yb, yo, none⟩) l c2, .int .i64 t] w fun e w' => e = .returned (.tuple #[]) ∧ OwnRow w' B (.slice (some ⟨f, 0, none⟩) l c1) (rowSub p t xs ys) ∧ Only (fun q => q = f) w w' := by
  rcases hp with rfl | rfl
  · exact takeAwayR2 f B l c1 yb yo c2 t xs ys w h hy hyb hne hl hxl hyl htl hN
  · exact takeAwayR3 f B l c1 yb yo c2 t xs ys w h hy hyb hne hl hxl hyl htl hN

set_option linter.unusedSimpArgs false in
set_option maxHeartbeats 800000 in
set_option maxRecDepth 100000 in
theorem cloneAny (b off c1 : Nat) (xs : List Int) (w : World) (h : ∀ j, j < xs.length → w.cell? ⟨b, off + j, none⟩ = some (.int .i64 (intN xs j))) (hl : xs.length ≤ 1000) :
    Calls Try.prog 85 #[.slice (some ⟨b, off, none⟩) xs.length c1] w fun e w' => ∃ g c, e = .returned (.slice (some ⟨g, 0, none⟩) xs.length c) ∧ OwnRow w' w.heap.size (.slice (some ⟨g, 0, none⟩) xs.length c) xs ∧ Below w.heap.size w w' := by
  obtain ⟨i0, hi, hz0, hz1, hz2⟩ := info_parts info_int3
  have HC := Lib.hid h
  clear h
  have hq : ∀ (w : World) (a : Option Addr) (n c n' c' : Nat), (binOp .eql 34 (.slice a n c) (.slice none n' c')).run Try.prog w = .ok (.bool a.isNone) w := fun w a n c n' c' => Lib.run_eql_slice_nil w _ _ a n c n' c' Try.underlying34
  have hown : (w.alloc (.cells #[] 2)).ownsRow w.heap.size 2 1 (.slice (some ⟨w.heap.size, 0, none⟩) 0 0) 0 [] := World.ownsRow_lit (e := 2) (size := 1) w #[] 0 (Nat.le_refl _) (by unfold maxLen; omega) (by simp)
  go_enter Try.func85, Try.ntmps85
  have hnews : ∀ j u, (xs.map (Value.int .i64))[j]? = some u → (w.alloc (.cells #[] 2)).cell? ((⟨b, off, none⟩ : Addr).add j) = some u := by
    intro j u hj
    have hjn : j < xs.length := by have := (List.getElem?_eq_some_iff.1 hj).1; simpa using this
    rw [Addr.add_lit]
    refine Lib.cell?_alloc_some _ ?_
    rw [HC.out j hjn]
    rw [← hj]
    simp [intN, List.getD, hjn]
  have hone : ∀ u ∈ xs.map (Value.int .i64), u.oneCell' = true := by intro u hu; obtain ⟨x, _, rfl⟩ := List.mem_map.1 hu; rfl
  have HN := Lib.hid hnews
  have HO := Lib.hid hone
  have HW := Lib.hid hown
  clear hnews hone hown
  go_wp2_with (at_builtin; refine wpList_append_own _ rfl _ _ 34 rfl w.heap.size 2 i0 (.int .i64 0) 1 8 Try.underlying34 hi hz0 hz1 hz2 rfl (by decide) (.slice (some ⟨w.heap.size, 0, none⟩) 0 0) 0 [] rfl HW.out ⟨b, off, none⟩ xs.length c1 (xs.map (Value.int .i64)) rfl (by simp) HN.out HO.out (by unfold maxLen; omega) (by omega) (by simp [go_sem]) ?_; intro v5 w5 hown5 hgrow5 hnil5; have HR := Lib.hid hown5; have HNL := Lib.hid hnil5; have HB := Lib.hid ((((Below.refl w.heap.size w).alloc (Nat.le_refl _) (.cells #[] 2))).grown hgrow5 (by simp [go_sem]) (fun q hq => by simp [Value.ownBlock] at hq; omega)); clear hown5 hgrow5 hnil5)
  go_ret
  rcases HR.out.2 with ⟨hv, _⟩ | ⟨g5, cap5, cur, hv, _⟩
  · have := HNL.out.1 hv
    simp at this
  · refine ⟨g5, cap5, ?_, ?_, HB.out⟩
    · simp [hv]
    · have := HR.out
      rw [hv] at this
      simpa [OwnRow] using this

end Go.Proofs.Ytnbgpeoceejolaa

namespace Go.Proofs.Ytnbgpeoceejolaa
open Go.RowKit

theorem arrF_list {N : Nat} {F : Nat → Int} {xs : List Int} (hl : xs.length = N) (h : ∀ i, i < N → F i = intN xs i) : arrF N F = xs.map (Value.int .i64) :=
  (arrF_ext (by rw [List.length_map, hl]) fun i hi => by rw [List.getElem?_map, List.getElem?_eq_getElem (by omega), h i hi, intN_at _ _ (by omega)]; rfl).symm
theorem OwnRow.of_box {w : World} {B g : Nat} {xs : List Int} (h : Box 2 w g (xs.map (Value.int .i64)).toArray) (hB : B ≤ g) (hl : xs.length ≤ 1000) : OwnRow w B (.slice (some ⟨g, 0, none⟩) xs.length xs.length) xs :=
  ⟨by simp, .inr ⟨g, xs.length, _, rfl, hB, h, Nat.le_refl _, by unfold maxLen; omega, by simp, by rw [Nat.mul_one, List.take_of_length_le (by simp)]⟩⟩

set_option linter.unusedSimpArgs false in
set_option maxHeartbeats 4000000 in
set_option maxRecDepth 100000 in
theorem restC (eb rb g n l u d : Nat) (s : Nat → Nat) (p : Int) (F : Nat → Int) (R : Nat → List Int) (c : Nat → Nat) (qa : Option Addr) (qn qc : Nat) (r : Int) (ys : List Int) (w : World) (hp : PrimeP p) (h : ElimAt w eb rb g n l u d s p F R) (hlu : l = u + 1 + n) (hd : d ≤ n) (hn : n ≤ 24) (hu : 1 ≤ u ∧ u ≤ 12) (hpv : Piv n u R d c) (hgd : GoodR p n l R) (hq : RowAt w (.slice qa qn qc) ys) (hqk : EqnOk p u r ys) :
    Calls Try.prog 98 #[.pointer (some ⟨eb, 0, none⟩), .agg #[.slice qa qn qc, .int .i64 r]] w fun e w' => ∃ f, e = .returned (.slice (some ⟨f, 0, none⟩) l l) ∧ OwnRow w' w.heap.size (.slice (some ⟨f, 0, none⟩) l l) (restE p R c (eqnRow ys r n) d) ∧ Below w.heap.size w w' := by
  have hyu : ys.length = u := by have := hqk.1; omega
  have hp3 : 2 ≤ p ∧ p ≤ 3 := by rcases hp with rfl | rfl <;> omega
  have HLP : Hid (LowP p (eqnRow ys r n)) := Lib.hid (eqnRow_low hqk hp3.1)
  have HYL : Hid ((eqnRow ys r n).length = l) := Lib.hid (by rw [(eqnRow_parts ys r n).2.2.2, hyu, hlu])
  have HP := Lib.hid hp
  have HE := Lib.hid h
  have HPV := Lib.hid hpv
  have HGD := Lib.hid hgd
  obtain ⟨qa', qc', hv, hqn, hqc⟩ := id hq
  simp only [Value.slice.injEq] at hv
  obtain ⟨rfl, rfl, rfl⟩ := hv
  obtain ⟨yb, yo, rfl, hcell⟩ := hqc (by omega)
  have hcell' : ∀ j, j < ys.length → w.cell? ⟨yb, yo + j, none⟩ = some (.int .i64 (intN ys j)) := fun j hj => hcell j hj
  have hbx := Box.new 46 w #[.slice (some ⟨yb, yo, none⟩) ys.length qc, .int .i64 r]
  have hw1 := (Below.refl w.heap.size w).alloc (Nat.le_refl _) (.cells #[.slice (some ⟨yb, yo, none⟩) ys.length qc, .int .i64 r] 46)
  obtain ⟨qb, hqb⟩ : ∃ qb, w.heap.size = qb := ⟨_, rfl⟩
  obtain ⟨w1, hw1e⟩ : ∃ w1, w.alloc (.cells #[.slice (some ⟨yb, yo, none⟩) ys.length qc, .int .i64 r] 46) = w1 := ⟨_, rfl⟩
  rw [hw1e] at hbx hw1
  rw [hqb] at hbx
  have HB1 := Lib.hid hbx
  have HW1 := Lib.hid hw1
  have HQB := Lib.hid hqb
  have HE1 := Lib.hid (HE.out.below hw1)
  have y1 : w1.drew.cell? ⟨eb, 1, none⟩ = some (.int .i64 (u : Int)) := HE1.out.box.c 1 rfl
  have y2 : w1.drew.cell? ⟨eb, 2, none⟩ = some (.slice (some ⟨rb, 0, none⟩) n n) := HE1.out.box.c 2 rfl
  have hw12 : IntKind.i64.wrap ((u : Int) + 1) = ((u + 1 : Nat) : Int) := by rw [IntWalk.i64_in _ (by omega)]; rfl
  have hw13 : IntKind.i64.wrap (((u + 1 : Nat) : Int) + (n : Int)) = (l : Int) := by rw [IntWalk.i64_in _ (by omega)]; omega
  have hw14 : IntKind.i64.wrap ((u : Int) + 1 + (n : Int)) = (l : Int) := by rw [IntWalk.i64_in _ (by omega)]; omega
  have HCELL := Lib.hid hcell'
  have HLU := Lib.hid hlu
  have HYU := Lib.hid hyu
  have hyu12 : ys.length ≤ 12 := by omega
  have hl37 : l ≤ 37 := by omega
  have hul : u < l := by omega
  clear h hpv hgd hq hqk hqc hcell hcell' hbx hw1 hyu hp hlu
  go_enter Try.func98, Try.ntmps98
  go_wp2_with fail
  try simp only [hqb]
  try rw [hw1e]
  clear hw1e
  go_upto_region 1 with fail
  go_cut [5] from 8 to 19 (fun v5 wz => v5 = .slice (some ⟨w1.heap.size, 0, none⟩) l l ∧ wz = w1.drew.alloc (.cells (Array.replicate l (Value.int .i64 0)) 2))
  case first =>
    refine wp_region_noPanic ?_
    refine wp_region_late (S := (fun w' => w'.cell? ⟨eb, 1, none⟩ = some (.int .i64 (u : Int)) ∧ w'.cell? ⟨eb, 2, none⟩ = some (.slice (some ⟨rb, 0, none⟩) n n))) [11] (by kernel_rfl) ?_ (fun hHeld => ?_)
    · exact ⟨y1, y2⟩
    refine wpAnyL_free (i := 0) (v := ?_) (some 8) rfl rfl (by kernel_rfl) (by kernel_rfl) (by kernel_rfl) (by decide) (fun _ _ _ h => h) (Or.inl ⟨by rfl, ?_⟩) (fun h0 => by assumption) ?_
    rotate_left
    · intro wS
      go_simp
      try with_reducible rfl
    try simp only [Act.put, List.setIfInBounds_toArray, List.set_cons_zero, List.set_cons_succ]
    refine wpAnyL_free (i := 1) (v := ?_) (some 9) rfl rfl (by kernel_rfl) (by kernel_rfl) (by kernel_rfl) (by decide) (fun _ _ _ h => h) (Or.inl ⟨by rfl, ?_⟩) (fun h0 => by assumption) ?_
    rotate_left
    · intro wS
      go_simp
      try with_reducible rfl
    try simp only [Act.put, List.setIfInBounds_toArray, List.set_cons_zero, List.set_cons_succ]
    refine wpAnyL_free (i := 2) (v := ?_) (some 10) rfl rfl (by kernel_rfl) (by kernel_rfl) (by kernel_rfl) (by decide) (fun _ _ _ h => h) (Or.inl ⟨by rfl, ?_⟩) (fun h0 => by assumption) ?_
    rotate_left
    · intro wS
      go_simp
      try with_reducible rfl
    try simp only [Act.put, List.setIfInBounds_toArray, List.set_cons_zero, List.set_cons_succ]
    refine wpAnyL_take (i := 3) (v := ?_) (some 11) rfl rfl (by kernel_rfl) (by kernel_rfl) (by kernel_rfl) (by kernel_rfl) (by kernel_rfl) (fun _ _ _ h => h) (Or.inl ⟨by rfl, ?_⟩) (by assumption) ?_
    rotate_left
    · intro wS hSw
      try dsimp only at hSw
      go_simp
      try with_reducible rfl
    try simp only [Act.put, List.setIfInBounds_toArray, List.set_cons_zero, List.set_cons_succ]
    refine wpAnyL_free (i := 4) (v := ?_) (some 12) rfl rfl (by kernel_rfl) (by kernel_rfl) (by kernel_rfl) (by decide) (fun _ _ _ h => h) (Or.inl ⟨by rfl, ?_⟩) (fun h0 => by assumption) ?_
    rotate_left
    · intro wS
      go_simp
      try with_reducible rfl
    try simp only [Act.put, List.setIfInBounds_toArray, List.set_cons_zero, List.set_cons_succ]
    refine wpAnyL_free (i := 5) (v := ?_) (some 13) rfl rfl (by kernel_rfl) (by kernel_rfl) (by kernel_rfl) (by decide) (fun _ _ _ h => h) (Or.inl ⟨by rfl, ?_⟩) (fun h0 => by assumption) ?_
    rotate_left
    · intro wS
      go_simp
      try with_reducible rfl
    try simp only [Act.put, List.setIfInBounds_toArray, List.set_cons_zero, List.set_cons_succ]
    refine wpAnyL_free (i := 6) (v := ?_) (some 14) rfl rfl (by kernel_rfl) (by kernel_rfl) (by kernel_rfl) (by decide) (fun _ _ _ h => h) (Or.inl ⟨by rfl, ?_⟩) (fun h0 => by assumption) ?_
    rotate_left
    · intro wS
      go_simp
      try with_reducible rfl
    try simp only [Act.put, List.setIfInBounds_toArray, List.set_cons_zero, List.set_cons_succ]
    refine wpAnyL_free (i := 7) (v := ?_) (some 15) rfl rfl (by kernel_rfl) (by kernel_rfl) (by kernel_rfl) (by decide) (fun _ _ _ h => h) (Or.inl ⟨by rfl, ?_⟩) (fun h0 => by assumption) ?_
    rotate_left
    · intro wS
      go_simp
      try with_reducible rfl
    try simp only [Act.put, List.setIfInBounds_toArray, List.set_cons_zero, List.set_cons_succ]
    refine wpAnyL_take (i := 8) (v := ?_) (some 16) rfl rfl (by kernel_rfl) (by kernel_rfl) (by kernel_rfl) (by kernel_rfl) (by kernel_rfl) (fun _ _ _ h => h) (Or.inl ⟨by rfl, ?_⟩) (by assumption) ?_
    rotate_left
    · intro wS hSw
      try dsimp only at hSw
      go_simp
      try with_reducible rfl
    try simp only [Act.put, List.setIfInBounds_toArray, List.set_cons_zero, List.set_cons_succ]
    refine wpAnyL_free (i := 9) (v := ?_) (some 17) rfl rfl (by kernel_rfl) (by kernel_rfl) (by kernel_rfl) (by decide) (fun _ _ _ h => h) (Or.inl ⟨by rfl, ?_⟩) (fun h0 => by assumption) ?_
    rotate_left
    · intro wS
      go_simp
      try with_reducible rfl
    try simp only [Act.put, List.setIfInBounds_toArray, List.set_cons_zero, List.set_cons_succ]
    refine wpAnyL_free (i := 10) (v := ?_) (some 18) rfl rfl (by kernel_rfl) (by kernel_rfl) (by kernel_rfl) (by decide) (fun _ _ _ h => h) (Or.inl ⟨by rfl, ?_⟩) (fun h0 => by assumption) ?_
    rotate_left
    · intro wS
      go_simp
      try with_reducible rfl
    try simp only [Act.put, List.setIfInBounds_toArray, List.set_cons_zero, List.set_cons_succ]
    refine wpAnyL_ready (rs := [11]) (by kernel_rfl) (by simp) ?_
    refine AllReadyL.last rfl (by kernel_rfl) (fun K hK => ?_) AllReadyL.nil
    have hmk := make_row l (by omega) w1.drew; go_simp
    refine hK.out _ _ ?_
    clear hK K
    try simp only [Act.put, List.setIfInBounds_toArray, List.set_cons_zero, List.set_cons_succ]
    refine wpAnyL_free (i := 12) (v := ?_) (some 5) rfl rfl (by kernel_rfl) (by kernel_rfl) (by kernel_rfl) (by decide) (fun _ _ _ h => h) (Or.inl ⟨by rfl, ?_⟩) (fun h0 => absurd h0 (by decide)) ?_
    rotate_left
    · intro wS
      go_simp
      try with_reducible rfl
    try simp only [Act.put, List.setIfInBounds_toArray, List.set_cons_zero, List.set_cons_succ]
    refine wpAnyL_done (by kernel_rfl) ?_ _
    refine NoPanic.normal ?_
    clear hHeld
    go_wp2_with fail
    go_meet
    exact ⟨rfl, rfl⟩
  case rest =>
    obtain ⟨rfl, rfl⟩ := hcut
    have HW2 : Hid (Below w1.heap.size w1 (w1.drew.alloc (.cells (Array.replicate l (Value.int .i64 0)) 2))) := Lib.hid ((Below.refl _ _).drew.alloc (Nat.le_refl _) _)
    have HBZ : Hid (Box 2 (w1.drew.alloc (.cells (Array.replicate l (Value.int .i64 0)) 2)) w1.heap.size (arrF l (fun _ => 0)).toArray) := Lib.hid (by
      rw [← arrF_zero, List.toArray_replicate]
      exact Box.new _ _ _)
    obtain ⟨f, hf⟩ : ∃ f, w1.heap.size = f := ⟨_, rfl⟩
    obtain ⟨w2, hw2⟩ : ∃ w2, w1.drew.alloc (.cells (Array.replicate l (Value.int .i64 0)) 2) = w2 := ⟨_, rfl⟩
    rw [hw2] at HW2 HBZ
    rw [hf] at HBZ HW2 ⊢
    rw [hw2]
    have HE2 := Lib.hid (HE1.out.below (by rw [hf]; exact HW2.out))
    have hne : f ≠ eb ∧ f ≠ rb ∧ f ≠ g := ⟨by have := HE1.out.heb; omega, by have := HE1.out.hrb; omega, by have := HE1.out.rows.inn; omega⟩
    have HFB : Hid (w.heap.size ≤ f) := Lib.hid (by rw [← hf]; exact HW1.out.size)
    have hqbf : qb ≠ f := by have := HB1.out.lt; omega
    have HB2 := Lib.hid (HB1.out.below (by rw [hf]; exact HW2.out))
    have HW2' := Lib.hid (HW1.out.trans (HW2.out.mono HFB.out))
    have u1 : w2.cell? ⟨qb, 0, none⟩ = some (.slice (some ⟨yb, yo, none⟩) ys.length qc) := HB2.out.c 0 rfl
    have hsub : ((ys.map (Value.int .i64)).length) = ys.length := List.length_map _
    have HCELL2 : Hid (∀ (j : Nat) (v : Value), (ys.map (Value.int .i64))[j]? = some v → w2.cell? ((⟨yb, yo, none⟩ : Addr).add j) = some v) := Lib.hid (fun j v hj => by
      rw [List.getElem?_map] at hj
      by_cases hjl : j < ys.length
      · rw [List.getElem?_eq_getElem hjl] at hj
        simp only [Option.map_some, Option.some.injEq] at hj
        have e := below_cell HW2'.out (HCELL.out j hjl)
        rw [intN_at _ _ hjl, hj] at e
        rw [Addr.add_lit]
        exact e
      · rw [List.getElem?_eq_none (by omega)] at hj
        simp at hj)
    have HN : Hid ((ys.map (Value.int .i64)).length = Nat.min ys.length l) := Lib.hid (by rw [List.length_map]; exact (Nat.min_eq_left (by have := HYU.out; omega)).symm)
    have HFIT : Hid (0 + (ys.map (Value.int .i64)).length ≤ (arrF l (fun _ => 0)).toArray.size) := Lib.hid (by rw [List.length_map, List.size_toArray, arrF_len]; have := HYU.out; omega)
    obtain ⟨F2, hF2⟩ : ∃ F2 : Nat → Int, (fun q => if 0 ≤ q ∧ q < 0 + ys.length then intN ys (q - 0) else 0) = F2 := ⟨_, rfl⟩
    have HSP : Hid ((arrF l (fun _ => 0)).toArray.toList.take 0 ++ ((ys.map (Value.int .i64)) ++ (arrF l (fun _ => 0)).toArray.toList.drop (0 + (ys.map (Value.int .i64)).length)) = arrF l F2) := Lib.hid (by
      rw [List.length_map, ← hF2]
      exact arrF_splice (by have := HYU.out; omega))
    have HF2 := Lib.hid hF2
    have HYB : Hid (yb < w2.heap.size ∧ yb ≠ f) := Lib.hid (by
      have h0 : 0 < ys.length := by have := HYU.out; omega
      have := cell_block_lt (HCELL.out 0 h0)
      have h2 := HW2'.out.size
      have h3 := HFB.out
      simp only at this
      exact ⟨by omega, by omega⟩)
    clear hw2 hf hF2 hsub y1 y2
    go_wp2_with (refine wpList_copy_own rfl (.tmp 20) (.tmp 22) 34 34 rfl 2 Try.underlying34 (by kernel_rfl) f 0 l l ⟨yb, yo, none⟩ _ _ rfl rfl _ 2 HBZ.out (ys.map (Value.int .i64)) HN.out HCELL2.out HFIT.out (fun v hv => by obtain ⟨x, _, rfl⟩ := List.mem_map.1 hv; rfl) ?_; rw [HSP.out]; obtain ⟨w3, hw3⟩ : ∃ w3, w2.setRow f (arrF l F2).toArray = w3 := ⟨_, rfl⟩; rw [hw3]; have HW3 := Lib.hid hw3; clear hw3)
    have hw3 := HW3.out
    have HO23 : Hid (Only (fun q => q = f) w2 w3) := Lib.hid (by rw [← hw3]; exact only_setRow (Only.refl _ _) _)
    have HB3 : Hid (Box 2 w3 f (arrF l F2).toArray) := Lib.hid (by rw [← hw3]; exact setRow_heap w2 f _ _ 2 _ HBZ.out)
    clear hw3
    have HE3 := Lib.hid (HE2.out.onlyV HO23.out (fun h => hne.1 h.symm) (fun h => hne.2.1 h.symm) (fun h => hne.2.2 h.symm))
    have HO3 : Hid (Only (fun q => q = f ∨ w.heap.size ≤ q) w w3) := Lib.hid ((HW2'.out.only).trans (HO23.out.mono (fun q h => Or.inl h)))
    have v1 : w3.cell? ⟨eb, 1, none⟩ = some (.int .i64 (u : Int)) := HE3.out.box.c 1 rfl
    have v2 : w3.cell? ⟨qb, 1, none⟩ = some (.int .i64 r) := (World.cell?_of_block (HO23.out.block qb HB2.out.lt hqbf)).trans (HB2.out.c 1 rfl)
    have cf := HB3.out.flat.1 u hul
    have ff := HB3.out.flat.2 u
    have hul2 : (u : Int) < (l : Int) := by omega
    clear u1
    go_wp2_with fail
    refine wp_region_noPanic ?_
    refine wp_region_late (S := (fun w' => w'.cell? ⟨eb, 1, none⟩ = some (.int .i64 (u : Int)) ∧ w'.cell? ⟨qb, 1, none⟩ = some (.int .i64 r))) [8] (by kernel_rfl) ?_ (fun hHeld => ?_)
    · exact ⟨v1, v2⟩
    refine wpAnyL_free (i := 0) (v := ?_) (some 24) rfl rfl (by kernel_rfl) (by kernel_rfl) (by kernel_rfl) (by decide) (fun _ _ _ h => h) (Or.inl ⟨by rfl, ?_⟩) (fun h0 => by assumption) ?_
    rotate_left
    · intro wS
      go_simp
      try with_reducible rfl
    try simp only [Act.put, List.setIfInBounds_toArray, List.set_cons_zero, List.set_cons_succ]
    refine wpAnyL_free (i := 1) (v := ?_) (some 25) rfl rfl (by kernel_rfl) (by kernel_rfl) (by kernel_rfl) (by decide) (fun _ _ _ h => h) (Or.inl ⟨by rfl, ?_⟩) (fun h0 => by assumption) ?_
    rotate_left
    · intro wS
      go_simp
      try with_reducible rfl
    try simp only [Act.put, List.setIfInBounds_toArray, List.set_cons_zero, List.set_cons_succ]
    refine wpAnyL_free (i := 2) (v := ?_) (some 26) rfl rfl (by kernel_rfl) (by kernel_rfl) (by kernel_rfl) (by decide) (fun _ _ _ h => h) (Or.inl ⟨by rfl, ?_⟩) (fun h0 => by assumption) ?_
    rotate_left
    · intro wS
      go_simp
      try with_reducible rfl
    try simp only [Act.put, List.setIfInBounds_toArray, List.set_cons_zero, List.set_cons_succ]
    refine wpAnyL_free (i := 3) (v := ?_) (some 27) rfl rfl (by kernel_rfl) (by kernel_rfl) (by kernel_rfl) (by decide) (fun _ _ _ h => h) (Or.inl ⟨by rfl, ?_⟩) (fun h0 => by assumption) ?_
    rotate_left
    · intro wS
      go_simp
      try with_reducible rfl
    try simp only [Act.put, List.setIfInBounds_toArray, List.set_cons_zero, List.set_cons_succ]
    refine wpAnyL_take (i := 4) (v := ?_) (some 28) rfl rfl (by kernel_rfl) (by kernel_rfl) (by kernel_rfl) (by kernel_rfl) (by kernel_rfl) (fun _ _ _ h => h) (Or.inl ⟨by rfl, ?_⟩) (by assumption) ?_
    rotate_left
    · intro wS hSw
      try dsimp only at hSw
      go_simp
      try with_reducible rfl
    try simp only [Act.put, List.setIfInBounds_toArray, List.set_cons_zero, List.set_cons_succ]
    refine wpAnyL_free (i := 5) (v := ?_) (some 29) rfl rfl (by kernel_rfl) (by kernel_rfl) (by kernel_rfl) (by decide) (fun _ _ _ h => h) (Or.inl ⟨by rfl, ?_⟩) (fun h0 => by assumption) ?_
    rotate_left
    · intro wS
      go_simp
      try with_reducible rfl
    try simp only [Act.put, List.setIfInBounds_toArray, List.set_cons_zero, List.set_cons_succ]
    refine wpAnyL_take (i := 6) (v := ?_) (some 30) rfl rfl (by kernel_rfl) (by kernel_rfl) (by kernel_rfl) (by kernel_rfl) (by kernel_rfl) (fun _ _ _ h => h) (Or.inl ⟨by rfl, ?_⟩) (by assumption) ?_
    rotate_left
    · intro wS hSw
      try dsimp only at hSw
      go_simp
      try with_reducible rfl
    try simp only [Act.put, List.setIfInBounds_toArray, List.set_cons_zero, List.set_cons_succ]
    refine wpAnyL_free (i := 7) (v := ?_) (some 31) rfl rfl (by kernel_rfl) (by kernel_rfl) (by kernel_rfl) (by decide) (fun _ _ _ h => h) (Or.inl ⟨by rfl, ?_⟩) (fun h0 => by assumption) ?_
    rotate_left
    · intro wS
      go_simp
      try with_reducible rfl
    try simp only [Act.put, List.setIfInBounds_toArray, List.set_cons_zero, List.set_cons_succ]
    refine wpAnyL_ready (rs := [8]) (by kernel_rfl) (by simp) ?_
    refine AllReadyL.last rfl (by kernel_rfl) (fun K hK => ?_) AllReadyL.nil
    go_simp
    refine hK.out _ _ ?_
    clear hK K
    try simp only [Act.put, List.setIfInBounds_toArray, List.set_cons_zero, List.set_cons_succ]
    refine wpAnyL_done (by kernel_rfl) ?_ _
    refine NoPanic.normal ?_
    clear hHeld
    obtain ⟨w4, hw4⟩ : ∃ w4, (w3.setCell ⟨f, u, none⟩ (.int .i64 r)).drew = w4 := ⟨_, rfl⟩
    have HB4 : Hid (Box 2 w4 f (arrF l (fun q => if q = u then r else F2 q)).toArray) := Lib.hid (by rw [← hw4]; exact HB3.out.arr u r)
    have HE4 : Hid (ElimAt w4 eb rb g n l u d s p F R) := Lib.hid (by rw [← hw4]; exact (HE3.out.onlyV ((Only.refl (fun q => q = f) w3).setCell (p := ⟨f, u, none⟩) rfl (.int .i64 r)) (fun h => hne.1 h.symm) (fun h => hne.2.1 h.symm) (fun h => hne.2.2 h.symm)).drew)
    have HO4 : Hid (Only (fun q => q = f ∨ w.heap.size ≤ q) w w4) := Lib.hid (by rw [← hw4]; exact (HO3.out.setCell (p := ⟨f, u, none⟩) (Or.inl rfl) (.int .i64 r)).drew)
    have HV4 : Hid (OwnRow w4 w.heap.size (.slice (some ⟨f, 0, none⟩) l l) (restE p R c (eqnRow ys r n) 0)) := Lib.hid (by
      have hb := HB4.out
      rw [arrF_list (xs := eqnRow ys r n) HYL.out (fun i hi => by
        obtain ⟨q1, q2, q3, q4⟩ := eqnRow_parts ys r n
        rw [HYU.out] at q1 q2 q3 q4
        rw [← HF2.out]
        show (if i = u then r else if 0 ≤ i ∧ i < 0 + ys.length then intN ys (i - 0) else 0) = _
        by_cases h1 : i = u
        · rw [if_pos h1, h1, q2]
        · rw [if_neg h1]
          by_cases h2 : i < u
          · rw [if_pos ⟨Nat.zero_le _, by rw [Nat.zero_add, HYU.out]; exact h2⟩, Nat.sub_zero]
            have e := intN_take (x := eqnRow ys r n) h2
            rw [q1] at e
            exact e
          · rw [if_neg (by rw [Nat.zero_add, HYU.out]; omega)]
            have e := intN_drop (x := eqnRow ys r n) (u := u + 1) (i := i - (u + 1))
            rw [q3, show u + 1 + (i - (u + 1)) = i by omega, intN_at _ _ (by rw [List.length_replicate]; have := HLU.out; omega)] at e
            rw [← e]
            simp)] at hb
      have e := OwnRow.of_box (xs := eqnRow ys r n) hb HFB.out (by rw [HYL.out]; omega)
      rw [HYL.out] at e
      exact e)
    have z2 : w4.cell? ⟨eb, 2, none⟩ = some (.slice (some ⟨rb, 0, none⟩) n n) := HE4.out.box.c 2 rfl
    have z3 : w4.cell? ⟨eb, 3, none⟩ = some (.int .i64 (d : Int)) := HE4.out.box.c 3 rfl
    have hdn : (d : Int) ≤ (n : Int) := by omega
    rw [show (w3.setCell ⟨f, u, none⟩ (.int .i64 r)).drew = w4 from hw4]
    clear hw4 v1 v2 cf ff
    go_wp2_with fail
    refine wp_region_noPanic ?_
    refine wp_region_late (S := (fun w' => w'.cell? ⟨eb, 2, none⟩ = some (.slice (some ⟨rb, 0, none⟩) n n) ∧ w'.cell? ⟨eb, 3, none⟩ = some (.int .i64 (d : Int)))) [] (by kernel_rfl) ?_ (fun hHeld => ?_)
    · exact ⟨z2, z3⟩
    refine wpAnyL_free (i := 0) (v := ?_) (some 32) rfl rfl (by kernel_rfl) (by kernel_rfl) (by kernel_rfl) (by decide) (fun _ _ _ h => h) (Or.inl ⟨by rfl, ?_⟩) (fun h0 => by assumption) ?_
    rotate_left
    · intro wS
      go_simp
      try with_reducible rfl
    try simp only [Act.put, List.setIfInBounds_toArray, List.set_cons_zero, List.set_cons_succ]
    refine wpAnyL_free (i := 1) (v := ?_) (some 33) rfl rfl (by kernel_rfl) (by kernel_rfl) (by kernel_rfl) (by decide) (fun _ _ _ h => h) (Or.inl ⟨by rfl, ?_⟩) (fun h0 => by assumption) ?_
    rotate_left
    · intro wS
      go_simp
      try with_reducible rfl
    try simp only [Act.put, List.setIfInBounds_toArray, List.set_cons_zero, List.set_cons_succ]
    refine wpAnyL_free (i := 2) (v := ?_) (some 34) rfl rfl (by kernel_rfl) (by kernel_rfl) (by kernel_rfl) (by decide) (fun _ _ _ h => h) (Or.inl ⟨by rfl, ?_⟩) (fun h0 => by assumption) ?_
    rotate_left
    · intro wS
      go_simp
      try with_reducible rfl
    try simp only [Act.put, List.setIfInBounds_toArray, List.set_cons_zero, List.set_cons_succ]
    refine wpAnyL_take (i := 3) (v := ?_) (some 35) rfl rfl (by kernel_rfl) (by kernel_rfl) (by kernel_rfl) (by kernel_rfl) (by kernel_rfl) (fun _ _ _ h => h) (Or.inl ⟨by rfl, ?_⟩) (by assumption) ?_
    rotate_left
    · intro wS hSw
      try dsimp only at hSw
      go_simp
      try with_reducible rfl
    try simp only [Act.put, List.setIfInBounds_toArray, List.set_cons_zero, List.set_cons_succ]
    refine wpAnyL_free (i := 4) (v := ?_) (some 36) rfl rfl (by kernel_rfl) (by kernel_rfl) (by kernel_rfl) (by decide) (fun _ _ _ h => h) (Or.inl ⟨by rfl, ?_⟩) (fun h0 => by assumption) ?_
    rotate_left
    · intro wS
      go_simp
      try with_reducible rfl
    try simp only [Act.put, List.setIfInBounds_toArray, List.set_cons_zero, List.set_cons_succ]
    refine wpAnyL_free (i := 5) (v := ?_) (some 37) rfl rfl (by kernel_rfl) (by kernel_rfl) (by kernel_rfl) (by decide) (fun _ _ _ h => h) (Or.inl ⟨by rfl, ?_⟩) (fun h0 => by assumption) ?_
    rotate_left
    · intro wS
      go_simp
      try with_reducible rfl
    try simp only [Act.put, List.setIfInBounds_toArray, List.set_cons_zero, List.set_cons_succ]
    refine wpAnyL_free (i := 6) (v := ?_) (some 38) rfl rfl (by kernel_rfl) (by kernel_rfl) (by kernel_rfl) (by decide) (fun _ _ _ h => h) (Or.inl ⟨by rfl, ?_⟩) (fun h0 => by assumption) ?_
    rotate_left
    · intro wS
      go_simp
      try with_reducible rfl
    try simp only [Act.put, List.setIfInBounds_toArray, List.set_cons_zero, List.set_cons_succ]
    refine wpAnyL_take (i := 7) (v := ?_) (some 39) rfl rfl (by kernel_rfl) (by kernel_rfl) (by kernel_rfl) (by kernel_rfl) (by kernel_rfl) (fun _ _ _ h => h) (Or.inl ⟨by rfl, ?_⟩) (by assumption) ?_
    rotate_left
    · intro wS hSw
      try dsimp only at hSw
      go_simp
      try with_reducible rfl
    try simp only [Act.put, List.setIfInBounds_toArray, List.set_cons_zero, List.set_cons_succ]
    refine wpAnyL_free (i := 8) (v := ?_) (some 40) rfl rfl (by kernel_rfl) (by kernel_rfl) (by kernel_rfl) (by decide) (fun _ _ _ h => h) (Or.inl ⟨by rfl, ?_⟩) (fun h0 => by assumption) ?_
    rotate_left
    · intro wS
      go_simp
      try with_reducible rfl
    try simp only [Act.put, List.setIfInBounds_toArray, List.set_cons_zero, List.set_cons_succ]
    refine wpAnyL_free (i := 9) (v := ?_) (some 41) rfl rfl (by kernel_rfl) (by kernel_rfl) (by kernel_rfl) (by decide) (fun _ _ _ h => h) (Or.inl ⟨by rfl, ?_⟩) (fun h0 => by assumption) ?_
    rotate_left
    · intro wS
      go_simp
      try with_reducible rfl
    try simp only [Act.put, List.setIfInBounds_toArray, List.set_cons_zero, List.set_cons_succ]
    refine wpAnyL_free (i := 10) (v := ?_) (some 42) rfl rfl (by kernel_rfl) (by kernel_rfl) (by kernel_rfl) (by decide) (fun _ _ _ h => h) (Or.inl ⟨by rfl, ?_⟩) (fun h0 => by assumption) ?_
    rotate_left
    · intro wS
      go_simp
      try with_reducible rfl
    try simp only [Act.put, List.setIfInBounds_toArray, List.set_cons_zero, List.set_cons_succ]
    refine wpAnyL_done (by kernel_rfl) ?_ _
    refine NoPanic.normal ?_
    clear hHeld
    obtain ⟨w4d, hw4d⟩ : ∃ w4d, w4.drew = w4d := ⟨_, rfl⟩
    have HE5 := Lib.hid (HE4.out.drew)
    rw [hw4d] at HE5
    have HV5 : Hid (OwnRow w4d w.heap.size (.slice (some ⟨f, 0, none⟩) l l) (restE p R c (eqnRow ys r n) 0)) := Lib.hid (by rw [← hw4d]; exact HV4.out.below (Below.refl _ _).drew)
    have HO5 : Hid (Only (fun q => q = f ∨ w.heap.size ≤ q) w w4d) := Lib.hid (by rw [← hw4d]; exact HO4.out.drew)
    rw [show w4.drew = w4d from hw4d]
    clear hw4d z2 z3
    try simp only [ite_self]
    go_wp2
    go_loopw [42] (fun v wr => ∃ k : Nat, k ≤ d ∧ v = .int .i64 k ∧ OwnRow wr w.heap.size (.slice (some ⟨f, 0, none⟩) l l) (restE p R c (eqnRow ys r n) k) ∧ Only (fun q => q = f ∨ w.heap.size ≤ q) w wr) (fun v _ => d - (intOf v).toNat)
    case atStart => exact ⟨0, Nat.zero_le _, rfl, HV5.out, HO5.out⟩
    case round =>
      obtain ⟨k, hk, rfl, hv, ho⟩ := hrel
      have HV := Lib.hid hv
      have HOV := Lib.hid ho
      have HEK := Lib.hid (HE.out.onlyV ho (by rintro (h | h); exact hne.1 h.symm; have := HE.out.heb; omega) (by rintro (h | h); exact hne.2.1 h.symm; have := HE.out.hrb; omega) (by rintro (h | h); exact hne.2.2 h.symm; have := HE.out.rows.inn; omega))
      clear hv ho
      by_cases hlt : k < d
      · have hkd : (k : Int) < (d : Int) := by omega
        have hkn : k < n := by omega
        obtain ⟨hgl, hlow⟩ := HGD.out k hkn
        have hfit := HEK.out.rows.fits hkn
        have e0 := HEK.out.rows.at_ k hkn
        obtain ⟨so, hso⟩ : ∃ so, s k * l = so := ⟨_, rfl⟩
        obtain ⟨ck, hck⟩ : ∃ ck, c k = ck := ⟨_, rfl⟩
        rw [hso] at e0 hfit
        have HAT : Hid (∀ j, j < l → F (so + j) = intN (R k) j) := Lib.hid fun j hj => by
          rw [← HEK.out.eq k hkn, rowAtF_at hj, hso]
        have HFLAT := Lib.hid HEK.out.rows.flat
        have HRC : Hid (∀ j, j < l → wr.cell? ⟨g, so + j, none⟩ = some (.int .i64 (intN (R k) j))) := Lib.hid fun j hj => by
          have e := HFLAT.out.1 (so + j) (by omega)
          rw [HAT.out j hj] at e
          exact e
        have HRA : Hid (RowAt wr (.slice (some ⟨g, so, none⟩) l l) (R k)) := Lib.hid (by
          unfold RowAt
          rw [hgl]
          exact ⟨_, _, rfl, by omega, fun _ => ⟨g, so, rfl, fun j hj => HRC.out j hj⟩⟩)
        have HXL : Hid ((restE p R c (eqnRow ys r n) k).length = l) := Lib.hid ((restE_len _ _ _ _ _).trans HYL.out)
        have HXLOW := Lib.hid (restE_low (R := R) (c := c) (show 0 < p by omega) HLP.out k)
        have HRLOW : Hid (∀ j, j < l → 0 ≤ intN (R k) j ∧ intN (R k) j < p) := Lib.hid fun j hj => hlow.any (by omega) j
        have HGL : Hid (g < wr.heap.size) := Lib.hid HEK.out.rows.inn
        have HGF : Hid (g ≠ f) := Lib.hid (fun h => hne.2.2 h.symm)
        have x0 : wr.cell? ⟨eb, 0, none⟩ = some (modV p) := HEK.out.box.c 0 rfl
        have HFV : Hid (firstV (R k) = (ck : Int)) := Lib.hid (by rw [HPV.out.firstW hd hlt (by omega), hck])
        have hcku : ck < u := by rw [← hck]; exact HPV.out.lt k hlt
        have hcki : (ck : Int) < (l : Int) := by omega
        obtain ⟨t, ht⟩ : ∃ t, intN (restE p R c (eqnRow ys r n) k) ck = t := ⟨_, rfl⟩
        have x3 : wr.cell? ⟨f, ck, none⟩ = some (.int .i64 t) := by
          have e := HV.out.cell_of ck (by rw [HXL.out]; omega)
          rw [ht] at e
          exact e
        have htb := HXLOW.out.any (show 0 < p by omega) ck
        rw [ht] at htb
        have HTB := Lib.hid htb
        have HTE : Hid (intN (restE p R c (eqnRow ys r n) k) (c k) = t) := Lib.hid (by rw [hck]; exact ht)
        clear hgl hlow hfit hso hck ht htb
        go_wp2
        refine wp_region_noPanic ?_
        refine wp_region_late (S := (fun w' => w'.cell? ⟨eb, 0, none⟩ = some (modV p) ∧ w'.cell? ⟨f, ck, none⟩ = some (.int .i64 t) ∧ Below wr.heap.size wr w')) [11] (by kernel_rfl) ?_ (fun hHeld => ?_)
        · exact ⟨x0, x3, (QW.refl _).drew.below _⟩
        refine wpAnyL_free (i := 0) (v := ?_) (some 46) rfl rfl (by kernel_rfl) (by kernel_rfl) (by kernel_rfl) (by decide) (fun _ _ _ h => h) (Or.inl ⟨by rfl, ?_⟩) (fun h0 => by assumption) ?_
        rotate_left
        · intro wS
          go_simp
          try with_reducible rfl
        try simp only [Act.put, List.setIfInBounds_toArray, List.set_cons_zero, List.set_cons_succ]
        refine wpAnyL_free (i := 1) (v := ?_) (some 47) rfl rfl (by kernel_rfl) (by kernel_rfl) (by kernel_rfl) (by decide) (fun _ _ _ h => h) (Or.inl ⟨by rfl, ?_⟩) (fun h0 => by assumption) ?_
        rotate_left
        · intro wS
          go_simp
          try with_reducible rfl
        try simp only [Act.put, List.setIfInBounds_toArray, List.set_cons_zero, List.set_cons_succ]
        refine wpAnyL_free (i := 2) (v := ?_) (some 48) rfl rfl (by kernel_rfl) (by kernel_rfl) (by kernel_rfl) (by decide) (fun _ _ _ h => h) (Or.inl ⟨by rfl, ?_⟩) (fun h0 => by assumption) ?_
        rotate_left
        · intro wS
          go_simp
          try with_reducible rfl
        try simp only [Act.put, List.setIfInBounds_toArray, List.set_cons_zero, List.set_cons_succ]
        refine wpAnyL_take (i := 3) (v := ?_) (some 49) rfl rfl (by kernel_rfl) (by kernel_rfl) (by kernel_rfl) (by kernel_rfl) (by kernel_rfl) (fun _ _ _ h => h) (Or.inl ⟨by rfl, ?_⟩) (by assumption) ?_
        rotate_left
        · intro wS hSw
          try dsimp only at hSw
          go_simp
          try with_reducible rfl
        try simp only [Act.put, List.setIfInBounds_toArray, List.set_cons_zero, List.set_cons_succ]
        refine wpAnyL_free (i := 4) (v := ?_) (some 50) rfl rfl (by kernel_rfl) (by kernel_rfl) (by kernel_rfl) (by decide) (fun _ _ _ h => h) (Or.inl ⟨by rfl, ?_⟩) (fun h0 => by assumption) ?_
        rotate_left
        · intro wS
          go_simp
          try with_reducible rfl
        try simp only [Act.put, List.setIfInBounds_toArray, List.set_cons_zero, List.set_cons_succ]
        refine wpAnyL_free (i := 5) (v := ?_) (some 51) rfl rfl (by kernel_rfl) (by kernel_rfl) (by kernel_rfl) (by decide) (fun _ _ _ h => h) (Or.inl ⟨by rfl, ?_⟩) (fun h0 => by assumption) ?_
        rotate_left
        · intro wS
          go_simp
          try with_reducible rfl
        try simp only [Act.put, List.setIfInBounds_toArray, List.set_cons_zero, List.set_cons_succ]
        refine wpAnyL_free (i := 6) (v := ?_) (some 52) rfl rfl (by kernel_rfl) (by kernel_rfl) (by kernel_rfl) (by decide) (fun _ _ _ h => h) (Or.inl ⟨by rfl, ?_⟩) (fun h0 => by assumption) ?_
        rotate_left
        · intro wS
          go_simp
          try with_reducible rfl
        try simp only [Act.put, List.setIfInBounds_toArray, List.set_cons_zero, List.set_cons_succ]
        refine wpAnyL_free (i := 7) (v := ?_) (some 53) rfl rfl (by kernel_rfl) (by kernel_rfl) (by kernel_rfl) (by decide) (fun _ _ _ h => h) (Or.inl ⟨by rfl, ?_⟩) (fun h0 => by assumption) ?_
        rotate_left
        · intro wS
          go_simp
          try with_reducible rfl
        try simp only [Act.put, List.setIfInBounds_toArray, List.set_cons_zero, List.set_cons_succ]
        refine wpAnyL_ready (rs := [8]) (by kernel_rfl) (by simp) ?_
        refine AllReadyL.cons rfl (fun K hK => ?_) AllReadyL.nil
        go_simp; go_at_call 143; refine (beginOfC _ _ _ (HRA.out.below hHeld.2.2)).mono ?_; rw [HFV.out]; rintro e w4 ⟨rfl, rfl⟩
        refine hK.out _ _ ?_ (fun hHeld => ?_)
        · exact hHeld
        clear hK K
        try simp only [Act.put, List.setIfInBounds_toArray, List.set_cons_zero, List.set_cons_succ]
        refine wpAnyL_free (i := 9) (v := ?_) (some 55) rfl rfl (by kernel_rfl) (by kernel_rfl) (by kernel_rfl) (by decide) (fun _ _ _ h => h) (Or.inl ⟨by rfl, ?_⟩) (fun h0 => by assumption) ?_
        rotate_left
        · intro wS
          go_simp
          try with_reducible rfl
        try simp only [Act.put, List.setIfInBounds_toArray, List.set_cons_zero, List.set_cons_succ]
        refine wpAnyL_take (i := 10) (v := ?_) (some 56) rfl rfl (by kernel_rfl) (by kernel_rfl) (by kernel_rfl) (by kernel_rfl) (by kernel_rfl) (fun _ _ _ h => h) (Or.inl ⟨by rfl, ?_⟩) (by assumption) ?_
        rotate_left
        · intro wS hSw
          try dsimp only at hSw
          go_simp
          try with_reducible rfl
        try simp only [Act.put, List.setIfInBounds_toArray, List.set_cons_zero, List.set_cons_succ]
        refine wpAnyL_ready (rs := [11]) (by kernel_rfl) (by simp) ?_
        refine AllReadyL.last rfl (by kernel_rfl) (fun K hK => ?_) AllReadyL.nil
        go_simp; go_at_call 146; refine (takeAwayR p f _ l l g so l t _ (R k) _ HP.out (HV.out.below hHeld.2.2) (fun j hj => below_cell hHeld.2.2 (HRC.out j hj)) (Nat.lt_of_lt_of_le HGL.out hHeld.2.2.size) HGF.out HXL.out HXLOW.out HRLOW.out HTB.out (by omega)).mono ?_; rintro e w5 ⟨rfl, ho5, hn5⟩
        refine hK.out _ _ ?_
        clear hK K
        try simp only [Act.put, List.setIfInBounds_toArray, List.set_cons_zero, List.set_cons_succ]
        refine wpAnyL_done (by kernel_rfl) ?_ _
        refine NoPanic.normal ?_
        have HX6 : Hid (OwnRow w5 w.heap.size (.slice (some ⟨f, 0, none⟩) l l) (restE p R c (eqnRow ys r n) (k + 1))) := Lib.hid (by
          show OwnRow w5 w.heap.size (.slice (some ⟨f, 0, none⟩) l l) (rowSub p (intN (restE p R c (eqnRow ys r n) k) (c k)) (restE p R c (eqnRow ys r n) k) (R k))
          rw [HTE.out]
          exact ho5)
        have HO6 := Lib.hid ((HOV.out.trans (hHeld.2.2.only)).trans (hn5.mono (fun q h => Or.inl h)))
        clear hHeld ho5 hn5 x0 x3
        go_wp2
        go_roundw
        case rel => exact ⟨k + 1, by omega, by go_num, HX6.out, HO6.out⟩
        case measure => simp [intOf]; omega
      · obtain rfl : k = d := by omega
        have HBF := Lib.hid (HOV.out.below (Nat.le_refl _) (fun q hq => by rcases hq with rfl | h; exact HFB.out; exact h))
        go_wp2
        go_ret
        exact ⟨f, rfl, HV.out, HBF.out⟩

end Go.Proofs.Ytnbgpeoceejolaa

namespace Go.Proofs.Ytnbgpeoceejolaa
open Go.RowKit

theorem DerivationOfIs.small {p u : Int} {rs : List (Int × List Int)} {ys zs : List Int} {r cd : Int} (h : DerivationOfIs p u rs ys r zs cd) : zs.length ≤ 1048576 := by
  rcases h with ⟨_, _, _, rfl, _⟩ | ⟨h1, h2, h⟩
  · simp
  · obtain ⟨un, rfl⟩ := h1.unat
    simp only [Int.toNat_natCast] at h
    rcases h with ⟨_, _, rfl, _⟩ | ⟨_, _, rfl, _⟩ | ⟨_, rfl, _⟩
    · rw [rowScale_len, List.length_drop]
      unfold restD
      rw [restE_len, (eqnRow_parts _ _ _).2.2.2]
      have h24 := h1.2.2.1
      have hu := h1.2.1
      unfold InP at hu
      have := h2.1
      omega
    · simp
    · simp

set_option linter.unusedSimpArgs false in
set_option maxHeartbeats 4000000 in
set_option maxRecDepth 100000 in
theorem implDerivationOf (p u : Int) (a : Option Addr) (n c : Nat) (rs : List (Int × List Int)) (r : Int) (qa : Option Addr) (qn qc : Nat) (ys : List Int) (zs : List Int) (cd : Int) (w : World) (h : EqsAt w (.slice a n c) rs) (hq : RowAt w (.slice qa qn qc) ys) (hi : DerivationOfIs p u rs ys r zs cd) :
    Calls Try.prog 36 #[.agg #[.int .i64 p, .int .i64 u, .slice a n c], .agg #[.slice qa qn qc, .int .i64 r]] w (MadeRow2 w zs cd) := by
  have hbx := Box.new 30 w #[.int .i64 p, .int .i64 u, .slice a n c]
  have HW1 : Hid (Below w.heap.size w (w.alloc (.cells #[.int .i64 p, .int .i64 u, .slice a n c] 30))) := Lib.hid ((Below.refl _ _).alloc (Nat.le_refl _) _)
  obtain ⟨sb, hsb⟩ : ∃ sb, w.heap.size = sb := ⟨_, rfl⟩
  obtain ⟨w1, hw1⟩ : ∃ w1, w.alloc (.cells #[.int .i64 p, .int .i64 u, .slice a n c] 30) = w1 := ⟨_, rfl⟩
  rw [hw1] at HW1 hbx
  have hby := Box.new 46 w1 #[.slice qa qn qc, .int .i64 r]
  have HW2 := Lib.hid ((Below.refl w1.heap.size w1).alloc (Nat.le_refl _) (.cells #[.slice qa qn qc, .int .i64 r] 46))
  obtain ⟨qb, hqb⟩ : ∃ qb, w1.heap.size = qb := ⟨_, rfl⟩
  obtain ⟨w2, hw2⟩ : ∃ w2, w1.alloc (.cells #[.slice qa qn qc, .int .i64 r] 46) = w2 := ⟨_, rfl⟩
  rw [hw2] at HW2 hby
  have HBS := Lib.hid (hbx.below HW2.out)
  have HBQ := Lib.hid hby
  have HEQ := Lib.hid ((h.below HW1.out).below HW2.out)
  have HRO := Lib.hid ((hq.below HW1.out).below HW2.out)
  have HW3 := Lib.hid (HW1.out.trans (HW2.out.mono HW1.out.size))
  rw [hsb] at HBS
  rw [hqb] at HBQ
  have HSB := Lib.hid hsb
  have x0 := HBS.out.c 0 rfl
  have x1 := HBS.out.c 1 rfl
  have x2 := HBS.out.c 2 rfl
  have v0 := HBQ.out.c 0 rfl
  have v1 := HBQ.out.c 1 rfl
  have HI := Lib.hid hi
  clear h hq hi hbx hby
  go_enter Try.func36, Try.ntmps36
  go_wp2_with fail
  try simp only [hsb]
  try rw [hw1]
  try simp only [hqb]
  try rw [hw2]
  clear hw1 hw2 hqb
  by_cases hok : SysOk p u rs
  · have HOK := Lib.hid hok
    obtain ⟨un, rfl⟩ := hok.unat
    have hn24 := hok.2.2.1
    have hu12 : 1 ≤ un ∧ un ≤ 12 := by have := hok.2.1; unfold InP at this; omega
    clear hok
    refine (implValidSystem _ _ _ _ _ rs true _ HEQ.out (Tells.yes HOK.out)).mono ?_
    rintro e w3 ⟨rfl, hb3⟩
    have HEQ3 := Lib.hid (HEQ.out.below hb3)
    have HRO3 := Lib.hid (HRO.out.below hb3)
    have HW4 := Lib.hid (HW3.out.trans (hb3.mono HW3.out.size))
    have x0' := below_cell hb3 x0
    have x1' := below_cell hb3 x1
    have x2' := below_cell hb3 x2
    have v0' := below_cell hb3 v0
    have v1' := below_cell hb3 v1
    clear hb3 x0 x1 x2 v0 v1
    by_cases hqk : EqnOk p un r ys
    · have HQK := Lib.hid hqk
      have hv := HI.out.good HOK.out hqk
      simp only [Int.toNat_natCast] at hv
      have HV := Lib.hid hv
      clear hqk hv
      go_wp2_with fail
      refine (isEquationC p un r qa qn qc ys true _ HRO3.out (Tells.yes HQK.out)).mono ?_
      rintro e w4 ⟨rfl, hb4⟩
      have HEQ4 := Lib.hid (HEQ3.out.below hb4)
      have HRO4 := Lib.hid (HRO3.out.below hb4)
      have HW5 := Lib.hid (HW4.out.trans (hb4.mono HW4.out.size))
      have x0 := below_cell hb4 x0'
      have x1 := below_cell hb4 x1'
      have x2 := below_cell hb4 x2'
      have v0 := below_cell hb4 v0'
      have v1 := below_cell hb4 v1'
      clear hb4 x0' x1' x2' v0' v1'
      go_wp2_with fail
      refine (eliminationOfC p un a n c rs _ HEQ4.out HOK.out).mono ?_
      rintro e w5 ⟨eb, rb, g, s, F, rfl, he, hge, _, hebe, hb5⟩
      have HE := Lib.hid he
      have HRO5 := Lib.hid ((HRO4.out.below hb5).below (Below.refl _ _).drew)
      have HW6 := Lib.hid ((HW5.out.trans (hb5.mono HW5.out.size)).drew)
      have x0' : w5.drew.cell? ⟨sb, 0, none⟩ = some (.int .i64 p) := below_cell hb5 x0
      have x1' : w5.drew.cell? ⟨sb, 1, none⟩ = some (.int .i64 (un : Int)) := below_cell hb5 x1
      have v0' : w5.drew.cell? ⟨qb, 0, none⟩ = some (.slice qa qn qc) := below_cell hb5 v0
      have v1' : w5.drew.cell? ⟨qb, 1, none⟩ = some (.int .i64 r) := below_cell hb5 v1
      have HGD := Lib.hid HOK.out.good
      have HPV := Lib.hid (sysOk_piv HOK.out)
      have hdn := HOK.out.dn
      have HP := Lib.hid HOK.out.1
      have hp3 : 2 ≤ p ∧ p ≤ 3 := by rcases HOK.out.1 with rfl | rfl <;> omega
      have HRD : Hid (restD p un rs r ys = restE p (elimE p rs.length (row0 rs) un).1 (pivE (elimE p rs.length (row0 rs) un).1 un) (eqnRow ys r rs.length) (elimE p rs.length (row0 rs) un).2) := Lib.hid rfl
      have HNA : Hid (NoAns p un rs ↔ ∃ j, (elimE p rs.length (row0 rs) un).2 ≤ j ∧ j < rs.length ∧ intN ((elimE p rs.length (row0 rs) un).1 j) un ≠ 0) := Lib.hid Iff.rfl
      clear he hb5 x0 x1 x2 v0 v1
      obtain ⟨S, hS⟩ : ∃ S, elimE p rs.length (row0 rs) un = S := ⟨_, rfl⟩
      obtain ⟨R, d⟩ := S
      rw [hS] at hdn HGD HPV HE HRD HNA
      clear hS
      obtain ⟨b, hb⟩ := Tells.exists (¬ ∃ j, d ≤ j ∧ j < rs.length ∧ intN (R j) un ≠ 0)
      have HB := Lib.hid hb
      clear hb
      go_wp2_with fail
      refine (hasAnswersC eb rb g rs.length (un + 1 + rs.length) un d s p F R b _ HE.out (by omega) hdn (by omega) HB.out).mono ?_
      rintro e w6 ⟨rfl, rfl⟩
      obtain ⟨w6, hw6⟩ : ∃ w6, w5.drew = w6 := ⟨_, rfl⟩
      have HE6 := Lib.hid HE.out.drew
      rw [hw6] at HE6 HW6 x0' x1' v0' v1' HRO5
      rw [show w5.drew = w6 from hw6]
      clear hw6
      cases b with
      | true =>
        have HNO : Hid (¬ NoAns p un rs) := Lib.hid fun h => HB.out.1 rfl (HNA.out.1 h)
        obtain ⟨l, hl⟩ : ∃ l, un + 1 + rs.length = l := ⟨_, rfl⟩
        rw [hl] at HE6 HGD
        have HLU := Lib.hid hl.symm
        clear hl
        go_wp2_with fail
        refine (restC eb rb g rs.length l un d s p F R (pivE R un) qa qn qc r ys _ HP.out HE6.out HLU.out hdn hn24 hu12 HPV.out HGD.out HRO5.out HQK.out).mono ?_
        rintro e w7 ⟨f, rfl, ho7, hb7⟩
        obtain ⟨xl, hxl⟩ : ∃ xl, restE p R (pivE R un) (eqnRow ys r rs.length) d = xl := ⟨_, rfl⟩
        have HXL : Hid (xl.length = l) := Lib.hid (by
          rw [← hxl, restE_len, (eqnRow_parts ys r rs.length).2.2.2, HLU.out]
          have := HQK.out.1
          omega)
        have HXLOW : Hid (LowP p xl) := Lib.hid (by rw [← hxl]; exact restE_low (by omega) (eqnRow_low HQK.out hp3.1) d)
        rw [hxl] at ho7 HRD
        have HO7 := Lib.hid ho7
        have HW7 := Lib.hid (HW6.out.trans (hb7.mono HW6.out.size))
        have HE7 := Lib.hid (HE6.out.below hb7)
        have x0 := below_cell hb7 x0'
        have x1 := below_cell hb7 x1'
        have hwr : IntKind.i64.wrap ((un : Int) + 1) = ((un + 1 : Nat) : Int) := by rw [IntWalk.i64_in _ (by omega)]; rfl
        have hl1 : un + 1 ≤ l := by have := HLU.out; omega
        have hl2 : ((un + 1 : Nat) : Int) ≤ (l : Int) := by omega
        have hl3 : (un : Int) + 1 ≤ (l : Int) := by omega
        have hl37 : l ≤ 37 := by have := HLU.out; omega
        have hll : l - (un + 1) = rs.length := by have := HLU.out; omega
        have HTL : Hid ((xl.take (un + 1)).length = un + 1) := Lib.hid (by rw [List.length_take, HXL.out]; omega)
        have HRW : Hid (RowAt w7 (.slice (some ⟨f, 0, none⟩) (un + 1) l) (xl.take (un + 1))) := Lib.hid (by
          unfold RowAt
          rw [HTL.out]
          refine ⟨_, _, rfl, by omega, fun _ => ⟨f, 0, rfl, fun j hj => ?_⟩⟩
          have e := HO7.out.cell_of j (by rw [HXL.out]; omega)
          rw [Nat.zero_add]
          show w7.cell? ⟨f, j, none⟩ = some (.int .i64 (intN (xl.take (un + 1)) j))
          rw [intN_take hj]
          exact e)
        have HZT : Hid ((∀ j, j < (xl.take (un + 1)).length → intN (xl.take (un + 1)) j = 0) ↔ ∀ j, j < un + 1 → intN (restD p un rs r ys) j = 0) := Lib.hid (by
          rw [HTL.out, HRD.out]
          exact ⟨fun h j hj => by rw [← intN_take hj]; exact h j hj, fun h j hj => by rw [intN_take hj]; exact h j hj⟩)
        obtain ⟨bz, hbz⟩ := Tells.exists (∀ j, j < (xl.take (un + 1)).length → intN (xl.take (un + 1)) j = 0)
        have HBZ := Lib.hid hbz
        clear hxl ho7 hb7 x0' x1' v0' v1' hbz
        go_wp2_with fail
        refine (containsNZ2 _ (xl.take (un + 1)) bz _ HRW.out HBZ.out).mono ?_
        rintro e w8' ⟨rfl, rfl⟩
        cases bz with
        | true =>
          have hz := HZT.out.1 (HBZ.out.1 rfl)
          obtain ⟨hzs, hcd⟩ : zs = rowScale p (p - 1) (xl.drop (un + 1)) ∧ cd = 0 := by
            rcases HV.out with ⟨_, _, h1, h2⟩ | ⟨_, h1, _⟩ | ⟨h1, _⟩
            · rw [HRD.out] at h1
              exact ⟨h1, h2⟩
            · exact absurd hz h1
            · exact absurd h1 HNO.out
          have HZS := Lib.hid hzs
          have HCD := Lib.hid hcd
          have HDL : Hid ((xl.drop (un + 1)).length = rs.length) := Lib.hid (by rw [List.length_drop, HXL.out]; exact hll)
          have HLD := Lib.hid (HXLOW.out.drop (un + 1))
          have HT : Hid (0 ≤ p - 1 ∧ p - 1 < p) := Lib.hid (by omega)
          have HWG : Hid (w.heap.size ≤ w7.heap.size) := Lib.hid HW7.out.size
          have hpm : IntKind.i64.wrap (p - 1) = p - 1 := IntWalk.i64_in _ (by omega)
          obtain ⟨so, hso⟩ : ∃ so, (if l = un + 1 then 0 else un + 1) = so := ⟨_, rfl⟩
          have hadr : (if l = un + 1 then (some ⟨f, 0, none⟩ : Option Addr) else some ⟨f, un + 1, none⟩) = some ⟨f, so, none⟩ := by
            rw [← hso]
            split <;> rfl
          have HCL : Hid (∀ j, j < (xl.drop (un + 1)).length → w7.cell? ⟨f, so + j, none⟩ = some (.int .i64 (intN (xl.drop (un + 1)) j))) := Lib.hid (fun j hj => by
            rw [HDL.out] at hj
            have hne : ¬ l = un + 1 := by omega
            rw [← hso, if_neg hne, intN_drop]
            exact HO7.out.cell_of (un + 1 + j) (by rw [HXL.out]; omega))
          have HMOD : Hid (w7.cell? ⟨eb, 0, none⟩ = some (modV p)) := Lib.hid (HE7.out.box.c 0 rfl)
          clear hz hzs hcd hso
          go_wp2_with fail
          try rw [hadr]
          rw [← HDL.out]
          refine (cloneAny f so _ (xl.drop (un + 1)) _ HCL.out (by rw [HDL.out]; omega)).mono ?_
          rintro e w8 ⟨g5, c5, rfl, ho5, hb5⟩
          rw [HDL.out] at ho5 ⊢
          have hg5 := (ho5.lt g5 (by simp [Value.ownBlock])).1
          have HG5 : Hid (w.heap.size ≤ g5) := Lib.hid (Nat.le_trans HWG.out hg5)
          have HO5 := Lib.hid ho5
          have z0 := below_cell hb5 HMOD.out
          have z1 := below_cell hb5 x0
          have HW8 := Lib.hid (HW7.out.trans (hb5.mono HWG.out))
          clear ho5 hb5 hg5 x0 x1
          go_wp2_with fail
          refine wp_region_noPanic ?_
          refine wp_region_late (S := (fun w' => w'.cell? ⟨eb, 0, none⟩ = some (modV p) ∧ w'.cell? ⟨sb, 0, none⟩ = some (.int .i64 p) ∧ Below w8.heap.size w8 w')) [8] (by kernel_rfl) ?_ (fun hHeld => ?_)
          · exact ⟨z0, z1, (QW.refl _).drew.below _⟩
          refine wpAnyL_free (i := 0) (v := ?_) (some 39) rfl rfl (by kernel_rfl) (by kernel_rfl) (by kernel_rfl) (by decide) (fun _ _ _ h => h) (Or.inl ⟨by rfl, ?_⟩) (fun h0 => by assumption) ?_
          rotate_left
          · intro wS
            go_simp
            try with_reducible rfl
          try simp only [Act.put, List.setIfInBounds_toArray, List.set_cons_zero, List.set_cons_succ]
          refine wpAnyL_free (i := 1) (v := ?_) (some 40) rfl rfl (by kernel_rfl) (by kernel_rfl) (by kernel_rfl) (by decide) (fun _ _ _ h => h) (Or.inl ⟨by rfl, ?_⟩) (fun h0 => by assumption) ?_
          rotate_left
          · intro wS
            go_simp
            try with_reducible rfl
          try simp only [Act.put, List.setIfInBounds_toArray, List.set_cons_zero, List.set_cons_succ]
          refine wpAnyL_free (i := 2) (v := ?_) (some 41) rfl rfl (by kernel_rfl) (by kernel_rfl) (by kernel_rfl) (by decide) (fun _ _ _ h => h) (Or.inl ⟨by rfl, ?_⟩) (fun h0 => by assumption) ?_
          rotate_left
          · intro wS
            go_simp
            try with_reducible rfl
          try simp only [Act.put, List.setIfInBounds_toArray, List.set_cons_zero, List.set_cons_succ]
          refine wpAnyL_take (i := 3) (v := ?_) (some 42) rfl rfl (by kernel_rfl) (by kernel_rfl) (by kernel_rfl) (by kernel_rfl) (by kernel_rfl) (fun _ _ _ h => h) (Or.inl ⟨by rfl, ?_⟩) (by assumption) ?_
          rotate_left
          · intro wS hSw
            try dsimp only at hSw
            go_simp
            try with_reducible rfl
          try simp only [Act.put, List.setIfInBounds_toArray, List.set_cons_zero, List.set_cons_succ]
          refine wpAnyL_free (i := 4) (v := ?_) (some 43) rfl rfl (by kernel_rfl) (by kernel_rfl) (by kernel_rfl) (by decide) (fun _ _ _ h => h) (Or.inl ⟨by rfl, ?_⟩) (fun h0 => by assumption) ?_
          rotate_left
          · intro wS
            go_simp
            try with_reducible rfl
          try simp only [Act.put, List.setIfInBounds_toArray, List.set_cons_zero, List.set_cons_succ]
          refine wpAnyL_free (i := 5) (v := ?_) (some 44) rfl rfl (by kernel_rfl) (by kernel_rfl) (by kernel_rfl) (by decide) (fun _ _ _ h => h) (Or.inl ⟨by rfl, ?_⟩) (fun h0 => by assumption) ?_
          rotate_left
          · intro wS
            go_simp
            try with_reducible rfl
          try simp only [Act.put, List.setIfInBounds_toArray, List.set_cons_zero, List.set_cons_succ]
          refine wpAnyL_take (i := 6) (v := ?_) (some 45) rfl rfl (by kernel_rfl) (by kernel_rfl) (by kernel_rfl) (by kernel_rfl) (by kernel_rfl) (fun _ _ _ h => h) (Or.inl ⟨by rfl, ?_⟩) (by assumption) ?_
          rotate_left
          · intro wS hSw
            try dsimp only at hSw
            go_simp
            try with_reducible rfl
          try simp only [Act.put, List.setIfInBounds_toArray, List.set_cons_zero, List.set_cons_succ]
          refine wpAnyL_free (i := 7) (v := ?_) (some 46) rfl rfl (by kernel_rfl) (by kernel_rfl) (by kernel_rfl) (by decide) (fun _ _ _ h => h) (Or.inl ⟨by rfl, ?_⟩) (fun h0 => by assumption) ?_
          rotate_left
          · intro wS
            go_simp
            try with_reducible rfl
          try simp only [Act.put, List.setIfInBounds_toArray, List.set_cons_zero, List.set_cons_succ]
          refine wpAnyL_ready (rs := [8]) (by kernel_rfl) (by simp) ?_
          refine AllReadyL.last rfl (by kernel_rfl) (fun K hK => ?_) AllReadyL.nil
          go_simp; go_at_call 86; refine (dividedR p g5 _ rs.length c5 (p - 1) _ _ HP.out (HO5.out.below hHeld.2.2) HDL.out HLD.out HT.out (by omega)).mono ?_; rintro e w9 ⟨rfl, ho9, hn9⟩
          refine hK.out _ _ ?_
          clear hK K
          try simp only [Act.put, List.setIfInBounds_toArray, List.set_cons_zero, List.set_cons_succ]
          refine wpAnyL_done (by kernel_rfl) ?_ _
          refine NoPanic.normal ?_
          have HW9 := Lib.hid ((HW8.out.trans (hHeld.2.2.mono HW8.out.size)).trans (hn9.below (Nat.le_trans HW8.out.size hHeld.2.2.size) (fun q hq => by have := HG5.out; omega)))
          have HO9 := Lib.hid ho9
          clear hHeld ho9 hn9 z0 z1
          go_wp2
          go_ret2
          refine ⟨some ⟨g5, 0, none⟩, rs.length, c5, ?_, ?_, HW9.out⟩
          · rw [HCD.out]; rfl
          · rw [HZS.out]
            exact (HO9.out.mono HWG.out).full
        | false =>
          have hz : ¬ ∀ j, j < un + 1 → intN (restD p un rs r ys) j = 0 := fun h => absurd (HBZ.out.2 (HZT.out.2 h)) (by simp)
          obtain ⟨rfl, rfl⟩ : zs = [] ∧ cd = 6 := by
            rcases HV.out with ⟨_, h1, _⟩ | ⟨_, _, h1, h2⟩ | ⟨h1, _⟩
            · exact absurd h1 hz
            · exact ⟨h1, h2⟩
            · exact absurd h1 HNO.out
          clear hz
          go_wp2
          go_ret2
          exact ⟨_, _, _, rfl, OwnRowE.nil _ _ _ (Nat.le_refl _), HW7.out⟩
      | false =>
        have hnn : NoAns p un rs := HNA.out.2 (Classical.not_not.1 fun h => absurd (HB.out.2 h) (by simp))
        obtain ⟨rfl, rfl⟩ : zs = [] ∧ cd = 4 := by
          rcases HV.out with ⟨h1, _⟩ | ⟨h1, _⟩ | ⟨_, h1, h2⟩
          · exact absurd hnn h1
          · exact absurd hnn h1
          · exact ⟨h1, h2⟩
        clear hnn
        go_wp2
        go_ret2
        exact ⟨_, _, _, rfl, OwnRowE.nil _ _ _ (Nat.le_refl _), HW6.out⟩
    · obtain ⟨rfl, hcd⟩ := HI.out.bad (k := 2) (.inr (.inl ⟨HOK.out, hqk, rfl⟩)) (by decide)
      have HCD := Lib.hid hcd
      have HQK := Lib.hid hqk
      clear hcd hqk
      go_wp2_with fail
      refine (isEquationC p un r qa qn qc ys false _ HRO3.out (Tells.no HQK.out)).mono ?_
      rintro e w4 ⟨rfl, hb4⟩
      have HW5 := Lib.hid (HW4.out.trans (hb4.mono HW4.out.size))
      clear hb4
      go_wp2
      go_ret2
      exact ⟨none, 0, 0, by rw [HCD.out]; rfl, OwnRowE.nil _ _ _ (Nat.le_refl _), HW5.out⟩
  · have HOK := Lib.hid hok
    obtain ⟨rfl, hcd⟩ := HI.out.bad (k := 1) (.inl ⟨hok, rfl⟩) (by decide)
    have HCD := Lib.hid hcd
    clear hok hcd
    refine (implValidSystem _ _ _ _ _ rs false _ HEQ.out (Tells.no HOK.out)).mono ?_
    rintro e w3 ⟨rfl, hb3⟩
    have HW4 := Lib.hid (HW3.out.trans (hb3.mono HW3.out.size))
    clear hb3
    go_wp2
    go_ret2
    exact ⟨none, 0, 0, by rw [HCD.out]; rfl, OwnRowE.nil _ _ _ (Nat.le_refl _), HW4.out⟩

set_option linter.unusedSimpArgs false in
set_option maxHeartbeats 4000000 in
set_option maxRecDepth 100000 in
theorem implFollows (p u : Int) (a : Option Addr) (n c : Nat) (rs : List (Int × List Int)) (r : Int) (qa : Option Addr) (qn qc : Nat) (ys : List Int) (b : Bool) (cd : Int) (w : World) (h : EqsAt w (.slice a n c) rs) (hq : RowAt w (.slice qa qn qc) ys) (hi : FollowsIs p u rs ys r b cd) :
    Calls Try.prog 40 #[.agg #[.int .i64 p, .int .i64 u, .slice a n c], .agg #[.slice qa qn qc, .int .i64 r]] w fun e w' => e = .returned (.tuple #[.bool b, .int .i64 cd]) ∧ Below w.heap.size w w' := by
  have hbx := Box.new 30 w #[.int .i64 p, .int .i64 u, .slice a n c]
  have HW1 : Hid (Below w.heap.size w (w.alloc (.cells #[.int .i64 p, .int .i64 u, .slice a n c] 30))) := Lib.hid ((Below.refl _ _).alloc (Nat.le_refl _) _)
  obtain ⟨sb, hsb⟩ : ∃ sb, w.heap.size = sb := ⟨_, rfl⟩
  obtain ⟨w1, hw1⟩ : ∃ w1, w.alloc (.cells #[.int .i64 p, .int .i64 u, .slice a n c] 30) = w1 := ⟨_, rfl⟩
  rw [hw1] at HW1 hbx
  have hby := Box.new 46 w1 #[.slice qa qn qc, .int .i64 r]
  have HW2 := Lib.hid ((Below.refl w1.heap.size w1).alloc (Nat.le_refl _) (.cells #[.slice qa qn qc, .int .i64 r] 46))
  obtain ⟨qb, hqb⟩ : ∃ qb, w1.heap.size = qb := ⟨_, rfl⟩
  obtain ⟨w2, hw2⟩ : ∃ w2, w1.alloc (.cells #[.slice qa qn qc, .int .i64 r] 46) = w2 := ⟨_, rfl⟩
  rw [hw2] at HW2 hby
  have HBS := Lib.hid (hbx.below HW2.out)
  have HBQ := Lib.hid hby
  have HEQ := Lib.hid ((h.below HW1.out).below HW2.out)
  have HRO := Lib.hid ((hq.below HW1.out).below HW2.out)
  have HW3 := Lib.hid (HW1.out.trans (HW2.out.mono HW1.out.size))
  rw [hsb] at HBS
  rw [hqb] at HBQ
  have x0 := HBS.out.c 0 rfl
  have x1 := HBS.out.c 1 rfl
  have x2 := HBS.out.c 2 rfl
  have v0 := HBQ.out.c 0 rfl
  have v1 := HBQ.out.c 1 rfl
  obtain ⟨zs, cc, hdi, hcs⟩ := hi
  have HCS := Lib.hid hcs
  have HDI := Lib.hid hdi
  have HC5 := Lib.hid hdi.codes
  clear h hq hbx hby hdi hcs
  go_enter Try.func40, Try.ntmps40
  go_wp2_with fail
  try simp only [hsb]
  try rw [hw1]
  try simp only [hqb]
  try rw [hw2]
  clear hw1 hw2 hqb
  refine (implDerivationOf p u a n c rs r qa qn qc ys zs cc _ HEQ.out HRO.out HDI.out).mono ?_
  rintro e w3 ⟨a5, n5, c5, rfl, _, hb5⟩
  have HW5 := Lib.hid (HW3.out.trans (hb5.mono HW3.out.size))
  clear hb5 x0 x1 x2 v0 v1
  rcases HC5.out with (rfl | rfl) | (rfl | rfl) | rfl
  all_goals
    go_wp2
    go_ret2
    rcases HCS.out with ⟨h, h1, h2⟩ | ⟨h, h1, h2⟩ | ⟨h, h1, h2⟩
    all_goals first
      | exact absurd h (by decide)
      | (subst h1; subst h2; exact ⟨rfl, HW5.out⟩)

end Go.Proofs.Ytnbgpeoceejolaa
