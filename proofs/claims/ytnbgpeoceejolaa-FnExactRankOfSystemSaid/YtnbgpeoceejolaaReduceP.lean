/-
  (*elimination).reduce of the program.
-/
import Derived.Test.YtnbgpeoceejolaaFindRow
import Derived.WalkMore
import Derived.ScopeJumps
namespace Go.Proofs.Ytnbgpeoceejolaa
open Go.RowKit

theorem scope_back {P : Program} {a : Act} {w : World} {Q : Exit → Act → World → Prop} {c rest : Code} (l : Nat) (J : Act → World → Prop) (μ : Act → World → Nat) (hf : findLabel c l = some (Code.skip.seq rest))
    (pass : ∀ a w, J a w → rest.wp P (Exit.jump l (fun a' w' => J a' w' ∧ μ a' w' < μ a w) Q) a w)
    (first : (∀ a w, J a w → rest.wp P (Exit.jump l J Q) a w) → c.wp P (Exit.jump l J Q) a w) : (Code.scope c).wp P Q a w :=
  wp_scope_jumps l J μ hf (first fun a w h => Code.wp_mono (fun e a w hq => by
    cases e with
    | goto l' => exact ⟨hq.1, hq.2.1⟩
    | _ => exact hq) (pass a w h)) fun a w h => wp_seq (wp_skip (pass a w h))

/-- Where the elimination stands when c unknowns have been looked at. -/
structure RedAt (w wr : World) (eb ub rb rc g N n l u : Nat) (p : Int) (R0 : Nat → List Int) (c d : Nat) (s' : Nat → Nat) (Fk : Nat → Int) : Prop where
  cu : c ≤ u
  cell : wr.cell? ⟨ub, 0, none⟩ = some (.int .i64 (c : Int))
  frz : wr.frozen? ⟨ub, 0, none⟩ = false
  box : Box 114 wr eb #[modV p, .int .i64 (u : Int), .slice (some ⟨rb, 0, none⟩) n rc, .int .i64 (d : Int)]
  rows : PRows wr rb g N n l s' p Fk
  eq : ∀ i, i < n → rowAtF Fk s' l i = (elimE p n R0 c).1 i
  done : (elimE p n R0 c).2 = d
  dn : d ≤ n
  only : Only (fun q => q = g ∨ q = rb ∨ q = eb ∨ w.heap.size ≤ q) w wr

theorem PRows.other {w : World} {rb g N n l : Nat} {s : Nat → Nat} {p : Int} {F : Nat → Int} (h : PRows w rb g N n l s p F) {b o : Nat} (h1 : b ≠ rb) (h2 : b ≠ g) (v : Value) : PRows (w.setCell ⟨b, o, none⟩ v) rb g N n l s p F :=
  ⟨fun i hi => (World.cell?_setCell_other _ _ _ _ (by intro e; simp only [Addr.mk.injEq] at e; omega)).trans (h.at_ i hi), fun q => by simpa using h.frz q, h.flat.same (Below.heap_setCell _ _ _ _ (Ne.symm h2)), h.low, h.lt, h.inj, h.ne, h.fit, by simpa using h.inn⟩
theorem clearK_congr {p : Int} {R R' : Nat → List Int} {d c n : Nat} (h : ∀ i, i < n → R i = R' i) (hd : d < n) {i : Nat} (hi : i < n) : clearK p R d c n i = clearK p R' d c n i := by
  unfold clearK
  rw [h i hi, h d hd]
theorem swapF_congr {R R' : Nat → List Int} {a b n : Nat} (h : ∀ i, i < n → R i = R' i) (ha : a < n) (hb : b < n) {i : Nat} (hi : i < n) : swapF R a b i = swapF R' a b i := by
  unfold swapF
  rw [h i hi, h a ha, h b hb]
theorem RedAt.next {w wr w5 : World} {eb ub rb rc g N n l u : Nat} {p : Int} {R0 : Nat → List Int} {c d d2 : Nat} {s' s2 : Nat → Nat} {Fk F2 : Nat → Int} (_hj : RedAt w wr eb ub rb rc g N n l u p R0 c d s' Fk) (hc : c < u) (hb : Box 114 w5 eb #[modV p, .int .i64 (u : Int), .slice (some ⟨rb, 0, none⟩) n rc, .int .i64 (d2 : Int)]) (hr : PRows w5 rb g N n l s2 p F2)
    (heq : ∀ i, i < n → rowAtF F2 s2 l i = (elimE p n R0 (c + 1)).1 i) (hd : (elimE p n R0 (c + 1)).2 = d2) (hdn : d2 ≤ n) (ho : Only (fun q => q = g ∨ q = rb ∨ q = eb ∨ w.heap.size ≤ q) w w5) (hcell : w5.cell? ⟨ub, 0, none⟩ = some (.int .i64 (c : Int))) (hfz : w5.frozen? ⟨ub, 0, none⟩ = false)
    (hub : w.heap.size ≤ ub) (h1 : ub ≠ rb) (h2 : ub ≠ g) (h3 : ub ≠ eb) : RedAt w (w5.setCell ⟨ub, 0, none⟩ (.int .i64 ((c : Int) + 1))) eb ub rb rc g N n l u p R0 (c + 1) d2 s2 F2 :=
  ⟨hc, World.cell?_setCell_same _ _ _ hcell, by simpa using hfz, hb.other (Ne.symm h3) _, hr.other h1 h2 _, heq, hd, hdn, ho.setCell (p := ⟨ub, 0, none⟩) (Or.inr (Or.inr (Or.inr hub))) _⟩

theorem red_lt {o1 o2 : Option Value} {c u : Nat} (h1 : o1 = some (.int .i64 ((c + 1 : Nat) : Int))) (h2 : o2 = some (.int .i64 (c : Int))) (hc : c ≤ u) (hne : ¬ c = u) : u - (intOf (o1.getD undef)).toNat < u - (intOf (o2.getD undef)).toNat := by
  subst h1
  subst h2
  simp only [Option.getD_some, intOf]
  omega

set_option linter.unusedSimpArgs false in
set_option maxHeartbeats 1000000 in
set_option maxRecDepth 100000 in
theorem reducePC (eb u rb rc n g N l : Nat) (s : Nat → Nat) (p : Int) (F : Nat → Int) (w : World) (hb : Box 114 w eb #[modV p, .int .i64 (u : Int), .slice (some ⟨rb, 0, none⟩) n rc, .int .i64 (0 : Int)]) (h : PRows w rb g N n l s p F) (hp : PrimeP p) (heg : eb ≠ g) (her : eb ≠ rb) (hul : u < l) (hu : u ≤ 12) (hN : N ≤ 1000) (hn : n ≤ 1000) (hrb : rb < w.heap.size) (hrc : n ≤ rc) :
    Calls Try.prog 137 #[.pointer (some ⟨eb, 0, none⟩)] w fun e w' => ∃ s' F', e = .returned (.tuple #[]) ∧ PRows w' rb g N n l s' p F' ∧ Box 114 w' eb #[modV p, .int .i64 (u : Int), .slice (some ⟨rb, 0, none⟩) n rc, .int .i64 ((elimE p n (rowAtF F s l) u).2 : Int)] ∧ (∀ i, i < n → rowAtF F' s' l i = (elimE p n (rowAtF F s l) u).1 i) ∧ Only (fun q => q = g ∨ q = rb ∨ q = eb ∨ w.heap.size ≤ q) w w' := by
  obtain ⟨ub, hub⟩ : ∃ ub, w.heap.size = ub := ⟨_, rfl⟩
  have HBX := Lib.hid hb
  have HPR := Lib.hid h
  have HPP := Lib.hid hp
  have heb := hb.lt
  have hg := h.inn
  clear hb h
  go_enter Try.func137, Try.ntmps137
  go_wp2
  refine scope_back 0 (fun a' wr => ∃ (c d : Nat) (s' : Nat → Nat) (Fk : Nat → Int) (u1 u3 u4 u5 u6 u7 u8 u9 u10 u11 u12 u13 u14 u15 u16 u17 u18 u19 u20 u21 u22 u23 u24 u25 u26 u27 u28 u29 u30 u31 u32 u33 u34 u35 u36 u37 u38 u39 u40 u41 u42 u43 u44 u45 u46 : Value), a' = { tmps := #[.pointer (some ⟨eb, 0, none⟩), u1, .pointer (some ⟨ub, 0, none⟩), u3, u4, u5, u6, u7, u8, u9, u10, u11, u12, u13, u14, u15, u16, u17, u18, u19, u20, u21, u22, u23, u24, u25, u26, u27, u28, u29, u30, u31, u32, u33, u34, u35, u36, u37, u38, u39, u40, u41, u42, u43, u44, u45, u46], defers := [] } ∧ RedAt w wr eb ub rb rc g N n l u p (rowAtF F s l) c d s' Fk) (fun _ wr => u - (intOf ((wr.cell? ⟨ub, 0, none⟩).getD undef)).toNat) rfl ?_ ?_
  · rintro a' wr ⟨c, d, s', Fk, u1, u3, u4, u5, u6, u7, u8, u9, u10, u11, u12, u13, u14, u15, u16, u17, u18, u19, u20, u21, u22, u23, u24, u25, u26, u27, u28, u29, u30, u31, u32, u33, u34, u35, u36, u37, u38, u39, u40, u41, u42, u43, u44, u45, u46, rfl, hj⟩
    have HJ := Lib.hid hj
    have x0 := hj.cell
    have x1 : wr.cell? ⟨eb, 1, none⟩ = some (.int .i64 (u : Int)) := hj.box.c 1 rfl
    have x2 : wr.cell? ⟨eb, 2, none⟩ = some (.slice (some ⟨rb, 0, none⟩) n rc) := hj.box.c 2 rfl
    have x3 : wr.cell? ⟨eb, 3, none⟩ = some (.int .i64 (d : Int)) := hj.box.c 3 rfl
    have hdn := hj.dn
    have hcu := hj.cu
    have HR2 : Hid (PRows wr.drew.drew rb g N n l s' p Fk) := Lib.hid (hj.rows.drewN_ 2)
    have x0d : wr.drew.drew.cell? ⟨ub, 0, none⟩ = some (.int .i64 (c : Int)) := hj.cell
    have fzd : wr.drew.drew.frozen? ⟨ub, 0, none⟩ = false := hj.frz
    have hub1 : ub ≠ rb := by omega
    have hub2 : ub ≠ g := by omega
    have hub3 : ub ≠ eb := by omega
    have hul2 : ub < wr.heap.size := World.block_lt_of_cell? _ _ x0
    have heb2 : eb < wr.heap.size := hj.box.lt
    have hrb2 : rb < wr.heap.size := Nat.lt_of_lt_of_le hrb hj.only.size
    have hw1 : IntKind.i64.wrap ((c : Int) + 1) = (c : Int) + 1 := IntWalk.i64_in _ (by omega)
    have HB4 : Hid (Box 114 wr.drew.drew.drew eb #[modV p, .int .i64 (u : Int), .slice (some ⟨rb, 0, none⟩) n rc, .int .i64 (d : Int)]) := Lib.hid hj.box
    have HP4 : Hid (PRows wr.drew.drew.drew rb g N n l s' p Fk) := Lib.hid (hj.rows.drewN_ 3)
    have hdn2 : (d : Int) ≤ (n : Int) := by omega
    clear hj
    by_cases hc : c = u
    · have hcb : ((c : Int) == (u : Int)) = true := by rw [hc]; simp
      have HC := Lib.hid hc
      clear hc
      go_wp2_with fail
      refine wp_region_noPanic ?_
      refine wp_region_late (S := (fun w' => w'.cell? ⟨ub, 0, none⟩ = some (.int .i64 (c : Int)) ∧ w'.cell? ⟨eb, 1, none⟩ = some (.int .i64 (u : Int)))) [5] (by kernel_rfl) ?_ (fun hHeld => ?_)
      · exact ⟨x0, x1⟩
      refine wpAnyL_take (i := 0) (v := ?_) (some 4) rfl rfl (by kernel_rfl) (by kernel_rfl) (by kernel_rfl) (by kernel_rfl) (by kernel_rfl) (fun _ _ _ h => h) (Or.inl ⟨by rfl, ?_⟩) (by assumption) ?_
      rotate_left
      · intro wS hSw
        try dsimp only at hSw
        go_simp
        try with_reducible rfl
      try simp only [Act.put, List.setIfInBounds_toArray, List.set_cons_zero, List.set_cons_succ]
      refine wpAnyL_free (i := 1) (v := ?_) (some 5) rfl rfl (by kernel_rfl) (by kernel_rfl) (by kernel_rfl) (by decide) (fun _ _ _ h => h) (Or.inl ⟨by rfl, ?_⟩) (fun h0 => by assumption) ?_
      rotate_left
      · intro wS
        go_simp
        try with_reducible rfl
      try simp only [Act.put, List.setIfInBounds_toArray, List.set_cons_zero, List.set_cons_succ]
      refine wpAnyL_free (i := 2) (v := ?_) (some 6) rfl rfl (by kernel_rfl) (by kernel_rfl) (by kernel_rfl) (by decide) (fun _ _ _ h => h) (Or.inl ⟨by rfl, ?_⟩) (fun h0 => by assumption) ?_
      rotate_left
      · intro wS
        go_simp
        try with_reducible rfl
      try simp only [Act.put, List.setIfInBounds_toArray, List.set_cons_zero, List.set_cons_succ]
      refine wpAnyL_free (i := 3) (v := ?_) (some 7) rfl rfl (by kernel_rfl) (by kernel_rfl) (by kernel_rfl) (by decide) (fun _ _ _ h => h) (Or.inl ⟨by rfl, ?_⟩) (fun h0 => by assumption) ?_
      rotate_left
      · intro wS
        go_simp
        try with_reducible rfl
      try simp only [Act.put, List.setIfInBounds_toArray, List.set_cons_zero, List.set_cons_succ]
      refine wpAnyL_take (i := 4) (v := ?_) (some 8) rfl rfl (by kernel_rfl) (by kernel_rfl) (by kernel_rfl) (by kernel_rfl) (by kernel_rfl) (fun _ _ _ h => h) (Or.inl ⟨by rfl, ?_⟩) (by assumption) ?_
      rotate_left
      · intro wS hSw
        try dsimp only at hSw
        go_simp
        try with_reducible rfl
      try simp only [Act.put, List.setIfInBounds_toArray, List.set_cons_zero, List.set_cons_succ]
      refine wpAnyL_ready (rs := [5]) (by kernel_rfl) (by simp) ?_
      refine AllReadyL.last rfl (by kernel_rfl) (fun K hK => ?_) AllReadyL.nil
      go_simp
      refine hK.out _ _ ?_
      clear hK K
      try simp only [Act.put, List.setIfInBounds_toArray, List.set_cons_zero, List.set_cons_succ]
      refine wpAnyL_done (by kernel_rfl) ?_ _
      refine NoPanic.normal ?_
      clear hHeld
      go_wp2
      simp only [Exit.jump]
      refine bodyPost_ret (results_none rfl _ _ _) rfl ?_
      have e := HC.out
      subst e
      exact ⟨s', Fk, rfl, HJ.out.rows.drewN_ 1, by rw [HJ.out.done]; exact HJ.out.box, HJ.out.eq, HJ.out.only.drew⟩
    · have hcb : ((c : Int) == (u : Int)) = false := by rw [beq_eq_false_iff_ne]; omega
      have HC := Lib.hid hc
      clear hc
      go_wp2_with fail
      refine wp_region_noPanic ?_
      refine wp_region_late (S := (fun w' => w'.cell? ⟨ub, 0, none⟩ = some (.int .i64 (c : Int)) ∧ w'.cell? ⟨eb, 1, none⟩ = some (.int .i64 (u : Int)))) [5] (by kernel_rfl) ?_ (fun hHeld => ?_)
      · exact ⟨x0, x1⟩
      refine wpAnyL_take (i := 0) (v := ?_) (some 4) rfl rfl (by kernel_rfl) (by kernel_rfl) (by kernel_rfl) (by kernel_rfl) (by kernel_rfl) (fun _ _ _ h => h) (Or.inl ⟨by rfl, ?_⟩) (by assumption) ?_
      rotate_left
      · intro wS hSw
        try dsimp only at hSw
        go_simp
        try with_reducible rfl
      try simp only [Act.put, List.setIfInBounds_toArray, List.set_cons_zero, List.set_cons_succ]
      refine wpAnyL_free (i := 1) (v := ?_) (some 5) rfl rfl (by kernel_rfl) (by kernel_rfl) (by kernel_rfl) (by decide) (fun _ _ _ h => h) (Or.inl ⟨by rfl, ?_⟩) (fun h0 => by assumption) ?_
      rotate_left
      · intro wS
        go_simp
        try with_reducible rfl
      try simp only [Act.put, List.setIfInBounds_toArray, List.set_cons_zero, List.set_cons_succ]
      refine wpAnyL_free (i := 2) (v := ?_) (some 6) rfl rfl (by kernel_rfl) (by kernel_rfl) (by kernel_rfl) (by decide) (fun _ _ _ h => h) (Or.inl ⟨by rfl, ?_⟩) (fun h0 => by assumption) ?_
      rotate_left
      · intro wS
        go_simp
        try with_reducible rfl
      try simp only [Act.put, List.setIfInBounds_toArray, List.set_cons_zero, List.set_cons_succ]
      refine wpAnyL_free (i := 3) (v := ?_) (some 7) rfl rfl (by kernel_rfl) (by kernel_rfl) (by kernel_rfl) (by decide) (fun _ _ _ h => h) (Or.inl ⟨by rfl, ?_⟩) (fun h0 => by assumption) ?_
      rotate_left
      · intro wS
        go_simp
        try with_reducible rfl
      try simp only [Act.put, List.setIfInBounds_toArray, List.set_cons_zero, List.set_cons_succ]
      refine wpAnyL_take (i := 4) (v := ?_) (some 8) rfl rfl (by kernel_rfl) (by kernel_rfl) (by kernel_rfl) (by kernel_rfl) (by kernel_rfl) (fun _ _ _ h => h) (Or.inl ⟨by rfl, ?_⟩) (by assumption) ?_
      rotate_left
      · intro wS hSw
        try dsimp only at hSw
        go_simp
        try with_reducible rfl
      try simp only [Act.put, List.setIfInBounds_toArray, List.set_cons_zero, List.set_cons_succ]
      refine wpAnyL_ready (rs := [5]) (by kernel_rfl) (by simp) ?_
      refine AllReadyL.last rfl (by kernel_rfl) (fun K hK => ?_) AllReadyL.nil
      go_simp
      refine hK.out _ _ ?_
      clear hK K
      try simp only [Act.put, List.setIfInBounds_toArray, List.set_cons_zero, List.set_cons_succ]
      refine wpAnyL_done (by kernel_rfl) ?_ _
      refine NoPanic.normal ?_
      clear hHeld
      go_wp2_with fail
      refine wp_region_noPanic ?_
      refine wp_region_late (S := (fun w' => w'.cell? ⟨eb, 2, none⟩ = some (.slice (some ⟨rb, 0, none⟩) n rc) ∧ w'.cell? ⟨eb, 3, none⟩ = some (.int .i64 (d : Int)))) [10, 11] (by kernel_rfl) ?_ (fun hHeld => ?_)
      · exact ⟨x2, x3⟩
      refine wpAnyL_free (i := 0) (v := ?_) (some 10) rfl rfl (by kernel_rfl) (by kernel_rfl) (by kernel_rfl) (by decide) (fun _ _ _ h => h) (Or.inl ⟨by rfl, ?_⟩) (fun h0 => by assumption) ?_
      rotate_left
      · intro wS
        go_simp
        try with_reducible rfl
      try simp only [Act.put, List.setIfInBounds_toArray, List.set_cons_zero, List.set_cons_succ]
      refine wpAnyL_free (i := 1) (v := ?_) (some 11) rfl rfl (by kernel_rfl) (by kernel_rfl) (by kernel_rfl) (by decide) (fun _ _ _ h => h) (Or.inl ⟨by rfl, ?_⟩) (fun h0 => by assumption) ?_
      rotate_left
      · intro wS
        go_simp
        try with_reducible rfl
      try simp only [Act.put, List.setIfInBounds_toArray, List.set_cons_zero, List.set_cons_succ]
      refine wpAnyL_free (i := 2) (v := ?_) (some 12) rfl rfl (by kernel_rfl) (by kernel_rfl) (by kernel_rfl) (by decide) (fun _ _ _ h => h) (Or.inl ⟨by rfl, ?_⟩) (fun h0 => by assumption) ?_
      rotate_left
      · intro wS
        go_simp
        try with_reducible rfl
      try simp only [Act.put, List.setIfInBounds_toArray, List.set_cons_zero, List.set_cons_succ]
      refine wpAnyL_take (i := 3) (v := ?_) (some 13) rfl rfl (by kernel_rfl) (by kernel_rfl) (by kernel_rfl) (by kernel_rfl) (by kernel_rfl) (fun _ _ _ h => h) (Or.inl ⟨by rfl, ?_⟩) (by assumption) ?_
      rotate_left
      · intro wS hSw
        try dsimp only at hSw
        go_simp
        try with_reducible rfl
      try simp only [Act.put, List.setIfInBounds_toArray, List.set_cons_zero, List.set_cons_succ]
      refine wpAnyL_free (i := 4) (v := ?_) (some 14) rfl rfl (by kernel_rfl) (by kernel_rfl) (by kernel_rfl) (by decide) (fun _ _ _ h => h) (Or.inl ⟨by rfl, ?_⟩) (fun h0 => by assumption) ?_
      rotate_left
      · intro wS
        go_simp
        try with_reducible rfl
      try simp only [Act.put, List.setIfInBounds_toArray, List.set_cons_zero, List.set_cons_succ]
      refine wpAnyL_free (i := 5) (v := ?_) (some 15) rfl rfl (by kernel_rfl) (by kernel_rfl) (by kernel_rfl) (by decide) (fun _ _ _ h => h) (Or.inl ⟨by rfl, ?_⟩) (fun h0 => by assumption) ?_
      rotate_left
      · intro wS
        go_simp
        try with_reducible rfl
      try simp only [Act.put, List.setIfInBounds_toArray, List.set_cons_zero, List.set_cons_succ]
      refine wpAnyL_free (i := 6) (v := ?_) (some 16) rfl rfl (by kernel_rfl) (by kernel_rfl) (by kernel_rfl) (by decide) (fun _ _ _ h => h) (Or.inl ⟨by rfl, ?_⟩) (fun h0 => by assumption) ?_
      rotate_left
      · intro wS
        go_simp
        try with_reducible rfl
      try simp only [Act.put, List.setIfInBounds_toArray, List.set_cons_zero, List.set_cons_succ]
      refine wpAnyL_take (i := 7) (v := ?_) (some 17) rfl rfl (by kernel_rfl) (by kernel_rfl) (by kernel_rfl) (by kernel_rfl) (by kernel_rfl) (fun _ _ _ h => h) (Or.inl ⟨by rfl, ?_⟩) (by assumption) ?_
      rotate_left
      · intro wS hSw
        try dsimp only at hSw
        go_simp
        try with_reducible rfl
      try simp only [Act.put, List.setIfInBounds_toArray, List.set_cons_zero, List.set_cons_succ]
      refine wpAnyL_free (i := 8) (v := ?_) (some 18) rfl rfl (by kernel_rfl) (by kernel_rfl) (by kernel_rfl) (by decide) (fun _ _ _ h => h) (Or.inl ⟨by rfl, ?_⟩) (fun h0 => by assumption) ?_
      rotate_left
      · intro wS
        go_simp
        try with_reducible rfl
      try simp only [Act.put, List.setIfInBounds_toArray, List.set_cons_zero, List.set_cons_succ]
      refine wpAnyL_ready (rs := [9]) (by kernel_rfl) (by simp) ?_
      refine AllReadyL.cons rfl (fun K hK => ?_) AllReadyL.nil
      go_simp
      refine hK.out _ _ ?_ (fun hHeld => ?_)
      · exact hHeld
      clear hK K
      try simp only [Act.put, List.setIfInBounds_toArray, List.set_cons_zero, List.set_cons_succ]
      refine wpAnyL_ready (rs := [10]) (by kernel_rfl) (by simp) ?_
      refine AllReadyL.last rfl (by kernel_rfl) (fun K hK => ?_) AllReadyL.nil
      go_simp; go_at_call 185; refine (indexRowC _ ub rb g N n l d c _ (n - d) s' p Fk _ HR2.out x0d (by omega) (by omega) (by omega) (fun hq => if_neg (by omega))).mono ?_; rintro e w4 ⟨m, rfl, hm, rfl⟩
      refine hK.out _ _ ?_
      clear hK K
      try simp only [Act.put, List.setIfInBounds_toArray, List.set_cons_zero, List.set_cons_succ]
      refine wpAnyL_ready (rs := [11]) (by kernel_rfl) (by simp) ?_
      refine AllReadyL.last rfl (by kernel_rfl) (fun K hK => ?_) AllReadyL.nil
      go_simp
      refine hK.out _ _ ?_
      clear hK K
      try simp only [Act.put, List.setIfInBounds_toArray, List.set_cons_zero, List.set_cons_succ]
      refine wpAnyL_done (by kernel_rfl) ?_ _
      refine NoPanic.normal ?_
      clear hHeld
      generalize (if rc = d then (some ⟨rb, 0, none⟩ : Option Addr) else some ⟨rb, d, none⟩) = adr
      rcases hm with ⟨rfl, hz⟩ | ⟨k, hk, rfl, hnz, hz⟩
      · have HNO : Hid (elimE p n (rowAtF F s l) (c + 1) = elimE p n (rowAtF F s l) c) := Lib.hid (by
          show stepE p n c (elimE p n (rowAtF F s l) c) = _
          unfold stepE
          rw [HJ.out.done, if_pos (findE_eq n d n hdn (Nat.le_refl _) (by omega) (fun j h1 h2 => by rw [← HJ.out.eq j h2]; exact hz j h1 h2) (fun h => by omega))])
        have HNX := Lib.hid (HJ.out.next (w5 := wr.drew.drew) (by have := HC.out; omega) HJ.out.box HR2.out (by rw [HNO.out]; exact HJ.out.eq) (by rw [HNO.out]; exact HJ.out.done) hdn HJ.out.only.drew.drew x0d fzd (by omega) hub1 hub2 hub3)
        go_wp2
        go_step3
        exact ⟨rfl, ⟨c + 1, d, s', Fk, _, _, _, _, _, _, _, _, _, _, _, _, _, _, _, _, _, _, _, _, _, _, _, _, _, _, _, _, _, _, _, _, _, _, _, _, _, _, _, _, _, _, _, _, _, rfl, HNX.out⟩, by have e := HNX.out.cell; have e0 := HC.out; exact red_lt e x0 hcu e0⟩
      · have hk0 : (0 : Int) ≤ (k : Int) := by omega
        have hwk : IntKind.i64.wrap ((d : Int) + (k : Int)) = ((d + k : Nat) : Int) := by rw [IntWalk.i64_in _ (by omega)]; rfl
        go_wp2_with fail
        refine wp_region_noPanic ?_
        refine wp_region_late (S := (fun w' => w'.cell? ⟨eb, 3, none⟩ = some (.int .i64 (d : Int)))) [11] (by kernel_rfl) ?_ (fun hHeld => ?_)
        · exact x3
        refine wpAnyL_free (i := 0) (v := ?_) (some 23) rfl rfl (by kernel_rfl) (by kernel_rfl) (by kernel_rfl) (by decide) (fun _ _ _ h => h) (Or.inl ⟨by rfl, ?_⟩) (fun h0 => by assumption) ?_
        rotate_left
        · intro wS
          go_simp
          try with_reducible rfl
        try simp only [Act.put, List.setIfInBounds_toArray, List.set_cons_zero, List.set_cons_succ]
        refine wpAnyL_free (i := 1) (v := ?_) (some 24) rfl rfl (by kernel_rfl) (by kernel_rfl) (by kernel_rfl) (by decide) (fun _ _ _ h => h) (Or.inl ⟨by rfl, ?_⟩) (fun h0 => by assumption) ?_
        rotate_left
        · intro wS
          go_simp
          try with_reducible rfl
        try simp only [Act.put, List.setIfInBounds_toArray, List.set_cons_zero, List.set_cons_succ]
        refine wpAnyL_free (i := 2) (v := ?_) (some 25) rfl rfl (by kernel_rfl) (by kernel_rfl) (by kernel_rfl) (by decide) (fun _ _ _ h => h) (Or.inl ⟨by rfl, ?_⟩) (fun h0 => by assumption) ?_
        rotate_left
        · intro wS
          go_simp
          try with_reducible rfl
        try simp only [Act.put, List.setIfInBounds_toArray, List.set_cons_zero, List.set_cons_succ]
        refine wpAnyL_free (i := 3) (v := ?_) (some 26) rfl rfl (by kernel_rfl) (by kernel_rfl) (by kernel_rfl) (by decide) (fun _ _ _ h => h) (Or.inl ⟨by rfl, ?_⟩) (fun h0 => by assumption) ?_
        rotate_left
        · intro wS
          go_simp
          try with_reducible rfl
        try simp only [Act.put, List.setIfInBounds_toArray, List.set_cons_zero, List.set_cons_succ]
        refine wpAnyL_take (i := 4) (v := ?_) (some 27) rfl rfl (by kernel_rfl) (by kernel_rfl) (by kernel_rfl) (by kernel_rfl) (by kernel_rfl) (fun _ _ _ h => h) (Or.inl ⟨by rfl, ?_⟩) (by assumption) ?_
        rotate_left
        · intro wS hSw
          try dsimp only at hSw
          go_simp
          try with_reducible rfl
        try simp only [Act.put, List.setIfInBounds_toArray, List.set_cons_zero, List.set_cons_succ]
        refine wpAnyL_free (i := 5) (v := ?_) (some 28) rfl rfl (by kernel_rfl) (by kernel_rfl) (by kernel_rfl) (by decide) (fun _ _ _ h => h) (Or.inl ⟨by rfl, ?_⟩) (fun h0 => by assumption) ?_
        rotate_left
        · intro wS
          go_simp
          try with_reducible rfl
        try simp only [Act.put, List.setIfInBounds_toArray, List.set_cons_zero, List.set_cons_succ]
        refine wpAnyL_free (i := 6) (v := ?_) (some 29) rfl rfl (by kernel_rfl) (by kernel_rfl) (by kernel_rfl) (by decide) (fun _ _ _ h => h) (Or.inl ⟨by rfl, ?_⟩) (fun h0 => by assumption) ?_
        rotate_left
        · intro wS
          go_simp
          try with_reducible rfl
        try simp only [Act.put, List.setIfInBounds_toArray, List.set_cons_zero, List.set_cons_succ]
        refine wpAnyL_free (i := 7) (v := ?_) (some 30) rfl rfl (by kernel_rfl) (by kernel_rfl) (by kernel_rfl) (by decide) (fun _ _ _ h => h) (Or.inl ⟨by rfl, ?_⟩) (fun h0 => by assumption) ?_
        rotate_left
        · intro wS
          go_simp
          try with_reducible rfl
        try simp only [Act.put, List.setIfInBounds_toArray, List.set_cons_zero, List.set_cons_succ]
        refine wpAnyL_take (i := 8) (v := ?_) (some 31) rfl rfl (by kernel_rfl) (by kernel_rfl) (by kernel_rfl) (by kernel_rfl) (by kernel_rfl) (fun _ _ _ h => h) (Or.inl ⟨by rfl, ?_⟩) (by assumption) ?_
        rotate_left
        · intro wS hSw
          try dsimp only at hSw
          go_simp
          try with_reducible rfl
        try simp only [Act.put, List.setIfInBounds_toArray, List.set_cons_zero, List.set_cons_succ]
        refine wpAnyL_free (i := 9) (v := ?_) (some 32) rfl rfl (by kernel_rfl) (by kernel_rfl) (by kernel_rfl) (by decide) (fun _ _ _ h => h) (Or.inl ⟨by rfl, ?_⟩) (fun h0 => by assumption) ?_
        rotate_left
        · intro wS
          go_simp
          try with_reducible rfl
        try simp only [Act.put, List.setIfInBounds_toArray, List.set_cons_zero, List.set_cons_succ]
        refine wpAnyL_free (i := 10) (v := ?_) (some 33) rfl rfl (by kernel_rfl) (by kernel_rfl) (by kernel_rfl) (by decide) (fun _ _ _ h => h) (Or.inl ⟨by rfl, ?_⟩) (fun h0 => by assumption) ?_
        rotate_left
        · intro wS
          go_simp
          try with_reducible rfl
        try simp only [Act.put, List.setIfInBounds_toArray, List.set_cons_zero, List.set_cons_succ]
        refine wpAnyL_ready (rs := [11]) (by kernel_rfl) (by simp) ?_
        refine AllReadyL.last rfl (by kernel_rfl) (fun K hK => ?_) AllReadyL.nil
        go_simp; go_at_call 187; refine (swapC eb u rb rc n d d (d + k) g N l s' p Fk _ HB4.out HP4.out (by omega) hk).mono ?_; rintro e w5 ⟨rfl, hp5, ho5⟩
        refine hK.out _ _ ?_
        clear hK K
        try simp only [Act.put, List.setIfInBounds_toArray, List.set_cons_zero, List.set_cons_succ]
        refine wpAnyL_done (by kernel_rfl) ?_ _
        refine NoPanic.normal ?_
        clear hHeld
        have ho5' : Only (fun q => q = rb) wr w5 := ⟨ho5.os, ho5.tape, ho5.output, ho5.size, ho5.block⟩
        have HB5 := Lib.hid (HJ.out.box.same (ho5'.block eb heb2 her))
        have HP5 := Lib.hid hp5
        have x05 := (World.cell?_of_block (ho5'.block ub hul2 hub1)).trans x0
        have fz5 := (World.frozen?_of_block (ho5'.block ub hul2 hub1)).trans HJ.out.frz
        have hub5 : ub < w5.heap.size := Nat.lt_of_lt_of_le hul2 ho5'.size
        have heb5 : eb < w5.heap.size := Nat.lt_of_lt_of_le heb2 ho5'.size
        have hrb5 : rb < w5.heap.size := Nat.lt_of_lt_of_le hrb2 ho5'.size
        have HO5 := Lib.hid (HJ.out.only.trans (ho5'.mono (fun q h => Or.inr (Or.inl h))))
        clear hp5 ho5 ho5'
        go_wp2_with fail
        refine (clearC eb u rb rc n d c g N l (fun q => s' (swapI d (d + k) q)) p Fk _ HB5.out HP5.out HPP.out heg (by omega) (by omega) hN hn hrb5).mono ?_
        rintro e w6 ⟨F6, rfl, hp6, hr6, ho6⟩
        have HB6 := Lib.hid (HB5.out.same (ho6.block eb heb5 heg))
        have y3 : w6.cell? ⟨eb, 3, none⟩ = some (.int .i64 (d : Int)) := HB6.out.c 3 rfl
        have y3f := HB6.out.free 3
        have hw2 : IntKind.i64.wrap ((d : Int) + 1) = (d : Int) + 1 := IntWalk.i64_in _ (by omega)
        have x06 : (w6.setCell ⟨eb, 3, none⟩ (.int .i64 ((d : Int) + 1))).cell? ⟨ub, 0, none⟩ = some (.int .i64 (c : Int)) := (World.cell?_setCell_other _ _ _ _ (by intro e; simp only [Addr.mk.injEq] at e; omega)).trans ((World.cell?_of_block (ho6.block ub hub5 hub2)).trans x05)
        have fz6 : (w6.setCell ⟨eb, 3, none⟩ (.int .i64 ((d : Int) + 1))).frozen? ⟨ub, 0, none⟩ = false := by
          have e := (World.frozen?_of_block (ho6.block ub hub5 hub2)).trans fz5
          simpa using e
        have HB7 : Hid (Box 114 (w6.setCell ⟨eb, 3, none⟩ (.int .i64 ((d : Int) + 1))) eb #[modV p, .int .i64 (u : Int), .slice (some ⟨rb, 0, none⟩) n rc, .int .i64 ((d : Int) + 1)]) := Lib.hid (HB6.out.set 3 _)
        have HST : Hid (elimE p n (rowAtF F s l) (c + 1) = (clearK p (swapF (elimE p n (rowAtF F s l) c).1 d (d + k)) d c n, d + 1)) := Lib.hid (by
          show stepE p n c (elimE p n (rowAtF F s l) c) = _
          unfold stepE
          have hf : findE (elimE p n (rowAtF F s l) c).1 c n n d = d + k := findE_eq n d (d + k) (by omega) (by omega) (by omega) (fun j h1 h2 => by rw [← HJ.out.eq j (by omega)]; exact hz j h1 h2) (fun h => by rw [← HJ.out.eq _ h]; exact hnz)
          rw [HJ.out.done, hf, if_neg (by omega)])
        have HNX := Lib.hid (HJ.out.next (d2 := d + 1) (by have := HC.out; omega) HB7.out (hp6.other (Ne.symm (Ne.symm her)) heg _) (fun i hi => by
          rw [HST.out, hr6 i hi]
          refine clearK_congr (n := n) (fun i hi => ?_) (by omega) hi
          rw [rowAtF_swap]
          exact swapF_congr HJ.out.eq (by omega) hk hi) (by rw [HST.out]) (by omega) ((HO5.out.trans (ho6.mono (fun q h => Or.inl h))).setCell (p := ⟨eb, 3, none⟩) (Or.inr (Or.inr (Or.inl rfl))) _) x06 fz6 (by omega) hub1 hub2 hub3)
        clear hp6 hr6 ho6
        go_wp2
        go_step3
        exact ⟨rfl, ⟨c + 1, d + 1, _, F6, _, _, _, _, _, _, _, _, _, _, _, _, _, _, _, _, _, _, _, _, _, _, _, _, _, _, _, _, _, _, _, _, _, _, _, _, _, _, _, _, _, _, _, _, _, rfl, HNX.out⟩, by have e := HNX.out.cell; have e0 := HC.out; exact red_lt e x0 hcu e0⟩
  · intro hpass
    have hnew : Below w.heap.size w (w.alloc (Obj.cells #[Value.int IntKind.i64 0] 2)) := (Below.refl _ _).alloc (Nat.le_refl _) _
    have HBN : Hid (Box 2 (w.alloc (Obj.cells #[Value.int IntKind.i64 0] 2)) ub #[.int .i64 0]) := Lib.hid (by rw [← hub]; exact Box.new _ _ _)
    have HJ0 : Hid (RedAt w (w.alloc (Obj.cells #[Value.int IntKind.i64 0] 2)) eb ub rb rc g N n l u p (rowAtF F s l) 0 0 s F) := Lib.hid ⟨Nat.zero_le _, HBN.out.c 0 rfl, HBN.out.free 0, HBX.out.below hnew, HPR.out.turn (fun _ => hrb) (hnew.only) (HPR.out.flat.same (hnew.block g hg)) HPR.out.low (fun o => (World.frozen?_of_block (hnew.block rb hrb)).trans (HPR.out.frz o)), fun i hi => rfl, rfl, Nat.zero_le _, hnew.only⟩
    go_wp2
    go_step3
    rename_i K hK
    refine hK _ _ (hpass _ _ ⟨0, 0, s, F, _, _, _, _, _, _, _, _, _, _, _, _, _, _, _, _, _, _, _, _, _, _, _, _, _, _, _, _, _, _, _, _, _, _, _, _, _, _, _, _, _, _, _, _, _, rfl, HJ0.out⟩)

end Go.Proofs.Ytnbgpeoceejolaa
