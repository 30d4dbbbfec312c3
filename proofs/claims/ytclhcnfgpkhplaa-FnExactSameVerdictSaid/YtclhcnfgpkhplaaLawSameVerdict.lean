/-
  FnExactSameVerdict: the walk over the law.
-/
import Derived.Test.YtclhcnfgpkhplaaSameV4
import Derived.Test.YtclhcnfgpkhplaaRegI
namespace Go.Proofs.Ytclhcnfgpkhplaa
open Go.RowKit

/-- The law's two arguments in their boxes. -/
structure LB (w : World) (p : VA) (c : VC) (q : VA) (d : VC) (wr : World) : Prop where
  bx : Box 68 wr w.heap.size #[.int .i64 c.k, .slice p.a1 p.n1 p.c1, .slice p.a2 p.n2 p.c2, .slice p.a3 p.n3 p.c3, .slice p.a4 p.n4 p.c4]
  bz : Box 68 wr (w.heap.size + 1) #[.int .i64 d.k, .slice q.a1 q.n1 q.c1, .slice q.a2 q.n2 q.c2, .slice q.a3 q.n3 q.c3, .slice q.a4 q.n4 q.c4]
  f : F4 wr p c
  g : F4 wr q d
  bel : Below w.heap.size w wr
  sz : w.heap.size ≤ wr.heap.size
theorem LB.below {w : World} {p : VA} {c : VC} {q : VA} {d : VC} {wr w2 : World} (h : LB w p c q d wr) (hb : Below wr.heap.size wr w2) : LB w p c q d w2 :=
  ⟨h.bx.below hb, h.bz.below hb, h.f.below hb, h.g.below hb, h.bel.trans (hb.mono h.sz), Nat.le_trans h.sz hb.size⟩
theorem LB.drew {w : World} {p : VA} {c : VC} {q : VA} {d : VC} {wr : World} (h : LB w p c q d wr) : LB w p c q d wr.drew := h.below ((QW.refl _).drew.below _)
/-- And the two copies in theirs. -/
structure LB2 (w : World) (p : VA) (c : VC) (q : VA) (d : VC) (e1 e2 : Nat) (m n : VA) (wr : World) : Prop where
  l : LB w p c q d wr
  bx : Box 74 wr e1 #[.int .i64 c.k, .slice m.a1 m.n1 m.c1, .slice m.a2 m.n2 m.c2, .slice m.a3 m.n3 m.c3, .slice m.a4 m.n4 m.c4]
  bz : Box 74 wr e2 #[.int .i64 d.k, .slice n.a1 n.n1 n.c1, .slice n.a2 n.n2 n.c2, .slice n.a3 n.n3 n.c3, .slice n.a4 n.n4 n.c4]
  f : F4 wr m c
  g : F4 wr n d
theorem LB2.below {w : World} {p : VA} {c : VC} {q : VA} {d : VC} {e1 e2 : Nat} {m n : VA} {wr w2 : World} (h : LB2 w p c q d e1 e2 m n wr) (hb : Below wr.heap.size wr w2) : LB2 w p c q d e1 e2 m n w2 :=
  ⟨h.l.below hb, h.bx.below hb, h.bz.below hb, h.f.below hb, h.g.below hb⟩
theorem LB2.drew {w : World} {p : VA} {c : VC} {q : VA} {d : VC} {e1 e2 : Nat} {m n : VA} {wr : World} (h : LB2 w p c q d e1 e2 m n wr) : LB2 w p c q d e1 e2 m n wr.drew := h.below ((QW.refl _).drew.below _)

set_option linter.unusedSimpArgs false in
set_option maxHeartbeats 4000000 in
set_option maxRecDepth 100000 in
theorem lawSameVerdict (p : VA) (c : VC) (q : VA) (d : VC) (w : World) (hp : F4 w p c) (hq : F4 w q d) :
    Calls Try.prog 8 #[.agg #[.int .i64 c.k, .slice p.a1 p.n1 p.c1, .slice p.a2 p.n2 p.c2, .slice p.a3 p.n3 p.c3, .slice p.a4 p.n4 p.c4], .agg #[.int .i64 d.k, .slice q.a1 q.n1 q.c1, .slice q.a2 q.n2 q.c2, .slice q.a3 q.n3 q.c3, .slice q.a4 q.n4 q.c4]] w fun e w' => e = .returned (.bool true) ∧ Below w.heap.size w w' := by
  have L0 : Hid (LB w p c q d ((w.alloc (.cells #[.int .i64 c.k, .slice p.a1 p.n1 p.c1, .slice p.a2 p.n2 p.c2, .slice p.a3 p.n3 p.c3, .slice p.a4 p.n4 p.c4] 68)).alloc (.cells #[.int .i64 d.k, .slice q.a1 q.n1 q.c1, .slice q.a2 q.n2 q.c2, .slice q.a3 q.n3 q.c3, .slice q.a4 q.n4 q.c4] 68))) := Lib.hid (by
    have hW : Below w.heap.size w ((w.alloc (.cells #[.int .i64 c.k, .slice p.a1 p.n1 p.c1, .slice p.a2 p.n2 p.c2, .slice p.a3 p.n3 p.c3, .slice p.a4 p.n4 p.c4] 68)).alloc (.cells #[.int .i64 d.k, .slice q.a1 q.n1 q.c1, .slice q.a2 q.n2 q.c2, .slice q.a3 q.n3 q.c3, .slice q.a4 q.n4 q.c4] 68)) := ((Below.refl _ _).alloc (Nat.le_refl _) _).alloc (by simp) _
    have hy := Box.new 68 (w.alloc (.cells #[.int .i64 c.k, .slice p.a1 p.n1 p.c1, .slice p.a2 p.n2 p.c2, .slice p.a3 p.n3 p.c3, .slice p.a4 p.n4 p.c4] 68)) #[.int .i64 d.k, .slice q.a1 q.n1 q.c1, .slice q.a2 q.n2 q.c2, .slice q.a3 q.n3 q.c3, .slice q.a4 q.n4 q.c4]
    rw [World.size_alloc] at hy
    exact ⟨(Box.new 68 w #[.int .i64 c.k, .slice p.a1 p.n1 p.c1, .slice p.a2 p.n2 p.c2, .slice p.a3 p.n3 p.c3, .slice p.a4 p.n4 p.c4]).below ((Below.refl _ _).alloc (Nat.le_refl _) (.cells #[.int .i64 d.k, .slice q.a1 q.n1 q.c1, .slice q.a2 q.n2 q.c2, .slice q.a3 q.n3 q.c3, .slice q.a4 q.n4 q.c4] 68)), hy, hp.below hW, hq.below hW, hW, hW.size⟩)
  clear hp hq
  have x0 := L0.out.bx.c 0 rfl
  have x1 := L0.out.bx.c 1 rfl
  have x2 := L0.out.bx.c 2 rfl
  have x3 := L0.out.bx.c 3 rfl
  have x4 := L0.out.bx.c 4 rfl

  by_cases hz1 : (1048576 : Int) < totV c
  · have HF := Lib.hid (szF_no hz1)
    clear hz1
    go_enter Try.func8, Try.ntmps8
    go_wp2_with fail
    refine (szV p c _ _ L0.out.f (by omega) (by omega)).mono ?_
    rw [HF.out]
    rintro e w1 ⟨rfl, hb1⟩
    have L1 := Lib.hid (L0.out.below hb1)
    clear x0 x1 x2 x3 x4
    clear hb1
    go_wp2
    go_ret
    exact ⟨rfl, L1.out.bel⟩
  have HF1 := Lib.hid (szF_yes (t := totV c) (l := 1048576) (by omega))
  have hp1 : ¬ (1048576 - (totV c : Int) < 0) := by omega
  have hp1' : (1048576 - (totV c : Int)) ≤ 1048576 := by omega
  by_cases hz2 : (1048576 - (totV c : Int) : Int) < totV d
  · have HF := Lib.hid (szF_no hz2)
    clear hz2
    go_enter Try.func8, Try.ntmps8
    go_wp2_with fail
    refine (szV p c _ _ L0.out.f (by omega) (by omega)).mono ?_
    rw [HF1.out]
    rintro e w1 ⟨rfl, hb1⟩
    have L1 := Lib.hid (L0.out.below hb1)
    clear x0 x1 x2 x3 x4
    clear hb1
    have x0 := L1.out.bz.c 0 rfl
    have x1 := L1.out.bz.c 1 rfl
    have x2 := L1.out.bz.c 2 rfl
    have x3 := L1.out.bz.c 3 rfl
    have x4 := L1.out.bz.c 4 rfl
    go_wp2_with fail
    refine (szV q d _ _ L1.out.g (by omega) (by omega)).mono ?_
    rw [HF.out]
    rintro e w2 ⟨rfl, hb2⟩
    have L2 := Lib.hid (L1.out.below hb2)
    clear x0 x1 x2 x3 x4
    clear hb2
    go_wp2
    go_ret
    exact ⟨rfl, L2.out.bel⟩
  have HF2 := Lib.hid (szF_yes (t := totV d) (l := 1048576 - (totV c : Int)) (by omega))
  have hp2 : ¬ (1048576 - (totV c : Int) - (totV d : Int) < 0) := by omega
  have GC : Hid (totV c ≤ 1048576) := Lib.hid (by omega)
  have GD : Hid (totV d ≤ 1048576) := Lib.hid (by omega)
  obtain ⟨b, hi⟩ : ∃ b, sameV c d = b := ⟨_, rfl⟩
  have HI := Lib.hid hi
  clear hi hz1 hz2
  go_enter Try.func8, Try.ntmps8
  go_wp2_with fail
  refine (szV p c _ _ L0.out.f (by omega) (by omega)).mono ?_
  rw [HF1.out]
  rintro e w1 ⟨rfl, hb1⟩
  have L1 := Lib.hid (L0.out.below hb1)
  clear x0 x1 x2 x3 x4
  clear hb1
  have x0 := L1.out.bz.c 0 rfl
  have x1 := L1.out.bz.c 1 rfl
  have x2 := L1.out.bz.c 2 rfl
  have x3 := L1.out.bz.c 3 rfl
  have x4 := L1.out.bz.c 4 rfl
  go_wp2_with fail
  refine (szV q d _ _ L1.out.g (by omega) (by omega)).mono ?_
  rw [HF2.out]
  rintro e w2 ⟨rfl, hb2⟩
  have L2 := Lib.hid (L1.out.below hb2)
  clear x0 x1 x2 x3 x4
  clear hb2
  clear hp1 hp1'
  go_wp2_with fail
  refine wp_region_noPanic ?_
  refine wp_region_inv (fun w' => w'.cell? ⟨w.heap.size, 0, none⟩ = some (.int .i64 c.k) ∧ w'.cell? ⟨w.heap.size, 1, none⟩ = some (.slice p.a1 p.n1 p.c1) ∧ w'.cell? ⟨w.heap.size, 2, none⟩ = some (.slice p.a2 p.n2 p.c2) ∧ w'.cell? ⟨w.heap.size, 3, none⟩ = some (.slice p.a3 p.n3 p.c3) ∧ w'.cell? ⟨w.heap.size, 4, none⟩ = some (.slice p.a4 p.n4 p.c4) ∧ w'.cell? ⟨w.heap.size + 1, 0, none⟩ = some (.int .i64 d.k) ∧ w'.cell? ⟨w.heap.size + 1, 1, none⟩ = some (.slice q.a1 q.n1 q.c1) ∧ w'.cell? ⟨w.heap.size + 1, 2, none⟩ = some (.slice q.a2 q.n2 q.c2) ∧ w'.cell? ⟨w.heap.size + 1, 3, none⟩ = some (.slice q.a3 q.n3 q.c3) ∧ w'.cell? ⟨w.heap.size + 1, 4, none⟩ = some (.slice q.a4 q.n4 q.c4) ∧ LB w p c q d w') (fun w1 w2 => Below w1.heap.size w1 w2) (fun kI vv ww => match kI with
    | 0 => vv = .agg #[.int .i64 c.k, .slice p.a1 p.n1 p.c1, .slice p.a2 p.n2 p.c2, .slice p.a3 p.n3 p.c3, .slice p.a4 p.n4 p.c4]
    | 1 => ∃ m : VA, vv = .agg #[.int .i64 c.k, .slice m.a1 m.n1 m.c1, .slice m.a2 m.n2 m.c2, .slice m.a3 m.n3 m.c3, .slice m.a4 m.n4 m.c4] ∧ F4 ww m c
    | 2 => vv = .agg #[.int .i64 d.k, .slice q.a1 q.n1 q.c1, .slice q.a2 q.n2 q.c2, .slice q.a3 q.n3 q.c3, .slice q.a4 q.n4 q.c4]
    | 3 => ∃ m : VA, vv = .agg #[.int .i64 d.k, .slice m.a1 m.n1 m.c1, .slice m.a2 m.n2 m.c2, .slice m.a3 m.n3 m.c3, .slice m.a4 m.n4 m.c4] ∧ F4 ww m d
    | 4 => vv = .bool b
    | 5 => vv = .bool b
    | _ => True) [(5, some 6), (4, some 24), (3, some 23), (2, some 22), (1, some 21), (0, some 20)] 6 (by kernel_rfl) rfl (by kernel_rfl) (by kernel_rfl) (by kernel_rfl) ?_ ?_ ?_ ?_
  · intro kI v w1 w2 hN h
    match kI, h with
    | 0, h => exact h
    | 1, h => exact by obtain ⟨m, e, hf⟩ := h; exact ⟨m, e, hf.below hN⟩
    | 2, h => exact h
    | 3, h => exact by obtain ⟨m, e, hf⟩ := h; exact ⟨m, e, hf.below hN⟩
    | 4, h => exact h
    | 5, h => exact h
    | kI + 6, _ => exact trivial
  · exact ⟨L2.out.drew.bx.c 0 rfl, L2.out.drew.bx.c 1 rfl, L2.out.drew.bx.c 2 rfl, L2.out.drew.bx.c 3 rfl, L2.out.drew.bx.c 4 rfl, L2.out.drew.bz.c 0 rfl, L2.out.drew.bz.c 1 rfl, L2.out.drew.bz.c 2 rfl, L2.out.drew.bz.c 3 rfl, L2.out.drew.bz.c 4 rfl, L2.out.drew⟩
  · refine ⟨⟨⟨⟨⟨⟨trivial, ?_⟩, ?_⟩, ?_⟩, ?_⟩, ?_⟩, ?_⟩
    · refine StepOk.intro (some 20) rfl rfl (fun xI w1 hS hdep K hK => ?_)
      clear hdep
      have hSS := Lib.hid hS
      obtain ⟨s0, s1, s2, s3, s4, s5, s6, s7, s8, s9, hB⟩ := hS
      refine ⟨?_⟩
      simp only [puts, Act.put, List.setIfInBounds_toArray, List.set_cons_zero, List.set_cons_succ]
      go_simp
      exact hK.out _ (.agg #[.int .i64 c.k, .slice p.a1 p.n1 p.c1, .slice p.a2 p.n2 p.c2, .slice p.a3 p.n3 p.c3, .slice p.a4 p.n4 p.c4]) _ (by simp only [puts, Act.put, List.setIfInBounds_toArray, List.set_cons_zero, List.set_cons_succ]) (Below.refl _ _) (hSS.out) (rfl)
    · refine StepOk.intro (some 21) rfl rfl (fun xI w1 hS hdep K hK => ?_)
      have h0 : xI 0 = .agg #[.int .i64 c.k, .slice p.a1 p.n1 p.c1, .slice p.a2 p.n2 p.c2, .slice p.a3 p.n3 p.c3, .slice p.a4 p.n4 p.c4] := hdep 0 (by kernel_rfl)
      clear hdep
      have hSS := Lib.hid hS
      obtain ⟨s0, s1, s2, s3, s4, s5, s6, s7, s8, s9, hB⟩ := hS
      refine ⟨?_⟩
      simp only [puts, Act.put, List.setIfInBounds_toArray, List.set_cons_zero, List.set_cons_succ, h0]
      go_simp; go_at_call 42; refine (toV _ _ _ (hB.f) GC.out).mono ?_; rintro e w5 ⟨m, rfl, hf, hb5⟩
      exact hK.out _ (.agg #[.int .i64 c.k, .slice m.a1 m.n1 m.c1, .slice m.a2 m.n2 m.c2, .slice m.a3 m.n3 m.c3, .slice m.a4 m.n4 m.c4]) _ (by simp only [puts, Act.put, List.setIfInBounds_toArray, List.set_cons_zero, List.set_cons_succ, h0]) hb5 (⟨below_cell hb5 s0, below_cell hb5 s1, below_cell hb5 s2, below_cell hb5 s3, below_cell hb5 s4, below_cell hb5 s5, below_cell hb5 s6, below_cell hb5 s7, below_cell hb5 s8, below_cell hb5 s9, hB.below hb5⟩) (⟨m, rfl, hf⟩)
    · refine StepOk.intro (some 22) rfl rfl (fun xI w1 hS hdep K hK => ?_)
      clear hdep
      have hSS := Lib.hid hS
      obtain ⟨s0, s1, s2, s3, s4, s5, s6, s7, s8, s9, hB⟩ := hS
      refine ⟨?_⟩
      simp only [puts, Act.put, List.setIfInBounds_toArray, List.set_cons_zero, List.set_cons_succ]
      go_simp
      exact hK.out _ (.agg #[.int .i64 d.k, .slice q.a1 q.n1 q.c1, .slice q.a2 q.n2 q.c2, .slice q.a3 q.n3 q.c3, .slice q.a4 q.n4 q.c4]) _ (by simp only [puts, Act.put, List.setIfInBounds_toArray, List.set_cons_zero, List.set_cons_succ]) (Below.refl _ _) (hSS.out) (rfl)
    · refine StepOk.intro (some 23) rfl rfl (fun xI w1 hS hdep K hK => ?_)
      have h1 : ∃ m : VA, (xI 1) = .agg #[.int .i64 c.k, .slice m.a1 m.n1 m.c1, .slice m.a2 m.n2 m.c2, .slice m.a3 m.n3 m.c3, .slice m.a4 m.n4 m.c4] ∧ F4 w1 m c := hdep 1 (by kernel_rfl)
      have h2 : xI 2 = .agg #[.int .i64 d.k, .slice q.a1 q.n1 q.c1, .slice q.a2 q.n2 q.c2, .slice q.a3 q.n3 q.c3, .slice q.a4 q.n4 q.c4] := hdep 2 (by kernel_rfl)
      clear hdep
      have hSS := Lib.hid hS
      obtain ⟨s0, s1, s2, s3, s4, s5, s6, s7, s8, s9, hB⟩ := hS
      refine ⟨?_⟩
      simp only [puts, Act.put, List.setIfInBounds_toArray, List.set_cons_zero, List.set_cons_succ, h2]
      go_simp; go_at_call 42; refine (toV _ _ _ (hB.g) GD.out).mono ?_; rintro e w5 ⟨m, rfl, hf, hb5⟩
      exact hK.out _ (.agg #[.int .i64 d.k, .slice m.a1 m.n1 m.c1, .slice m.a2 m.n2 m.c2, .slice m.a3 m.n3 m.c3, .slice m.a4 m.n4 m.c4]) _ (by simp only [puts, Act.put, List.setIfInBounds_toArray, List.set_cons_zero, List.set_cons_succ, h2]) hb5 (⟨below_cell hb5 s0, below_cell hb5 s1, below_cell hb5 s2, below_cell hb5 s3, below_cell hb5 s4, below_cell hb5 s5, below_cell hb5 s6, below_cell hb5 s7, below_cell hb5 s8, below_cell hb5 s9, hB.below hb5⟩) (⟨m, rfl, hf⟩)
    · refine StepOk.intro (some 24) rfl rfl (fun xI w1 hS hdep K hK => ?_)
      have h1 : ∃ m : VA, (xI 1) = .agg #[.int .i64 c.k, .slice m.a1 m.n1 m.c1, .slice m.a2 m.n2 m.c2, .slice m.a3 m.n3 m.c3, .slice m.a4 m.n4 m.c4] ∧ F4 w1 m c := hdep 1 (by kernel_rfl)
      have h3 : ∃ m : VA, (xI 3) = .agg #[.int .i64 d.k, .slice m.a1 m.n1 m.c1, .slice m.a2 m.n2 m.c2, .slice m.a3 m.n3 m.c3, .slice m.a4 m.n4 m.c4] ∧ F4 w1 m d := hdep 3 (by kernel_rfl)
      clear hdep
      have hSS := Lib.hid hS
      obtain ⟨s0, s1, s2, s3, s4, s5, s6, s7, s8, s9, hB⟩ := hS
      refine ⟨?_⟩
      simp only [puts, Act.put, List.setIfInBounds_toArray, List.set_cons_zero, List.set_cons_succ]
      obtain ⟨m1, q1, f1⟩ := h1; obtain ⟨m3, q3, f3⟩ := h3; simp only [q1, q3]; go_simp; go_at_call 41; refine (specV _ _ _ _ b _ f1 f3 HI.out).mono ?_; rintro e w5 ⟨rfl, hb5⟩
      exact hK.out _ (.bool b) _ (by simp only [puts, Act.put, List.setIfInBounds_toArray, List.set_cons_zero, List.set_cons_succ, q1, q3]) hb5 (⟨below_cell hb5 s0, below_cell hb5 s1, below_cell hb5 s2, below_cell hb5 s3, below_cell hb5 s4, below_cell hb5 s5, below_cell hb5 s6, below_cell hb5 s7, below_cell hb5 s8, below_cell hb5 s9, hB.below hb5⟩) (rfl)
    · refine StepOk.intro (some 6) rfl rfl (fun xI w1 hS hdep K hK => ?_)
      have h0 : xI 0 = .agg #[.int .i64 c.k, .slice p.a1 p.n1 p.c1, .slice p.a2 p.n2 p.c2, .slice p.a3 p.n3 p.c3, .slice p.a4 p.n4 p.c4] := hdep 0 (by kernel_rfl)
      have h1 : ∃ m : VA, (xI 1) = .agg #[.int .i64 c.k, .slice m.a1 m.n1 m.c1, .slice m.a2 m.n2 m.c2, .slice m.a3 m.n3 m.c3, .slice m.a4 m.n4 m.c4] ∧ F4 w1 m c := hdep 1 (by kernel_rfl)
      have h2 : xI 2 = .agg #[.int .i64 d.k, .slice q.a1 q.n1 q.c1, .slice q.a2 q.n2 q.c2, .slice q.a3 q.n3 q.c3, .slice q.a4 q.n4 q.c4] := hdep 2 (by kernel_rfl)
      have h3 : ∃ m : VA, (xI 3) = .agg #[.int .i64 d.k, .slice m.a1 m.n1 m.c1, .slice m.a2 m.n2 m.c2, .slice m.a3 m.n3 m.c3, .slice m.a4 m.n4 m.c4] ∧ F4 w1 m d := hdep 3 (by kernel_rfl)
      have h4 : xI 4 = .bool b := hdep 4 (by kernel_rfl)
      clear hdep
      have hSS := Lib.hid hS
      obtain ⟨s0, s1, s2, s3, s4, s5, s6, s7, s8, s9, hB⟩ := hS
      refine ⟨?_⟩
      simp only [puts, Act.put, List.setIfInBounds_toArray, List.set_cons_zero, List.set_cons_succ, h0, h2, h4]
      go_simp
      exact hK.out _ (.bool b) _ (by simp only [puts, Act.put, List.setIfInBounds_toArray, List.set_cons_zero, List.set_cons_succ, h0, h2, h4]) (Below.refl _ _) (hSS.out) (rfl)
  · intro xI w1 hS hx
    have e0 : xI 0 = .agg #[.int .i64 c.k, .slice p.a1 p.n1 p.c1, .slice p.a2 p.n2 p.c2, .slice p.a3 p.n3 p.c3, .slice p.a4 p.n4 p.c4] := hx 0 (by decide)
    have e1 : ∃ m : VA, (xI 1) = .agg #[.int .i64 c.k, .slice m.a1 m.n1 m.c1, .slice m.a2 m.n2 m.c2, .slice m.a3 m.n3 m.c3, .slice m.a4 m.n4 m.c4] ∧ F4 w1 m c := hx 1 (by decide)
    have e2 : xI 2 = .agg #[.int .i64 d.k, .slice q.a1 q.n1 q.c1, .slice q.a2 q.n2 q.c2, .slice q.a3 q.n3 q.c3, .slice q.a4 q.n4 q.c4] := hx 2 (by decide)
    have e3 : ∃ m : VA, (xI 3) = .agg #[.int .i64 d.k, .slice m.a1 m.n1 m.c1, .slice m.a2 m.n2 m.c2, .slice m.a3 m.n3 m.c3, .slice m.a4 m.n4 m.c4] ∧ F4 w1 m d := hx 3 (by decide)
    have e4 : xI 4 = .bool b := hx 4 (by decide)
    have e5 : xI 5 = .bool b := hx 5 (by decide)
    clear hx
    obtain ⟨s0, s1, s2, s3, s4, s5, s6, s7, s8, s9, hB⟩ := hS
    simp only [puts, Act.put, List.setIfInBounds_toArray, List.set_cons_zero, List.set_cons_succ, e0, e2, e4, e5]
    clear e0 e2 e4 e5
    refine NoPanic.normal ?_
    have L3 := Lib.hid hB
    clear e1 e3 hB s0 s1 s2 s3 s4 s5 s6 s7 s8 s9
    have x0 := L3.out.bx.c 0 rfl
    have x1 := L3.out.bx.c 1 rfl
    have x2 := L3.out.bx.c 2 rfl
    have x3 := L3.out.bx.c 3 rfl
    have x4 := L3.out.bx.c 4 rfl
    go_wp2_with fail
    refine (toV _ _ _ L3.out.f GC.out).mono ?_
    rintro e w6 ⟨m, rfl, hf6, hb6⟩
    have HA6 := Lib.hid ((Below.refl w6.heap.size w6).alloc (Nat.le_refl _) (.cells #[.int .i64 c.k, .slice m.a1 m.n1 m.c1, .slice m.a2 m.n2 m.c2, .slice m.a3 m.n3 m.c3, .slice m.a4 m.n4 m.c4] 74))
    have L6 := Lib.hid ((L3.out.below hb6).below HA6.out)
    have F6 := Lib.hid (hf6.below HA6.out)
    have X6 := Lib.hid (Box.new 74 w6 #[.int .i64 c.k, .slice m.a1 m.n1 m.c1, .slice m.a2 m.n2 m.c2, .slice m.a3 m.n3 m.c3, .slice m.a4 m.n4 m.c4])
    clear x0 x1 x2 x3 x4
    clear hf6 hb6
    have x0 := L6.out.bz.c 0 rfl
    have x1 := L6.out.bz.c 1 rfl
    have x2 := L6.out.bz.c 2 rfl
    have x3 := L6.out.bz.c 3 rfl
    have x4 := L6.out.bz.c 4 rfl
    go_wp2_with fail
    refine (toV _ _ _ L6.out.g GD.out).mono ?_
    rintro e w7 ⟨n, rfl, hf7, hb7⟩
    have HA7 := Lib.hid ((Below.refl w7.heap.size w7).alloc (Nat.le_refl _) (.cells #[.int .i64 d.k, .slice n.a1 n.n1 n.c1, .slice n.a2 n.n2 n.c2, .slice n.a3 n.n3 n.c3, .slice n.a4 n.n4 n.c4] 74))
    have M7 := Lib.hid (show LB2 w p c q d w6.heap.size w7.heap.size m n _ from ⟨(L6.out.below hb7).below HA7.out, (X6.out.below hb7).below HA7.out, Box.new 74 w7 #[.int .i64 d.k, .slice n.a1 n.n1 n.c1, .slice n.a2 n.n2 n.c2, .slice n.a3 n.n3 n.c3, .slice n.a4 n.n4 n.c4], (F6.out.below hb7).below HA7.out, hf7.below HA7.out⟩)
    clear x0 x1 x2 x3 x4
    clear hf7 hb7
    have x0 := M7.out.bx.c 0 rfl
    have x1 := M7.out.bx.c 1 rfl
    have x2 := M7.out.bx.c 2 rfl
    have x3 := M7.out.bx.c 3 rfl
    have x4 := M7.out.bx.c 4 rfl
    have y0 := M7.out.bz.c 0 rfl
    have y1 := M7.out.bz.c 1 rfl
    have y2 := M7.out.bz.c 2 rfl
    have y3 := M7.out.bz.c 3 rfl
    have y4 := M7.out.bz.c 4 rfl
    go_wp2_with fail
    refine (implV _ _ _ _ b _ M7.out.f M7.out.g HI.out).mono ?_
    rintro e w8 ⟨rfl, hb8⟩
    have M8 := Lib.hid (M7.out.below hb8)
    clear x0 x1 x2 x3 x4
    clear y0 y1 y2 y3 y4
    clear hb8
    go_wp2_with fail
    refine wp_region_noPanic ?_
    refine wp_region_inv (fun w' => w'.cell? ⟨w6.heap.size, 0, none⟩ = some (.int .i64 c.k) ∧ w'.cell? ⟨w6.heap.size, 1, none⟩ = some (.slice m.a1 m.n1 m.c1) ∧ w'.cell? ⟨w6.heap.size, 2, none⟩ = some (.slice m.a2 m.n2 m.c2) ∧ w'.cell? ⟨w6.heap.size, 3, none⟩ = some (.slice m.a3 m.n3 m.c3) ∧ w'.cell? ⟨w6.heap.size, 4, none⟩ = some (.slice m.a4 m.n4 m.c4) ∧ w'.cell? ⟨w.heap.size, 0, none⟩ = some (.int .i64 c.k) ∧ w'.cell? ⟨w.heap.size, 1, none⟩ = some (.slice p.a1 p.n1 p.c1) ∧ w'.cell? ⟨w.heap.size, 2, none⟩ = some (.slice p.a2 p.n2 p.c2) ∧ w'.cell? ⟨w.heap.size, 3, none⟩ = some (.slice p.a3 p.n3 p.c3) ∧ w'.cell? ⟨w.heap.size, 4, none⟩ = some (.slice p.a4 p.n4 p.c4) ∧ LB2 w p c q d w6.heap.size w7.heap.size m n w') (fun w1 w2 => Below w1.heap.size w1 w2) (fun kI vv ww => match kI with
      | 0 => vv = .agg #[.int .i64 c.k, .slice m.a1 m.n1 m.c1, .slice m.a2 m.n2 m.c2, .slice m.a3 m.n3 m.c3, .slice m.a4 m.n4 m.c4]
      | 1 => vv = .agg #[.int .i64 c.k, .slice p.a1 p.n1 p.c1, .slice p.a2 p.n2 p.c2, .slice p.a3 p.n3 p.c3, .slice p.a4 p.n4 p.c4]
      | 2 => ∃ m : VA, vv = .agg #[.int .i64 c.k, .slice m.a1 m.n1 m.c1, .slice m.a2 m.n2 m.c2, .slice m.a3 m.n3 m.c3, .slice m.a4 m.n4 m.c4] ∧ F4 ww m c
      | 3 => vv = .bool true
      | 4 => vv = .bool false
      | _ => True) [(4, some 39), (3, some 38), (2, some 37), (1, some 36), (0, some 35)] 5 (by kernel_rfl) rfl (by kernel_rfl) (by kernel_rfl) (by kernel_rfl) ?_ ?_ ?_ ?_
    · intro kI v w1 w2 hN h
      match kI, h with
      | 0, h => exact h
      | 1, h => exact h
      | 2, h => exact by obtain ⟨m, e, hf⟩ := h; exact ⟨m, e, hf.below hN⟩
      | 3, h => exact h
      | 4, h => exact h
      | kI + 5, _ => exact trivial
    · exact ⟨M8.out.drew.bx.c 0 rfl, M8.out.drew.bx.c 1 rfl, M8.out.drew.bx.c 2 rfl, M8.out.drew.bx.c 3 rfl, M8.out.drew.bx.c 4 rfl, M8.out.drew.l.bx.c 0 rfl, M8.out.drew.l.bx.c 1 rfl, M8.out.drew.l.bx.c 2 rfl, M8.out.drew.l.bx.c 3 rfl, M8.out.drew.l.bx.c 4 rfl, M8.out.drew⟩
    · refine ⟨⟨⟨⟨⟨trivial, ?_⟩, ?_⟩, ?_⟩, ?_⟩, ?_⟩
      · refine StepOk.intro (some 35) rfl rfl (fun xI w1 hS hdep K hK => ?_)
        clear hdep
        have hSS := Lib.hid hS
        obtain ⟨s0, s1, s2, s3, s4, s5, s6, s7, s8, s9, hB⟩ := hS
        refine ⟨?_⟩
        simp only [puts, Act.put, List.setIfInBounds_toArray, List.set_cons_zero, List.set_cons_succ]
        go_simp
        exact hK.out _ (.agg #[.int .i64 c.k, .slice m.a1 m.n1 m.c1, .slice m.a2 m.n2 m.c2, .slice m.a3 m.n3 m.c3, .slice m.a4 m.n4 m.c4]) _ (by simp only [puts, Act.put, List.setIfInBounds_toArray, List.set_cons_zero, List.set_cons_succ]) (Below.refl _ _) (hSS.out) (rfl)
      · refine StepOk.intro (some 36) rfl rfl (fun xI w1 hS hdep K hK => ?_)
        clear hdep
        have hSS := Lib.hid hS
        obtain ⟨s0, s1, s2, s3, s4, s5, s6, s7, s8, s9, hB⟩ := hS
        refine ⟨?_⟩
        simp only [puts, Act.put, List.setIfInBounds_toArray, List.set_cons_zero, List.set_cons_succ]
        go_simp
        exact hK.out _ (.agg #[.int .i64 c.k, .slice p.a1 p.n1 p.c1, .slice p.a2 p.n2 p.c2, .slice p.a3 p.n3 p.c3, .slice p.a4 p.n4 p.c4]) _ (by simp only [puts, Act.put, List.setIfInBounds_toArray, List.set_cons_zero, List.set_cons_succ]) (Below.refl _ _) (hSS.out) (rfl)
      · refine StepOk.intro (some 37) rfl rfl (fun xI w1 hS hdep K hK => ?_)
        have h1 : xI 1 = .agg #[.int .i64 c.k, .slice p.a1 p.n1 p.c1, .slice p.a2 p.n2 p.c2, .slice p.a3 p.n3 p.c3, .slice p.a4 p.n4 p.c4] := hdep 1 (by kernel_rfl)
        clear hdep
        have hSS := Lib.hid hS
        obtain ⟨s0, s1, s2, s3, s4, s5, s6, s7, s8, s9, hB⟩ := hS
        refine ⟨?_⟩
        simp only [puts, Act.put, List.setIfInBounds_toArray, List.set_cons_zero, List.set_cons_succ, h1]
        go_simp; go_at_call 42; refine (toV _ _ _ (hB.l.f) GC.out).mono ?_; rintro e w5 ⟨mm, rfl, hf, hb5⟩
        exact hK.out _ (.agg #[.int .i64 c.k, .slice mm.a1 mm.n1 mm.c1, .slice mm.a2 mm.n2 mm.c2, .slice mm.a3 mm.n3 mm.c3, .slice mm.a4 mm.n4 mm.c4]) _ (by simp only [puts, Act.put, List.setIfInBounds_toArray, List.set_cons_zero, List.set_cons_succ, h1]) hb5 (⟨below_cell hb5 s0, below_cell hb5 s1, below_cell hb5 s2, below_cell hb5 s3, below_cell hb5 s4, below_cell hb5 s5, below_cell hb5 s6, below_cell hb5 s7, below_cell hb5 s8, below_cell hb5 s9, hB.below hb5⟩) (⟨mm, rfl, hf⟩)
      · refine StepOk.intro (some 38) rfl rfl (fun xI w1 hS hdep K hK => ?_)
        have h0 : xI 0 = .agg #[.int .i64 c.k, .slice m.a1 m.n1 m.c1, .slice m.a2 m.n2 m.c2, .slice m.a3 m.n3 m.c3, .slice m.a4 m.n4 m.c4] := hdep 0 (by kernel_rfl)
        have h2 : ∃ m : VA, (xI 2) = .agg #[.int .i64 c.k, .slice m.a1 m.n1 m.c1, .slice m.a2 m.n2 m.c2, .slice m.a3 m.n3 m.c3, .slice m.a4 m.n4 m.c4] ∧ F4 w1 m c := hdep 2 (by kernel_rfl)
        clear hdep
        have hSS := Lib.hid hS
        obtain ⟨s0, s1, s2, s3, s4, s5, s6, s7, s8, s9, hB⟩ := hS
        refine ⟨?_⟩
        simp only [puts, Act.put, List.setIfInBounds_toArray, List.set_cons_zero, List.set_cons_succ, h0]
        obtain ⟨m2, q2, f2⟩ := h2; simp only [q2]; go_simp; go_at_call 44; refine (eqVV _ _ _ _ (hB.f) f2).mono ?_; rintro e w5 ⟨rfl, hb5⟩
        exact hK.out _ (.bool true) _ (by simp only [puts, Act.put, List.setIfInBounds_toArray, List.set_cons_zero, List.set_cons_succ, h0, q2]) hb5 (⟨below_cell hb5 s0, below_cell hb5 s1, below_cell hb5 s2, below_cell hb5 s3, below_cell hb5 s4, below_cell hb5 s5, below_cell hb5 s6, below_cell hb5 s7, below_cell hb5 s8, below_cell hb5 s9, hB.below hb5⟩) (rfl)
      · refine StepOk.intro (some 39) rfl rfl (fun xI w1 hS hdep K hK => ?_)
        have h3 : xI 3 = .bool true := hdep 3 (by kernel_rfl)
        clear hdep
        have hSS := Lib.hid hS
        obtain ⟨s0, s1, s2, s3, s4, s5, s6, s7, s8, s9, hB⟩ := hS
        refine ⟨?_⟩
        simp only [puts, Act.put, List.setIfInBounds_toArray, List.set_cons_zero, List.set_cons_succ, h3]
        go_simp
        exact hK.out _ (.bool false) _ (by simp only [puts, Act.put, List.setIfInBounds_toArray, List.set_cons_zero, List.set_cons_succ, h3]) (Below.refl _ _) (hSS.out) (rfl)
    · intro xI w1 hS hx
      have e0 : xI 0 = .agg #[.int .i64 c.k, .slice m.a1 m.n1 m.c1, .slice m.a2 m.n2 m.c2, .slice m.a3 m.n3 m.c3, .slice m.a4 m.n4 m.c4] := hx 0 (by decide)
      have e1 : xI 1 = .agg #[.int .i64 c.k, .slice p.a1 p.n1 p.c1, .slice p.a2 p.n2 p.c2, .slice p.a3 p.n3 p.c3, .slice p.a4 p.n4 p.c4] := hx 1 (by decide)
      have e2 : ∃ m : VA, (xI 2) = .agg #[.int .i64 c.k, .slice m.a1 m.n1 m.c1, .slice m.a2 m.n2 m.c2, .slice m.a3 m.n3 m.c3, .slice m.a4 m.n4 m.c4] ∧ F4 w1 m c := hx 2 (by decide)
      have e3 : xI 3 = .bool true := hx 3 (by decide)
      have e4 : xI 4 = .bool false := hx 4 (by decide)
      clear hx
      obtain ⟨s0, s1, s2, s3, s4, s5, s6, s7, s8, s9, hB⟩ := hS
      simp only [puts, Act.put, List.setIfInBounds_toArray, List.set_cons_zero, List.set_cons_succ, e0, e1, e3, e4]
      clear e0 e1 e3 e4
      refine NoPanic.normal ?_
      have M9 := Lib.hid hB
      clear e2 hB s0 s1 s2 s3 s4 s5 s6 s7 s8 s9
      go_wp2_with fail
      refine wp_region_noPanic ?_
      refine wp_region_inv (fun w' => w'.cell? ⟨w7.heap.size, 0, none⟩ = some (.int .i64 d.k) ∧ w'.cell? ⟨w7.heap.size, 1, none⟩ = some (.slice n.a1 n.n1 n.c1) ∧ w'.cell? ⟨w7.heap.size, 2, none⟩ = some (.slice n.a2 n.n2 n.c2) ∧ w'.cell? ⟨w7.heap.size, 3, none⟩ = some (.slice n.a3 n.n3 n.c3) ∧ w'.cell? ⟨w7.heap.size, 4, none⟩ = some (.slice n.a4 n.n4 n.c4) ∧ w'.cell? ⟨w.heap.size + 1, 0, none⟩ = some (.int .i64 d.k) ∧ w'.cell? ⟨w.heap.size + 1, 1, none⟩ = some (.slice q.a1 q.n1 q.c1) ∧ w'.cell? ⟨w.heap.size + 1, 2, none⟩ = some (.slice q.a2 q.n2 q.c2) ∧ w'.cell? ⟨w.heap.size + 1, 3, none⟩ = some (.slice q.a3 q.n3 q.c3) ∧ w'.cell? ⟨w.heap.size + 1, 4, none⟩ = some (.slice q.a4 q.n4 q.c4) ∧ LB2 w p c q d w6.heap.size w7.heap.size m n w') (fun w1 w2 => Below w1.heap.size w1 w2) (fun kI vv ww => match kI with
        | 0 => vv = .agg #[.int .i64 d.k, .slice n.a1 n.n1 n.c1, .slice n.a2 n.n2 n.c2, .slice n.a3 n.n3 n.c3, .slice n.a4 n.n4 n.c4]
        | 1 => vv = .agg #[.int .i64 d.k, .slice q.a1 q.n1 q.c1, .slice q.a2 q.n2 q.c2, .slice q.a3 q.n3 q.c3, .slice q.a4 q.n4 q.c4]
        | 2 => ∃ m : VA, vv = .agg #[.int .i64 d.k, .slice m.a1 m.n1 m.c1, .slice m.a2 m.n2 m.c2, .slice m.a3 m.n3 m.c3, .slice m.a4 m.n4 m.c4] ∧ F4 ww m d
        | 3 => vv = .bool true
        | 4 => vv = .bool false
        | _ => True) [(4, some 44), (3, some 43), (2, some 42), (1, some 41), (0, some 40)] 5 (by kernel_rfl) rfl (by kernel_rfl) (by kernel_rfl) (by kernel_rfl) ?_ ?_ ?_ ?_
      · intro kI v w1 w2 hN h
        match kI, h with
        | 0, h => exact h
        | 1, h => exact h
        | 2, h => exact by obtain ⟨m, e, hf⟩ := h; exact ⟨m, e, hf.below hN⟩
        | 3, h => exact h
        | 4, h => exact h
        | kI + 5, _ => exact trivial
      · exact ⟨M9.out.drew.bz.c 0 rfl, M9.out.drew.bz.c 1 rfl, M9.out.drew.bz.c 2 rfl, M9.out.drew.bz.c 3 rfl, M9.out.drew.bz.c 4 rfl, M9.out.drew.l.bz.c 0 rfl, M9.out.drew.l.bz.c 1 rfl, M9.out.drew.l.bz.c 2 rfl, M9.out.drew.l.bz.c 3 rfl, M9.out.drew.l.bz.c 4 rfl, M9.out.drew⟩
      · refine ⟨⟨⟨⟨⟨trivial, ?_⟩, ?_⟩, ?_⟩, ?_⟩, ?_⟩
        · refine StepOk.intro (some 40) rfl rfl (fun xI w1 hS hdep K hK => ?_)
          clear hdep
          have hSS := Lib.hid hS
          obtain ⟨s0, s1, s2, s3, s4, s5, s6, s7, s8, s9, hB⟩ := hS
          refine ⟨?_⟩
          simp only [puts, Act.put, List.setIfInBounds_toArray, List.set_cons_zero, List.set_cons_succ]
          go_simp
          exact hK.out _ (.agg #[.int .i64 d.k, .slice n.a1 n.n1 n.c1, .slice n.a2 n.n2 n.c2, .slice n.a3 n.n3 n.c3, .slice n.a4 n.n4 n.c4]) _ (by simp only [puts, Act.put, List.setIfInBounds_toArray, List.set_cons_zero, List.set_cons_succ]) (Below.refl _ _) (hSS.out) (rfl)
        · refine StepOk.intro (some 41) rfl rfl (fun xI w1 hS hdep K hK => ?_)
          clear hdep
          have hSS := Lib.hid hS
          obtain ⟨s0, s1, s2, s3, s4, s5, s6, s7, s8, s9, hB⟩ := hS
          refine ⟨?_⟩
          simp only [puts, Act.put, List.setIfInBounds_toArray, List.set_cons_zero, List.set_cons_succ]
          go_simp
          exact hK.out _ (.agg #[.int .i64 d.k, .slice q.a1 q.n1 q.c1, .slice q.a2 q.n2 q.c2, .slice q.a3 q.n3 q.c3, .slice q.a4 q.n4 q.c4]) _ (by simp only [puts, Act.put, List.setIfInBounds_toArray, List.set_cons_zero, List.set_cons_succ]) (Below.refl _ _) (hSS.out) (rfl)
        · refine StepOk.intro (some 42) rfl rfl (fun xI w1 hS hdep K hK => ?_)
          have h1 : xI 1 = .agg #[.int .i64 d.k, .slice q.a1 q.n1 q.c1, .slice q.a2 q.n2 q.c2, .slice q.a3 q.n3 q.c3, .slice q.a4 q.n4 q.c4] := hdep 1 (by kernel_rfl)
          clear hdep
          have hSS := Lib.hid hS
          obtain ⟨s0, s1, s2, s3, s4, s5, s6, s7, s8, s9, hB⟩ := hS
          refine ⟨?_⟩
          simp only [puts, Act.put, List.setIfInBounds_toArray, List.set_cons_zero, List.set_cons_succ, h1]
          go_simp; go_at_call 42; refine (toV _ _ _ (hB.l.g) GD.out).mono ?_; rintro e w5 ⟨mm, rfl, hf, hb5⟩
          exact hK.out _ (.agg #[.int .i64 d.k, .slice mm.a1 mm.n1 mm.c1, .slice mm.a2 mm.n2 mm.c2, .slice mm.a3 mm.n3 mm.c3, .slice mm.a4 mm.n4 mm.c4]) _ (by simp only [puts, Act.put, List.setIfInBounds_toArray, List.set_cons_zero, List.set_cons_succ, h1]) hb5 (⟨below_cell hb5 s0, below_cell hb5 s1, below_cell hb5 s2, below_cell hb5 s3, below_cell hb5 s4, below_cell hb5 s5, below_cell hb5 s6, below_cell hb5 s7, below_cell hb5 s8, below_cell hb5 s9, hB.below hb5⟩) (⟨mm, rfl, hf⟩)
        · refine StepOk.intro (some 43) rfl rfl (fun xI w1 hS hdep K hK => ?_)
          have h0 : xI 0 = .agg #[.int .i64 d.k, .slice n.a1 n.n1 n.c1, .slice n.a2 n.n2 n.c2, .slice n.a3 n.n3 n.c3, .slice n.a4 n.n4 n.c4] := hdep 0 (by kernel_rfl)
          have h2 : ∃ m : VA, (xI 2) = .agg #[.int .i64 d.k, .slice m.a1 m.n1 m.c1, .slice m.a2 m.n2 m.c2, .slice m.a3 m.n3 m.c3, .slice m.a4 m.n4 m.c4] ∧ F4 w1 m d := hdep 2 (by kernel_rfl)
          clear hdep
          have hSS := Lib.hid hS
          obtain ⟨s0, s1, s2, s3, s4, s5, s6, s7, s8, s9, hB⟩ := hS
          refine ⟨?_⟩
          simp only [puts, Act.put, List.setIfInBounds_toArray, List.set_cons_zero, List.set_cons_succ, h0]
          obtain ⟨m2, q2, f2⟩ := h2; simp only [q2]; go_simp; go_at_call 44; refine (eqVV _ _ _ _ (hB.g) f2).mono ?_; rintro e w5 ⟨rfl, hb5⟩
          exact hK.out _ (.bool true) _ (by simp only [puts, Act.put, List.setIfInBounds_toArray, List.set_cons_zero, List.set_cons_succ, h0, q2]) hb5 (⟨below_cell hb5 s0, below_cell hb5 s1, below_cell hb5 s2, below_cell hb5 s3, below_cell hb5 s4, below_cell hb5 s5, below_cell hb5 s6, below_cell hb5 s7, below_cell hb5 s8, below_cell hb5 s9, hB.below hb5⟩) (rfl)
        · refine StepOk.intro (some 44) rfl rfl (fun xI w1 hS hdep K hK => ?_)
          have h3 : xI 3 = .bool true := hdep 3 (by kernel_rfl)
          clear hdep
          have hSS := Lib.hid hS
          obtain ⟨s0, s1, s2, s3, s4, s5, s6, s7, s8, s9, hB⟩ := hS
          refine ⟨?_⟩
          simp only [puts, Act.put, List.setIfInBounds_toArray, List.set_cons_zero, List.set_cons_succ, h3]
          go_simp
          exact hK.out _ (.bool false) _ (by simp only [puts, Act.put, List.setIfInBounds_toArray, List.set_cons_zero, List.set_cons_succ, h3]) (Below.refl _ _) (hSS.out) (rfl)
      · intro xI w1 hS hx
        have e0 : xI 0 = .agg #[.int .i64 d.k, .slice n.a1 n.n1 n.c1, .slice n.a2 n.n2 n.c2, .slice n.a3 n.n3 n.c3, .slice n.a4 n.n4 n.c4] := hx 0 (by decide)
        have e1 : xI 1 = .agg #[.int .i64 d.k, .slice q.a1 q.n1 q.c1, .slice q.a2 q.n2 q.c2, .slice q.a3 q.n3 q.c3, .slice q.a4 q.n4 q.c4] := hx 1 (by decide)
        have e2 : ∃ m : VA, (xI 2) = .agg #[.int .i64 d.k, .slice m.a1 m.n1 m.c1, .slice m.a2 m.n2 m.c2, .slice m.a3 m.n3 m.c3, .slice m.a4 m.n4 m.c4] ∧ F4 w1 m d := hx 2 (by decide)
        have e3 : xI 3 = .bool true := hx 3 (by decide)
        have e4 : xI 4 = .bool false := hx 4 (by decide)
        clear hx
        obtain ⟨s0, s1, s2, s3, s4, s5, s6, s7, s8, s9, hB⟩ := hS
        simp only [puts, Act.put, List.setIfInBounds_toArray, List.set_cons_zero, List.set_cons_succ, e0, e1, e3, e4]
        clear e0 e1 e3 e4
        refine NoPanic.normal ?_
        have M10 := Lib.hid hB
        clear e2 hB s0 s1 s2 s3 s4 s5 s6 s7 s8 s9
        go_wp2
        go_ret
        exact ⟨rfl, M10.out.l.bel⟩

end Go.Proofs.Ytclhcnfgpkhplaa
