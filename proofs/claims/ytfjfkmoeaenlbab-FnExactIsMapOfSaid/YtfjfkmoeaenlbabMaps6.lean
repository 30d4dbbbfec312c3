/-
  The program's keepsTuples, IsMapOf.
-/
import Derived.Test.YtfjfkmoeaenlbabMaps5
namespace Go.Proofs.Ytfjfkmoeaenlbab
open Go.RowKit

theorem held6 {w w' w0 : World} {C : List (Addr × Value)} {R : List (World → Prop)} {a0 a1 a2 a3 b0 b1 : Addr} {x0 x1 x2 x3 y0 y1 : Value}
    (h : w.cell? a0 = some x0 ∧ w.cell? a1 = some x1 ∧ w.cell? a2 = some x2 ∧ w.cell? a3 = some x3 ∧ w.cell? b0 = some y0 ∧ w.cell? b1 = some y1 ∧ Kept w0 C R w) (hb : Below w.heap.size w w') :
    w'.cell? a0 = some x0 ∧ w'.cell? a1 = some x1 ∧ w'.cell? a2 = some x2 ∧ w'.cell? a3 = some x3 ∧ w'.cell? b0 = some y0 ∧ w'.cell? b1 = some y1 ∧ Kept w0 C R w' :=
  ⟨below_cell hb h.1, below_cell hb h.2.1, below_cell hb h.2.2.1, below_cell hb h.2.2.2.1, below_cell hb h.2.2.2.2.1, below_cell hb h.2.2.2.2.2.1, h.2.2.2.2.2.2.below hb⟩
theorem six_grid {w w0 : World} {C : List (Addr × Value)} {R : List (World → Prop)} {a0 a1 a2 a3 b0 b1 : Addr} {x0 x1 x2 x3 y0 y1 : Value}
    (h : w.cell? a0 = some x0 ∧ w.cell? a1 = some x1 ∧ w.cell? a2 = some x2 ∧ w.cell? a3 = some x3 ∧ w.cell? b0 = some y0 ∧ w.cell? b1 = some y1 ∧ Kept w0 C R w) (i : Nat) {v : Value} {xss : List (List Int)} (hi : R[i]? = some (fun w => GridAt w v xss)) : GridAt w v xss := h.2.2.2.2.2.2.grid i hi
theorem six_row {w w0 : World} {C : List (Addr × Value)} {R : List (World → Prop)} {a0 a1 a2 a3 b0 b1 : Addr} {x0 x1 x2 x3 y0 y1 : Value}
    (h : w.cell? a0 = some x0 ∧ w.cell? a1 = some x1 ∧ w.cell? a2 = some x2 ∧ w.cell? a3 = some x3 ∧ w.cell? b0 = some y0 ∧ w.cell? b1 = some y1 ∧ Kept w0 C R w) (i : Nat) {v : Value} {xs : List Int} (hi : R[i]? = some (fun w => RowAt w v xs)) : RowAt w v xs := h.2.2.2.2.2.2.row i hi

set_option maxHeartbeats 2000000 in
set_option maxRecDepth 100000 in
theorem keepsTuples (x : Int) (a1 : Option Addr) (n1 c1 : Nat) (rs : List (Int × List (List Int))) (y : Int) (a2 : Option Addr) (n2 c2 : Nat) (qs : List (Int × List (List Int))) (v : Value) (to : List Int) (b : Bool) (w : World) (h1 : RelsAt w (.slice a1 n1 c1) rs) (h2 : RelsAt w (.slice a2 n2 c2) qs) (h3 : RowAt w v to)
    (t1 : TplOk x rs) (t2 : TplOk y qs) (hsa : SameAr rs qs) (ht : TupP y x to) (hb : Tells b (MapsP rs qs to)) :
    Calls Try.prog 24 #[.agg #[.int .i64 x, .slice a1 n1 c1], .agg #[.int .i64 y, .slice a2 n2 c2], v] w fun e w' => e = .returned (.bool b) ∧ Below w.heap.size w w' := by
  obtain ⟨at0, ct0, rfl, hnt, hct⟩ := h3
  have H3 : Hid (RowAt w (.slice at0 to.length ct0) to) := ⟨at0, ct0, rfl, hnt, hct⟩
  obtain ⟨a', c', hv, hn, hc⟩ := h1
  simp only [Value.slice.injEq] at hv
  obtain ⟨rfl, rfl, rfl⟩ := hv
  obtain ⟨a2', c2', hv2, hn2, hc2⟩ := h2
  simp only [Value.slice.injEq] at hv2
  obtain ⟨rfl, rfl, rfl⟩ := hv2
  rw [← hsa.1] at hn2 hc2 ⊢
  have HC := Lib.hid hc
  have HC2 := Lib.hid hc2
  have T1 := Lib.hid t1
  have T2 := Lib.hid t2
  have HSA := Lib.hid hsa
  have HT := Lib.hid ht
  have HB := Lib.hid hb
  have K0 := Lib.hid (((Kept.start w).box w.heap.size rfl (.int .i64 x) (.slice a1 rs.length c1) 31).box (w.heap.size + 1) (by simp) (.int .i64 y) (.slice a2 rs.length c2) 31)
  clear hc hc2 t1 t2 hsa ht hb hct
  go_enter Try.func24, Try.ntmps24
  go_wp2
  go_loopw [12] (fun i wr => ∃ k : Nat, k ≤ rs.length ∧ i = .int .i64 k ∧ (∀ i', i' < k → ∀ j, j < (gridN rs i').length → HasP (gridN qs i') (mapped to (rowN (gridN rs i') j))) ∧ Kept w [(⟨w.heap.size + 1, 0, none⟩, .int .i64 y), (⟨w.heap.size + 1, 1, none⟩, .slice a2 rs.length c2), (⟨w.heap.size, 0, none⟩, .int .i64 x), (⟨w.heap.size, 1, none⟩, .slice a1 rs.length c1)] [] wr) (fun i _ => rs.length - (intOf i).toNat)
  case atStart => exact ⟨0, Nat.zero_le _, rfl, fun j hj => absurd hj (Nat.not_lt_zero _), K0.out⟩
  case round =>
    obtain ⟨k, hk, rfl, hall, hkp⟩ := hrel
    have HA := Lib.hid hall
    have K := Lib.hid hkp
    clear hall hkp
    by_cases hlt : k < rs.length
    · obtain ⟨b1, off1, ha1, hcell1⟩ := HC.out (by omega)
      subst ha1
      obtain ⟨b2, off2, ha2, hcell2⟩ := HC2.out (by omega)
      subst ha2
      obtain ⟨hx0, A1, N1, C1, hx1, hg1⟩ := (hcell1 k hlt).below K.out.bel
      obtain ⟨hy0, A2, N2, C2, hy1, hg2⟩ := (hcell2 k hlt).below K.out.bel
      have hlt' : (k : Int) < (rs.length : Int) := by omega
      have HR1 := Lib.hid (T1.out.2.2 k hlt)
      have HR2 := Lib.hid (T2.out.2.2 k (by have := HSA.out.1; omega))
      have hae := Lib.hid (HSA.out.2 k hlt)
      have HBA := Lib.hid ((Below.refl wr.heap.size wr).alloc (Nat.le_refl _) (.cells #[.int .i64 (arN rs k), .slice A1 N1 C1] 63))
      have KR := Lib.hid ((((((Kept.start w).below K.out.bel).read (lives_row _ _) (H3.out.below K.out.bel)).read (lives_grid _ _) hg2).read (lives_grid _ _) hg1).below HBA.out)
      have KA := Lib.hid (K.out.below HBA.out)
      have z0 : (wr.alloc (.cells #[.int .i64 (arN rs k), .slice A1 N1 C1] 63)).cell? ⟨wr.heap.size, 0, none⟩ = some (.int .i64 (arN rs k)) := by simp
      have z1 : (wr.alloc (.cells #[.int .i64 (arN rs k), .slice A1 N1 C1] 63)).cell? ⟨wr.heap.size, 1, none⟩ = some (.slice A1 N1 C1) := by simp
      have z2 := KA.out.c 0 rfl
      have z3 := KA.out.c 1 rfl
      have z4 := below_cell HBA.out hy0
      have z5 := below_cell HBA.out hy1
      have hlen2 : qs.length = rs.length := HSA.out.1.symm
      have HM : Hid (∀ j, j < (mapG to (gridN rs k)).length → TupP y (arN rs k) (rowN (mapG to (gridN rs k)) j)) := Lib.hid (by
        intro j hj
        rw [mapG_len] at hj
        rw [mapG_at _ _ _ hj]
        exact mapped_tup HT.out (HR1.out.2.2 j hj).1)
      have HPM : Hid (SubP (setOf y (mapG to (gridN rs k))) (setOf y (gridN qs k)) ↔ ∀ j, j < (gridN rs k).length → HasP (gridN qs k) (mapped to (rowN (gridN rs k) j))) := Lib.hid (by
        have h := part_mapped (ys := gridN qs k) T2.out.1 HR1.out.2.1 HM.out (by have := HR2.out; rwa [← hae.out] at this)
        rw [h, mapG_len]
        exact ⟨fun g j hj => by have := g j hj; rwa [mapG_at _ _ _ hj] at this, fun g j hj => by rw [mapG_at _ _ _ hj]; exact g j hj⟩)
      clear hcell1 hcell2 hg1 hg2
      by_cases hsub : ∀ j, j < (gridN rs k).length → HasP (gridN qs k) (mapped to (rowN (gridN rs k) j))
      · have HS := Lib.hid ((Tells.yes hsub).congr HPM.out.symm)
        have HSP := Lib.hid hsub
        clear hsub
        go_wp2
        go_region_held3 (fun w' => w'.cell? ⟨wr.heap.size, 0, none⟩ = some (.int .i64 (arN rs k)) ∧ w'.cell? ⟨wr.heap.size, 1, none⟩ = some (.slice A1 N1 C1) ∧ w'.cell? ⟨w.heap.size + 1, 0, none⟩ = some (.int .i64 y) ∧ w'.cell? ⟨w.heap.size + 1, 1, none⟩ = some (.slice (some ⟨b2, off2, none⟩) rs.length c2) ∧ w'.cell? ⟨b2, off2 + k * 2, none⟩ = some (.int .i64 (arN qs k)) ∧ w'.cell? ⟨b2, off2 + k * 2 + 1, none⟩ = some (.slice A2 N2 C2) ∧ Kept w [] [fun w => GridAt w (.slice A1 N1 C1) (gridN rs k), fun w => GridAt w (.slice A2 N2 C2) (gridN qs k), fun w => RowAt w (.slice at0 to.length ct0) to] w')
          (first | exact held6 (by assumption) hb5 | exact held6 (by assumption) hb6 | exact held6 (by assumption) hb7 | exact held6 ⟨z0, z1, z2, z3, z4, z5, KR.out⟩ ((QW.refl _).drew.below _))
          (first
            | (go_at_call 40; refine (mappedBits x y _ _ _ _ _ _ _ _ (six_grid (by assumption) 0 (by rfl)) (six_row (by assumption) 2 (by rfl)) HR1.out T2.out.1 HT.out).mono ?_; rintro e w5 ⟨rfl, hb5⟩)
            | (go_at_call 42; refine (bitsOf _ _ _ _ _ _ _ (six_grid (by assumption) 1 (by rfl)) HR2.out).mono ?_; rintro e w6 ⟨rfl, hb6⟩)
            | (go_at_call 41; refine (isPartOfBits _ _ true _ HS.out).mono ?_; rintro e w7 ⟨rfl, hb7⟩))
        all_goals
          have K7 : Hid (Kept w _ _ w7) := Lib.hid (by first | exact ((KA.out.drew.below hb5).below hb6).below hb7 | exact ((KA.out.drew.below hb6).below hb5).below hb7)
          clear hb5 hb6 hb7
          go_wp2
          go_roundw
          case rel =>
            refine ⟨k + 1, by omega, by go_num, fun i' hi' => ?_, K7.out⟩
            by_cases hik : i' = k
            · subst hik; exact HSP.out
            · exact HA.out i' (by omega)
          case measure => simp [intOf]; omega
      · have HS := Lib.hid ((Tells.no hsub).congr HPM.out.symm)
        have HF := Lib.hid (HB.out.is_false fun h => hsub (h k hlt))
        clear hsub
        go_wp2
        go_region_held3 (fun w' => w'.cell? ⟨wr.heap.size, 0, none⟩ = some (.int .i64 (arN rs k)) ∧ w'.cell? ⟨wr.heap.size, 1, none⟩ = some (.slice A1 N1 C1) ∧ w'.cell? ⟨w.heap.size + 1, 0, none⟩ = some (.int .i64 y) ∧ w'.cell? ⟨w.heap.size + 1, 1, none⟩ = some (.slice (some ⟨b2, off2, none⟩) rs.length c2) ∧ w'.cell? ⟨b2, off2 + k * 2, none⟩ = some (.int .i64 (arN qs k)) ∧ w'.cell? ⟨b2, off2 + k * 2 + 1, none⟩ = some (.slice A2 N2 C2) ∧ Kept w [] [fun w => GridAt w (.slice A1 N1 C1) (gridN rs k), fun w => GridAt w (.slice A2 N2 C2) (gridN qs k), fun w => RowAt w (.slice at0 to.length ct0) to] w')
          (first | exact held6 (by assumption) hb5 | exact held6 (by assumption) hb6 | exact held6 (by assumption) hb7 | exact held6 ⟨z0, z1, z2, z3, z4, z5, KR.out⟩ ((QW.refl _).drew.below _))
          (first
            | (go_at_call 40; refine (mappedBits x y _ _ _ _ _ _ _ _ (six_grid (by assumption) 0 (by rfl)) (six_row (by assumption) 2 (by rfl)) HR1.out T2.out.1 HT.out).mono ?_; rintro e w5 ⟨rfl, hb5⟩)
            | (go_at_call 42; refine (bitsOf _ _ _ _ _ _ _ (six_grid (by assumption) 1 (by rfl)) HR2.out).mono ?_; rintro e w6 ⟨rfl, hb6⟩)
            | (go_at_call 41; refine (isPartOfBits _ _ false _ HS.out).mono ?_; rintro e w7 ⟨rfl, hb7⟩))
        all_goals
          have K7 : Hid (Kept w _ _ w7) := Lib.hid (by first | exact ((KA.out.drew.below hb5).below hb6).below hb7 | exact ((KA.out.drew.below hb6).below hb5).below hb7)
          clear hb5 hb6 hb7
          go_wp2
          go_ret
          exact ⟨ret_bool HF.out.symm, K7.out.bel⟩
    · obtain rfl : k = rs.length := by omega
      have HF := Lib.hid (HB.out.is_true HA.out)
      go_wp2
      go_ret
      exact ⟨ret_bool HF.out.symm, K.out.bel⟩

set_option maxHeartbeats 2000000 in
set_option maxRecDepth 100000 in
theorem implIsMapOf (x : Int) (a1 : Option Addr) (n1 c1 : Nat) (rs : List (Int × List (List Int))) (y : Int) (a2 : Option Addr) (n2 c2 : Nat) (qs : List (Int × List (List Int))) (v : Value) (to : List Int) (b : Bool) (cd : Int) (w : World) (h1 : RelsAt w (.slice a1 n1 c1) rs) (h2 : RelsAt w (.slice a2 n2 c2) qs) (h3 : RowAt w v to) (hi : MapIs x rs y qs to b cd) :
    Calls Try.prog 9 #[.agg #[.int .i64 x, .slice a1 n1 c1], .agg #[.int .i64 y, .slice a2 n2 c2], v] w fun e w' => e = .returned (.tuple #[.bool b, .int .i64 cd]) ∧ Below w.heap.size w w' := by
  obtain ⟨at0, ct0, rfl, hnt, hct⟩ := h3
  have K0 := Lib.hid ((((((Kept.start w).read (lives_row _ _) (show RowAt w (.slice at0 to.length ct0) to from ⟨at0, ct0, rfl, hnt, hct⟩)).read (lives_rels _ _) h2).read (lives_rels _ _) h1).box w.heap.size rfl (.int .i64 x) (.slice a1 n1 c1) 31).box (w.heap.size + 1) (by simp) (.int .i64 y) (.slice a2 n2 c2) 31)
  clear h1 h2 hct
  rcases hi with ⟨hc, h0, rfl⟩ | ⟨hc, hd⟩
  · have HC := Lib.hid hc
    have hne : (cd == 0) = false := beq_eq_false_iff_ne.2 h0
    clear hc h0
    go_enter Try.func9, Try.ntmps9
    go_wp2_with fail
    refine (templatesCode _ _ _ _ _ _ _ _ _ _ cd _ (K0.out.rels 0 rfl) (K0.out.rels 1 rfl) HC.out).mono ?_
    rintro e w1 ⟨rfl, hb1⟩
    have K1 := Lib.hid (K0.out.below hb1)
    clear hb1
    go_wp2
    go_ret2
    exact ⟨rfl, K1.out.bel⟩
  · have HC := Lib.hid hc
    have HO := Lib.hid hc.ok
    have HD := Lib.hid hd
    clear hc hd
    go_enter Try.func9, Try.ntmps9
    go_wp2_with fail
    refine (templatesCode _ _ _ _ _ _ _ _ _ _ 0 _ (K0.out.rels 0 rfl) (K0.out.rels 1 rfl) HC.out).mono ?_
    rintro e w1 ⟨rfl, hb1⟩
    have K1 := Lib.hid (K0.out.below hb1)
    clear hb1
    have cc0 := K1.out.c 0 rfl
    have cc1 := K1.out.c 1 rfl
    have cc2 := K1.out.c 2 rfl
    have cc3 := K1.out.c 3 rfl
    rcases HD.out with ⟨hn, rfl, rfl⟩ | ⟨ht, hb, rfl⟩
    · have HN := Lib.hid (Tells.no hn)
      clear hn
      go_wp2_with fail
      refine (isListBelow _ _ _ _ false _ (K1.out.row 2 rfl) HN.out).mono ?_
      rintro e w2 ⟨rfl, rfl⟩
      go_wp2
      go_ret2
      exact ⟨rfl, K1.out.bel⟩
    · have HT := Lib.hid (Tells.yes ht)
      have HTP := Lib.hid ht
      have HB := Lib.hid hb
      clear ht hb
      go_wp2_with fail
      refine (isListBelow _ _ _ _ true _ (K1.out.row 2 rfl) HT.out).mono ?_
      rintro e w2 ⟨rfl, rfl⟩
      go_wp2_with fail
      refine (keepsTuples _ _ _ _ _ _ _ _ _ _ _ _ b _ (K1.out.rels 0 rfl) (K1.out.rels 1 rfl) (K1.out.row 2 rfl) HO.out.1 HO.out.2.1 HO.out.2.2 HTP.out HB.out).mono ?_
      rintro e w2 ⟨rfl, hb2⟩
      have K2 := Lib.hid (K1.out.below hb2)
      clear hb2 cc0 cc1 cc2 cc3
      go_wp2
      go_ret2
      exact ⟨rfl, K2.out.bel⟩

end Go.Proofs.Ytfjfkmoeaenlbab
