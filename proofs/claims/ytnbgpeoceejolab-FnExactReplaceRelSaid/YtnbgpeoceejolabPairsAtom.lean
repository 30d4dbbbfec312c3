/-
  Lists of atoms: the laws' copies, measures and comparisons.
-/
import Derived.Test.YtnbgpeoceejolabOp
import Derived.Test.YtnbgpeoceejolabPairs
namespace Go.Proofs.Ytnbgpeoceejolab
open Go.RowKit

set_option maxHeartbeats 400000 in
theorem toAtom (ar : Int) (a : Option Addr) (n c : Nat) (xs : List Int) (w : World) (h : RowAt w (.slice a n c) xs) (hl : xs.length ≤ 1048576) :
    Calls Try.prog 59 #[.agg #[.int .i64 ar, .slice a n c]] w (MadeOp w ar xs) := by
  have hH := Lib.hid h
  clear h
  go_enter Try.func59, Try.ntmps59
  go_wp2_with fail
  refine (toRow _ _ _ (hH.out.below ((((Below.refl _ _).alloc (Nat.le_refl _) _).alloc (by simp) _).alloc (by simp; omega) _)) hl).mono ?_
  rintro e w2 ⟨a2, n2, c2, rfl, ho, hb2⟩
  obtain ⟨hc, hf⟩ := bcell hb2
  have hz : w.heap.size + 3 ≤ w2.heap.size := by have := hb2.size; simp at this; omega
  have HO := Lib.hid ho
  have HB := Lib.hid hb2
  clear ho hb2
  go_wp2
  refine bodyPost_ret (v := .agg #[.int .i64 ar, .slice a2 n2 c2]) (by simp [results, Try.results59, go_sem, hc]) rfl ⟨a2, n2, c2, rfl, ?_, ?_⟩
  · exact ((((HO.out.stored (by simp) _).stored (by simp) _).stored (by simp) _).mono (by simp; omega)).full
  · exact ((((((((Below.refl _ _).alloc (Nat.le_refl _) _).alloc (by simp) _).alloc (by simp; omega) _).trans (HB.out.mono (by simp; omega))).setCell (by simp; omega) _).setCell (by simp) _).setCell (by simp) _)

set_option maxHeartbeats 400000 in
theorem eqAtom (x : Int) (a1 : Option Addr) (n1 c1 : Nat) (xs : List Int) (y : Int) (a2 : Option Addr) (n2 c2 : Nat) (ys : List Int) (w : World) (h1 : RowAt w (.slice a1 n1 c1) xs) (h2 : RowAt w (.slice a2 n2 c2) ys) :
    Calls Try.prog 66 #[.agg #[.int .i64 x, .slice a1 n1 c1], .agg #[.int .i64 y, .slice a2 n2 c2]] w fun e w' => e = .returned (.bool (eqO x xs y ys)) ∧ Below w.heap.size w w' := by
  have H1 := Lib.hid h1
  have H2 := Lib.hid h2
  clear h1 h2
  by_cases hxy : x = y
  · subst hxy
    have HF : Hid (eqO x xs x ys = eqB xs ys) := by simp [Hid, eqO, eqB]
    cases hb : eqB xs ys with
    | true =>
      have HB := Lib.hid hb
      clear hb
      go_enter Try.func66, Try.ntmps66
      go_wp2_with fail
      have hbw := ((Below.refl w.heap.size w).alloc (Nat.le_refl _) (.cells #[.int .i64 x, .slice a1 n1 c1] 83)).alloc (by simp) (.cells #[.int .i64 x, .slice a2 n2 c2] 83)
      refine (eqRow' _ _ _ _ _ _ (H1.out.below hbw) (H2.out.below hbw) HB.out).mono ?_
      rintro e w2 ⟨rfl, hq⟩
      have HQ := Lib.hid (hbw.trans (hq.below _))
      clear hq hbw
      go_wp2
      go_ret
      exact ⟨ret_bool (by rw [HF.out, HB.out]), HQ.out⟩
    | false =>
      have HB := Lib.hid hb
      clear hb
      go_enter Try.func66, Try.ntmps66
      go_wp2_with fail
      have hbw := ((Below.refl w.heap.size w).alloc (Nat.le_refl _) (.cells #[.int .i64 x, .slice a1 n1 c1] 83)).alloc (by simp) (.cells #[.int .i64 x, .slice a2 n2 c2] 83)
      refine (eqRow' _ _ _ _ _ _ (H1.out.below hbw) (H2.out.below hbw) HB.out).mono ?_
      rintro e w2 ⟨rfl, hq⟩
      have HQ := Lib.hid (hbw.trans (hq.below _))
      clear hq hbw
      go_wp2
      go_ret
      exact ⟨ret_bool (by rw [HF.out, HB.out]), HQ.out⟩
  · have HF : Hid (eqO x xs y ys = false) := by simp [Hid, eqO, eqB, hxy]
    have hne : (x == y) = false := beq_eq_false_iff_ne.2 hxy
    go_enter Try.func66, Try.ntmps66
    go_wp2
    go_ret
    exact ⟨ret_bool HF.out.symm, ((Below.refl _ _).alloc (Nat.le_refl _) _).alloc (by simp) _⟩

theorem eqAtom' (x : Int) (a1 : Option Addr) (n1 c1 : Nat) (xs : List Int) (y : Int) (a2 : Option Addr) (n2 c2 : Nat) (ys : List Int) (b : Bool) (w : World) (h1 : RowAt w (.slice a1 n1 c1) xs) (h2 : RowAt w (.slice a2 n2 c2) ys) (hb : eqO x xs y ys = b) :
    Calls Try.prog 66 #[.agg #[.int .i64 x, .slice a1 n1 c1], .agg #[.int .i64 y, .slice a2 n2 c2]] w fun e w' => e = .returned (.bool b) ∧ Below w.heap.size w w' := hb ▸ eqAtom x a1 n1 c1 xs y a2 n2 c2 ys w h1 h2

set_option maxHeartbeats 400000 in
theorem szAtom (x : Int) (a : Option Addr) (n c : Nat) (xs : List Int) (left : Int) (w : World) (h : RowAt w (.slice a n c) xs) (h0 : 0 ≤ left) (h1 : left ≤ 1048576) :
    Calls Try.prog 56 #[.agg #[.int .i64 x, .slice a n c], .int .i64 left] w fun e w' => e = .returned (.int .i64 (szF xs.length left)) ∧ Below w.heap.size w w' := by
  have H := Lib.hid h
  clear h
  by_cases hl : left < xs.length
  · have HF := Lib.hid (szF_no hl)
    go_enter Try.func56, Try.ntmps56
    go_wp2_with fail
    have hbw := (Below.refl w.heap.size w).alloc (Nat.le_refl _) (.cells #[.int .i64 x, .slice a n c] 90)
    refine (szRow _ _ _ _ (H.out.below hbw) h0 h1).mono ?_
    rw [HF.out]
    rintro e w2 ⟨rfl, rfl⟩
    have HQ := Lib.hid hbw
    clear hbw
    go_wp2
    go_ret
    exact ⟨ret_int HF.out.symm, HQ.out⟩
  · have HF := Lib.hid (szF_yes (t := xs.length) (l := left) (by omega))
    have hl' : ¬ left - xs.length < 0 := by omega
    go_enter Try.func56, Try.ntmps56
    go_wp2_with fail
    have hbw := (Below.refl w.heap.size w).alloc (Nat.le_refl _) (.cells #[.int .i64 x, .slice a n c] 90)
    refine (szRow _ _ _ _ (H.out.below hbw) h0 h1).mono ?_
    rw [HF.out]
    rintro e w2 ⟨rfl, rfl⟩
    have HQ := Lib.hid hbw
    clear hbw
    go_wp2
    go_ret
    exact ⟨ret_int HF.out.symm, HQ.out⟩

set_option maxHeartbeats 1000000 in
theorem szAtomS (v : Value) (rs : List (Int × List Int)) (left : Int) (w : World) (h : OpsAt w v rs) (h0 : 0 ≤ left) (h1 : left ≤ 1048576) :
    Calls Try.prog 25 #[v, .int .i64 left] w fun e w' => e = .returned (.int .i64 (szF (opsSize rs) left)) ∧ Below w.heap.size w w' := by
  obtain ⟨a, c, rfl, hn, hc⟩ := h
  by_cases hl : left < rs.length
  · have hf := Lib.hid (szF_no (t := opsSize rs) (l := left) (by unfold opsSize; omega))
    have hl' : left - rs.length < 0 := by omega
    clear hc
    go_enter Try.func25, Try.ntmps25
    go_wp2
    go_ret
    exact ⟨ret_int hf.out.symm, Below.refl _ _⟩
  · have hl' : ¬ left - rs.length < 0 := by omega
    have HC := Lib.hid hc
    clear hc
    go_enter Try.func25, Try.ntmps25
    go_wp2
    go_loopw [1, 5] (fun l i wr => ∃ k : Nat, k ≤ rs.length ∧ i = .int .i64 k ∧ (rs.length : Int) + partO rs k ≤ left ∧ l = .int .i64 (left - rs.length - partO rs k) ∧ Below w.heap.size w wr) (fun _ i _ => rs.length - (intOf i).toNat)
    case atStart => exact ⟨0, Nat.zero_le _, rfl, by rw [partO_zero]; omega, by rw [partO_zero]; simp, Below.refl _ _⟩
    case round =>
      obtain ⟨k, hk, rfl, hp, rfl, hb⟩ := hrel
      have HB := Lib.hid hb
      clear hb
      by_cases hlt : k < rs.length
      · obtain ⟨b, off, ha, hcell⟩ := HC.out (by omega)
        subst ha
        obtain ⟨hx0, a1, n1, c1, hx1, hg⟩ := (hcell k hlt).below HB.out
        have HG := Lib.hid hg
        have hs := Lib.hid (partO_succ rs k)
        have hle := Lib.hid (partO_le rs (k := k + 1) (n := rs.length) (by omega))
        clear hcell hg
        by_cases hov : left - rs.length - partO rs k < (rowO rs k).length
        · have hf := Lib.hid (szF_no (t := opsSize rs) (l := left) (by have := hs.out; have := hle.out; unfold opsSize; omega))
          have hg := Lib.hid (szF_no (t := (rowO rs k).length) (l := left - rs.length - partO rs k) hov)
          go_wp2_with fail
          refine (szAtom _ _ _ _ _ _ _ HG.out (by omega) (by omega)).mono ?_
          rw [hg.out]
          rintro e w' ⟨rfl, hb'⟩
          have HB' := Lib.hid hb'
          clear hb'
          go_wp2
          go_ret
          exact ⟨ret_int hf.out.symm, HB.out.trans (HB'.out.mono HB.out.size)⟩
        · have hg := Lib.hid (szF_yes (t := (rowO rs k).length) (l := left - rs.length - partO rs k) (by omega))
          have hov' : ¬ left - rs.length - partO rs k - (rowO rs k).length < 0 := by omega
          go_wp2_with fail
          refine (szAtom _ _ _ _ _ _ _ HG.out (by omega) (by omega)).mono ?_
          rw [hg.out]
          rintro e w' ⟨rfl, hb'⟩
          have HB' := Lib.hid hb'
          clear hb'
          go_wp2
          go_roundw
          case rel => exact ⟨k + 1, by omega, by go_num, by rw [hs.out]; omega, by rw [hs.out]; go_num, HB.out.trans (HB'.out.mono HB.out.size)⟩
          case measure => simp [intOf]; omega
      · obtain rfl : k = rs.length := by omega
        have hf := Lib.hid (szF_yes (t := opsSize rs) (l := left) (by unfold opsSize; omega))
        have hq : Hid (left - rs.length - partO rs rs.length = left - opsSize rs) := Lib.hid (by unfold opsSize; omega)
        go_wp2
        go_ret
        exact ⟨ret_int (by rw [hf.out, hq.out]), HB.out⟩

theorem info_Atom : (Try.prog.info? 83).map (fun i => (i.zero, i.size, i.bytes)) = some (some (.agg #[.int .i64 0, .slice none 0 0]), 2, 32) := by kernel_rfl

set_option maxHeartbeats 1000000 in
theorem toAtomS (v : Value) (rs : List (Int × List Int)) (w : World) (h : OpsAt w v rs) (hl : opsSize rs ≤ 1048576) :
    Calls Try.prog 32 #[v] w (MadeOps 83 w rs) := by
  obtain ⟨a, c, rfl, hn, hc⟩ := h
  obtain ⟨i0, hi, hz0, hz1, hz2⟩ := info_parts info_Atom
  have HC := Lib.hid hc
  have hlen : rs.length ≤ 1048576 := by unfold opsSize at hl; omega
  clear hc
  go_enter Try.func32, Try.ntmps32
  go_wp2_with (at_make; refine wpList_make_full _ rfl _ _ 30 rfl w.heap.size 83 i0 (.agg #[.int .i64 0, .slice none 0 0]) 2 Try.underlying30 hi hz0 hz1 .i64 .i64 _ _ rs.length rfl rfl rfl rfl (by rw [hz2]; omega) (by unfold maxLen; omega) (Nat.le_refl _) ?_; intro w1 hown hgrow)
  have hp0 : OpsPart 83 w w1 rs.length 0 (fun _ => .slice none 0 0) rs :=
    ⟨⟨_, hown, fun i hi => absurd hi (by omega)⟩, fun i hi => absurd hi (by omega), fun i j _ hj => absurd hj (by omega), (Below.refl _ _).grown hgrow (Nat.le_refl _) (fun _ h => by simp at h), (hown.lt _ rfl).2⟩
  clear hown hgrow
  go_loopw [4] (fun i wr => ∃ (k : Nat) (U : Nat → Value), k ≤ rs.length ∧ i = .int .i64 k ∧ OpsPart 83 w wr rs.length k U rs) (fun i _ => rs.length - (intOf i).toNat)
  case atStart => exact ⟨0, _, Nat.zero_le _, rfl, hp0⟩
  case round =>
    obtain ⟨k, U, hk, rfl, hp⟩ := hrel
    clear hp0
    by_cases hlt : k < rs.length
    · obtain ⟨b, off, ha, hcell⟩ := HC.out (by omega)
      subst ha
      obtain ⟨hx0, a1, n1, c1, hx1, hg⟩ := (hcell k hlt).below hp.below
      have HG := Lib.hid hg
      have hgl := Lib.hid (row_leO rs hlt)
      have HL : Hid ((rowO rs k).length ≤ 1048576) := by
        have := hgl.out
        show _ ≤ _
        omega
      have HP := Lib.hid hp
      clear hcell hp hg
      go_wp2_with fail
      refine (toAtom _ _ _ _ _ _ HG.out HL.out).mono ?_
      rintro e w2 ⟨a2, n2, c2, rfl, ho, hb2⟩
      have hst := HP.out.step hlt ho hb2
      obtain ⟨xs, hown0, -⟩ := HP.out.outer
      have hxl := ownsRow_len hown0
      have hown := ownsRow_below hown0 hb2
      obtain ⟨o2, hc2⟩ : ∃ u, w2.cell? ⟨w.heap.size, k * 2, none⟩ = some u := ⟨_, (hown.cellAt (k * 2) (by omega)).trans (List.getElem?_eq_getElem (by omega))⟩
      obtain ⟨o3, hc3⟩ : ∃ u, w2.cell? ⟨w.heap.size, k * 2 + 1, none⟩ = some u := ⟨_, (hown.cellAt (k * 2 + 1) (by omega)).trans (List.getElem?_eq_getElem (by omega))⟩
      have hf2 := hown.frozenAt (k * 2)
      have hf3 := hown.frozenAt (k * 2 + 1)
      have HS := Lib.hid hst
      clear hown hst ho hb2 hown0 hxl
      go_wp2
      go_roundw
      case rel => exact ⟨k + 1, _, by omega, by go_num, HS.out⟩
      case measure => simp [intOf]; omega
    · obtain rfl : k = rs.length := by omega
      have HP := Lib.hid hp
      clear hp
      go_wp2
      go_ret
      exact ⟨_, _, _, rfl, HP.out.own, HP.out.below⟩

set_option maxHeartbeats 1000000 in
theorem eqAtomS (v1 v2 : Value) (rs qs : List (Int × List Int)) (w : World) (h1 : OpsAt w v1 rs) (h2 : OpsAt w v2 qs) :
    Calls Try.prog 38 #[v1, v2] w fun e w' => e = .returned (.bool (eqB rs qs)) ∧ Below w.heap.size w w' := by
  obtain ⟨a1, c1, rfl, hn1, hc1⟩ := h1
  obtain ⟨a2, c2, rfl, hn2, hc2⟩ := h2
  have HC1 := Lib.hid hc1
  have HC2 := Lib.hid hc2
  clear hc1 hc2
  by_cases hl : rs.length = qs.length
  · rw [← hl] at hn2 HC2 ⊢
    have HL := Lib.hid hl
    clear hl
    go_enter Try.func38, Try.ntmps38
    go_wp2
    go_loopw [5] (fun i wr => ∃ k : Nat, k ≤ rs.length ∧ i = .int .i64 k ∧ (∀ j, j < k → arO rs j = arO qs j ∧ rowO rs j = rowO qs j) ∧ Below w.heap.size w wr) (fun i _ => rs.length - (intOf i).toNat)
    case atStart => exact ⟨0, Nat.zero_le _, rfl, fun j hj => absurd hj (Nat.not_lt_zero _), Below.refl _ _⟩
    case round =>
      obtain ⟨k, hk, rfl, hall, hb⟩ := hrel
      have HA := Lib.hid hall
      have HB := Lib.hid hb
      clear hall hb
      by_cases hlt : k < rs.length
      · obtain ⟨b1, off1, ha1, hcell1⟩ := HC1.out (by omega)
        subst ha1
        obtain ⟨b2, off2, ha2, hcell2⟩ := HC2.out (by omega)
        subst ha2
        obtain ⟨hx0, A1, N1, C1, hx1, hg1⟩ := (hcell1 k hlt).below HB.out
        obtain ⟨hy0, A2, N2, C2, hy1, hg2⟩ := (hcell2 k hlt).below HB.out
        have hlt' : (k : Int) < (rs.length : Int) := by omega
        have K0 := Lib.hid ((((Kept.start w).below HB.out).read (lives_row _ _) hg2).read (lives_row _ _) hg1)
        clear hcell1 hcell2 hg1 hg2
        cases hbb : eqO (arO rs k) (rowO rs k) (arO qs k) (rowO qs k) with
        | true =>
          have HE : Hid (arO rs k = arO qs k ∧ rowO rs k = rowO qs k) := by
            simp only [eqO, Bool.and_eq_true] at hbb
            exact ⟨eqB_true hbb.1, eqB_true hbb.2⟩
          have HBB := Lib.hid hbb
          clear hbb
          go_wp2
          go_region_held3 (fun w' => w'.cell? ⟨b1, off1 + k * 2, none⟩ = some (.int .i64 (arO rs k)) ∧ w'.cell? ⟨b1, off1 + k * 2 + 1, none⟩ = some (.slice A1 N1 C1) ∧ w'.cell? ⟨b2, off2 + k * 2, none⟩ = some (.int .i64 (arO qs k)) ∧ w'.cell? ⟨b2, off2 + k * 2 + 1, none⟩ = some (.slice A2 N2 C2) ∧ Kept w [] [fun w => RowAt w (.slice A1 N1 C1) (rowO rs k), fun w => RowAt w (.slice A2 N2 C2) (rowO qs k)] w')
            (first | exact two_below (by assumption) hb5 | exact two_below (K0.out.two0 hx0 hx1 hy0 hy1) ((QW.refl _).drew.below _))
            (first | (go_at_call 66; refine (eqAtom' _ _ _ _ _ _ _ _ _ _ true _ (two_row (by assumption) 0 (by rfl)) (two_row (by assumption) 1 (by rfl)) HBB.out).mono ?_; rintro e w5 ⟨rfl, hb5⟩))
          have HB5 := Lib.hid (K0.out.drew.below hb5).bel
          clear hb5
          go_wp2
          go_roundw
          case rel =>
            refine ⟨k + 1, by omega, by go_num, fun j hj => ?_, HB5.out⟩
            by_cases hjk : j = k
            · subst hjk; exact HE.out
            · exact HA.out j (by omega)
          case measure => simp [intOf]; omega
        | false =>
          have HF := Lib.hid (eqB_no (x := rs) (y := qs) (fun e => by rw [e, eqO_same] at hbb; cases hbb))
          have HBB := Lib.hid hbb
          clear hbb
          go_wp2
          go_region_held3 (fun w' => w'.cell? ⟨b1, off1 + k * 2, none⟩ = some (.int .i64 (arO rs k)) ∧ w'.cell? ⟨b1, off1 + k * 2 + 1, none⟩ = some (.slice A1 N1 C1) ∧ w'.cell? ⟨b2, off2 + k * 2, none⟩ = some (.int .i64 (arO qs k)) ∧ w'.cell? ⟨b2, off2 + k * 2 + 1, none⟩ = some (.slice A2 N2 C2) ∧ Kept w [] [fun w => RowAt w (.slice A1 N1 C1) (rowO rs k), fun w => RowAt w (.slice A2 N2 C2) (rowO qs k)] w')
            (first | exact two_below (by assumption) hb5 | exact two_below (K0.out.two0 hx0 hx1 hy0 hy1) ((QW.refl _).drew.below _))
            (first | (go_at_call 66; refine (eqAtom' _ _ _ _ _ _ _ _ _ _ false _ (two_row (by assumption) 0 (by rfl)) (two_row (by assumption) 1 (by rfl)) HBB.out).mono ?_; rintro e w5 ⟨rfl, hb5⟩))
          have HB5 := Lib.hid (K0.out.drew.below hb5).bel
          clear hb5
          go_wp2
          go_ret
          exact ⟨ret_bool HF.out.symm, HB5.out⟩
      · obtain rfl : k = rs.length := by omega
        have HF := Lib.hid (eqB_yes (ops_ext HL.out HA.out))
        go_wp2
        go_ret
        exact ⟨ret_bool HF.out.symm, HB.out⟩
  · have HF := Lib.hid (eqB_no (x := rs) (y := qs) (fun e => hl (by rw [e])))
    have hlb : ((rs.length : Int) == qs.length) = false := beq_eq_false_iff_ne.2 (by omega)
    go_enter Try.func38, Try.ntmps38
    go_wp2
    go_ret
    exact ⟨ret_bool HF.out.symm, Below.refl _ _⟩

theorem eqAtomS' (v1 v2 : Value) (rs qs : List (Int × List Int)) (b : Bool) (w : World) (h1 : OpsAt w v1 rs) (h2 : OpsAt w v2 qs) (hb : eqB rs qs = b) :
    Calls Try.prog 38 #[v1, v2] w fun e w' => e = .returned (.bool b) ∧ Below w.heap.size w w' := hb ▸ eqAtomS v1 v2 rs qs w h1 h2

end Go.Proofs.Ytnbgpeoceejolab
