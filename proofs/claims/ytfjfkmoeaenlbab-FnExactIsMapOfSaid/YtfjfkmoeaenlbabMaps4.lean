/-
  IsMapOf of the model; the program's templatesCode, mappedBits.
-/
import Derived.Test.YtfjfkmoeaenlbabMaps3
import Derived.Test.YtfjfkmoeaenlbabPart2
namespace Go.Proofs.Ytfjfkmoeaenlbab
open Go.RowKit

theorem MapsP.range {x y : Int} {rs : List (Int × List (List Int))} {to : List Int} (h1 : TplOk x rs) (ht : TupP y x to) : ∀ i, i < rs.length → ∀ j, j < (gridN rs i).length → (rowN (gridN rs i) j).length ≤ 4 ∧ ∀ k, k < (rowN (gridN rs i) j).length → 0 ≤ intN (rowN (gridN rs i) j) k ∧ intN (rowN (gridN rs i) j) k < to.length := by
  intro i hi j hj
  have hr := h1.2.2 i hi
  have hu := (hr.2.2 j hj).1
  refine ⟨hu.len hr.2.1, fun k hk => ?_⟩
  have hk2 := hu.2 k hk
  have hx := ht.1
  omega

set_option maxHeartbeats 2000000 in
set_option maxRecDepth 100000 in
theorem specIsMapOf (x : Int) (a1 : Option Addr) (n1 c1 : Nat) (rs : List (Int × List (List Int))) (y : Int) (a2 : Option Addr) (n2 c2 : Nat) (qs : List (Int × List (List Int))) (v : Value) (to : List Int) (b : Bool) (cd : Int) (w : World) (h1 : RelsAt w (.slice a1 n1 c1) rs) (h2 : RelsAt w (.slice a2 n2 c2) qs) (h3 : RowAt w v to) (hi : MapIs x rs y qs to b cd) :
    Calls Try.prog 6 #[.agg #[.int .i64 x, .slice a1 n1 c1], .agg #[.int .i64 y, .slice a2 n2 c2], v] w fun e w' => e = .returned (.tuple #[.bool b, .int .i64 cd]) ∧ Below w.heap.size w w' := by
  obtain ⟨at0, ct0, rfl, hnt, hct⟩ := h3
  have hbw := ((Below.refl w.heap.size w).alloc (Nat.le_refl _) (.cells #[.int .i64 x, .slice a1 n1 c1] 31)).alloc (by simp) (.cells #[.int .i64 y, .slice a2 n2 c2] 31)
  have HBW := Lib.hid hbw
  have T1 : Hid (TplAt ((w.alloc (.cells #[.int .i64 x, .slice a1 n1 c1] 31)).alloc (.cells #[.int .i64 y, .slice a2 n2 c2] 31)) w.heap.size 0 x rs) := ⟨by go_simp, a1, n1, c1, by go_simp, h1.below hbw⟩
  have T2 : Hid (TplAt ((w.alloc (.cells #[.int .i64 x, .slice a1 n1 c1] 31)).alloc (.cells #[.int .i64 y, .slice a2 n2 c2] 31)) (w.heap.size + 1) 0 y qs) := ⟨by go_simp, a2, n2, c2, by go_simp, h2.below hbw⟩
  have H3 : Hid (RowAt ((w.alloc (.cells #[.int .i64 x, .slice a1 n1 c1] 31)).alloc (.cells #[.int .i64 y, .slice a2 n2 c2] 31)) (.slice at0 to.length ct0) to) := RowAt.below ⟨at0, ct0, rfl, hnt, hct⟩ hbw
  clear h1 h2 hct hbw
  rcases hi with ⟨hc, h0, rfl⟩ | ⟨hc, hd⟩
  · have HC := Lib.hid hc
    have hne : (cd == 0) = false := beq_eq_false_iff_ne.2 h0
    clear hc h0
    go_enter Try.func6, Try.ntmps6
    go_wp2_with fail
    refine (l01Arities _ _ _ _ _ _ _ _ cd _ T1.out T2.out HC.out).mono ?_
    rintro e w1 ⟨rfl, hq1⟩
    have Q1 := Lib.hid (HBW.out.trans (hq1.below _))
    clear hq1
    go_wp2
    go_ret2
    exact ⟨rfl, Q1.out⟩
  · have HC := Lib.hid hc
    have HO := Lib.hid hc.ok
    have hy1 : 1 ≤ y := hc.ok.2.1.1.1
    have hy2 : y ≤ 4 := hc.ok.2.1.1.2
    have HD := Lib.hid hd
    clear hc hd
    go_enter Try.func6, Try.ntmps6
    go_wp2_with fail
    refine (l01Arities _ _ _ _ _ _ _ _ 0 _ T1.out T2.out HC.out).mono ?_
    rintro e w1 ⟨rfl, hq1⟩
    have S1 := Lib.hid (T1.out.below hq1.bel)
    have S2 := Lib.hid (T2.out.below hq1.bel)
    have S3 := Lib.hid (H3.out.below hq1.bel)
    have Q1 := Lib.hid (HBW.out.trans (hq1.below _))
    have cc1 := S1.out.size
    have cc2 := S2.out.size
    clear hq1
    rcases HD.out with ⟨hn, rfl, rfl⟩ | ⟨ht, hb, rfl⟩
    · have HN := Lib.hid (Tells.no hn)
      clear hn
      go_wp2_with fail
      refine (l01Tuple _ _ _ _ false _ S3.out hy1 hy2 HN.out).mono ?_
      rintro e w2 ⟨rfl, rfl⟩
      go_wp2
      go_ret2
      exact ⟨rfl, Q1.out⟩
    · have HT := Lib.hid (Tells.yes ht)
      have HB := Lib.hid hb
      have HRG := Lib.hid (MapsP.range HO.out.1 ht)
      clear ht hb
      go_wp2_with fail
      refine (l01Tuple _ _ _ _ true _ S3.out hy1 hy2 HT.out).mono ?_
      rintro e w2 ⟨rfl, rfl⟩
      go_wp2_with fail
      refine (l01Maps _ _ _ _ _ _ _ _ _ _ b _ S1.out S2.out S3.out HO.out.2.2.1 HRG.out HB.out).mono ?_
      rintro e w2 ⟨rfl, hb2⟩
      have Q2 := Lib.hid (Q1.out.trans (hb2.mono Q1.out.size))
      clear hb2
      go_wp2
      go_ret2
      exact ⟨rfl, Q2.out⟩

set_option maxHeartbeats 400000 in
theorem sameArity (x : Int) (a1 : Option Addr) (n1 c1 : Nat) (y : Int) (a2 : Option Addr) (n2 c2 : Nat) (b : Bool) (w : World) (hb : eqB x y = b) :
    Calls Try.prog 39 #[.agg #[.int .i64 x, .slice a1 n1 c1], .agg #[.int .i64 y, .slice a2 n2 c2]] w fun e w' => e = .returned (.bool b) ∧ Below w.heap.size w w' := by
  subst hb
  by_cases hxy : x = y
  · subst hxy
    have HF := Lib.hid (eqB_yes (x := x) rfl)
    go_enter Try.func39, Try.ntmps39
    go_wp2
    go_ret
    exact ⟨ret_bool HF.out.symm, ((Below.refl _ _).alloc (Nat.le_refl _) _).alloc (by simp) _⟩
  · have HF := Lib.hid (eqB_no hxy)
    have hne : (x == y) = false := beq_eq_false_iff_ne.2 hxy
    go_enter Try.func39, Try.ntmps39
    go_wp2
    go_ret
    exact ⟨ret_bool HF.out.symm, ((Below.refl _ _).alloc (Nat.le_refl _) _).alloc (by simp) _⟩

set_option maxHeartbeats 1000000 in
set_option maxRecDepth 100000 in
theorem equalFuncAr (v1 v2 : Value) (rs qs : List (Int × List (List Int))) (b : Bool) (w : World) (h1 : RelsAt w v1 rs) (h2 : RelsAt w v2 qs) (hb : Tells b (SameAr rs qs)) :
    Calls Try.prog 38 #[v1, v2, .func (.func 39) #[] #[]] w fun e w' => e = .returned (.bool b) ∧ Below w.heap.size w w' := by
  obtain ⟨a1, c1, rfl, hn1, hc1⟩ := h1
  obtain ⟨a2, c2, rfl, hn2, hc2⟩ := h2
  have HC1 := Lib.hid hc1
  have HC2 := Lib.hid hc2
  have HT := Lib.hid hb
  clear hc1 hc2 hb
  by_cases hl : rs.length = qs.length
  · rw [← hl] at hn2 HC2 ⊢
    have HL := Lib.hid hl
    clear hl
    go_enter Try.func38, Try.ntmps38
    go_wp2
    go_loopw [17] (fun i wr => ∃ k : Nat, k ≤ rs.length ∧ i = .int .i64 k ∧ (∀ j, j < k → arN rs j = arN qs j) ∧ Below w.heap.size w wr) (fun i _ => rs.length - (intOf i).toNat)
    case atStart => exact ⟨0, Nat.zero_le _, rfl, fun j hj => absurd hj (Nat.not_lt_zero _), Below.refl _ _⟩
    case round =>
      obtain ⟨k, hk, rfl, hall, hb⟩ := hrel
      have HA := Lib.hid hall
      have HB := Lib.hid hb
      clear hall hb
      by_cases hlt : k < rs.length
      · obtain ⟨b1, off1, ha1, hcell1⟩ := HC1.out (by omega)
        subst ha1
        obtain ⟨b2, off2, ha2, hcell2⟩ := HC2.out (by omega)
        subst ha2
        obtain ⟨hx0, A1, N1, C1, hx1, hg1⟩ := (hcell1 k hlt).below HB.out
        have HBA1 := (Below.refl wr.heap.size wr).alloc (Nat.le_refl _) (.cells #[.int .i64 (arN rs k), .slice A1 N1 C1] 63)
        obtain ⟨hy0, A2, N2, C2, hy1, hg2⟩ := (hcell2 k hlt).below HB.out
        have HBA := Lib.hid (HBA1.alloc (by simp) (.cells #[.int .i64 (arN qs k), .slice A2 N2 C2] 63))
        have hl1 := cell_block_lt hy0
        have hne1 : ¬ b2 = wr.heap.size := by have : b2 < wr.heap.size := hl1; omega
        have hne2 : ¬ wr.heap.size = b2 := by omega
        have hlt' : (k : Int) < (rs.length : Int) := by omega
        have hy0' := below_cell HBA1 hy0
        have hy1' := below_cell HBA1 hy1
        clear hcell1 hcell2 hg1 hg2 HBA1 hl1
        by_cases he : arN rs k = arN qs k
        · have HE := Lib.hid he
          have HBB := Lib.hid (eqB_yes he)
          clear he
          go_wp2_with fail
          refine (sameArity _ _ _ _ _ _ _ _ _ _ HBB.out).mono ?_
          rintro e w2 ⟨rfl, hb2⟩
          have HB2 := Lib.hid (HB.out.trans ((HBA.out.trans (hb2.mono HBA.out.size)).mono HB.out.size))
          clear hb2
          go_wp2
          go_roundw
          case rel =>
            refine ⟨k + 1, by omega, by go_num, fun j hj => ?_, HB2.out⟩
            by_cases hjk : j = k
            · subst hjk; exact HE.out
            · exact HA.out j (by omega)
          case measure => simp [intOf]; omega
        · have HF := Lib.hid (HT.out.is_false fun h => he (h.2 k hlt))
          have HBB := Lib.hid (eqB_no he)
          clear he
          go_wp2_with fail
          refine (sameArity _ _ _ _ _ _ _ _ _ _ HBB.out).mono ?_
          rintro e w2 ⟨rfl, hb2⟩
          have HB2 := Lib.hid (HB.out.trans ((HBA.out.trans (hb2.mono HBA.out.size)).mono HB.out.size))
          clear hb2
          go_wp2
          go_ret
          exact ⟨ret_bool HF.out.symm, HB2.out⟩
      · obtain rfl : k = rs.length := by omega
        have HF := Lib.hid (HT.out.is_true ⟨HL.out, HA.out⟩)
        go_wp2
        go_ret
        exact ⟨ret_bool HF.out.symm, HB.out⟩
  · have HF := Lib.hid (HT.out.is_false fun h => hl h.1)
    have hlb : ((rs.length : Int) == qs.length) = false := beq_eq_false_iff_ne.2 (by omega)
    go_enter Try.func38, Try.ntmps38
    go_wp2
    go_ret
    exact ⟨ret_bool HF.out.symm, Below.refl _ _⟩

set_option maxHeartbeats 2000000 in
set_option maxRecDepth 100000 in
theorem templatesCode (x : Int) (a1 : Option Addr) (n1 c1 : Nat) (rs : List (Int × List (List Int))) (y : Int) (a2 : Option Addr) (n2 c2 : Nat) (qs : List (Int × List (List Int))) (cd : Int) (w : World) (h1 : RelsAt w (.slice a1 n1 c1) rs) (h2 : RelsAt w (.slice a2 n2 c2) qs) (hi : ArIs x rs y qs cd) :
    Calls Try.prog 22 #[.agg #[.int .i64 x, .slice a1 n1 c1], .agg #[.int .i64 y, .slice a2 n2 c2]] w fun e w' => e = .returned (.int .i64 cd) ∧ Below w.heap.size w w' := by
  have K0 := Lib.hid (((((Kept.start w).read (lives_rels _ _) h2).read (lives_rels _ _) h1).box w.heap.size rfl (.int .i64 x) (.slice a1 n1 c1) 31).box (w.heap.size + 1) (by simp) (.int .i64 y) (.slice a2 n2 c2) 31)
  clear h1 h2
  rcases hi with ⟨hn, rfl⟩ | ⟨hy, hn, rfl⟩ | ⟨hy1, hy2, hc⟩
  · have HN := Lib.hid (Tells.no hn)
    clear hn
    go_enter Try.func22, Try.ntmps22
    go_wp2_with fail
    refine (implValidTemplate _ _ _ _ _ false _ (K0.out.rels 0 rfl) HN.out).mono ?_
    rintro e w1 ⟨rfl, hb1⟩
    have K1 := Lib.hid (K0.out.below hb1)
    clear hb1
    go_wp2
    go_ret
    exact ⟨rfl, K1.out.bel⟩
  · have HY := Lib.hid (Tells.yes hy)
    have HN := Lib.hid (Tells.no hn)
    clear hn hy
    go_enter Try.func22, Try.ntmps22
    go_wp2_with fail
    refine (implValidTemplate _ _ _ _ _ true _ (K0.out.rels 0 rfl) HY.out).mono ?_
    rintro e w1 ⟨rfl, hb1⟩
    have K1 := Lib.hid (K0.out.below hb1)
    have cc0 := K1.out.c 0 rfl
    have cc1 := K1.out.c 1 rfl
    clear hb1
    go_wp2_with fail
    refine (implValidTemplate _ _ _ _ _ false _ (K1.out.rels 1 rfl) HN.out).mono ?_
    rintro e w2 ⟨rfl, hb2⟩
    have K2 := Lib.hid (K1.out.below hb2)
    clear hb2 cc0 cc1
    go_wp2
    go_ret
    exact ⟨rfl, K2.out.bel⟩
  · have HY1 := Lib.hid (Tells.yes hy1)
    have HY2 := Lib.hid (Tells.yes hy2)
    clear hy1 hy2
    obtain ⟨b, hb, hcb⟩ : ∃ b, Tells b (SameAr rs qs) ∧ (b = true ∧ cd = 0 ∨ b = false ∧ cd = 4) := by
      rcases hc with ⟨h, e⟩ | ⟨h, e⟩
      · exact ⟨true, Tells.yes h, .inl ⟨rfl, e⟩⟩
      · exact ⟨false, Tells.no h, .inr ⟨rfl, e⟩⟩
    have HT := Lib.hid hb
    clear hc hb
    go_enter Try.func22, Try.ntmps22
    go_wp2_with fail
    refine (implValidTemplate _ _ _ _ _ true _ (K0.out.rels 0 rfl) HY1.out).mono ?_
    rintro e w1 ⟨rfl, hb1⟩
    have K1 := Lib.hid (K0.out.below hb1)
    have cc0 := K1.out.c 0 rfl
    have cc1 := K1.out.c 1 rfl
    clear hb1
    go_wp2_with fail
    refine (implValidTemplate _ _ _ _ _ true _ (K1.out.rels 1 rfl) HY2.out).mono ?_
    rintro e w2 ⟨rfl, hb2⟩
    have K2 := Lib.hid (K1.out.below hb2)
    clear hb2 cc0 cc1
    have cc0 := K2.out.c 0 rfl
    have cc1 := K2.out.c 1 rfl
    have cc2 := K2.out.c 2 rfl
    have cc3 := K2.out.c 3 rfl
    rcases hcb with ⟨rfl, rfl⟩ | ⟨rfl, rfl⟩
    · go_wp2_with fail
      refine (equalFuncAr _ _ _ _ true _ (K2.out.rels 0 rfl) (K2.out.rels 1 rfl) HT.out).mono ?_
      rintro e w3 ⟨rfl, hb3⟩
      have K3 := Lib.hid (K2.out.below hb3)
      clear hb3 cc0 cc1 cc2 cc3
      go_wp2
      go_ret
      exact ⟨rfl, K3.out.bel⟩
    · go_wp2_with fail
      refine (equalFuncAr _ _ _ _ false _ (K2.out.rels 0 rfl) (K2.out.rels 1 rfl) HT.out).mono ?_
      rintro e w3 ⟨rfl, hb3⟩
      have K3 := Lib.hid (K2.out.below hb3)
      clear hb3 cc0 cc1 cc2 cc3
      go_wp2
      go_ret
      exact ⟨rfl, K3.out.bel⟩

end Go.Proofs.Ytfjfkmoeaenlbab
