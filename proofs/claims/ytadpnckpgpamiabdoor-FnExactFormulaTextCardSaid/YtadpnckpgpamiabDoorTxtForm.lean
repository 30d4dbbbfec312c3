/-
  FormulaText of the model and of the program.
-/
import Derived.Test.YtadpnckpgpamiabDoorTxtForm1
namespace Go.Proofs.YtadpnckpgpamiabDoor
open Go.RowKit

/-- What FormulaText answers. -/
def FormulaTextIs (p u : Int) (rs : List (Int × List Int)) (l : List UInt8) : Prop := (TextOk p u rs ∧ l = formT p.toNat u.toNat rs) ∨ (¬ TextOk p u rs ∧ l = [])
theorem FormulaTextIs.exists (p u : Int) (rs : List (Int × List Int)) : ∃ l, FormulaTextIs p u rs l := by
  by_cases h : TextOk p u rs
  · exact ⟨_, .inl ⟨h, rfl⟩⟩
  · exact ⟨_, .inr ⟨h, rfl⟩⟩

set_option linter.unusedSimpArgs false in
set_option maxHeartbeats 4000000 in
set_option maxRecDepth 100000 in
theorem specFormulaText (p u : Int) (a : Option Addr) (n c : Nat) (rs : List (Int × List Int)) (l : List UInt8) (w : World) (h : OpsAt w (.slice a n c) rs) (hi : FormulaTextIs p u rs l) :
    Calls Tryd.prog 36 #[.agg #[.int .i64 p, .int .i64 u, .slice a n c]] w fun e w' => e = .returned (.string ⟨l.toArray⟩) ∧ Below w.heap.size w w' := by
  have HS := Lib.hid (FormAt.new w p u a n c rs 69 h)
  have HW : Hid (Below w.heap.size w (w.alloc (.cells #[.int .i64 p, .int .i64 u, .slice a n c] 69))) := Lib.hid ((Below.refl _ _).alloc (Nat.le_refl _) _)
  clear h
  rcases hi with ⟨hok, rfl⟩ | ⟨hok, rfl⟩
  · have HOK := Lib.hid hok
    obtain ⟨p, rfl⟩ : ∃ r : Nat, p = r := ⟨p.toNat, by have := hok.1.1.1; omega⟩
    obtain ⟨u, rfl⟩ : ∃ r : Nat, u = r := ⟨u.toNat, by have := hok.1.2.1.1; omega⟩
    clear hok
    go_enter Tryd.func36, Tryd.ntmps36
    go_wp2_with fail
    refine (l03Shown _ _ _ _ rs true _ HS.out (Tells.yes HOK.out)).mono ?_
    rintro e w2 ⟨rfl, hq⟩
    have HQ := Lib.hid hq
    clear hq
    go_wp2_with fail
    refine (l03Text _ _ p u rs _ (HS.out.below HQ.out.bel) HOK.out).mono ?_
    rintro e w3 ⟨rfl, hb3⟩
    have HE := Lib.hid (HW.out.trans ((HQ.out.bel.trans (hb3.mono HQ.out.bel.size)).mono HW.out.size))
    clear hb3
    go_wp2
    go_ret
    exact ⟨rfl, HE.out⟩
  · have HOK := Lib.hid hok
    clear hok
    go_enter Tryd.func36, Tryd.ntmps36
    go_wp2_with fail
    refine (l03Shown _ _ _ _ rs false _ HS.out (Tells.no HOK.out)).mono ?_
    rintro e w2 ⟨rfl, hq⟩
    have HQ := Lib.hid hq
    clear hq
    go_wp2
    go_ret
    exact ⟨rfl, HW.out.trans (HQ.out.below _)⟩

set_option linter.unusedSimpArgs false in
set_option maxHeartbeats 4000000 in
set_option maxRecDepth 100000 in
theorem writeAtom (b : Nat) (l : List UInt8) (rel : Int) (va : Int) (a : Option Addr) (n c : Nat) (row : List Int) (w0 w : World) (h : RowAt w0 (.slice a n c) row) (hw : Below w0.heap.size w0 w) (hok : TextAt va rel row) (hva : va < 10) (hb : Bld w0.heap.size b l w) (hl : l.length ≤ 100000) :
    Calls Tryd.prog 103 #[.pointer (some ⟨b, 0, none⟩), .agg #[.int .i64 rel, .slice a n c]] w fun e w' => e = .returned (.tuple #[]) ∧ Bld w0.heap.size b (l ++ (atomT rel row).drop 1) w' ∧ Wrt w0.heap.size b w w' := by
  have hz := hw.size
  have hblt := hb.lt
  have HR := Lib.hid h
  have HW0 := Lib.hid hw
  have HDG := Lib.hid (hok.dig hva)
  have hr4 : row.length ≤ 4 := by have := hok.2.1.2; omega
  have hR1 := hok.1.1
  have hR2 := hok.1.2
  have HBX : Hid (Box 151 (w.alloc (.cells #[.int .i64 rel, .slice a n c] 151)) w.heap.size #[.int .i64 rel, .slice a n c]) := Lib.hid (Box.new _ _ _)
  have HB0 := Lib.hid (hb.alloc (.cells #[.int .i64 rel, .slice a n c] 151))
  have HWA : Hid (Wrt w0.heap.size b w (w.alloc (.cells #[.int .i64 rel, .slice a n c] 151))) := Lib.hid ((Wrt.refl _ _ _).alloc hz _)
  have HZA : Hid (w0.heap.size ≤ (w.alloc (.cells #[.int .i64 rel, .slice a n c] 151)).heap.size) := Lib.hid (by simp; omega)
  have HLL : Hid (l.length ≤ 10000000) := Lib.hid (by omega)
  have x0 := HBX.out.c 0 rfl
  clear h hok hb hw
  by_cases hr1 : rel = -1
  · subst hr1
    go_enter Tryd.func103, Tryd.ntmps103
    go_wp2_with fail
    refine (writeConstC w0.heap.size b l 61 61 _ HB0.out (by decide) rfl HLL.out HZA.out).mono ?_
    rintro e w1 ⟨rfl, hb1, hw1⟩
    have HB1 := Lib.hid hb1
    have HX1 := Lib.hid (hw1.box HBX.out (by omega) (by decide))
    have HW1 := Lib.hid (HWA.out.trans hw1)
    have HZ1 : Hid (w0.heap.size ≤ w1.heap.size) := Lib.hid (Nat.le_trans hz HW1.out.size)
    clear hb1 hw1 x0
    go_wp2_with fail
    refine (writeConstC w0.heap.size b _ 58 58 _ HB1.out (by decide) rfl (by rw [List.length_append]; simp; omega) HZ1.out).mono ?_
    rintro e w2 ⟨rfl, hb2, hw2⟩
    have HB2 := Lib.hid hb2
    have HX2 := Lib.hid (hw2.box HX1.out (by omega) (by decide))
    have HW2 := Lib.hid (HW1.out.trans hw2)
    have HZ2 : Hid (w0.heap.size ≤ w2.heap.size) := Lib.hid (Nat.le_trans hz HW2.out.size)
    have HRD : Hid (∀ w', Wrt w0.heap.size b w2 w' → RowAt w' (.slice a n c) row) := Lib.hid (fun w' h' => HR.out.below (HW0.out.trans (HW2.out.1.trans h'.1)))
    have y1 := HX2.out.c 1 rfl
    clear hb2 hw2
    go_wp2_with fail
    refine (writeDigits w0.heap.size b _ _ row _ HRD.out HDG.out (by omega) HB2.out (by rw [List.length_append, List.length_append]; simp; omega) HZ2.out).mono ?_
    rintro e w3 ⟨rfl, hb3, hw3⟩
    have HW3 := Lib.hid (HW2.out.trans hw3)
    have H3 : Hid (Bld w0.heap.size b (l ++ (atomT (-1) row).drop 1) w3) := Lib.hid (by
      have e : l ++ (atomT (-1) row).drop 1 = l ++ [61] ++ [58] ++ digK row row.length := by simp [atomT]
      rw [e]
      exact hb3)
    clear hb3 hw3 y1
    go_wp2
    go_end0
    exact ⟨rfl, H3.out, HW3.out⟩
  · obtain ⟨r, rfl⟩ : ∃ r : Nat, rel = r := ⟨rel.toNat, by omega⟩
    have HRN : Hid (r < 10) := Lib.hid (by omega)
    have HRN2 : Hid (r < 100) := Lib.hid (by omega)
    have hne : ((r : Int) == -1) = false := beq_eq_false_iff_ne.2 hr1
    have HN1 := Lib.hid hr1
    clear hr1 hR1 hR2
    go_enter Tryd.func103, Tryd.ntmps103
    go_wp2_with fail
    refine (writeConstC w0.heap.size b l 82 82 _ HB0.out (by decide) rfl HLL.out HZA.out).mono ?_
    rintro e w1 ⟨rfl, hb1, hw1⟩
    have HB1 := Lib.hid hb1
    have HX1 := Lib.hid (hw1.box HBX.out (by omega) (by decide))
    have HW1 := Lib.hid (HWA.out.trans hw1)
    have HZ1 : Hid (w0.heap.size ≤ w1.heap.size) := Lib.hid (Nat.le_trans hz HW1.out.size)
    have y0 := HX1.out.c 0 rfl
    clear hb1 hw1 x0
    go_wp2_with fail
    refine (formatC r HRN2.out _).mono ?_
    rintro e w9 ⟨rfl, rfl⟩
    rw [dec_small HRN.out]
    go_wp2_with fail
    refine (writeStringC w0.heap.size b _ (dig1 r) _ HB1.out (by rw [List.length_append]; simp; omega) (by simp [dig1]) HZ1.out).mono ?_
    rintro e w2 ⟨⟨z, rfl⟩, hb2, hw2⟩
    have HB2 := Lib.hid hb2
    have HX2 := Lib.hid (hw2.box HX1.out (by omega) (by decide))
    have HW2 := Lib.hid (HW1.out.trans hw2)
    have HZ2 : Hid (w0.heap.size ≤ w2.heap.size) := Lib.hid (Nat.le_trans hz HW2.out.size)
    clear hb2 hw2 y0
    go_wp2_with fail
    refine (writeConstC w0.heap.size b _ 58 58 _ HB2.out (by decide) rfl (by rw [List.length_append, List.length_append]; simp [dig1]; omega) HZ2.out).mono ?_
    rintro e w3 ⟨rfl, hb3, hw3⟩
    have HB3 := Lib.hid hb3
    have HX3 := Lib.hid (hw3.box HX2.out (by omega) (by decide))
    have HW3 := Lib.hid (HW2.out.trans hw3)
    have HZ3 : Hid (w0.heap.size ≤ w3.heap.size) := Lib.hid (Nat.le_trans hz HW3.out.size)
    have HRD : Hid (∀ w', Wrt w0.heap.size b w3 w' → RowAt w' (.slice a n c) row) := Lib.hid (fun w' h' => HR.out.below (HW0.out.trans (HW3.out.1.trans h'.1)))
    have y1 := HX3.out.c 1 rfl
    clear hb3 hw3
    go_wp2_with fail
    refine (writeDigits w0.heap.size b _ _ row _ HRD.out HDG.out (by omega) HB3.out (by rw [List.length_append, List.length_append, List.length_append]; simp [dig1]; omega) HZ3.out).mono ?_
    rintro e w4 ⟨rfl, hb4, hw4⟩
    have HW4 := Lib.hid (HW3.out.trans hw4)
    have H4 : Hid (Bld w0.heap.size b (l ++ (atomT r row).drop 1) w4) := Lib.hid (by
      have e : l ++ (atomT r row).drop 1 = l ++ [82] ++ dig1 r ++ [58] ++ digK row row.length := by
        have hN := HN1.out
        simp [atomT, hN]
      rw [e]
      exact hb4)
    clear hb4 hw4 y1
    go_wp2
    go_end0
    exact ⟨rfl, H4.out, HW4.out⟩

theorem atomT_blank (rel : Int) (row : List Int) : [32] ++ (atomT rel row).drop 1 = atomT rel row := by
  unfold atomT
  by_cases h : rel = -1
  · rw [if_pos h]; rfl
  · rw [if_neg h]; rfl

set_option linter.unusedSimpArgs false in
set_option maxHeartbeats 4000000 in
set_option maxRecDepth 100000 in
theorem implFormulaText_yes (p u : Nat) (a : Option Addr) (n c : Nat) (fs : List (Int × List Int)) (w : World) (h : OpsAt w (.slice a n c) fs) (hok : TextOk p u fs) :
    Calls Tryd.prog 38 #[.agg #[.int .i64 (p : Int), .int .i64 (u : Int), .slice a n c]] w fun e w' => e = .returned (.string ⟨(formT p u fs).toArray⟩) ∧ Below w.heap.size w w' := by
  have HW : Hid (Below w.heap.size w (w.alloc (.cells #[.int .i64 (p : Int), .int .i64 (u : Int), .slice a n c] 69))) := Lib.hid ((Below.refl _ _).alloc (Nat.le_refl _) _)
  have HBX := Lib.hid (Box.new 69 w #[.int .i64 (p : Int), .int .i64 (u : Int), .slice a n c])
  have HG := Lib.hid (h.below HW.out)
  have HOK := Lib.hid hok
  have HPN : Hid (p < 10) := Lib.hid (by have := hok.1.1.2; omega)
  have HUN : Hid (u < 10) := Lib.hid (by have := hok.1.2.1.2; omega)
  have HR16 : Hid (fs.length ≤ 16) := Lib.hid hok.1.2.2
  have HLEN : Hid (∀ j, j < fs.length → (rowO fs j).length ≤ 4) := Lib.hid (fun j hj => by have := (hok.2 j hj).2.1.2; omega)
  have x0 := HBX.out.c 0 rfl
  have x1 := HBX.out.c 1 rfl
  have x2 := HBX.out.c 2 rfl
  clear h hok
  go_enter Tryd.func38, Tryd.ntmps38
  go_wp2_with fail
  refine (hasText p u a n c fs true _ HG.out (Tells.yes HOK.out)).mono ?_
  rintro e w2 ⟨rfl, hb2⟩
  have HB2 := Lib.hid hb2
  have HX2 := Lib.hid (HBX.out.below hb2)
  have HGR := Lib.hid (HG.out.below hb2)
  have HAB : Hid (Below w2.heap.size w2 ((w2.alloc (.cells #[.pointer none, .slice none 0 0] 112)).alloc (.cells #[.int .i64 (p : Int), .int .i64 (u : Int)] 2))) := Lib.hid (((Below.refl _ _).alloc (Nat.le_refl _) _).alloc (by simp) _)
  have HNB := Lib.hid ((Bld.new w2).alloc (.cells #[.int .i64 (p : Int), .int .i64 (u : Int)] 2))
  have HRW : Hid (∀ w', Wrt w2.heap.size w2.heap.size ((w2.alloc (.cells #[.pointer none, .slice none 0 0] 112)).alloc (.cells #[.int .i64 (p : Int), .int .i64 (u : Int)] 2)) w' → RowAt w' (.slice (some ⟨w2.heap.size + 1, 0, none⟩) 2 2) [(p : Int), (u : Int)]) := Lib.hid (fun w' h' => by
    have := row2_wrt (w := w2.alloc (.cells #[.pointer none, .slice none 0 0] 112)) (by simp) h'
    rwa [World.size_alloc] at this)
  have z0 := below_cell ((Below.refl _ _).alloc (Nat.le_refl _) (.cells #[.pointer none, .slice none 0 0] 112)) (HX2.out.c 0 rfl)
  have z1 := below_cell ((Below.refl _ _).alloc (Nat.le_refl _) (.cells #[.pointer none, .slice none 0 0] 112)) (HX2.out.c 1 rfl)
  clear hb2 x0 x1 x2
  go_wp2_with fail
  refine (writeHead w2.heap.size w2.heap.size [] [102, 111, 114, 109, 117, 108, 97] _ [(p : Int), (u : Int)] _ HRW.out (dec100_two (by have := HPN.out; omega) (by have := HUN.out; omega)) (by simp) HNB.out (by decide) (by decide) (by simp; omega)).mono ?_
  rintro e w4 ⟨rfl, hb3, hw3⟩
  have H4 : Hid (Bld w2.heap.size w2.heap.size (formH p u ++ atomsT fs 0) w4) := Lib.hid (by
    have e : [] ++ [102, 111, 114, 109, 117, 108, 97] ++ headK [(p : Int), (u : Int)] [(p : Int), (u : Int)].length = formH p u ++ [] := by
      show [] ++ [102, 111, 114, 109, 117, 108, 97] ++ headK [(p : Int), (u : Int)] 2 = _
      rw [headK_two, dec_small HPN.out, dec_small HUN.out]
      rfl
    show Bld w2.heap.size w2.heap.size (formH p u ++ []) w4
    rw [← e]
    exact hb3)
  have HW4 : Hid (Below w2.heap.size w2 w4) := Lib.hid (HAB.out.trans hw3.1)
  have y2 := below_cell HW4.out (HX2.out.c 2 rfl)
  obtain ⟨a', c', hv, hn, hc⟩ := HGR.out
  simp only [Value.slice.injEq] at hv
  obtain ⟨rfl, rfl, rfl⟩ := hv
  have HC := Lib.hid hc
  clear hb3 hw3 hc z0 z1
  go_wp2
  go_loopw [18] (fun i wr => ∃ k : Nat, k ≤ fs.length ∧ i = .int .i64 k ∧ Bld w2.heap.size w2.heap.size (formH p u ++ atomsT fs k) wr ∧ Below w2.heap.size w2 wr) (fun i _ => fs.length - (intOf i).toNat)
  case atStart => exact ⟨0, Nat.zero_le _, rfl, H4.out, HW4.out⟩
  case round =>
    obtain ⟨k, hk, rfl, hb, hbel⟩ := hrel
    have HB := Lib.hid hb
    have HBR := Lib.hid hbel
    have hlenk := atomsT_len HLEN.out k hk
    have hbg : fs.length ≤ 16 := HR16.out
    obtain ⟨A, hA⟩ : ∃ A, formH p u ++ atomsT fs k = A := ⟨_, rfl⟩
    have hAl : A.length ≤ 500 := by rw [← hA, List.length_append, formH_len]; omega
    rw [hA] at HB
    have HA := Lib.hid hA
    have HAL2 := Lib.hid hAl
    clear hb hbel hA hlenk hAl y2
    by_cases hlt : k < fs.length
    · obtain ⟨b1, off1, rfl, hd1⟩ := HC.out (by omega)
      obtain ⟨r0, hr0⟩ : ∃ r0, arO fs k = r0 := ⟨_, rfl⟩
      obtain ⟨row, hrow⟩ : ∃ row, rowO fs k = row := ⟨_, rfl⟩
      have hE := hd1 k hlt
      have hok1 := HOK.out.2 k hlt
      rw [hr0, hrow] at hE hok1
      obtain ⟨g0w, ra, rn, rc, g1w, hrrw⟩ := hE
      have g0 := below_cell HBR.out g0w
      have g1 := below_cell HBR.out g1w
      have HRRW := Lib.hid hrrw
      have HR0 := Lib.hid hr0
      have HRW2 := Lib.hid hrow
      have HTA := Lib.hid hok1
      have hlt' : (k : Int) < (fs.length : Int) := by omega
      have HZR : Hid (w2.heap.size ≤ wr.heap.size) := Lib.hid HBR.out.size
      have hblt := HB.out.lt
      have HEB : Hid (Box 151 (wr.alloc (.cells #[.int .i64 r0, .slice ra rn rc] 151)) wr.heap.size #[.int .i64 r0, .slice ra rn rc]) := Lib.hid (Box.new _ _ _)
      have HBRA : Hid (Below w2.heap.size w2 (wr.alloc (.cells #[.int .i64 r0, .slice ra rn rc] 151))) := Lib.hid (HBR.out.alloc HZR.out _)
      have HBA := Lib.hid (HB.out.alloc (.cells #[.int .i64 r0, .slice ra rn rc] 151))
      have HZA : Hid (w2.heap.size ≤ (wr.alloc (.cells #[.int .i64 r0, .slice ra rn rc] 151)).heap.size) := Lib.hid HBRA.out.size
      have HLA : Hid (A.length ≤ 10000000) := Lib.hid (by have := HAL2.out; omega)
      clear hd1 hr0 hrow hok1 hrrw g0w g1w
      go_wp2_with fail
      refine (writeConstC w2.heap.size w2.heap.size A 32 32 _ HBA.out (by decide) rfl HLA.out HZA.out).mono ?_
      rintro e w5 ⟨rfl, hb5, hw5⟩
      have HB5 := Lib.hid hb5
      have HEB5 := Lib.hid (hw5.box HEB.out (by omega) (by decide))
      have HW5 : Hid (Below w2.heap.size w2 w5) := Lib.hid (HBRA.out.trans hw5.1)
      have f0 := HEB5.out.c 0 rfl
      have f1 := HEB5.out.c 1 rfl
      have HL5 : Hid ((A ++ [32]).length ≤ 100000) := Lib.hid (by rw [List.length_append]; have := HAL2.out; simp; omega)
      clear hb5 hw5 g0 g1
      go_wp2_with fail
      refine (writeAtom w2.heap.size _ r0 u ra rn rc row w2 _ HRRW.out HW5.out HTA.out (by have := HUN.out; omega) HB5.out HL5.out).mono ?_
      rintro e w6 ⟨rfl, hb6, hw6⟩
      have HW6 : Hid (Below w2.heap.size w2 w6) := Lib.hid (HW5.out.trans hw6.1)
      have H6 : Hid (Bld w2.heap.size w2.heap.size (formH p u ++ atomsT fs (k + 1)) w6) := Lib.hid (by
        have e : formH p u ++ atomsT fs (k + 1) = A ++ [32] ++ (atomT r0 row).drop 1 := by
          rw [atomsT_succ, HR0.out, HRW2.out, ← HA.out, List.append_assoc _ [32], atomT_blank]
          simp
        rw [e]
        exact hb6)
      clear hb6 hw6 f0 f1
      go_wp2
      go_roundw
      case rel => exact ⟨k + 1, by omega, by go_num, H6.out, HW6.out⟩
      case measure => simp [intOf]; omega
    · obtain rfl : k = fs.length := by omega
      have HE : Hid (formT p u fs = A) := Lib.hid HA.out
      have HZR : Hid (w2.heap.size ≤ wr.heap.size) := Lib.hid HBR.out.size
      go_wp2_with fail
      refine (stringC w2.heap.size w2.heap.size _ _ HB.out HZR.out).mono ?_
      rintro e w5 ⟨rfl, hb5⟩
      have HB5 := Lib.hid (HBR.out.trans hb5)
      clear hb5
      go_wp2
      go_ret
      exact ⟨ret_str HE.out.symm, HW.out.trans ((HB2.out.trans (HB5.out.mono HB2.out.size)).mono HW.out.size)⟩

set_option linter.unusedSimpArgs false in
set_option maxHeartbeats 4000000 in
set_option maxRecDepth 100000 in
theorem implFormulaText (p u : Int) (a : Option Addr) (n c : Nat) (rs : List (Int × List Int)) (l : List UInt8) (w : World) (h : OpsAt w (.slice a n c) rs) (hi : FormulaTextIs p u rs l) :
    Calls Tryd.prog 38 #[.agg #[.int .i64 p, .int .i64 u, .slice a n c]] w fun e w' => e = .returned (.string ⟨l.toArray⟩) ∧ Below w.heap.size w w' := by
  rcases hi with ⟨hok, rfl⟩ | ⟨hok, rfl⟩
  · obtain ⟨p, rfl⟩ : ∃ r : Nat, p = r := ⟨p.toNat, by have := hok.1.1.1; omega⟩
    obtain ⟨u, rfl⟩ : ∃ r : Nat, u = r := ⟨u.toNat, by have := hok.1.2.1.1; omega⟩
    exact implFormulaText_yes p u a n c rs w h hok
  · have HW : Hid (Below w.heap.size w (w.alloc (.cells #[.int .i64 p, .int .i64 u, .slice a n c] 69))) := Lib.hid ((Below.refl _ _).alloc (Nat.le_refl _) _)
    have HBX := Lib.hid (Box.new 69 w #[.int .i64 p, .int .i64 u, .slice a n c])
    have HG := Lib.hid (h.below HW.out)
    have HOK := Lib.hid hok
    have x0 := HBX.out.c 0 rfl
    have x1 := HBX.out.c 1 rfl
    have x2 := HBX.out.c 2 rfl
    clear h hok
    go_enter Tryd.func38, Tryd.ntmps38
    go_wp2_with fail
    refine (hasText p u a n c rs false _ HG.out (Tells.no HOK.out)).mono ?_
    rintro e w2 ⟨rfl, hb2⟩
    have HB2 := Lib.hid hb2
    clear hb2 x0 x1 x2
    go_wp2
    go_ret
    exact ⟨rfl, HW.out.trans (HB2.out.mono HW.out.size)⟩

end Go.Proofs.YtadpnckpgpamiabDoor
