/-
  SystemText of the model and of the program.
-/
import Derived.Test.YtadpnckpgpamiabDoorTxtSys
namespace Go.Proofs.YtadpnckpgpamiabDoor
open Go.RowKit

/-- What SystemText answers. -/
def SystemTextIs (p u : Int) (rs : List (Int × List Int)) (l : List UInt8) : Prop := (SysOk p u rs ∧ l = sysT p.toNat u.toNat rs) ∨ (¬ SysOk p u rs ∧ l = [])
theorem SystemTextIs.exists (p u : Int) (rs : List (Int × List Int)) : ∃ l, SystemTextIs p u rs l := by
  by_cases h : SysOk p u rs
  · exact ⟨_, .inl ⟨h, rfl⟩⟩
  · exact ⟨_, .inr ⟨h, rfl⟩⟩

set_option linter.unusedSimpArgs false in
set_option maxHeartbeats 4000000 in
set_option maxRecDepth 100000 in
theorem specSystemText (p u : Int) (a : Option Addr) (n c : Nat) (rs : List (Int × List Int)) (l : List UInt8) (w : World) (h : EqsAt w (.slice a n c) rs) (hi : SystemTextIs p u rs l) :
    Calls Tryd.prog 26 #[.agg #[.int .i64 p, .int .i64 u, .slice a n c]] w fun e w' => e = .returned (.string ⟨l.toArray⟩) ∧ Below w.heap.size w w' := by
  have HS := Lib.hid (SysAt.new w p u a n c rs 47 h)
  have HW : Hid (Below w.heap.size w (w.alloc (.cells #[.int .i64 p, .int .i64 u, .slice a n c] 47))) := Lib.hid ((Below.refl _ _).alloc (Nat.le_refl _) _)
  clear h
  rcases hi with ⟨hok, rfl⟩ | ⟨hok, rfl⟩
  · have HOK := Lib.hid hok
    obtain ⟨p, rfl⟩ : ∃ r : Nat, p = r := ⟨p.toNat, by rcases hok.1 with h | h <;> omega⟩
    obtain ⟨u, rfl⟩ : ∃ r : Nat, u = r := ⟨u.toNat, by have := hok.2.1.1; omega⟩
    clear hok
    go_enter Tryd.func26, Tryd.ntmps26
    go_wp2_with fail
    refine (l07Ok _ _ _ _ rs true _ HS.out (Tells.yes HOK.out)).mono ?_
    rintro e w2 ⟨rfl, hq⟩
    have HQ := Lib.hid hq
    clear hq
    go_wp2_with fail
    refine (l07Text _ _ p u rs _ (HS.out.below HQ.out.bel) HOK.out).mono ?_
    rintro e w3 ⟨rfl, hb3⟩
    have HE := Lib.hid (HW.out.trans ((HQ.out.bel.trans (hb3.mono HQ.out.bel.size)).mono HW.out.size))
    clear hb3
    go_wp2
    go_ret
    exact ⟨rfl, HE.out⟩
  · have HOK := Lib.hid hok
    clear hok
    go_enter Tryd.func26, Tryd.ntmps26
    go_wp2_with fail
    refine (l07Ok _ _ _ _ rs false _ HS.out (Tells.no HOK.out)).mono ?_
    rintro e w2 ⟨rfl, hq⟩
    have HQ := Lib.hid hq
    clear hq
    go_wp2
    go_ret
    exact ⟨rfl, HW.out.trans (HQ.out.below _)⟩

theorem dec100_two {m n : Int} (h : 0 ≤ m ∧ m < 100) (h' : 0 ≤ n ∧ n < 100) : Dec100 [m, n] := fun j hj => by
  have : j < 2 := by simpa using hj
  obtain rfl | rfl : j = 0 ∨ j = 1 := by omega
  · simpa [intN] using h
  · simpa [intN] using h'
theorem headK_two (m n : Nat) : headK [(m : Int), (n : Int)] 2 = (32 :: Lib.decDigits m) ++ (32 :: Lib.decDigits n) := by
  show ([] ++ 32 :: Lib.decDigits (intN [(m : Int), (n : Int)] 0).toNat) ++ 32 :: Lib.decDigits (intN [(m : Int), (n : Int)] 1).toNat = _
  rw [show (intN [(m : Int), (n : Int)] 0).toNat = m by simp [intN], show (intN [(m : Int), (n : Int)] 1).toNat = n by simp [intN]]
  rfl
/-- A row of two numbers in a new block is read behind writing. -/
theorem row2_wrt {B b : Nat} {w : World} {x y : Int} (hb : b < w.heap.size) {w' : World} (h : Wrt B b (w.alloc (.cells #[.int .i64 x, .int .i64 y] 2)) w') : RowAt w' (.slice (some ⟨w.heap.size, 0, none⟩) 2 2) [x, y] := by
  have hx := h.box (Box.new 2 w #[.int .i64 x, .int .i64 y]) (by omega) (by decide)
  refine ⟨some ⟨w.heap.size, 0, none⟩, 2, rfl, by simp, fun _ => ⟨w.heap.size, 0, rfl, fun i hi => ?_⟩⟩
  have : i < 2 := by simpa using hi
  obtain rfl | rfl : i = 0 ∨ i = 1 := by omega
  · exact hx.c 0 rfl
  · exact hx.c 1 rfl

set_option linter.unusedSimpArgs false in
set_option maxHeartbeats 4000000 in
set_option maxRecDepth 100000 in
theorem implSystemText_yes (p u : Nat) (a : Option Addr) (n c : Nat) (rs : List (Int × List Int)) (w : World) (h : EqsAt w (.slice a n c) rs) (hok : SysOk p u rs) :
    Calls Tryd.prog 28 #[.agg #[.int .i64 (p : Int), .int .i64 (u : Int), .slice a n c]] w fun e w' => e = .returned (.string ⟨(sysT p u rs).toArray⟩) ∧ Below w.heap.size w w' := by
  have HW : Hid (Below w.heap.size w (w.alloc (.cells #[.int .i64 (p : Int), .int .i64 (u : Int), .slice a n c] 47))) := Lib.hid ((Below.refl _ _).alloc (Nat.le_refl _) _)
  have HBX := Lib.hid (Box.new 47 w #[.int .i64 (p : Int), .int .i64 (u : Int), .slice a n c])
  have HG := Lib.hid (h.below HW.out)
  have HOK := Lib.hid hok
  have HPN : Hid (p < 10) := Lib.hid (by have := hok.1; rcases this with h | h <;> omega)
  have HUN : Hid (u < 100) := Lib.hid (by have := hok.2.1.2; omega)
  have HR24 : Hid (rs.length ≤ 24) := Lib.hid hok.2.2.1
  have HLEN : Hid (∀ j, j < rs.length → (rowO rs j).length ≤ 12) := Lib.hid (fun j hj => (hok.2.2.2 j hj).len hok.2.1)
  have HSL := Lib.hid (sysH_len p u HUN.out)
  have x0 := HBX.out.c 0 rfl
  have x1 := HBX.out.c 1 rfl
  have x2 := HBX.out.c 2 rfl
  clear h hok
  go_enter Tryd.func28, Tryd.ntmps28
  go_wp2_with fail
  refine (implValidSystem p u a n c rs true _ HG.out (Tells.yes HOK.out)).mono ?_
  rintro e w2 ⟨rfl, hb2⟩
  have HB2 := Lib.hid hb2
  have HX2 := Lib.hid (HBX.out.below hb2)
  have HGR := Lib.hid (HG.out.below hb2)
  have HAB : Hid (Below w2.heap.size w2 ((w2.alloc (.cells #[.pointer none, .slice none 0 0] 112)).alloc (.cells #[.int .i64 (p : Int), .int .i64 (u : Int)] 2))) := Lib.hid (((Below.refl _ _).alloc (Nat.le_refl _) _).alloc (by simp) _)
  have HNB := Lib.hid ((Bld.new w2).alloc (.cells #[.int .i64 (p : Int), .int .i64 (u : Int)] 2))
  have HRW : Hid (∀ w', Wrt w2.heap.size w2.heap.size ((w2.alloc (.cells #[.pointer none, .slice none 0 0] 112)).alloc (.cells #[.int .i64 (p : Int), .int .i64 (u : Int)] 2)) w' → RowAt w' (.slice (some ⟨w2.heap.size + 1, 0, none⟩) 2 2) [(p : Int), (u : Int)]) := Lib.hid (fun w' h' => by
    have := row2_wrt (w := w2.alloc (.cells #[.pointer none, .slice none 0 0] 112)) (by simp) h'
    rwa [World.size_alloc] at this)
  have z0 := below_cell ((Below.refl _ _).alloc (Nat.le_refl _) (.cells #[.pointer none, .slice none 0 0] 112)) (HX2.out.c 0 rfl)
  have z1 := below_cell ((Below.refl _ _).alloc (Nat.le_refl _) (.cells #[.pointer none, .slice none 0 0] 112)) (HX2.out.c 1 rfl)
  clear hb2 x0 x1 x2
  go_wp2_with fail
  refine (writeHead w2.heap.size w2.heap.size [] [115, 121, 115, 116, 101, 109] _ [(p : Int), (u : Int)] _ HRW.out (dec100_two (by have := HPN.out; omega) (by have := HUN.out; omega)) (by simp) HNB.out (by decide) (by decide) (by simp; omega)).mono ?_
  rintro e w3 ⟨rfl, hb3, hw3⟩
  obtain ⟨A, hA⟩ : ∃ A, [115, 121, 115, 116, 101, 109] ++ ((32 :: Lib.decDigits p) ++ (32 :: Lib.decDigits u)) = A := ⟨_, rfl⟩
  have hAS : A ++ [10] = sysH p u := by rw [← hA, dec_small HPN.out]; simp [sysH]
  have H3 : Hid (Bld w2.heap.size w2.heap.size A w3) := Lib.hid (by
    have e : [] ++ [115, 121, 115, 116, 101, 109] ++ headK [(p : Int), (u : Int)] [(p : Int), (u : Int)].length = A := by
      show [] ++ [115, 121, 115, 116, 101, 109] ++ headK [(p : Int), (u : Int)] 2 = _
      rw [headK_two, ← hA]
      rfl
    rw [← e]
    exact hb3)
  have HAS := Lib.hid hAS
  have HW3 : Hid (Below w2.heap.size w2 w3) := Lib.hid (HAB.out.trans hw3.1)
  have HZ3 : Hid (w2.heap.size ≤ w3.heap.size) := Lib.hid HW3.out.size
  have HAL : Hid (A.length ≤ 10000000) := Lib.hid (by have h1 := HSL.out; rw [← hAS, List.length_append] at h1; omega)
  clear hb3 hw3 z0 z1 hA hAS
  go_wp2_with fail
  refine (writeConstC w2.heap.size w2.heap.size _ 10 10 _ H3.out (by decide) rfl HAL.out HZ3.out).mono ?_
  rintro e w4 ⟨rfl, hb4, hw4⟩
  have H4 : Hid (Bld w2.heap.size w2.heap.size (sysH p u ++ eqnsT rs 0) w4) := Lib.hid (by
    show Bld w2.heap.size w2.heap.size (sysH p u ++ []) w4
    rw [List.append_nil, ← HAS.out]
    exact hb4)
  have HW4 : Hid (Below w2.heap.size w2 w4) := Lib.hid (HW3.out.trans hw4.1)
  have y2 := below_cell HW4.out (HX2.out.c 2 rfl)
  obtain ⟨a', c', hv, hn, hc⟩ := HGR.out
  simp only [Value.slice.injEq] at hv
  obtain ⟨rfl, rfl, rfl⟩ := hv
  have HC := Lib.hid hc
  clear hb4 hw4 hc
  go_wp2
  go_loopw [19] (fun i wr => ∃ k : Nat, k ≤ rs.length ∧ i = .int .i64 k ∧ Bld w2.heap.size w2.heap.size (sysH p u ++ eqnsT rs k) wr ∧ Below w2.heap.size w2 wr) (fun i _ => rs.length - (intOf i).toNat)
  case atStart => exact ⟨0, Nat.zero_le _, rfl, H4.out, HW4.out⟩
  case round =>
    obtain ⟨k, hk, rfl, hb, hbel⟩ := hrel
    have HB := Lib.hid hb
    have HBR := Lib.hid hbel
    have hlenk := eqnsT_len HLEN.out k hk
    have hbg : rs.length ≤ 24 := HR24.out
    obtain ⟨A, hA⟩ : ∃ A, sysH p u ++ eqnsT rs k = A := ⟨_, rfl⟩
    have hAl : A.length ≤ 500 := by rw [← hA, List.length_append]; have := HSL.out; omega
    rw [hA] at HB
    have HA := Lib.hid hA
    have HAL2 := Lib.hid hAl
    clear hb hbel hA hlenk hAl y2
    by_cases hlt : k < rs.length
    · obtain ⟨b1, off1, rfl, hd1⟩ := HC.out (by omega)
      obtain ⟨r0, hr0⟩ : ∃ r0, arO rs k = r0 := ⟨_, rfl⟩
      obtain ⟨row, hrow⟩ : ∃ row, rowO rs k = row := ⟨_, rfl⟩
      have hE := hd1 k hlt
      have hok1 := HOK.out.2.2.2 k hlt
      rw [hr0, hrow] at hE hok1
      obtain ⟨g1, ra, rn, rc, g0, hrr⟩ := hE.below HBR.out
      have HRR : Hid (RowAt wr (.slice ra rn rc) row) := Lib.hid hrr
      obtain ⟨g1w, ra', rn', rc', g0w, hrrw⟩ := hE
      have hsame := below_cell HBR.out g0w
      rw [g0] at hsame
      simp only [Option.some.injEq, Value.slice.injEq] at hsame
      obtain ⟨rfl, rfl, rfl⟩ := hsame
      have HRRW := Lib.hid hrrw
      have HR0 := Lib.hid hr0
      have HRW2 := Lib.hid hrow
      have HDG : Hid (Dig10 row) := Lib.hid (hok1.dig HOK.out.1)
      have hr12 : row.length ≤ 12 := hok1.len HOK.out.2.1
      have hrr1 := hok1.2.1.1
      have hrr2 := hok1.2.1.2
      have hp3 : (p : Int) ≤ 3 := HOK.out.1.lePT
      obtain ⟨r, rfl⟩ : ∃ r : Nat, r0 = r := ⟨r0.toNat, by omega⟩
      have HRN : Hid (r < 10) := Lib.hid (by omega)
      have hlt' : (k : Int) < (rs.length : Int) := by omega
      have HZR : Hid (w2.heap.size ≤ wr.heap.size) := Lib.hid HBR.out.size
      have hblt := HB.out.lt
      have HEB : Hid (Box 135 (wr.alloc (.cells #[.slice ra rn rc, .int .i64 (r : Int)] 135)) wr.heap.size #[.slice ra rn rc, .int .i64 (r : Int)]) := Lib.hid (Box.new _ _ _)
      have HWA : Hid (Wrt w2.heap.size w2.heap.size wr (wr.alloc (.cells #[.slice ra rn rc, .int .i64 (r : Int)] 135))) := Lib.hid ((Wrt.refl _ _ _).alloc HZR.out _)
      have HBA := Lib.hid (HB.out.alloc (.cells #[.slice ra rn rc, .int .i64 (r : Int)] 135))
      have HRD : Hid (∀ w', Wrt w2.heap.size w2.heap.size (wr.alloc (.cells #[.slice ra rn rc, .int .i64 (r : Int)] 135)) w' → RowAt w' (.slice ra rn rc) row) := Lib.hid (fun w' h' => HRRW.out.below (HBR.out.trans (HWA.out.1.trans h'.1)))
      have f0 := HEB.out.c 0 rfl
      clear hd1 hr0 hrow hok1 hrr1 hrr2 hp3 hrr hrrw g1w g0w
      go_wp2_with fail
      refine (writeDigits w2.heap.size w2.heap.size A _ row _ HRD.out HDG.out (by omega) HBA.out (by have := HAL2.out; omega) (by have := HZR.out; simp; omega)).mono ?_
      rintro e w5 ⟨rfl, hb5, hw5⟩
      have HB5 := Lib.hid hb5
      have HW5 := Lib.hid (HWA.out.trans hw5)
      have HEB5 := Lib.hid (hw5.box HEB.out (by omega) (by decide))
      have HZ5 : Hid (w2.heap.size ≤ w5.heap.size) := Lib.hid (Nat.le_trans HZR.out HW5.out.size)
      have HL5 : Hid ((A ++ digK row row.length).length ≤ 10000000) := Lib.hid (by rw [List.length_append, digK_len]; have := HAL2.out; omega)
      clear hb5 hw5 f0
      go_wp2_with fail
      refine (writeConstC w2.heap.size w2.heap.size _ 32 32 _ HB5.out (by decide) rfl HL5.out HZ5.out).mono ?_
      rintro e w6 ⟨rfl, hb6, hw6⟩
      have HB6 := Lib.hid hb6
      have HW6 := Lib.hid (HW5.out.trans hw6)
      have HEB6 := Lib.hid (hw6.box HEB5.out (by omega) (by decide))
      have HZ6 : Hid (w2.heap.size ≤ w6.heap.size) := Lib.hid (Nat.le_trans HZR.out HW6.out.size)
      have HL6 : Hid ((A ++ digK row row.length ++ [32]).length ≤ 1000000) := Lib.hid (by rw [List.length_append, List.length_append, digK_len]; have := HAL2.out; simp; omega)
      have f1 := HEB6.out.c 1 rfl
      have hblt6 := HB6.out.lt
      have HB6A := Lib.hid (HB6.out.alloc (.cells #[.int .i64 (r : Int)] 2))
      have HRW6 : Hid (∀ w', Wrt w2.heap.size w2.heap.size (w6.alloc (.cells #[.int .i64 (r : Int)] 2)) w' → RowAt w' (.slice (some ⟨w6.heap.size, 0, none⟩) 1 1) [(r : Int)]) := Lib.hid (fun w' h' => row1_wrt hblt6 h')
      have HW6A := Lib.hid (HW6.out.alloc HZ6.out (.cells #[.int .i64 (r : Int)] 2))
      clear hb6 hw6
      go_wp2_with fail
      refine (writeHead w2.heap.size w2.heap.size _ [61] _ [(r : Int)] _ HRW6.out (dec100_one (by have := HRN.out; omega)) (by simp) HB6A.out HL6.out (by decide) (by have := HZ6.out; simp; omega)).mono ?_
      rintro e w7 ⟨rfl, hb7, hw7⟩
      have HW7 := Lib.hid (HW6A.out.trans hw7)
      have HZ7 : Hid (w2.heap.size ≤ w7.heap.size) := Lib.hid (Nat.le_trans HZR.out HW7.out.size)
      have H7 : Hid (Bld w2.heap.size w2.heap.size (A ++ digK row row.length ++ ([32, 61, 32] ++ dig1 r)) w7) := Lib.hid (by
        have e : A ++ digK row row.length ++ [32] ++ [61] ++ headK [(r : Int)] [(r : Int)].length = A ++ digK row row.length ++ ([32, 61, 32] ++ dig1 r) := by
          show A ++ digK row row.length ++ [32] ++ [61] ++ headK [(r : Int)] 1 = _
          rw [headK_one r HRN.out]
          simp
        rw [← e]
        exact hb7)
      have HL7 : Hid ((A ++ digK row row.length ++ ([32, 61, 32] ++ dig1 r)).length ≤ 10000000) := Lib.hid (by rw [List.length_append, List.length_append, digK_len]; have := HAL2.out; simp [dig1]; omega)
      clear hb7 hw7 f1
      go_wp2_with fail
      refine (writeConstC w2.heap.size w2.heap.size _ 10 10 _ H7.out (by decide) rfl HL7.out HZ7.out).mono ?_
      rintro e w8 ⟨rfl, hb8, hw8⟩
      have HW8 := Lib.hid (HW7.out.trans hw8)
      have H8 : Hid (Bld w2.heap.size w2.heap.size (sysH p u ++ eqnsT rs (k + 1)) w8) := Lib.hid (by
        have e : sysH p u ++ eqnsT rs (k + 1) = A ++ digK row row.length ++ ([32, 61, 32] ++ dig1 r) ++ [10] := by
          rw [eqnsT_succ, HR0.out, HRW2.out, ← HA.out]
          simp [eqnT]
        rw [e]
        exact hb8)
      clear hb8 hw8
      go_wp2
      go_roundw
      case rel => exact ⟨k + 1, by omega, by go_num, H8.out, HBR.out.trans HW8.out.1⟩
      case measure => simp [intOf]; omega
    · obtain rfl : k = rs.length := by omega
      have HE : Hid (sysT p u rs = A) := Lib.hid HA.out
      have HZR : Hid (w2.heap.size ≤ wr.heap.size) := Lib.hid HBR.out.size
      go_wp2_with fail
      refine (stringC w2.heap.size w2.heap.size _ _ HB.out HZR.out).mono ?_
      rintro e w5 ⟨rfl, hb5⟩
      have HB5 := Lib.hid (HBR.out.trans hb5)
      clear hb5
      go_wp2
      go_ret
      exact ⟨ret_str HE.out.symm, HW.out.trans ((HB2.out.trans (HB5.out.mono HB2.out.size)).mono HW.out.size)⟩

set_option linter.unusedSimpArgs false in
set_option maxHeartbeats 4000000 in
set_option maxRecDepth 100000 in
theorem implSystemText (p u : Int) (a : Option Addr) (n c : Nat) (rs : List (Int × List Int)) (l : List UInt8) (w : World) (h : EqsAt w (.slice a n c) rs) (hi : SystemTextIs p u rs l) :
    Calls Tryd.prog 28 #[.agg #[.int .i64 p, .int .i64 u, .slice a n c]] w fun e w' => e = .returned (.string ⟨l.toArray⟩) ∧ Below w.heap.size w w' := by
  rcases hi with ⟨hok, rfl⟩ | ⟨hok, rfl⟩
  · obtain ⟨p, rfl⟩ : ∃ r : Nat, p = r := ⟨p.toNat, by rcases hok.1 with h | h <;> omega⟩
    obtain ⟨u, rfl⟩ : ∃ r : Nat, u = r := ⟨u.toNat, by have := hok.2.1.1; omega⟩
    exact implSystemText_yes p u a n c rs w h hok
  · have HW : Hid (Below w.heap.size w (w.alloc (.cells #[.int .i64 p, .int .i64 u, .slice a n c] 47))) := Lib.hid ((Below.refl _ _).alloc (Nat.le_refl _) _)
    have HBX := Lib.hid (Box.new 47 w #[.int .i64 p, .int .i64 u, .slice a n c])
    have HG := Lib.hid (h.below HW.out)
    have HOK := Lib.hid hok
    have x0 := HBX.out.c 0 rfl
    have x1 := HBX.out.c 1 rfl
    have x2 := HBX.out.c 2 rfl
    clear h hok
    go_enter Tryd.func28, Tryd.ntmps28
    go_wp2_with fail
    refine (implValidSystem p u a n c rs false _ HG.out (Tells.no HOK.out)).mono ?_
    rintro e w2 ⟨rfl, hb2⟩
    have HB2 := Lib.hid hb2
    clear hb2 x0 x1 x2
    go_wp2
    go_ret
    exact ⟨rfl, HW.out.trans (HB2.out.mono HW.out.size)⟩

end Go.Proofs.YtadpnckpgpamiabDoor
