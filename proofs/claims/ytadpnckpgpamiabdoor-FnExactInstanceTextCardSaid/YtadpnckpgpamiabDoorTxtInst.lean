/-
  InstanceText of the program.
-/
import Derived.Test.YtadpnckpgpamiabDoorTxtInst1
import Derived.Test.YtadpnckpgpamiabDoorReg
import Derived.Deep.CutRange
namespace Go.Proofs.YtadpnckpgpamiabDoor
open Go.RowKit

theorem Bld.qw {B b : Nat} {l : List UInt8} {w w' : World} (h : Bld B b l w) (q : QW w w') : Bld B b l w' := by
  obtain ⟨n, rfl⟩ := q
  exact h
theorem headK_oneD (n : Nat) : headK [(n : Int)] 1 = 32 :: Lib.decDigits n := by
  show [] ++ 32 :: Lib.decDigits (intN [(n : Int)] 0).toNat = _
  rw [show (intN [(n : Int)] 0).toNat = n by simp [intN]]
  rfl

set_option linter.unusedSimpArgs false in
set_option maxHeartbeats 4000000 in
set_option maxRecDepth 100000 in
theorem implInstanceText_yes (u : Nat) (a : Option Addr) (n c : Nat) (fs : List (Int × List Int)) (w : World) (h : OpsAt w (.slice a n c) fs) (hok : TextOkI u fs) :
    Calls Tryd.prog 43 #[.agg #[.int .i64 (u : Int), .slice a n c]] w fun e w' => e = .returned (.string ⟨(instT u fs).toArray⟩) ∧ Below w.heap.size w w' := by
  have HW : Hid (Below w.heap.size w (w.alloc (.cells #[.int .i64 (u : Int), .slice a n c] 80))) := Lib.hid ((Below.refl _ _).alloc (Nat.le_refl _) _)
  have HBX := Lib.hid (Box.new 80 w #[.int .i64 (u : Int), .slice a n c])
  have HG := Lib.hid (h.below HW.out)
  have HOK := Lib.hid hok
  have HUN : Hid (u < 100) := Lib.hid (by have := hok.1.2; omega)
  have HR24 : Hid (fs.length ≤ 24) := Lib.hid hok.2.1
  have HLEN : Hid (∀ j, j < fs.length → (rowO fs j).length ≤ 4 ∧ Dec100 (rowO fs j)) := Lib.hid (fun j hj => ⟨by have := (hok.2.2 j hj).2.1.2; omega, (hok.2.2 j hj).dec hok.1.2⟩)
  have HHL := Lib.hid (instH_len HUN.out)
  have x0 := HBX.out.c 0 rfl
  have x1 := HBX.out.c 1 rfl
  clear h hok
  go_enter Tryd.func43, Tryd.ntmps43
  go_wp2_with fail
  refine (hasInstanceText u a n c fs true _ HG.out (Tells.yes HOK.out)).mono ?_
  rintro e w2 ⟨rfl, hb2⟩
  have HB2 := Lib.hid hb2
  have HX2 := Lib.hid (HBX.out.below hb2)
  have HGR := Lib.hid (HG.out.below hb2)
  have HAB : Hid (Below w2.heap.size w2 ((w2.alloc (.cells #[.pointer none, .slice none 0 0] 112)).alloc (.cells #[.int .i64 (u : Int)] 2))) := Lib.hid (((Below.refl _ _).alloc (Nat.le_refl _) _).alloc (by simp) _)
  have HNB := Lib.hid ((Bld.new w2).alloc (.cells #[.int .i64 (u : Int)] 2))
  have HRW : Hid (∀ w', Wrt w2.heap.size w2.heap.size ((w2.alloc (.cells #[.pointer none, .slice none 0 0] 112)).alloc (.cells #[.int .i64 (u : Int)] 2)) w' → RowAt w' (.slice (some ⟨w2.heap.size + 1, 0, none⟩) 1 1) [(u : Int)]) := Lib.hid (fun w' h' => by
    have := row1_wrt (w := w2.alloc (.cells #[.pointer none, .slice none 0 0] 112)) (by simp) h'
    rwa [World.size_alloc] at this)
  have z0 := below_cell ((Below.refl _ _).alloc (Nat.le_refl _) (.cells #[.pointer none, .slice none 0 0] 112)) (HX2.out.c 0 rfl)
  clear hb2 x0 x1
  go_wp2_with fail
  refine (writeHead w2.heap.size w2.heap.size [] [105, 110, 115, 116, 97, 110, 99, 101] _ [(u : Int)] _ HRW.out (dec100_one (by have := HUN.out; omega)) (by simp) HNB.out (by decide) (by decide) (by simp; omega)).mono ?_
  rintro e w3 ⟨rfl, hb3, hw3⟩
  obtain ⟨A, hA⟩ : ∃ A, [105, 110, 115, 116, 97, 110, 99, 101] ++ (32 :: Lib.decDigits u) = A := ⟨_, rfl⟩
  have hAS : A ++ [10] = instH u := by rw [← hA]; rfl
  have H3 : Hid (Bld w2.heap.size w2.heap.size A w3) := Lib.hid (by
    have e : [] ++ [105, 110, 115, 116, 97, 110, 99, 101] ++ headK [(u : Int)] [(u : Int)].length = A := by
      show [] ++ [105, 110, 115, 116, 97, 110, 99, 101] ++ headK [(u : Int)] 1 = _
      rw [headK_oneD u, ← hA]
      rfl
    rw [← e]
    exact hb3)
  have HAS := Lib.hid hAS
  have HW3 : Hid (Below w2.heap.size w2 w3) := Lib.hid (HAB.out.trans hw3.1)
  have HZ3 : Hid (w2.heap.size ≤ w3.heap.size) := Lib.hid HW3.out.size
  have HAL : Hid (A.length ≤ 10000000) := Lib.hid (by have h1 := HHL.out; rw [← hAS, List.length_append] at h1; omega)
  clear hb3 hw3 z0 hA hAS
  go_wp2_with fail
  refine (writeConstC w2.heap.size w2.heap.size _ 10 10 _ H3.out (by decide) rfl HAL.out HZ3.out).mono ?_
  rintro e w4 ⟨rfl, hb4, hw4⟩
  have H4 : Hid (Bld w2.heap.size w2.heap.size (instH u ++ consT fs 0) w4) := Lib.hid (by
    show Bld w2.heap.size w2.heap.size (instH u ++ []) w4
    rw [List.append_nil, ← HAS.out]
    exact hb4)
  have HW4 : Hid (Below w2.heap.size w2 w4) := Lib.hid (HW3.out.trans hw4.1)
  have y1 := below_cell HW4.out (HX2.out.c 1 rfl)
  obtain ⟨a', c', hv, hn, hc⟩ := HGR.out
  simp only [Value.slice.injEq] at hv
  obtain ⟨rfl, rfl, rfl⟩ := hv
  have HC := Lib.hid hc
  clear hb4 hw4 hc
  go_wp2
  go_loopw [17] (fun i wr => ∃ k : Nat, k ≤ fs.length ∧ i = .int .i64 k ∧ Bld w2.heap.size w2.heap.size (instH u ++ consT fs k) wr ∧ Below w2.heap.size w2 wr) (fun i _ => fs.length - (intOf i).toNat)
  case atStart => exact ⟨0, Nat.zero_le _, rfl, H4.out, HW4.out⟩
  case round =>
    obtain ⟨k, hk, rfl, hb, hbel⟩ := hrel
    have HB := Lib.hid hb
    have HBR := Lib.hid hbel
    have hlenk := consT_len HLEN.out k hk
    have hbg : fs.length ≤ 24 := HR24.out
    obtain ⟨A, hA⟩ : ∃ A, instH u ++ consT fs k = A := ⟨_, rfl⟩
    have hAl : A.length ≤ 500 := by rw [← hA, List.length_append]; have := HHL.out; omega
    rw [hA] at HB
    have HA := Lib.hid hA
    have HAL2 := Lib.hid hAl
    clear hb hbel hA hlenk hAl y1
    by_cases hlt : k < fs.length
    · obtain ⟨b1, off1, rfl, hd1⟩ := HC.out (by omega)
      obtain ⟨r0, hr0⟩ : ∃ r0, arO fs k = r0 := ⟨_, rfl⟩
      obtain ⟨row, hrow⟩ : ∃ row, rowO fs k = row := ⟨_, rfl⟩
      have hE := hd1 k hlt
      have hok1 := HOK.out.2.2 k hlt
      rw [hr0, hrow] at hE hok1
      obtain ⟨g0w, ra, rn, rc, g1w, hrrw⟩ := hE
      have hrb := hok1.1.1
      have hrb2 := hok1.1.2
      obtain ⟨r, rfl⟩ : ∃ r : Nat, r0 = r := ⟨r0.toNat, by omega⟩
      have g0 := below_cell HBR.out g0w
      have g1 := below_cell HBR.out g1w
      have HRRW := Lib.hid hrrw
      have HR0 := Lib.hid hr0
      have HRW2 := Lib.hid hrow
      have HRN : Hid (r < 10) := Lib.hid (by omega)
      have HRN2 : Hid (r < 100) := Lib.hid (by omega)
      have HDG : Hid (Dec100 row) := Lib.hid (hok1.dec HOK.out.1.2)
      have hr4 : row.length ≤ 4 := by have := hok1.2.1.2; omega
      have HL4 := Lib.hid hr4
      have hlt' : (k : Int) < (fs.length : Int) := by omega
      have HZR : Hid (w2.heap.size ≤ wr.heap.size) := Lib.hid HBR.out.size
      have hblt := HB.out.lt
      obtain ⟨wa, hwa⟩ : ∃ wa, wr.alloc (.cells #[.int .i64 (r : Int), .slice ra rn rc] 161) = wa := ⟨_, rfl⟩
      have HEB : Hid (Box 161 wa wr.heap.size #[.int .i64 (r : Int), .slice ra rn rc]) := Lib.hid (by rw [← hwa]; exact Box.new _ _ _)
      have HBRA : Hid (Below w2.heap.size w2 wa) := Lib.hid (by rw [← hwa]; exact HBR.out.alloc HZR.out _)
      have HBA : Hid (Bld w2.heap.size w2.heap.size A wa) := Lib.hid (by rw [← hwa]; exact HB.out.alloc _)
      have HZA : Hid (w2.heap.size ≤ wa.heap.size) := Lib.hid HBRA.out.size
      have HWA := Lib.hid hwa
      have f0 := HEB.out.c 0 rfl
      have f1 := HEB.out.c 1 rfl
      clear hd1 hr0 hrow hok1 hrrw g0w g1w hrb hrb2 hr4
      go_upto_region 9 with fail
      clear hwa g0 g1
      refine wp_region_noPanic ?_
      refine wp_region_late (S := (fun w' => w'.cell? ⟨wr.heap.size, 0, none⟩ = some (.int .i64 (r : Int)) ∧ w'.cell? ⟨wr.heap.size, 1, none⟩ = some (.slice ra rn rc) ∧ QW wa w')) [5] (by kernel_rfl) ?_ (fun hHeld => ?_)
      · exact ⟨f0, f1, (QW.refl _).drew⟩
      refine wpAnyL_free (i := 0) (v := ?_) (some 21) rfl rfl (by kernel_rfl) (by kernel_rfl) (by kernel_rfl) (by decide) (fun _ _ _ h => h) (Or.inl ⟨by rfl, ?_⟩) (fun h0 => by assumption) ?_
      rotate_left
      · intro wS
        go_simp
        try with_reducible rfl
      try simp only [Act.put, List.setIfInBounds_toArray, List.set_cons_zero, List.set_cons_succ]
      refine wpAnyL_take (i := 1) (v := ?_) (some 22) rfl rfl (by kernel_rfl) (by kernel_rfl) (by kernel_rfl) (by kernel_rfl) (by kernel_rfl) (fun _ _ _ h => h) (Or.inl ⟨by rfl, ?_⟩) (by assumption) ?_
      rotate_left
      · intro wS hSw
        try dsimp only at hSw
        go_simp
        try with_reducible rfl
      try simp only [Act.put, List.setIfInBounds_toArray, List.set_cons_zero, List.set_cons_succ]
      refine wpAnyL_free (i := 3) (v := ?_) (some 24) rfl rfl (by kernel_rfl) (by kernel_rfl) (by kernel_rfl) (by decide) (fun _ _ _ h => h) (Or.inl ⟨by rfl, ?_⟩) (fun h0 => by assumption) ?_
      rotate_left
      · intro wS
        go_simp
        try with_reducible rfl
      try simp only [Act.put, List.setIfInBounds_toArray, List.set_cons_zero, List.set_cons_succ]
      refine wpAnyL_take (i := 4) (v := ?_) (some 25) rfl rfl (by kernel_rfl) (by kernel_rfl) (by kernel_rfl) (by kernel_rfl) (by kernel_rfl) (fun _ _ _ h => h) (Or.inl ⟨by rfl, ?_⟩) (by assumption) ?_
      rotate_left
      · intro wS hSw
        try dsimp only at hSw
        go_simp
        try with_reducible rfl
      try simp only [Act.put, List.setIfInBounds_toArray, List.set_cons_zero, List.set_cons_succ]
      refine wpAnyL_ready (rs := [2]) (by kernel_rfl) (by simp) ?_
      refine AllReadyL.cons rfl (fun K hK => ?_) AllReadyL.nil
      go_simp; go_at_call 110; refine (formatC r HRN2.out _).mono ?_; rintro e w9 ⟨rfl, rfl⟩; try rw [dec_small HRN.out]
      refine hK.out _ _ ?_ (fun hHeld => ?_)
      · exact hHeld
      clear hK K
      try simp only [Act.put, List.setIfInBounds_toArray, List.set_cons_zero, List.set_cons_succ]
      refine wpAnyL_ready (rs := [5]) (by kernel_rfl) (by simp) ?_
      refine AllReadyL.last rfl (by kernel_rfl) (fun K hK => ?_) AllReadyL.nil
      go_simp; go_at_call 82; refine (writeHead w2.heap.size w2.heap.size A (dig1 r) _ row _ (fun w' h' => HRRW.out.below (HBRA.out.trans (((hHeld.2.2 : QW wa _).below _).trans h'.1))) HDG.out (by have := HL4.out; omega) (HBA.out.qw hHeld.2.2) (by have := HAL2.out; omega) (by simp [dig1]) (by have := HZA.out; have := ((hHeld.2.2 : QW wa _).below 0).size; omega)).mono ?_; rintro e w6 ⟨rfl, hb6, hw6⟩
      refine hK.out _ _ ?_
      clear hK K
      try simp only [Act.put, List.setIfInBounds_toArray, List.set_cons_zero, List.set_cons_succ]
      refine wpAnyL_done (by kernel_rfl) ?_ _
      refine NoPanic.normal ?_
      have HB6 := Lib.hid hb6
      have HW6 := Lib.hid (HBRA.out.trans (((hHeld.2.2 : QW wa _).below _).trans hw6.1))
      have HZ6 : Hid (w2.heap.size ≤ w6.heap.size) := Lib.hid HW6.out.size
      have HL6 : Hid ((A ++ dig1 r ++ headK row row.length).length ≤ 10000000) := Lib.hid (by rw [List.length_append, List.length_append]; have := HAL2.out; have := headK_len HDG.out _ (Nat.le_refl _); have := HL4.out; simp [dig1]; omega)
      clear hb6 hw6 hHeld f0 f1
      go_wp2_with fail
      refine (writeConstC w2.heap.size w2.heap.size _ 10 10 _ HB6.out (by decide) rfl HL6.out HZ6.out).mono ?_
      rintro e w7 ⟨rfl, hb7, hw7⟩
      have HW7 : Hid (Below w2.heap.size w2 w7) := Lib.hid (HW6.out.trans hw7.1)
      have H7 : Hid (Bld w2.heap.size w2.heap.size (instH u ++ consT fs (k + 1)) w7) := Lib.hid (by
        have e : instH u ++ consT fs (k + 1) = A ++ dig1 r ++ headK row row.length ++ [10] := by
          rw [consT_succ, HR0.out, HRW2.out, ← HA.out]
          simp [conT]
        rw [e]
        exact hb7)
      clear hb7 hw7
      go_wp2
      go_roundw
      case rel => exact ⟨k + 1, by omega, by go_num, H7.out, HW7.out⟩
      case measure => simp [intOf]; omega
    · obtain rfl : k = fs.length := by omega
      have HE : Hid (instT u fs = A) := Lib.hid HA.out
      have HZR : Hid (w2.heap.size ≤ wr.heap.size) := Lib.hid HBR.out.size
      go_wp2_with fail
      refine (stringC w2.heap.size w2.heap.size _ _ HB.out HZR.out).mono ?_
      rintro e w5 ⟨rfl, hb5⟩
      have HB5 := Lib.hid (HBR.out.trans hb5)
      clear hb5
      go_wp2
      go_ret
      exact ⟨ret_str HE.out.symm, HW.out.trans ((HB2.out.trans (HB5.out.mono HB2.out.size)).mono HW.out.size)⟩

set_option linter.unusedSimpArgs false in
set_option maxHeartbeats 4000000 in
set_option maxRecDepth 100000 in
theorem implInstanceText (u : Int) (a : Option Addr) (n c : Nat) (rs : List (Int × List Int)) (l : List UInt8) (w : World) (h : OpsAt w (.slice a n c) rs) (hi : InstanceTextIs u rs l) :
    Calls Tryd.prog 43 #[.agg #[.int .i64 u, .slice a n c]] w fun e w' => e = .returned (.string ⟨l.toArray⟩) ∧ Below w.heap.size w w' := by
  rcases hi with ⟨hok, rfl⟩ | ⟨hok, rfl⟩
  · obtain ⟨u, rfl⟩ : ∃ r : Nat, u = r := ⟨u.toNat, by have := hok.1.1; omega⟩
    exact implInstanceText_yes u a n c rs w h hok
  · have HW : Hid (Below w.heap.size w (w.alloc (.cells #[.int .i64 u, .slice a n c] 80))) := Lib.hid ((Below.refl _ _).alloc (Nat.le_refl _) _)
    have HBX := Lib.hid (Box.new 80 w #[.int .i64 u, .slice a n c])
    have HG := Lib.hid (h.below HW.out)
    have HOK := Lib.hid hok
    have x0 := HBX.out.c 0 rfl
    have x1 := HBX.out.c 1 rfl
    clear h hok
    go_enter Tryd.func43, Tryd.ntmps43
    go_wp2_with fail
    refine (hasInstanceText u a n c rs false _ HG.out (Tells.no HOK.out)).mono ?_
    rintro e w2 ⟨rfl, hb2⟩
    have HB2 := Lib.hid hb2
    clear hb2 x0 x1
    go_wp2
    go_ret
    exact ⟨rfl, HW.out.trans (HB2.out.mono HW.out.size)⟩

end Go.Proofs.YtadpnckpgpamiabDoor
