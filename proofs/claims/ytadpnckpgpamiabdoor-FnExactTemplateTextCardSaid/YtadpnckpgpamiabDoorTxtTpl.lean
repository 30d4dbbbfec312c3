/-
  The text of a template: TemplateText of the model and of the program.
-/
import Derived.Test.YtadpnckpgpamiabDoorTxtRel
import Derived.Test.YtadpnckpgpamiabDoorGMaps
namespace Go.Proofs.YtadpnckpgpamiabDoor
open Go.RowKit

def tplH (s : Nat) : List UInt8 := [116, 101, 109, 112, 108, 97, 116, 101, 32] ++ dig1 s ++ [10]
theorem tplH_len (s : Nat) : (tplH s).length = 11 := rfl
/-- The lines of the first k relations. -/
def relsT (rs : List (Int × List (List Int))) : Nat → List UInt8
  | 0 => []
  | k + 1 => relsT rs k ++ (relT (arN rs k).toNat (gridN rs k) ++ [10])
theorem relsT_succ (rs : List (Int × List (List Int))) (k : Nat) : relsT rs (k + 1) = relsT rs k ++ (relT (arN rs k).toNat (gridN rs k) ++ [10]) := rfl
def tplT (s : Nat) (rs : List (Int × List (List Int))) : List UInt8 := tplH s ++ relsT rs rs.length
theorem relsT_len {sz : Int} {rs : List (Int × List (List Int))} (h : ∀ j, j < rs.length → RelOk sz (arN rs j) (gridN rs j)) : ∀ k, k ≤ rs.length → (relsT rs k).length ≤ 1401 * k
  | 0, _ => Nat.le_refl _
  | k + 1, hk => by
    have h1 := relsT_len h k (by omega)
    have h2 := relT_len (n := (arN rs k).toNat) (h k (by omega))
    rw [relsT_succ, List.length_append, List.length_append]
    simp
    omega

set_option linter.unusedSimpArgs false in
set_option maxHeartbeats 4000000 in
set_option maxRecDepth 100000 in
theorem l01Lines (pb po s : Nat) (rs : List (Int × List (List Int))) (w : World) (h : TplAt w pb po s rs) (hok : TplOk s rs) :
    Calls Tryd.prog 94 #[.pointer (some ⟨pb, po, none⟩)] w fun e w' => e = .returned (.string ⟨(tplT s rs).toArray⟩) ∧ Below w.heap.size w w' := by
  obtain ⟨hp0, a, n, c, hp1, a', c', hv, hn, hc⟩ := h
  simp only [Value.slice.injEq] at hv
  obtain ⟨rfl, rfl, rfl⟩ := hv
  have HC := Lib.hid hc
  have HOK := Lib.hid hok
  have HP1 := Lib.hid hp1
  have hs10 : s < 10 := by have := hok.1.2; omega
  have HR6 : Hid (rs.length ≤ 6) := Lib.hid hok.2.1
  clear hc hok hp1
  go_enter Tryd.func94, Tryd.ntmps94
  go_wp2_with fail
  refine (decOne s hs10 _).mono ?_
  rintro e w1 ⟨rfl, hb1⟩
  have HB1 := Lib.hid hb1
  obtain ⟨A, hA⟩ : ∃ A, [116, 101, 109, 112, 108, 97, 116, 101, 32] ++ dig1 s = A := ⟨_, rfl⟩
  have hct1 : (Op.stringOp .add ⟨#[116, 101, 109, 112, 108, 97, 116, 101, 32]⟩ ⟨(dig1 s).toArray⟩).run Tryd.prog w1 = .ok (.string ⟨A.toArray⟩) w1 := catE [116, 101, 109, 112, 108, 97, 116, 101, 32] (dig1 s) _ hA (by decide) (by simp [dig1]) w1
  have hct2 : (Op.stringOp .add ⟨A.toArray⟩ ⟨#[10]⟩).run Tryd.prog w1 = .ok (.string ⟨(tplH s).toArray⟩) w1 := catE A [10] _ (by rw [← hA]; rfl) (by rw [← hA]; simp [dig1]) (by decide) w1
  clear hb1 hp0 hA
  go_wp2
  clear hct1 hct2
  go_loopw [3, 4] (fun v i wr => ∃ k : Nat, k ≤ rs.length ∧ i = .int .i64 k ∧ v = .string ⟨(tplH s ++ relsT rs k).toArray⟩ ∧ Below w.heap.size w wr) (fun _ i _ => rs.length - (intOf i).toNat)
  case atStart => exact ⟨0, Nat.zero_le _, rfl, by show _ = Value.string ⟨(tplH s ++ []).toArray⟩; rw [List.append_nil], HB1.out⟩
  case round =>
    obtain ⟨k, hk, rfl, rfl, hbel⟩ := hrel
    have HB := Lib.hid hbel
    have hp1 := below_cell hbel HP1.out
    have hlenk := relsT_len HOK.out.2.2 k hk
    have hbg : rs.length ≤ 6 := HR6.out
    obtain ⟨A, hA⟩ : ∃ A, tplH s ++ relsT rs k = A := ⟨_, rfl⟩
    have hAl : A.length ≤ 20000 := by rw [← hA, List.length_append, tplH_len]; omega
    rw [hA]
    have HA := Lib.hid hA
    have HAL := Lib.hid hAl
    clear hbel hA hlenk hAl
    by_cases hlt : k < rs.length
    · obtain ⟨b1, off1, rfl, hd1⟩ := HC.out (by omega)
      have hok1 := HOK.out.2.2 k hlt
      have hR := (hd1 k hlt).below HB.out
      obtain ⟨r, hr⟩ : ∃ r : Nat, arN rs k = r := ⟨(arN rs k).toNat, by have := hok1.2.1.1; omega⟩
      rw [hr] at hR hok1
      have HR := Lib.hid hR
      have HRO := Lib.hid hok1
      have HRE := Lib.hid hr
      have hlt' : (k : Int) < (rs.length : Int) := by omega
      clear hd1 hR hok1 hr
      go_wp2_with fail
      refine (l01Text _ _ r (gridN rs k) s _ HR.out HRO.out).mono ?_
      rintro e w4 ⟨rfl, hb4⟩
      have HB4 := Lib.hid (HB.out.trans (hb4.mono HB.out.size))
      obtain ⟨X, hX⟩ : ∃ X, relT r (gridN rs k) = X := ⟨_, rfl⟩
      have hXl : X.length ≤ 1400 := by rw [← hX]; exact relT_len HRO.out
      rw [hX]
      have HX := Lib.hid hX
      have HXL := Lib.hid hXl
      have hct1 : (Op.stringOp .add ⟨X.toArray⟩ ⟨#[10]⟩).run Tryd.prog w4 = .ok (.string ⟨(X ++ [10]).toArray⟩) w4 := catE X [10] _ rfl (by omega) (by decide) w4
      obtain ⟨Y, hY⟩ : ∃ Y, X ++ [10] = Y := ⟨_, rfl⟩
      rw [hY] at hct1
      have HY := Lib.hid hY
      have hct2 : (Op.stringOp .add ⟨A.toArray⟩ ⟨Y.toArray⟩).run Tryd.prog w4 = .ok (.string ⟨(A ++ Y).toArray⟩) w4 := catE A Y _ rfl (by have := HAL.out; omega) (by rw [← hY, List.length_append]; simp; omega) w4
      have HNX : Hid (tplH s ++ relsT rs (k + 1) = A ++ Y) := Lib.hid (by
        rw [relsT_succ, HRE.out, ← HA.out, ← HY.out, ← HX.out]
        simp)
      clear hb4 hX hXl hY hp1
      go_wp2
      clear hct1 hct2
      go_roundw
      case rel => exact ⟨k + 1, by omega, by go_num, by rw [HNX.out], HB4.out⟩
      case measure => simp [intOf]; omega
    · obtain rfl : k = rs.length := by omega
      have HE : Hid (tplT s rs = A) := Lib.hid HA.out
      go_wp2
      go_ret
      exact ⟨ret_str HE.out.symm, HB.out⟩

/-- What TemplateText answers. -/
def TemplateTextIs (sz : Int) (rs : List (Int × List (List Int))) (l : List UInt8) : Prop := (TplOk sz rs ∧ l = tplT sz.toNat rs) ∨ (¬ TplOk sz rs ∧ l = [])
theorem TemplateTextIs.exists (sz : Int) (rs : List (Int × List (List Int))) : ∃ l, TemplateTextIs sz rs l := by
  by_cases h : TplOk sz rs
  · exact ⟨_, .inl ⟨h, rfl⟩⟩
  · exact ⟨_, .inr ⟨h, rfl⟩⟩

set_option linter.unusedSimpArgs false in
set_option maxHeartbeats 4000000 in
set_option maxRecDepth 100000 in
theorem specTemplateText (sz : Int) (a : Option Addr) (n c : Nat) (rs : List (Int × List (List Int))) (l : List UInt8) (w : World) (h : RelsAt w (.slice a n c) rs) (hi : TemplateTextIs sz rs l) :
    Calls Tryd.prog 31 #[.agg #[.int .i64 sz, .slice a n c]] w fun e w' => e = .returned (.string ⟨l.toArray⟩) ∧ Below w.heap.size w w' := by
  have HW : Hid (Below w.heap.size w (w.alloc (.cells #[.int .i64 sz, .slice a n c] 58))) := Lib.hid ((Below.refl _ _).alloc (Nat.le_refl _) _)
  have HS : Hid (TplAt (w.alloc (.cells #[.int .i64 sz, .slice a n c] 58)) w.heap.size 0 sz rs) := Lib.hid ⟨by simp [World.cell?_alloc_new], a, n, c, by simp [World.cell?_alloc_new], h.below HW.out⟩
  clear h
  rcases hi with ⟨hok, rfl⟩ | ⟨hok, rfl⟩
  · have HOK := Lib.hid hok
    obtain ⟨s, rfl⟩ : ∃ r : Nat, sz = r := ⟨sz.toNat, by have := hok.1.1; omega⟩
    clear hok
    go_enter Tryd.func31, Tryd.ntmps31
    go_wp2_with fail
    refine (l01Template _ _ _ rs true _ HS.out (Tells.yes HOK.out)).mono ?_
    rintro e w2 ⟨rfl, hq⟩
    have HQ : Hid (QW _ w2) := Lib.hid hq
    clear hq
    go_wp2_with fail
    refine (l01Lines _ _ s rs _ (HS.out.below HQ.out.bel) HOK.out).mono ?_
    rintro e w3 ⟨rfl, hb3⟩
    have HE := Lib.hid (HW.out.trans ((HQ.out.bel.trans (hb3.mono HQ.out.bel.size)).mono HW.out.size))
    clear hb3
    go_wp2
    go_ret
    exact ⟨rfl, HE.out⟩
  · have HOK := Lib.hid hok
    clear hok
    go_enter Tryd.func31, Tryd.ntmps31
    go_wp2_with fail
    refine (l01Template _ _ _ rs false _ HS.out (Tells.no HOK.out)).mono ?_
    rintro e w2 ⟨rfl, hq⟩
    have HQ : Hid (QW _ w2) := Lib.hid hq
    clear hq
    go_wp2
    go_ret
    exact ⟨rfl, HW.out.trans (HQ.out.below _)⟩

set_option linter.unusedSimpArgs false in
set_option maxHeartbeats 4000000 in
set_option maxRecDepth 100000 in
theorem implTemplateText_yes (s : Nat) (a : Option Addr) (n c : Nat) (rs : List (Int × List (List Int))) (w : World) (h : RelsAt w (.slice a n c) rs) (hok : TplOk s rs) :
    Calls Tryd.prog 33 #[.agg #[.int .i64 (s : Int), .slice a n c]] w fun e w' => e = .returned (.string ⟨(tplT s rs).toArray⟩) ∧ Below w.heap.size w w' := by
  have HW : Hid (Below w.heap.size w (w.alloc (.cells #[.int .i64 (s : Int), .slice a n c] 58))) := Lib.hid ((Below.refl _ _).alloc (Nat.le_refl _) _)
  have HBX := Lib.hid (Box.new 58 w #[.int .i64 (s : Int), .slice a n c])
  have HG := Lib.hid (h.below HW.out)
  have HOK := Lib.hid hok
  have hs10 : s < 10 := by have := hok.1.2; omega
  have HR6 : Hid (rs.length ≤ 6) := Lib.hid hok.2.1
  have x0 := HBX.out.c 0 rfl
  have x1 := HBX.out.c 1 rfl
  clear h hok
  go_enter Tryd.func33, Tryd.ntmps33
  go_wp2_with fail
  refine (implValidTemplate s a n c rs true _ HG.out (Tells.yes HOK.out)).mono ?_
  rintro e w2 ⟨rfl, hb2⟩
  have HB2 := Lib.hid hb2
  have HX2 := Lib.hid (HBX.out.below hb2)
  have HGR := Lib.hid (HG.out.below hb2)
  have HAB : Hid (Below w2.heap.size w2 ((w2.alloc (.cells #[.pointer none, .slice none 0 0] 112)).alloc (.cells #[.int .i64 (s : Int)] 2))) := Lib.hid (((Below.refl _ _).alloc (Nat.le_refl _) _).alloc (by simp) _)
  have HNB := Lib.hid ((Bld.new w2).alloc (.cells #[.int .i64 (s : Int)] 2))
  have HRW : Hid (∀ w', Wrt w2.heap.size w2.heap.size ((w2.alloc (.cells #[.pointer none, .slice none 0 0] 112)).alloc (.cells #[.int .i64 (s : Int)] 2)) w' → RowAt w' (.slice (some ⟨w2.heap.size + 1, 0, none⟩) 1 1) [(s : Int)]) := Lib.hid (fun w' h' => by
    have := row1_wrt (w := w2.alloc (.cells #[.pointer none, .slice none 0 0] 112)) (by simp) h'
    rwa [World.size_alloc] at this)
  have z0 := below_cell ((Below.refl _ _).alloc (Nat.le_refl _) (.cells #[.pointer none, .slice none 0 0] 112)) (HX2.out.c 0 rfl)
  clear hb2 x0 x1
  go_wp2_with fail
  refine (writeHead w2.heap.size w2.heap.size [] [116, 101, 109, 112, 108, 97, 116, 101] _ [(s : Int)] _ HRW.out (dec100_one ⟨by omega, by omega⟩) (by simp) HNB.out (by decide) (by decide) (by simp; omega)).mono ?_
  rintro e w3 ⟨rfl, hb3, hw3⟩
  obtain ⟨A, hA⟩ : ∃ A, [116, 101, 109, 112, 108, 97, 116, 101] ++ (32 :: dig1 s) = A := ⟨_, rfl⟩
  have hAS : A ++ [10] = tplH s := by rw [← hA]; rfl
  have H3 : Hid (Bld w2.heap.size w2.heap.size A w3) := Lib.hid (by
    have e : [] ++ [116, 101, 109, 112, 108, 97, 116, 101] ++ headK [(s : Int)] [(s : Int)].length = A := by
      show [] ++ [116, 101, 109, 112, 108, 97, 116, 101] ++ headK [(s : Int)] 1 = _
      rw [headK_one s hs10, ← hA]
      rfl
    rw [← e]
    exact hb3)
  have HAS := Lib.hid hAS
  have HW3 : Hid (Below w2.heap.size w2 w3) := Lib.hid (HAB.out.trans hw3.1)
  have HZ3 : Hid (w2.heap.size ≤ w3.heap.size) := Lib.hid HW3.out.size
  have HAL : Hid (A.length ≤ 10000000) := Lib.hid (by rw [← hA]; simp [dig1])
  clear hb3 hw3 z0 hA hAS
  go_wp2_with fail
  refine (writeConstC w2.heap.size w2.heap.size _ 10 10 _ H3.out (by decide) rfl HAL.out HZ3.out).mono ?_
  rintro e w4 ⟨rfl, hb4, hw4⟩
  have H4 : Hid (Bld w2.heap.size w2.heap.size (tplH s ++ relsT rs 0) w4) := Lib.hid (by
    show Bld w2.heap.size w2.heap.size (tplH s ++ []) w4
    rw [List.append_nil, ← HAS.out]
    exact hb4)
  have HW4 : Hid (Below w2.heap.size w2 w4) := Lib.hid (HW3.out.trans hw4.1)
  have y1 := below_cell HW4.out (HX2.out.c 1 rfl)
  obtain ⟨a', c', hv, hn, hc⟩ := HGR.out
  simp only [Value.slice.injEq] at hv
  obtain ⟨rfl, rfl, rfl⟩ := hv
  have HC := Lib.hid hc
  clear hb4 hw4 hc
  go_wp2
  go_loopw [17] (fun i wr => ∃ k : Nat, k ≤ rs.length ∧ i = .int .i64 k ∧ Bld w2.heap.size w2.heap.size (tplH s ++ relsT rs k) wr ∧ Below w2.heap.size w2 wr) (fun i _ => rs.length - (intOf i).toNat)
  case atStart => exact ⟨0, Nat.zero_le _, rfl, H4.out, HW4.out⟩
  case round =>
    obtain ⟨k, hk, rfl, hb, hbel⟩ := hrel
    have HB := Lib.hid hb
    have HBR := Lib.hid hbel
    have hlenk := relsT_len HOK.out.2.2 k hk
    have hbg : rs.length ≤ 6 := HR6.out
    obtain ⟨A, hA⟩ : ∃ A, tplH s ++ relsT rs k = A := ⟨_, rfl⟩
    have hAl : A.length ≤ 20000 := by rw [← hA, List.length_append, tplH_len]; omega
    rw [hA] at HB
    have HA := Lib.hid hA
    have HAL2 := Lib.hid hAl
    clear hb hbel hA hlenk hAl y1
    by_cases hlt : k < rs.length
    · obtain ⟨b1, off1, rfl, hd1⟩ := HC.out (by omega)
      have hok1 := HOK.out.2.2 k hlt
      obtain ⟨r, hr⟩ : ∃ r : Nat, arN rs k = r := ⟨(arN rs k).toNat, by have := hok1.2.1.1; omega⟩
      obtain ⟨xss, hx⟩ : ∃ xss, gridN rs k = xss := ⟨_, rfl⟩
      have hR := hd1 k hlt
      rw [hr, hx] at hR hok1
      obtain ⟨g0w, ra, rn, rc, g1w, hgr⟩ := hR
      have g0 := below_cell HBR.out g0w
      have g1 := below_cell HBR.out g1w
      have HGRD := Lib.hid hgr
      have HRO := Lib.hid hok1
      have HRE := Lib.hid hr
      have HXE := Lib.hid hx
      have hlt' : (k : Int) < (rs.length : Int) := by omega
      have HZR : Hid (w2.heap.size ≤ wr.heap.size) := Lib.hid HBR.out.size
      have HBA := Lib.hid (HB.out.alloc (.cells #[.int .i64 (r : Int), .slice ra rn rc] 27))
      have HBRA := Lib.hid (HBR.out.alloc HZR.out (.cells #[.int .i64 (r : Int), .slice ra rn rc] 27))
      clear hd1 hr hx hok1 hgr g0w g1w
      go_wp2_with fail
      refine (writeRel w2.heap.size r A ra rn rc xss s w2 _ HGRD.out HBRA.out HRO.out HBA.out (by have := HAL2.out; omega)).mono ?_
      rintro e w5 ⟨rfl, hb5, hw5⟩
      have HB5 := Lib.hid hb5
      have HW5 : Hid (Below w2.heap.size w2 w5) := Lib.hid (HBRA.out.trans hw5.1)
      have HZ5 : Hid (w2.heap.size ≤ w5.heap.size) := Lib.hid HW5.out.size
      have HL5 : Hid ((A ++ relT r xss).length ≤ 10000000) := Lib.hid (by rw [List.length_append]; have := HAL2.out; have := relT_len (n := r) HRO.out; omega)
      clear hb5 hw5 g0 g1
      go_wp2_with fail
      refine (writeConstC w2.heap.size w2.heap.size _ 10 10 _ HB5.out (by decide) rfl HL5.out HZ5.out).mono ?_
      rintro e w6 ⟨rfl, hb6, hw6⟩
      have HW6 : Hid (Below w2.heap.size w2 w6) := Lib.hid (HW5.out.trans hw6.1)
      have H6 : Hid (Bld w2.heap.size w2.heap.size (tplH s ++ relsT rs (k + 1)) w6) := Lib.hid (by
        have e : tplH s ++ relsT rs (k + 1) = A ++ relT r xss ++ [10] := by
          rw [relsT_succ, HRE.out, HXE.out, ← HA.out]
          simp
        rw [e]
        exact hb6)
      clear hb6 hw6
      go_wp2
      go_roundw
      case rel => exact ⟨k + 1, by omega, by go_num, H6.out, HW6.out⟩
      case measure => simp [intOf]; omega
    · obtain rfl : k = rs.length := by omega
      have HE : Hid (tplT s rs = A) := Lib.hid HA.out
      have HZR : Hid (w2.heap.size ≤ wr.heap.size) := Lib.hid HBR.out.size
      go_wp2_with fail
      refine (stringC w2.heap.size w2.heap.size _ _ HB.out HZR.out).mono ?_
      rintro e w5 ⟨rfl, hb5⟩
      have HB5 := Lib.hid (HBR.out.trans hb5)
      clear hb5
      go_wp2
      go_ret
      exact ⟨ret_str HE.out.symm, HW.out.trans ((HB2.out.trans (HB5.out.mono HB2.out.size)).mono HW.out.size)⟩

set_option linter.unusedSimpArgs false in
set_option maxHeartbeats 4000000 in
set_option maxRecDepth 100000 in
theorem implTemplateText (sz : Int) (a : Option Addr) (n c : Nat) (rs : List (Int × List (List Int))) (l : List UInt8) (w : World) (h : RelsAt w (.slice a n c) rs) (hi : TemplateTextIs sz rs l) :
    Calls Tryd.prog 33 #[.agg #[.int .i64 sz, .slice a n c]] w fun e w' => e = .returned (.string ⟨l.toArray⟩) ∧ Below w.heap.size w w' := by
  rcases hi with ⟨hok, rfl⟩ | ⟨hok, rfl⟩
  · obtain ⟨s, rfl⟩ : ∃ r : Nat, sz = r := ⟨sz.toNat, by have := hok.1.1; omega⟩
    exact implTemplateText_yes s a n c rs w h hok
  · have HW : Hid (Below w.heap.size w (w.alloc (.cells #[.int .i64 sz, .slice a n c] 58))) := Lib.hid ((Below.refl _ _).alloc (Nat.le_refl _) _)
    have HBX := Lib.hid (Box.new 58 w #[.int .i64 sz, .slice a n c])
    have HG := Lib.hid (h.below HW.out)
    have HOK := Lib.hid hok
    have x0 := HBX.out.c 0 rfl
    have x1 := HBX.out.c 1 rfl
    clear h hok
    go_enter Tryd.func33, Tryd.ntmps33
    go_wp2_with fail
    refine (implValidTemplate sz a n c rs false _ HG.out (Tells.no HOK.out)).mono ?_
    rintro e w2 ⟨rfl, hb2⟩
    have HB2 := Lib.hid hb2
    clear hb2 x0 x1
    go_wp2
    go_ret
    exact ⟨rfl, HW.out.trans (HB2.out.mono HW.out.size)⟩

end Go.Proofs.YtadpnckpgpamiabDoor
