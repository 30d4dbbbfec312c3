/-
  The text of an operation: OpText of the model and of the program.
-/
import Derived.Test.YtadpnckpgpamiabDoorTxtRel
import Derived.Test.YtadpnckpgpamiabDoorOpOk
namespace Go.Proofs.YtadpnckpgpamiabDoor
open Go.RowKit

/-- Valid for some size. -/
def OpSized (ar : Int) (tab : List Int) : Prop := ∃ s : Int, OpOk s ar tab
theorem OpOk.dig {s ar : Int} {tab : List Int} (h : OpOk s ar tab) : Dig10 tab := fun k hk => by
  have := h.2.2.2 k hk
  have := h.1.2
  omega
theorem OpOk.len64 {s ar : Int} {tab : List Int} (h : OpOk s ar tab) : tab.length ≤ 64 := by
  have h1 := h.2.2.1
  have h2 := h.1
  have h3 := h.2.1
  have : (s.toNat) ^ ar.toNat ≤ 4 ^ 3 := Nat.le_trans (Nat.pow_le_pow_left (by have := h2.2; omega) _) (Nat.pow_le_pow_right (by decide) (by have := h3.2; omega))
  omega
/-- The word, the arity and a blank. -/
def opH (n : Nat) : List UInt8 := [111, 112, 32] ++ dig1 n ++ [32]
def opT (n : Nat) (tab : List Int) : List UInt8 := opH n ++ digK tab tab.length
theorem opH_len (n : Nat) : (opH n).length = 5 := rfl

set_option linter.unusedSimpArgs false in
set_option maxHeartbeats 2000000 in
set_option maxRecDepth 100000 in
theorem l02Sized (pb po : Nat) (ar : Int) (tab : List Int) (b : Bool) (w : World) (h : OpAt w pb po ar tab) (hb : Tells b (OpSized ar tab)) :
    Calls Tryd.prog 78 #[.pointer (some ⟨pb, po, none⟩)] w fun e w' => e = .returned (.bool b) ∧ QW w w' := by
  have H := Lib.hid h
  have HB := Lib.hid hb
  clear h hb
  go_enter Tryd.func78, Tryd.ntmps78
  go_wp2
  go_loopw [3] (fun i wr => ∃ k : Nat, 1 ≤ k ∧ k ≤ 5 ∧ i = .int .i64 k ∧ (∀ s : Int, 1 ≤ s → s < k → ¬ OpOk s ar tab) ∧ QW w wr) (fun i _ => 5 - (intOf i).toNat)
  case atStart => exact ⟨1, by omega, by omega, rfl, fun s h1 h2 => by omega, QW.refl _⟩
  case round =>
    obtain ⟨k, hk1, hk5, rfl, hall, hq⟩ := hrel
    have HA := Lib.hid hall
    have HQ := Lib.hid hq
    clear hall hq
    by_cases hlt : k ≤ 4
    · have hlt' : (k : Int) ≤ 4 := by omega
      by_cases hok : OpOk k ar tab
      · have HF := Lib.hid (HB.out.is_true ⟨_, hok⟩)
        have HT := Lib.hid (Tells.yes hok)
        clear hok
        go_wp2_with fail
        refine (l02Ok _ _ _ _ tab true _ (H.out.below HQ.out.bel) HT.out).mono ?_
        rintro e w2 ⟨rfl, hq2⟩
        have HQ2 := Lib.hid (HQ.out.trans hq2)
        clear hq2
        go_wp2
        go_ret
        exact ⟨ret_bool HF.out.symm, HQ2.out⟩
      · have HT := Lib.hid (Tells.no hok)
        have HN := Lib.hid hok
        clear hok
        go_wp2_with fail
        refine (l02Ok _ _ _ _ tab false _ (H.out.below HQ.out.bel) HT.out).mono ?_
        rintro e w2 ⟨rfl, hq2⟩
        have HQ2 := Lib.hid (HQ.out.trans hq2)
        clear hq2
        go_wp2
        go_roundw
        case rel =>
          refine ⟨k + 1, by omega, by omega, by go_num, fun s h1 h2 => ?_, HQ2.out⟩
          by_cases hs : s = k
          · subst hs; exact HN.out
          · exact HA.out s h1 (by omega)
        case measure => simp [intOf]; omega
    · obtain rfl : k = 5 := by omega
      have HF := Lib.hid (HB.out.is_false fun ⟨s, hs⟩ => HA.out s hs.1.1 (by have := hs.1.2; omega) hs)
      go_wp2
      go_ret
      exact ⟨ret_bool HF.out.symm, HQ.out⟩

set_option linter.unusedSimpArgs false in
set_option maxHeartbeats 2000000 in
set_option maxRecDepth 100000 in
theorem isOfSomeSize (ar : Int) (a : Option Addr) (n c : Nat) (tab : List Int) (b : Bool) (w : World) (h : RowAt w (.slice a n c) tab) (hb : Tells b (OpSized ar tab)) :
    Calls Tryd.prog 81 #[.agg #[.int .i64 ar, .slice a n c]] w fun e w' => e = .returned (.bool b) ∧ Below w.heap.size w w' := by
  have HW : Hid (Below w.heap.size w (w.alloc (.cells #[.int .i64 ar, .slice a n c] 36))) := Lib.hid ((Below.refl _ _).alloc (Nat.le_refl _) _)
  have HBX := Lib.hid (Box.new 36 w #[.int .i64 ar, .slice a n c])
  have H := Lib.hid (h.below HW.out)
  have HB := Lib.hid hb
  clear h hb
  go_enter Tryd.func81, Tryd.ntmps81
  go_wp2
  go_loopw [3] (fun i wr => ∃ k : Nat, 1 ≤ k ∧ k ≤ 5 ∧ i = .int .i64 k ∧ (∀ s : Int, 1 ≤ s → s < k → ¬ OpOk s ar tab) ∧ Below (w.alloc (.cells #[.int .i64 ar, .slice a n c] 36)).heap.size (w.alloc (.cells #[.int .i64 ar, .slice a n c] 36)) wr) (fun i _ => 5 - (intOf i).toNat)
  case atStart => exact ⟨1, by omega, by omega, rfl, fun s h1 h2 => by omega, Below.refl _ _⟩
  case round =>
    obtain ⟨k, hk1, hk5, rfl, hall, hq⟩ := hrel
    have HA := Lib.hid hall
    have HQ := Lib.hid hq
    have HX := Lib.hid (HBX.out.below hq)
    have x0 := HX.out.c 0 rfl
    have x1 := HX.out.c 1 rfl
    clear hall hq
    by_cases hlt : k ≤ 4
    · have hlt' : (k : Int) ≤ 4 := by omega
      by_cases hok : OpOk k ar tab
      · have HF := Lib.hid (HB.out.is_true ⟨_, hok⟩)
        have HT := Lib.hid (Tells.yes hok)
        clear hok
        go_wp2_with fail
        refine (implValidOp _ _ _ _ _ tab true _ (H.out.below HQ.out) HT.out).mono ?_
        rintro e w2 ⟨rfl, hq2⟩
        have HQ2 := Lib.hid (HQ.out.trans (hq2.mono HQ.out.size))
        clear hq2
        go_wp2
        go_ret
        exact ⟨ret_bool HF.out.symm, HW.out.trans (HQ2.out.mono HW.out.size)⟩
      · have HT := Lib.hid (Tells.no hok)
        have HN := Lib.hid hok
        clear hok
        go_wp2_with fail
        refine (implValidOp _ _ _ _ _ tab false _ (H.out.below HQ.out) HT.out).mono ?_
        rintro e w2 ⟨rfl, hq2⟩
        have HQ2 := Lib.hid (HQ.out.trans (hq2.mono HQ.out.size))
        clear hq2
        go_wp2
        go_roundw
        case rel =>
          refine ⟨k + 1, by omega, by omega, by go_num, fun s h1 h2 => ?_, HQ2.out⟩
          by_cases hs : s = k
          · subst hs; exact HN.out
          · exact HA.out s h1 (by omega)
        case measure => simp [intOf]; omega
    · obtain rfl : k = 5 := by omega
      have HF := Lib.hid (HB.out.is_false fun ⟨s, hs⟩ => HA.out s hs.1.1 (by have := hs.1.2; omega) hs)
      go_wp2
      go_ret
      exact ⟨ret_bool HF.out.symm, HW.out.trans (HQ.out.mono HW.out.size)⟩

set_option linter.unusedSimpArgs false in
set_option maxHeartbeats 2000000 in
set_option maxRecDepth 100000 in
theorem l02Text (pb po n : Nat) (tab : List Int) (w : World) (h : OpAt w pb po n tab) (hn : n < 10) (hdg : Dig10 tab) (hlen : tab.length ≤ 64) :
    Calls Tryd.prog 79 #[.pointer (some ⟨pb, po, none⟩)] w fun e w' => e = .returned (.string ⟨(opT n tab).toArray⟩) ∧ Below w.heap.size w w' := by
  obtain ⟨hp0, ra, rn, rc, hp1, ⟨ra', rc', hv, hrn, hrc⟩⟩ := h
  simp only [Value.slice.injEq] at hv
  obtain ⟨rfl, rfl, rfl⟩ := hv
  have HRC := Lib.hid hrc
  have HDG := Lib.hid hdg
  have HP1 := Lib.hid hp1
  clear hrc hdg hp1
  go_enter Tryd.func79, Tryd.ntmps79
  go_wp2_with fail
  refine (decOne n hn _).mono ?_
  rintro e w1 ⟨rfl, hb1⟩
  have HB1 := Lib.hid hb1
  have hct1 : (Op.stringOp .add ⟨#[111, 112, 32]⟩ ⟨(dig1 n).toArray⟩).run Tryd.prog w1 = .ok (.string ⟨([111, 112, 32] ++ dig1 n).toArray⟩) w1 := catE [111, 112, 32] (dig1 n) _ rfl (by decide) (by simp [dig1]) w1
  obtain ⟨A, hA⟩ : ∃ A, [111, 112, 32] ++ dig1 n = A := ⟨_, rfl⟩
  have hct2 : (Op.stringOp .add ⟨A.toArray⟩ ⟨#[32]⟩).run Tryd.prog w1 = .ok (.string ⟨(opH n).toArray⟩) w1 := catE A [32] _ (by rw [← hA]; rfl) (by rw [← hA]; simp [dig1]) (by decide) w1
  rw [hA] at hct1
  clear hb1 hp0 hA
  go_wp2
  clear hct1 hct2
  go_loopw [3, 4] (fun s i wr => ∃ j : Nat, j ≤ tab.length ∧ i = .int .i64 j ∧ s = .string ⟨(opH n ++ digK tab j).toArray⟩ ∧ Below w.heap.size w wr) (fun _ i _ => tab.length - (intOf i).toNat)
  case atStart => exact ⟨0, Nat.zero_le _, rfl, by show _ = Value.string ⟨(opH n ++ []).toArray⟩; rw [List.append_nil], HB1.out⟩
  case round =>
    obtain ⟨j, hj, rfl, rfl, hbel2⟩ := hrel
    have HB2 := Lib.hid hbel2
    have hp2 := below_cell hbel2 HP1.out
    clear hbel2
    by_cases hjt : j < tab.length
    · obtain ⟨b2, off2, rfl, hd2⟩ := HRC.out (by omega)
      have hx : w.cell? ⟨b2, off2 + j, none⟩ = some (.int .i64 (intN tab j)) := hd2 j hjt
      have hx2 := below_cell HB2.out hx
      have hdj := HDG.out j hjt
      obtain ⟨d, hde⟩ : ∃ d : Nat, (intN tab j).toNat = d := ⟨_, rfl⟩
      have hdi : intN tab j = (d : Int) := by omega
      rw [hdi] at hx2
      have HD : Hid (d < 10) := Lib.hid (by omega)
      have HS : Hid ((opH n ++ digK tab j) ++ dig1 d = opH n ++ digK tab (j + 1)) := Lib.hid (by rw [digK_succ, hde, List.append_assoc])
      have HL : Hid ((opH n ++ digK tab j).length ≤ 10000000) := Lib.hid (by rw [List.length_append, digK_len, opH_len]; omega)
      have hjt' : (j : Int) < (tab.length : Int) := by omega
      obtain ⟨G, hG⟩ : ∃ G, opH n ++ digK tab j = G := ⟨_, rfl⟩
      rw [hG]
      have HG := Lib.hid hG
      clear hx hdj hde hdi hd2 hG
      go_wp2_with fail
      refine (decOne d HD.out _).mono ?_
      rintro e w4 ⟨rfl, hb4⟩
      have HB4 := Lib.hid (HB2.out.trans (hb4.mono HB2.out.size))
      have hct : (Op.stringOp .add ⟨G.toArray⟩ ⟨(dig1 d).toArray⟩).run Tryd.prog w4 = .ok (.string ⟨(opH n ++ digK tab (j + 1)).toArray⟩) w4 := catE G (dig1 d) _ (by rw [← HG.out]; exact HS.out) (by rw [← HG.out]; exact HL.out) (by simp [dig1]) w4
      clear hb4 hp2 hx2
      go_wp2
      clear hct
      go_roundw
      case rel => exact ⟨j + 1, by omega, by go_num, rfl, HB4.out⟩
      case measure => simp [intOf]; omega
    · obtain rfl : j = tab.length := by omega
      go_wp2
      go_ret
      exact ⟨rfl, HB2.out⟩

/-- What OpText answers. -/
def OpTextIs (ar : Int) (tab : List Int) (l : List UInt8) : Prop := (OpSized ar tab ∧ l = opT ar.toNat tab) ∨ (¬ OpSized ar tab ∧ l = [])
theorem OpTextIs.exists (ar : Int) (tab : List Int) : ∃ l, OpTextIs ar tab l := by
  by_cases h : OpSized ar tab
  · exact ⟨_, .inl ⟨h, rfl⟩⟩
  · exact ⟨_, .inr ⟨h, rfl⟩⟩

set_option linter.unusedSimpArgs false in
set_option maxHeartbeats 2000000 in
set_option maxRecDepth 100000 in
theorem specOpText (ar : Int) (a : Option Addr) (n c : Nat) (tab : List Int) (l : List UInt8) (w : World) (h : RowAt w (.slice a n c) tab) (hi : OpTextIs ar tab l) :
    Calls Tryd.prog 21 #[.agg #[.int .i64 ar, .slice a n c]] w fun e w' => e = .returned (.string ⟨l.toArray⟩) ∧ Below w.heap.size w w' := by
  have HW : Hid (Below w.heap.size w (w.alloc (.cells #[.int .i64 ar, .slice a n c] 36))) := Lib.hid ((Below.refl _ _).alloc (Nat.le_refl _) _)
  have HR : Hid (OpAt (w.alloc (.cells #[.int .i64 ar, .slice a n c] 36)) w.heap.size 0 ar tab) := Lib.hid ⟨by simp [World.cell?_alloc_new], a, n, c, by simp [World.cell?_alloc_new], h.below HW.out⟩
  clear h
  rcases hi with ⟨hok, rfl⟩ | ⟨hok, rfl⟩
  · have HOK := Lib.hid hok
    obtain ⟨s, hs⟩ := hok
    have HSO := Lib.hid hs
    obtain ⟨r, rfl⟩ : ∃ r : Nat, ar = r := ⟨ar.toNat, by have := hs.2.1.1; omega⟩
    have hr10 : r < 10 := by have := hs.2.1.2; omega
    clear hs
    go_enter Tryd.func21, Tryd.ntmps21
    go_wp2_with fail
    refine (l02Sized _ _ _ tab true _ HR.out (Tells.yes HOK.out)).mono ?_
    rintro e w2 ⟨rfl, hq⟩
    have HQ := Lib.hid (hq : QW _ w2)
    clear hq
    go_wp2_with fail
    refine (l02Text _ _ r tab _ (HR.out.below HQ.out.bel) hr10 HSO.out.dig HSO.out.len64).mono ?_
    rintro e w3 ⟨rfl, hb3⟩
    have HE := Lib.hid (HW.out.trans ((HQ.out.bel.trans (hb3.mono HQ.out.bel.size)).mono HW.out.size))
    clear hb3
    go_wp2
    go_ret
    exact ⟨rfl, HE.out⟩
  · have HOK := Lib.hid hok
    clear hok
    go_enter Tryd.func21, Tryd.ntmps21
    go_wp2_with fail
    refine (l02Sized _ _ _ tab false _ HR.out (Tells.no HOK.out)).mono ?_
    rintro e w2 ⟨rfl, hq⟩
    have HQ := Lib.hid (hq : QW _ w2)
    clear hq
    go_wp2
    go_ret
    exact ⟨rfl, HW.out.trans (HQ.out.below _)⟩

set_option linter.unusedSimpArgs false in
set_option maxHeartbeats 2000000 in
set_option maxRecDepth 100000 in
theorem implOpText (ar : Int) (a : Option Addr) (n c : Nat) (tab : List Int) (l : List UInt8) (w : World) (h : RowAt w (.slice a n c) tab) (hi : OpTextIs ar tab l) :
    Calls Tryd.prog 23 #[.agg #[.int .i64 ar, .slice a n c]] w fun e w' => e = .returned (.string ⟨l.toArray⟩) ∧ Below w.heap.size w w' := by
  have HW : Hid (Below w.heap.size w (w.alloc (.cells #[.int .i64 ar, .slice a n c] 36))) := Lib.hid ((Below.refl _ _).alloc (Nat.le_refl _) _)
  have HBX := Lib.hid (Box.new 36 w #[.int .i64 ar, .slice a n c])
  have HG := Lib.hid (h.below HW.out)
  have x0 := HBX.out.c 0 rfl
  have x1 := HBX.out.c 1 rfl
  clear h
  rcases hi with ⟨hok, rfl⟩ | ⟨hok, rfl⟩
  · have HOK := Lib.hid hok
    obtain ⟨s, hs⟩ := hok
    have HSO := Lib.hid hs
    obtain ⟨r, rfl⟩ : ∃ r : Nat, ar = r := ⟨ar.toNat, by have := hs.2.1.1; omega⟩
    have hr10 : r < 10 := by have := hs.2.1.2; omega
    clear hs
    go_enter Tryd.func23, Tryd.ntmps23
    go_wp2_with fail
    refine (isOfSomeSize r a n c tab true _ HG.out (Tells.yes HOK.out)).mono ?_
    rintro e w2 ⟨rfl, hb2⟩
    have HB2 := Lib.hid hb2
    have y0 := below_cell hb2 x0
    have y1 := below_cell hb2 x1
    have HAB : Hid (Below w2.heap.size w2 ((w2.alloc (.cells #[.pointer none, .slice none 0 0] 112)).alloc (.cells #[.int .i64 (r : Int)] 2))) := Lib.hid (((Below.refl _ _).alloc (Nat.le_refl _) _).alloc (by simp) _)
    have HNB := Lib.hid ((Bld.new w2).alloc (.cells #[.int .i64 (r : Int)] 2))
    have HRW : Hid (∀ w', Wrt w2.heap.size w2.heap.size ((w2.alloc (.cells #[.pointer none, .slice none 0 0] 112)).alloc (.cells #[.int .i64 (r : Int)] 2)) w' → RowAt w' (.slice (some ⟨w2.heap.size + 1, 0, none⟩) 1 1) [(r : Int)]) := Lib.hid (fun w' h' => by
      have := row1_wrt (w := w2.alloc (.cells #[.pointer none, .slice none 0 0] 112)) (by simp) h'
      rwa [World.size_alloc] at this)
    have HGR := Lib.hid (HG.out.below HB2.out)
    have z0 := below_cell ((Below.refl _ _).alloc (Nat.le_refl _) (.cells #[.pointer none, .slice none 0 0] 112)) y0
    have Y1 := Lib.hid y1
    clear hb2 x0 x1 y1
    go_wp2_with fail
    refine (writeHead w2.heap.size w2.heap.size [] [111, 112] _ [(r : Int)] _ HRW.out (dec100_one ⟨by omega, by omega⟩) (by simp) HNB.out (by decide) (by decide) (by simp; omega)).mono ?_
    rintro e w3 ⟨rfl, hb3, hw3⟩
    have H3 : Hid (Bld w2.heap.size w2.heap.size ([111, 112] ++ (32 :: dig1 r)) w3) := Lib.hid (by
      have e : [] ++ [111, 112] ++ headK [(r : Int)] [(r : Int)].length = [111, 112] ++ (32 :: dig1 r) := by
        show [] ++ [111, 112] ++ headK [(r : Int)] 1 = _
        rw [headK_one r hr10]
        rfl
      rw [← e]
      exact hb3)
    have HW3 : Hid (Below w2.heap.size w2 w3) := Lib.hid (HAB.out.trans hw3.1)
    have HZ3 : Hid (w2.heap.size ≤ w3.heap.size) := Lib.hid HW3.out.size
    clear hb3 hw3 y0 z0
    go_wp2_with fail
    refine (writeConstC w2.heap.size w2.heap.size _ 32 32 _ H3.out (by decide) rfl (by simp [dig1]) HZ3.out).mono ?_
    rintro e w4 ⟨rfl, hb4, hw4⟩
    have H4 : Hid (Bld w2.heap.size w2.heap.size (opH r) w4) := Lib.hid hb4
    have HW4 : Hid (Below w2.heap.size w2 w4) := Lib.hid (HW3.out.trans hw4.1)
    have HZ4 : Hid (w2.heap.size ≤ w4.heap.size) := Lib.hid HW4.out.size
    have HRD : Hid (∀ w', Wrt w2.heap.size w2.heap.size w4 w' → RowAt w' (.slice a n c) tab) := Lib.hid (fun w' h' => HGR.out.below (HW4.out.trans h'.1))
    have y1 := below_cell HW4.out Y1.out
    clear hb4 hw4
    go_wp2_with fail
    refine (writeDigits w2.heap.size w2.heap.size _ _ tab _ HRD.out HSO.out.dig (by have := HSO.out.len64; omega) H4.out (by rw [opH_len]; omega) HZ4.out).mono ?_
    rintro e w5 ⟨rfl, hb5, hw5⟩
    have H5 : Hid (Bld w2.heap.size w2.heap.size (opT r tab) w5) := Lib.hid hb5
    have HW5 : Hid (Below w2.heap.size w2 w5) := Lib.hid (HW4.out.trans hw5.1)
    have HZ5 : Hid (w2.heap.size ≤ w5.heap.size) := Lib.hid HW5.out.size
    clear hb5 hw5 y1
    go_wp2_with fail
    refine (stringC w2.heap.size w2.heap.size _ _ H5.out HZ5.out).mono ?_
    rintro e w6 ⟨rfl, hb6⟩
    have HB6 := Lib.hid (HW5.out.trans hb6)
    clear hb6
    go_wp2
    go_ret
    exact ⟨rfl, HW.out.trans (((HB2.out.trans (HB6.out.mono HB2.out.size))).mono HW.out.size)⟩
  · have HOK := Lib.hid hok
    clear hok
    go_enter Tryd.func23, Tryd.ntmps23
    go_wp2_with fail
    refine (isOfSomeSize ar a n c tab false _ HG.out (Tells.no HOK.out)).mono ?_
    rintro e w2 ⟨rfl, hb2⟩
    have HB2 := Lib.hid hb2
    clear hb2 x0 x1
    go_wp2
    go_ret
    exact ⟨rfl, HW.out.trans (HB2.out.mono HW.out.size)⟩

end Go.Proofs.YtadpnckpgpamiabDoor
