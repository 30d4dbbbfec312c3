/-
  The text of an instance: InstanceText of the model and of the program.
-/
import Derived.Test.YtadpnckpgpamiabDoorTxtRel
import Derived.Test.YtadpnckpgpamiabDoorInstOk2
import Derived.Deep.RegionWith
namespace Go.Proofs.YtadpnckpgpamiabDoor
open Go.RowKit

def instH (u : Nat) : List UInt8 := [105, 110, 115, 116, 97, 110, 99, 101, 32] ++ Lib.decDigits u ++ [10]
theorem instH_len {u : Nat} (h : u < 100) : (instH u).length ≤ 12 := by
  have := dec_len h
  unfold instH
  rw [List.length_append, List.length_append]
  simp
  omega
def conT (rel : Nat) (row : List Int) : List UInt8 := dig1 rel ++ headK row row.length ++ [10]
def consT (cs : List (Int × List Int)) : Nat → List UInt8
  | 0 => []
  | k + 1 => consT cs k ++ conT (arO cs k).toNat (rowO cs k)
theorem consT_succ (cs : List (Int × List Int)) (k : Nat) : consT cs (k + 1) = consT cs k ++ conT (arO cs k).toNat (rowO cs k) := rfl
def instT (u : Nat) (cs : List (Int × List Int)) : List UInt8 := instH u ++ consT cs cs.length
theorem TextAtI.dec {va rel : Int} {row : List Int} (h : TextAtI va rel row) (hv : va ≤ 10) : Dec100 row := fun k hk => by
  have := h.2.2.2 k hk
  omega
theorem conT_len {rel : Nat} {row : List Int} (h : row.length ≤ 4) (hd : Dec100 row) : (conT rel row).length ≤ 14 := by
  have := headK_len hd _ (Nat.le_refl _)
  unfold conT
  rw [List.length_append, List.length_append]
  simp [dig1]
  omega
theorem consT_len {cs : List (Int × List Int)} (h : ∀ j, j < cs.length → (rowO cs j).length ≤ 4 ∧ Dec100 (rowO cs j)) : ∀ k, k ≤ cs.length → (consT cs k).length ≤ 14 * k
  | 0, _ => Nat.le_refl _
  | k + 1, hk => by
    have h1 := consT_len h k (by omega)
    have h2 := conT_len (rel := (arO cs k).toNat) (h k (by omega)).1 (h k (by omega)).2
    rw [consT_succ, List.length_append]
    omega

set_option linter.unusedSimpArgs false in
set_option maxHeartbeats 4000000 in
set_option maxRecDepth 100000 in
theorem l05Shown (pb po : Nat) (va : Int) (fs : List (Int × List Int)) (b : Bool) (w : World) (c0 : w.cell? ⟨pb, po, none⟩ = some (.int .i64 va)) (h : ∃ a n c, w.cell? ⟨pb, po + 1, none⟩ = some (.slice a n c) ∧ OpsAt w (.slice a n c) fs) (hb : Tells b (TextOkI va fs)) :
    Calls Tryd.prog 106 #[.pointer (some ⟨pb, po, none⟩)] w fun e w' => e = .returned (.bool b) ∧ QW w w' := by
  have HB := Lib.hid hb
  obtain ⟨a, n, c, x2, a', c', hv, hn, hc⟩ := h
  simp only [Value.slice.injEq] at hv
  obtain ⟨rfl, rfl, rfl⟩ := hv
  have HC := Lib.hid hc
  have X1 := Lib.hid c0
  have X2 := Lib.hid x2
  clear hc hb
  by_cases hcn : InP va 1 10
  case neg =>
    have HT := Lib.hid (Tells.no hcn)
    have HF := Lib.hid (HB.out.is_false fun h => hcn h.1)
    clear hcn
    go_enter Tryd.func106, Tryd.ntmps106
    go_wp2_with fail
    refine (l00In _ _ _ false _ HT.out).mono ?_
    rintro e w2 ⟨rfl, rfl⟩
    go_wp2
    go_ret
    exact ⟨ret_bool HF.out.symm, QW.refl _⟩
  have HT := Lib.hid (Tells.yes hcn)
  have HCN := Lib.hid hcn
  have HV1 : Hid (1 ≤ va) := Lib.hid hcn.1
  have HV2 : Hid (va ≤ 1000) := Lib.hid (by have := hcn.2; omega)
  clear hcn
  by_cases hl : (fs.length : Int) > 24
  case pos =>
    have HF := Lib.hid (HB.out.is_false fun h => by have := h.2.1; omega)
    go_enter Tryd.func106, Tryd.ntmps106
    go_wp2_with fail
    refine (l00In _ _ _ true _ HT.out).mono ?_
    rintro e w2 ⟨rfl, rfl⟩
    go_wp2
    go_ret
    exact ⟨ret_bool HF.out.symm, QW.refl _⟩
  have HL24 : Hid (fs.length ≤ 24) := Lib.hid (by omega)
  go_enter Tryd.func106, Tryd.ntmps106
  go_wp2_with fail
  refine (l00In _ _ _ true _ HT.out).mono ?_
  rintro e w2 ⟨rfl, rfl⟩
  go_wp2
  clear hl c0 x2
  go_loopw [3] (fun i wr => ∃ k : Nat, k ≤ fs.length ∧ i = .int .i64 k ∧ (∀ j, j < k → TextAtI va (arO fs j) (rowO fs j)) ∧ QW w wr) (fun i _ => fs.length - (intOf i).toNat)
  case atStart => exact ⟨0, Nat.zero_le _, rfl, fun j hj => absurd hj (Nat.not_lt_zero _), QW.refl _⟩
  case round =>
    obtain ⟨k, hk, rfl, hall, hq⟩ := hrel
    have HA := Lib.hid hall
    have HQ := Lib.hid hq
    have e1 := hq.cell X1.out
    have e2 := hq.cell X2.out
    clear hall hq
    by_cases hlt : k < fs.length
    · obtain ⟨b1, off1, rfl, hd1⟩ := HC.out (by omega)
      obtain ⟨rel, hrel'⟩ : ∃ r, arO fs k = r := ⟨_, rfl⟩
      obtain ⟨row, hrow⟩ : ∃ r, rowO fs k = r := ⟨_, rfl⟩
      have hE := hd1 k hlt
      rw [hrel', hrow] at hE
      obtain ⟨g0, ra, rn, rc, g1, hrr⟩ := hE.below HQ.out.bel
      obtain rfl : rn = row.length := by obtain ⟨_, _, he, _⟩ := hrr; simp only [Value.slice.injEq] at he; exact he.2.1
      have HRR := Lib.hid hrr
      have HRE := Lib.hid hrel'
      have HRW := Lib.hid hrow
      have hlt' : (k : Int) < (fs.length : Int) := by omega
      clear hd1 hrr hrel' hrow hE
      by_cases h1 : InP rel 0 5
      case neg =>
        have T1 := Lib.hid (Tells.no h1)
        have HF := Lib.hid (HB.out.is_false fun h => h1 (by have := (h.2.2 k hlt).1; rwa [HRE.out] at this))
        clear h1
        go_wp2
        go_quiet ((go_at_call 152; exact QW.calls_same (l00In _ _ _ _ _ T1.out)))
        go_wp2
        go_ret
        exact ⟨ret_bool HF.out.symm, HQ.out.drewN _⟩
      have T1 := Lib.hid (Tells.yes h1)
      have H1 := Lib.hid h1
      clear h1
      by_cases h2 : In14 (row.length : Int)
      case neg =>
        have T2 := Lib.hid (Tells.no h2)
        have HF := Lib.hid (HB.out.is_false fun h => h2 (by have := (h.2.2 k hlt).2.1; rwa [HRW.out] at this))
        clear h2
        go_wp2
        go_quiet ((first | (go_at_call 152; exact QW.calls_same (l00In _ _ _ _ _ T1.out)) | (go_at_call 138; exact QW.calls_same (l01Arity _ _ _ T2.out))))
        go_wp2
        go_ret
        exact ⟨ret_bool HF.out.symm, HQ.out.drewN _⟩
      have T2 := Lib.hid (Tells.yes h2)
      have H2 := Lib.hid h2
      clear h2
      by_cases h3 : PlP row va
      case neg =>
        have T3 := Lib.hid (Tells.no h3)
        have HF := Lib.hid (HB.out.is_false fun h => h3 (by have := (h.2.2 k hlt).2.2; rw [HRW.out] at this; exact PlP.tup.2 this))
        clear h3
        go_wp2
        go_quiet ((first | (go_at_call 152; exact QW.calls_same (l00In _ _ _ _ _ T1.out)) | (go_at_call 138; exact QW.calls_same (l01Arity _ _ _ T2.out)) | (go_at_call 160; exact QW.calls_same (l01PlacesV _ row _ _ _ (HRR.out.below (((QW.refl _).drewN _).bel)) HV1.out HV2.out T3.out))))
        go_wp2
        go_ret
        exact ⟨ret_bool HF.out.symm, HQ.out.drewN _⟩
      have T3 := Lib.hid (Tells.yes h3)
      have HTH : Hid (TextAtI va (arO fs k) (rowO fs k)) := Lib.hid (by rw [HRE.out, HRW.out]; exact ⟨H1.out, H2.out, PlP.tup.1 h3⟩)
      clear h3
      go_wp2
      go_quiet ((first | (go_at_call 152; exact QW.calls_same (l00In _ _ _ _ _ T1.out)) | (go_at_call 138; exact QW.calls_same (l01Arity _ _ _ T2.out)) | (go_at_call 160; exact QW.calls_same (l01PlacesV _ row _ _ _ (HRR.out.below (((QW.refl _).drewN _).bel)) HV1.out HV2.out T3.out))))
      go_wp2
      go_roundw
      case rel =>
        refine ⟨k + 1, by omega, by go_num, fun j hj => ?_, HQ.out.drewN _⟩
        by_cases hjk : j = k
        · subst hjk; exact HTH.out
        · exact HA.out j (by omega)
      case measure => simp [intOf]; omega
    · obtain rfl : k = fs.length := by omega
      have HF := Lib.hid (HB.out.is_true ⟨HCN.out, HL24.out, HA.out⟩)
      go_wp2
      go_ret
      exact ⟨ret_bool HF.out.symm, HQ.out⟩

set_option linter.unusedSimpArgs false in
set_option maxHeartbeats 4000000 in
set_option maxRecDepth 100000 in
theorem l05Text (pb po u : Nat) (fs : List (Int × List Int)) (w : World) (c0 : w.cell? ⟨pb, po, none⟩ = some (.int .i64 u)) (h : ∃ a n c, w.cell? ⟨pb, po + 1, none⟩ = some (.slice a n c) ∧ OpsAt w (.slice a n c) fs) (hok : TextOkI u fs) :
    Calls Tryd.prog 107 #[.pointer (some ⟨pb, po, none⟩)] w fun e w' => e = .returned (.string ⟨(instT u fs).toArray⟩) ∧ Below w.heap.size w w' := by
  obtain ⟨a, n, c, hp1, a', c', hv, hn, hc⟩ := h
  simp only [Value.slice.injEq] at hv
  obtain ⟨rfl, rfl, rfl⟩ := hv
  have HC := Lib.hid hc
  have HOK := Lib.hid hok
  have HP1 := Lib.hid hp1
  have HUN : Hid (u < 100) := Lib.hid (by have := hok.1.2; omega)
  have HR24 : Hid (fs.length ≤ 24) := Lib.hid hok.2.1
  have HLEN : Hid (∀ j, j < fs.length → (rowO fs j).length ≤ 4 ∧ Dec100 (rowO fs j)) := Lib.hid (fun j hj => ⟨by have := (hok.2.2 j hj).2.1.2; omega, (hok.2.2 j hj).dec hok.1.2⟩)
  have HHL := Lib.hid (instH_len HUN.out)
  clear hc hok hp1
  go_enter Tryd.func107, Tryd.ntmps107
  go_wp2_with fail
  refine (decC u HUN.out _).mono ?_
  rintro e w1 ⟨rfl, hb1⟩
  have HB1 := Lib.hid hb1
  have hdl := dec_len HUN.out
  obtain ⟨A, hA⟩ : ∃ A, [105, 110, 115, 116, 97, 110, 99, 101, 32] ++ Lib.decDigits u = A := ⟨_, rfl⟩
  have hct1 : (Op.stringOp .add ⟨#[105, 110, 115, 116, 97, 110, 99, 101, 32]⟩ ⟨(Lib.decDigits u).toArray⟩).run Tryd.prog w1 = .ok (.string ⟨A.toArray⟩) w1 := catE [105, 110, 115, 116, 97, 110, 99, 101, 32] (Lib.decDigits u) _ hA (by decide) (by omega) w1
  have hct2 : (Op.stringOp .add ⟨A.toArray⟩ ⟨#[10]⟩).run Tryd.prog w1 = .ok (.string ⟨(instH u).toArray⟩) w1 := catE A [10] _ (by rw [← hA]; rfl) (by rw [← hA, List.length_append]; simp; omega) (by decide) w1
  clear hb1 c0 hA hdl
  go_wp2
  clear hct1 hct2
  go_loopw [3, 4] (fun v i wr => ∃ k : Nat, k ≤ fs.length ∧ i = .int .i64 k ∧ v = .string ⟨(instH u ++ consT fs k).toArray⟩ ∧ Below w.heap.size w wr) (fun _ i _ => fs.length - (intOf i).toNat)
  case atStart => exact ⟨0, Nat.zero_le _, rfl, by show _ = Value.string ⟨(instH u ++ []).toArray⟩; rw [List.append_nil], HB1.out⟩
  case round =>
    obtain ⟨k, hk, rfl, rfl, hbel⟩ := hrel
    have HB := Lib.hid hbel
    have hp1 := below_cell hbel HP1.out
    have hlenk := consT_len HLEN.out k hk
    have hbg : fs.length ≤ 24 := HR24.out
    obtain ⟨A, hA⟩ : ∃ A, instH u ++ consT fs k = A := ⟨_, rfl⟩
    have hAl : A.length ≤ 500 := by rw [← hA, List.length_append]; have := HHL.out; omega
    rw [hA]
    have HA := Lib.hid hA
    have HAL := Lib.hid hAl
    clear hbel hA hlenk hAl
    by_cases hlt : k < fs.length
    · obtain ⟨b1, off1, rfl, hd1⟩ := HC.out (by omega)
      obtain ⟨r0, hr0⟩ : ∃ r0, arO fs k = r0 := ⟨_, rfl⟩
      obtain ⟨row, hrow⟩ : ∃ row, rowO fs k = row := ⟨_, rfl⟩
      have hE := hd1 k hlt
      have hok1 := HOK.out.2.2 k hlt
      rw [hr0, hrow] at hE hok1
      obtain ⟨g0, ra, rn, rc, g1, hrr⟩ := hE
      have hg0 := below_cell HB.out g0
      have HGW := Lib.hid (below_cell HB.out g1)
      obtain ⟨ra', rc', hrv, hrn, hrc⟩ := hrr
      simp only [Value.slice.injEq] at hrv
      obtain ⟨rfl, rfl, rfl⟩ := hrv
      have HRC := Lib.hid hrc
      have HR0 := Lib.hid hr0
      have HRW := Lib.hid hrow
      have HDG : Hid (Dec100 row) := Lib.hid (hok1.dec HOK.out.1.2)
      have hr4 : row.length ≤ 4 := by have := hok1.2.1.2; omega
      have hrb := hok1.1.1
      have hrb2 := hok1.1.2
      obtain ⟨r, rfl⟩ : ∃ r : Nat, r0 = r := ⟨r0.toNat, by omega⟩
      have HRN : Hid (r < 10) := Lib.hid (by omega)
      have hlt' : (k : Int) < (fs.length : Int) := by omega
      have HQ0 := Lib.hid hp1
      obtain ⟨wo, rfl⟩ : ∃ wo : World, wo = wr := ⟨_, rfl⟩
      clear hd1 hrc hr0 hrow hok1 g1 g0 hrb hrb2
      go_wp2_with fail
      refine (decOne r HRN.out _).mono ?_
      rintro e w9 ⟨rfl, hb9⟩
      have HBO := Lib.hid hb9
      obtain ⟨B, hB⟩ : ∃ B, A ++ dig1 r = B := ⟨_, rfl⟩
      have hct : (Op.stringOp .add ⟨A.toArray⟩ ⟨(dig1 r).toArray⟩).run Tryd.prog w9 = .ok (.string ⟨B.toArray⟩) w9 := catE A (dig1 r) _ hB (by have := HAL.out; omega) (by simp [dig1]) w9
      have HBL : Hid (B.length ≤ 600) := Lib.hid (by rw [← hB, List.length_append]; have := HAL.out; simp [dig1]; omega)
      have HBE := Lib.hid hB
      clear hb9 hB hg0 hp1
      go_wp2
      clear hct
      go_loopw [3, 5] (fun s i wr => ∃ j : Nat, j ≤ row.length ∧ i = .int .i64 j ∧ s = .string ⟨(B ++ headK row j).toArray⟩ ∧ Below wo.heap.size wo wr) (fun _ i _ => row.length - (intOf i).toNat)
      case atStart => exact ⟨0, Nat.zero_le _, rfl, by show _ = Value.string ⟨(B ++ []).toArray⟩; rw [List.append_nil], HBO.out⟩
      case round =>
        obtain ⟨j, hj, rfl, rfl, hbel2⟩ := hrel
        have HB2 := Lib.hid hbel2
        have hq2 := below_cell hbel2 HQ0.out
        have hg1 := below_cell hbel2 HGW.out
        clear hbel2
        have hhl := headK_len HDG.out j hj
        by_cases hjt : j < row.length
        · obtain ⟨b2, off2, rfl, hd2⟩ := HRC.out (by omega)
          have hx : wo.cell? ⟨b2, off2 + j, none⟩ = some (.int .i64 (intN row j)) := below_cell HB.out (hd2 j hjt)
          have hx2 := below_cell HB2.out hx
          have hdj := HDG.out j hjt
          obtain ⟨d, hde⟩ : ∃ d : Nat, (intN row j).toNat = d := ⟨_, rfl⟩
          have hdi : intN row j = (d : Int) := by omega
          rw [hdi] at hx2
          have HD : Hid (d < 100) := Lib.hid (by omega)
          obtain ⟨X, hX⟩ : ∃ X, [32] ++ Lib.decDigits d = X := ⟨_, rfl⟩
          have hdl := dec_len HD.out
          have hXl : X.length ≤ 3 := by rw [← hX, List.length_append]; simp; omega
          have HS : Hid ((B ++ headK row j) ++ X = B ++ headK row (j + 1)) := Lib.hid (by rw [headK_succ, hde, ← hX]; simp)
          have HL : Hid ((B ++ headK row j).length ≤ 10000000) := Lib.hid (by rw [List.length_append]; have := HBL.out; omega)
          have hjt' : (j : Int) < (row.length : Int) := by omega
          obtain ⟨G, hG⟩ : ∃ G, B ++ headK row j = G := ⟨_, rfl⟩
          rw [hG]
          have HG := Lib.hid hG
          have HX := Lib.hid hX
          have HXL := Lib.hid hXl
          have HDL := Lib.hid hdl
          clear hx hdj hde hdi hd2 hG hX hXl hdl hhl
          go_wp2_with fail
          refine (decC d HD.out _).mono ?_
          rintro e w4 ⟨rfl, hb4⟩
          have HB4 := Lib.hid (HB2.out.trans (hb4.mono HB2.out.size))
          have hct0 : (Op.stringOp .add ⟨#[32]⟩ ⟨(Lib.decDigits d).toArray⟩).run Tryd.prog w4 = .ok (.string ⟨X.toArray⟩) w4 := catE [32] (Lib.decDigits d) _ HX.out (by decide) (by have := HDL.out; omega) w4
          have hct : (Op.stringOp .add ⟨G.toArray⟩ ⟨X.toArray⟩).run Tryd.prog w4 = .ok (.string ⟨(B ++ headK row (j + 1)).toArray⟩) w4 := catE G X _ (by rw [← HG.out]; exact HS.out) (by rw [← HG.out]; exact HL.out) (by have := HXL.out; omega) w4
          clear hb4 hq2 hg1 hx2
          go_wp2
          clear hct hct0
          go_roundw
          case rel => exact ⟨j + 1, by omega, by go_num, rfl, HB4.out⟩
          case measure => simp [intOf]; omega
        · obtain rfl : j = row.length := by omega
          obtain ⟨G, hG⟩ : ∃ G, B ++ headK row row.length = G := ⟨_, rfl⟩
          have hGl : G.length ≤ 700 := by rw [← hG, List.length_append]; have := HBL.out; omega
          rw [hG]
          have HNX : Hid (instH u ++ consT fs (k + 1) = G ++ [10]) := Lib.hid (by
            rw [consT_succ, HR0.out, HRW.out, ← hG, ← HBE.out, ← HA.out]
            simp [conT])
          have hct : ∀ wv, (Op.stringOp .add ⟨G.toArray⟩ ⟨#[10]⟩).run Tryd.prog wv = .ok (.string ⟨(G ++ [10]).toArray⟩) wv := fun wv => catE G [10] _ rfl (by omega) (by decide) wv
          clear hG hGl hhl
          go_wp2
          clear hct
          go_roundw
          case rel => exact ⟨k + 1, by omega, by go_num, by rw [HNX.out], HB.out.trans (HB2.out.mono HB.out.size)⟩
          case measure => simp [intOf]; omega
    · obtain rfl : k = fs.length := by omega
      have HE : Hid (instT u fs = A) := Lib.hid HA.out
      go_wp2
      go_ret
      exact ⟨ret_str HE.out.symm, HB.out⟩

/-- What InstanceText answers. -/
def InstanceTextIs (u : Int) (rs : List (Int × List Int)) (l : List UInt8) : Prop := (TextOkI u rs ∧ l = instT u.toNat rs) ∨ (¬ TextOkI u rs ∧ l = [])
theorem InstanceTextIs.exists (u : Int) (rs : List (Int × List Int)) : ∃ l, InstanceTextIs u rs l := by
  by_cases h : TextOkI u rs
  · exact ⟨_, .inl ⟨h, rfl⟩⟩
  · exact ⟨_, .inr ⟨h, rfl⟩⟩

set_option linter.unusedSimpArgs false in
set_option maxHeartbeats 4000000 in
set_option maxRecDepth 100000 in
theorem specInstanceText (u : Int) (a : Option Addr) (n c : Nat) (rs : List (Int × List Int)) (l : List UInt8) (w : World) (h : OpsAt w (.slice a n c) rs) (hi : InstanceTextIs u rs l) :
    Calls Tryd.prog 41 #[.agg #[.int .i64 u, .slice a n c]] w fun e w' => e = .returned (.string ⟨l.toArray⟩) ∧ Below w.heap.size w w' := by
  have HW : Hid (Below w.heap.size w (w.alloc (.cells #[.int .i64 u, .slice a n c] 80))) := Lib.hid ((Below.refl _ _).alloc (Nat.le_refl _) _)
  have HBX := Lib.hid (Box.new 80 w #[.int .i64 u, .slice a n c])
  have HG := Lib.hid (h.below HW.out)
  clear h
  rcases hi with ⟨hok, rfl⟩ | ⟨hok, rfl⟩
  · have HOK := Lib.hid hok
    obtain ⟨u, rfl⟩ : ∃ r : Nat, u = r := ⟨u.toNat, by have := hok.1.1; omega⟩
    clear hok
    go_enter Tryd.func41, Tryd.ntmps41
    go_wp2_with fail
    refine (l05Shown _ _ _ rs true _ (HBX.out.c 0 rfl) ⟨a, n, c, HBX.out.c 1 rfl, HG.out⟩ (Tells.yes HOK.out)).mono ?_
    rintro e w2 ⟨rfl, hq⟩
    have HQ := Lib.hid hq
    clear hq
    go_wp2_with fail
    refine (l05Text _ _ u rs _ (HQ.out.cell (HBX.out.c 0 rfl)) ⟨a, n, c, HQ.out.cell (HBX.out.c 1 rfl), HG.out.below HQ.out.bel⟩ HOK.out).mono ?_
    rintro e w3 ⟨rfl, hb3⟩
    have HE := Lib.hid (HW.out.trans ((HQ.out.bel.trans (hb3.mono HQ.out.bel.size)).mono HW.out.size))
    clear hb3
    go_wp2
    go_ret
    exact ⟨rfl, HE.out⟩
  · have HOK := Lib.hid hok
    clear hok
    go_enter Tryd.func41, Tryd.ntmps41
    go_wp2_with fail
    refine (l05Shown _ _ _ rs false _ (HBX.out.c 0 rfl) ⟨a, n, c, HBX.out.c 1 rfl, HG.out⟩ (Tells.no HOK.out)).mono ?_
    rintro e w2 ⟨rfl, hq⟩
    have HQ := Lib.hid hq
    clear hq
    go_wp2
    go_ret
    exact ⟨rfl, HW.out.trans (HQ.out.below _)⟩

end Go.Proofs.YtadpnckpgpamiabDoor
