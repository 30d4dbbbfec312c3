/-
  The text of a relation: l01Text and RelText of the model, writeRel and RelText of the program.
-/
import Derived.Test.YtadpnckpgpamiabDoorTxt
import Derived.Test.YtadpnckpgpamiabDoorGRel
import Derived.Test.YtadpnckpgpamiabDoorGSet
namespace Go.Proofs.YtadpnckpgpamiabDoor
open Go.RowKit

theorem catE (l m r : List UInt8) (h : l ++ m = r) (hl : l.length ≤ 10000000) (hm : m.length ≤ 10000000) (w : World) : (Op.stringOp .add ⟨l.toArray⟩ ⟨m.toArray⟩).run Tryd.prog w = .ok (.string ⟨r.toArray⟩) w := by
  subst h
  exact cat l m hl hm w

theorem ret_str {a b : List UInt8} (h : a = b) : Ending.returned (.string ⟨a.toArray⟩) = Ending.returned (.string ⟨b.toArray⟩) := by rw [h]

theorem RelOk.fewT {size ar : Int} {xss : List (List Int)} (h : RelOk size ar xss) : xss.length ≤ 256 := by
  have e1 := h.1.1
  have e2 := h.1.2
  have e3 := h.2.1.1
  have e4 := h.2.1.2
  obtain ⟨s, rfl⟩ : ∃ s : Nat, size = s := ⟨size.toNat, by omega⟩
  obtain ⟨r, rfl⟩ : ∃ r : Nat, ar = r := ⟨ar.toNat, by omega⟩
  have := rowsS_asc (by omega) (by omega) (by omega) (by omega) h.tups h.asc
  rw [← this, rowsS_len]
  exact memb_len _ _

/-- The word and the arity. -/
def relH (n : Nat) : List UInt8 := [114, 101, 108, 32] ++ dig1 n
/-- The first k tuples, each behind a blank. -/
def rowsT (xss : List (List Int)) : Nat → List UInt8
  | 0 => []
  | k + 1 => rowsT xss k ++ (32 :: digK (rowN xss k) (rowN xss k).length)
theorem rowsT_succ (xss : List (List Int)) (k : Nat) : rowsT xss (k + 1) = rowsT xss k ++ (32 :: digK (rowN xss k) (rowN xss k).length) := rfl
def relT (n : Nat) (xss : List (List Int)) : List UInt8 := relH n ++ rowsT xss xss.length
theorem rowsT_len {xss : List (List Int)} (h : ∀ j, j < xss.length → (rowN xss j).length ≤ 4) : ∀ k, k ≤ xss.length → (rowsT xss k).length ≤ 5 * k
  | 0, _ => Nat.le_refl _
  | k + 1, hk => by
    have h1 := rowsT_len h k (by omega)
    have h2 := h k (by omega)
    rw [rowsT_succ, List.length_append, List.length_cons, digK_len]
    omega
theorem RelOk.row4 {size ar : Int} {xss : List (List Int)} (h : RelOk size ar xss) (j : Nat) (hj : j < xss.length) : (rowN xss j).length ≤ 4 := by
  have := (h.2.2 j hj).1.1
  have := h.2.1.2
  omega
theorem RelOk.dig {size ar : Int} {xss : List (List Int)} (h : RelOk size ar xss) (j : Nat) (hj : j < xss.length) : Dig10 (rowN xss j) := fun k hk => by
  have := (h.2.2 j hj).1.2 k hk
  have := h.1.2
  omega
theorem relT_len {size ar : Int} {n : Nat} {xss : List (List Int)} (h : RelOk size ar xss) : (relT n xss).length ≤ 1400 := by
  have := rowsT_len h.row4 _ (Nat.le_refl _)
  have := h.fewT
  unfold relT
  rw [List.length_append]
  have : (relH n).length = 5 := rfl
  omega

set_option linter.unusedSimpArgs false in
set_option maxHeartbeats 2000000 in
set_option maxRecDepth 100000 in
theorem l01Text (pb po n : Nat) (xss : List (List Int)) (size : Int) (w : World) (h : RelAt w pb po n xss) (hok : RelOk size n xss) :
    Calls Tryd.prog 71 #[.pointer (some ⟨pb, po, none⟩)] w fun e w' => e = .returned (.string ⟨(relT n xss).toArray⟩) ∧ Below w.heap.size w w' := by
  obtain ⟨hp0, a, n1, c, hp1, V, ⟨a', c', hv, hn, hc⟩, hV⟩ := h
  simp only [Value.slice.injEq] at hv
  obtain ⟨rfl, rfl, rfl⟩ := hv
  have HC := Lib.hid hc
  have HV := Lib.hid hV
  have HOK := Lib.hid hok
  have hn4 : n < 10 := by have := hok.2.1.2; omega
  have hfew := hok.fewT
  have HFEW := Lib.hid hfew
  have HP0 := Lib.hid hp0
  have HP1 := Lib.hid hp1
  clear hc hV hok hp1 hfew
  go_enter Tryd.func71, Tryd.ntmps71
  go_wp2_with fail
  refine (decOne n hn4 _).mono ?_
  rintro e w1 ⟨rfl, hb1⟩
  have HB1 := Lib.hid hb1
  have hct : (Op.stringOp .add ⟨#[114, 101, 108, 32]⟩ ⟨(dig1 n).toArray⟩).run Tryd.prog w1 = .ok (.string ⟨(relH n).toArray⟩) w1 := catE [114, 101, 108, 32] (dig1 n) _ rfl (by decide) (by simp [dig1]) w1
  clear hb1 hp0
  go_wp2
  clear hct
  go_loopw [3, 4] (fun s i wr => ∃ k : Nat, k ≤ xss.length ∧ i = .int .i64 k ∧ s = .string ⟨(relH n ++ rowsT xss k).toArray⟩ ∧ Below w.heap.size w wr) (fun _ i _ => xss.length - (intOf i).toNat)
  case atStart => exact ⟨0, Nat.zero_le _, rfl, by show _ = Value.string ⟨(relH n ++ []).toArray⟩; rw [List.append_nil], HB1.out⟩
  case round =>
    obtain ⟨k, hk, rfl, rfl, hbel⟩ := hrel
    have HB := Lib.hid hbel
    have hp1 := below_cell hbel HP1.out
    have hlenk := rowsT_len HOK.out.row4 k hk
    have hbg : xss.length ≤ 256 := HFEW.out
    obtain ⟨A, hA⟩ : ∃ A, relH n ++ rowsT xss k = A := ⟨_, rfl⟩
    have hAl : A.length ≤ 2000 := by rw [← hA, List.length_append]; have : (relH n).length = 5 := rfl; omega
    rw [hA]
    have HA := Lib.hid hA
    have HAL := Lib.hid hAl
    clear hbel hA hlenk hAl
    by_cases hlt : k < xss.length
    · obtain ⟨b1, off1, rfl, hd1⟩ := HC.out (by omega)
      have hrow := below_cell HB.out (hd1 k hlt)
      obtain ⟨ra, rc, hrv, hrn, hrc⟩ := HV.out k hlt
      rw [hrv] at hrow
      have HRC := Lib.hid hrc
      obtain ⟨row, hrow'⟩ : ∃ row, rowN xss k = row := ⟨_, rfl⟩
      rw [hrow'] at hrow HRC hrn
      have HRW := Lib.hid hrow'
      have HDG : Hid (Dig10 row) := Lib.hid (by rw [← hrow']; exact HOK.out.dig k hlt)
      have hr4 : row.length ≤ 4 := by rw [← hrow']; exact HOK.out.row4 k hlt
      have hct : (Op.stringOp .add ⟨A.toArray⟩ ⟨#[32]⟩).run Tryd.prog wr = .ok (.string ⟨(A ++ [32]).toArray⟩) wr := catE A [32] _ rfl (by have := HAL.out; omega) (by decide) wr
      obtain ⟨B, hB⟩ : ∃ B, A ++ [32] = B := ⟨_, rfl⟩
      have hBl : B.length ≤ 2001 := by rw [← hB, List.length_append]; have := HAL.out; simp; omega
      rw [hB] at hct
      have HBB := Lib.hid hB
      have HBL := Lib.hid hBl
      have hlt' : (k : Int) < (xss.length : Int) := by omega
      obtain ⟨wo, rfl⟩ : ∃ wo : World, wo = wr := ⟨_, rfl⟩
      have HRO := Lib.hid hrow
      clear hd1 hrc hrow' hrv hB hBl
      go_wp2
      clear hct
      go_loopw [3, 5] (fun s i wr => ∃ j : Nat, j ≤ row.length ∧ i = .int .i64 j ∧ s = .string ⟨(B ++ digK row j).toArray⟩ ∧ Below wo.heap.size wo wr) (fun _ i _ => row.length - (intOf i).toNat)
      case atStart => exact ⟨0, Nat.zero_le _, rfl, by show _ = Value.string ⟨(B ++ []).toArray⟩; rw [List.append_nil], Below.refl _ _⟩
      case round =>
        obtain ⟨j, hj, rfl, rfl, hbel2⟩ := hrel
        have HB2 := Lib.hid hbel2
        have hp2 := below_cell hbel2 hp1
        have hrow2 := below_cell hbel2 HRO.out
        clear hbel2
        by_cases hjt : j < row.length
        · obtain ⟨b2, off2, rfl, hd2⟩ := HRC.out (by omega)
          have hx : wo.cell? ⟨b2, off2 + j, none⟩ = some (.int .i64 (intN row j)) := below_cell HB.out (hd2 j hjt)
          have hx2 := below_cell HB2.out hx
          have hdj := HDG.out j hjt
          obtain ⟨d, hde⟩ : ∃ d : Nat, (intN row j).toNat = d := ⟨_, rfl⟩
          have hdi : intN row j = (d : Int) := by omega
          rw [hdi] at hx2
          have HD : Hid (d < 10) := Lib.hid (by omega)
          have HS : Hid ((B ++ digK row j) ++ dig1 d = B ++ digK row (j + 1)) := Lib.hid (by rw [digK_succ, hde, List.append_assoc])
          have HL : Hid ((B ++ digK row j).length ≤ 10000000) := Lib.hid (by rw [List.length_append, digK_len]; have := HBL.out; omega)
          have hjt' : (j : Int) < (row.length : Int) := by omega
          obtain ⟨G, hG⟩ : ∃ G, B ++ digK row j = G := ⟨_, rfl⟩
          rw [hG]
          have HG := Lib.hid hG
          clear hx hdj hde hdi hd2 hG
          go_wp2_with fail
          refine (decOne d HD.out _).mono ?_
          rintro e w4 ⟨rfl, hb4⟩
          have HB4 := Lib.hid (HB2.out.trans (hb4.mono HB2.out.size))
          have hct : (Op.stringOp .add ⟨G.toArray⟩ ⟨(dig1 d).toArray⟩).run Tryd.prog w4 = .ok (.string ⟨(B ++ digK row (j + 1)).toArray⟩) w4 := catE G (dig1 d) _ (by rw [← HG.out]; exact HS.out) (by rw [← HG.out]; exact HL.out) (by simp [dig1]) w4
          clear hb4 hp2 hrow2 hx2
          go_wp2
          clear hct
          go_roundw
          case rel => exact ⟨j + 1, by omega, by go_num, rfl, HB4.out⟩
          case measure => simp [intOf]; omega
        · obtain rfl : j = row.length := by omega
          have HE : Hid (relH n ++ rowsT xss (k + 1) = B ++ digK row row.length) := Lib.hid (by rw [rowsT_succ, HRW.out, ← HBB.out, ← HA.out]; simp)
          go_wp2
          go_roundw
          case rel => exact ⟨k + 1, by omega, by go_num, by rw [HE.out], HB.out.trans (HB2.out.mono HB.out.size)⟩
          case measure => simp [intOf]; omega
    · obtain rfl : k = xss.length := by omega
      have HE : Hid (relT n xss = A) := Lib.hid HA.out
      go_wp2
      go_ret
      exact ⟨ret_str HE.out.symm, HB.out⟩

/-- What RelText answers. -/
def RelTextIs (ar : Int) (xss : List (List Int)) (l : List UInt8) : Prop := (RelOk 4 ar xss ∧ l = relT ar.toNat xss) ∨ (¬ RelOk 4 ar xss ∧ l = [])
theorem RelTextIs.exists (ar : Int) (xss : List (List Int)) : ∃ l, RelTextIs ar xss l := by
  by_cases h : RelOk 4 ar xss
  · exact ⟨_, .inl ⟨h, rfl⟩⟩
  · exact ⟨_, .inr ⟨h, rfl⟩⟩

set_option linter.unusedSimpArgs false in
set_option maxHeartbeats 2000000 in
set_option maxRecDepth 100000 in
theorem specRelText (ar : Int) (a : Option Addr) (n c : Nat) (xss : List (List Int)) (l : List UInt8) (w : World) (h : GridAt w (.slice a n c) xss) (hi : RelTextIs ar xss l) :
    Calls Tryd.prog 16 #[.agg #[.int .i64 ar, .slice a n c]] w fun e w' => e = .returned (.string ⟨l.toArray⟩) ∧ Below w.heap.size w w' := by
  have HW : Hid (Below w.heap.size w (w.alloc (.cells #[.int .i64 ar, .slice a n c] 27))) := Lib.hid ((Below.refl _ _).alloc (Nat.le_refl _) _)
  have HR : Hid (RelAt (w.alloc (.cells #[.int .i64 ar, .slice a n c] 27)) w.heap.size 0 ar xss) := Lib.hid ⟨by simp [World.cell?_alloc_new], a, n, c, by simp [World.cell?_alloc_new], h.below HW.out⟩
  clear h
  rcases hi with ⟨hok, rfl⟩ | ⟨hok, rfl⟩
  · have HOK := Lib.hid hok
    obtain ⟨r, rfl⟩ : ∃ r : Nat, ar = r := ⟨ar.toNat, by have := hok.2.1.1; omega⟩
    clear hok
    go_enter Tryd.func16, Tryd.ntmps16
    go_wp2_with fail
    refine (l01Ok 4 _ _ _ xss true _ HR.out (Tells.yes HOK.out)).mono ?_
    rintro e w2 ⟨rfl, hq⟩
    have HQ := Lib.hid (hq : QW _ w2)
    clear hq
    go_wp2_with fail
    refine (l01Text _ _ r xss 4 _ (HR.out.below HQ.out.bel) HOK.out).mono ?_
    rintro e w3 ⟨rfl, hb3⟩
    have HE := Lib.hid (HW.out.trans ((HQ.out.bel.trans (hb3.mono HQ.out.bel.size)).mono HW.out.size))
    clear hb3
    go_wp2
    go_ret
    exact ⟨rfl, HE.out⟩
  · have HOK := Lib.hid hok
    clear hok
    go_enter Tryd.func16, Tryd.ntmps16
    go_wp2_with fail
    refine (l01Ok 4 _ _ _ xss false _ HR.out (Tells.no HOK.out)).mono ?_
    rintro e w2 ⟨rfl, hq⟩
    have HQ := Lib.hid (hq : QW _ w2)
    clear hq
    go_wp2
    go_ret
    exact ⟨rfl, HW.out.trans (HQ.out.below _)⟩

theorem headK_one (n : Nat) (h : n < 10) : headK [(n : Int)] 1 = 32 :: dig1 n := by
  show [] ++ 32 :: Lib.decDigits (intN [(n : Int)] 0).toNat = _
  rw [show (intN [(n : Int)] 0).toNat = n by simp [intN], dec_small h]
  rfl
theorem dec100_one {n : Int} (h : 0 ≤ n ∧ n < 100) : Dec100 [n] := fun j hj => by
  obtain rfl : j = 0 := by simpa using hj
  simpa [intN] using h

/-- A row of one number in a new block is read behind writing. -/
theorem row1_wrt {B b : Nat} {w : World} {x : Int} (hb : b < w.heap.size) {w' : World} (h : Wrt B b (w.alloc (.cells #[.int .i64 x] 2)) w') : RowAt w' (.slice (some ⟨w.heap.size, 0, none⟩) 1 1) [x] := by
  have hx := h.box (Box.new 2 w #[.int .i64 x]) (by omega) (by decide)
  refine ⟨some ⟨w.heap.size, 0, none⟩, 1, rfl, by simp, fun _ => ⟨w.heap.size, 0, rfl, fun i hi => ?_⟩⟩
  obtain rfl : i = 0 := by simpa using hi
  exact hx.c 0 rfl

set_option linter.unusedSimpArgs false in
set_option maxHeartbeats 2000000 in
set_option maxRecDepth 100000 in
theorem writeRel (b n : Nat) (l : List UInt8) (a : Option Addr) (n1 c : Nat) (xss : List (List Int)) (size : Int) (w0 w : World) (h : GridAt w0 (.slice a n1 c) xss) (hw : Below w0.heap.size w0 w) (hok : RelOk size n xss) (hb : Bld w0.heap.size b l w) (hl : l.length ≤ 100000) :
    Calls Tryd.prog 74 #[.pointer (some ⟨b, 0, none⟩), .agg #[.int .i64 n, .slice a n1 c]] w fun e w' => e = .returned (.tuple #[]) ∧ Bld w0.heap.size b (l ++ relT n xss) w' ∧ Wrt w0.heap.size b w w' := by
  obtain ⟨V, ⟨a', c', hv, hn, hc⟩, hV⟩ := h
  simp only [Value.slice.injEq] at hv
  obtain ⟨rfl, rfl, rfl⟩ := hv
  have hz := hw.size
  have HC := Lib.hid hc
  have HV := Lib.hid hV
  have HOK := Lib.hid hok
  have HW0 := Lib.hid hw
  have hn4 : n < 10 := by have := hok.2.1.2; omega
  have hfew := hok.fewT
  have HFEW := Lib.hid hfew
  have HBX : Hid (Box 27 (w.alloc (.cells #[.int .i64 n, .slice a xss.length c] 27)) w.heap.size #[.int .i64 n, .slice a xss.length c]) := Lib.hid (Box.new _ _ _)
  have HBX2 := Lib.hid (HBX.out.below ((Below.refl _ _).alloc (Nat.le_refl _) (.cells #[.int .i64 n] 2)))
  have hblt := hb.lt
  have HB0 := Lib.hid ((hb.alloc (.cells #[.int .i64 n, .slice a xss.length c] 27)).alloc (.cells #[.int .i64 n] 2))
  have HWA : Hid (Wrt w0.heap.size b w ((w.alloc (.cells #[.int .i64 n, .slice a xss.length c] 27)).alloc (.cells #[.int .i64 n] 2))) := Lib.hid (((Wrt.refl _ _ _).alloc hz _).alloc (by simp; omega) _)
  have HRW : Hid (∀ w', Wrt w0.heap.size b ((w.alloc (.cells #[.int .i64 n, .slice a xss.length c] 27)).alloc (.cells #[.int .i64 n] 2)) w' → RowAt w' (.slice (some ⟨w.heap.size + 1, 0, none⟩) 1 1) [(n : Int)]) := Lib.hid (fun w' h' => by
    have := row1_wrt (w := w.alloc (.cells #[.int .i64 n, .slice a xss.length c] 27)) (by simp; omega) h'
    rwa [World.size_alloc] at this)
  have x0 := HBX.out.c 0 rfl
  clear hc hV hok hb hw hfew
  go_enter Tryd.func74, Tryd.ntmps74
  go_wp2_with fail
  refine (writeHead w0.heap.size b l [114, 101, 108] _ [(n : Int)] _ HRW.out (dec100_one ⟨by omega, by omega⟩) (by simp) HB0.out (by omega) (by decide) (by simp; omega)).mono ?_
  rintro e w1 ⟨rfl, hb1, hw1⟩
  have H1 : Hid (Bld w0.heap.size b (l ++ relH n ++ rowsT xss 0) w1) := Lib.hid (by
    have e : l ++ [114, 101, 108] ++ headK [(n : Int)] [(n : Int)].length = l ++ relH n ++ rowsT xss 0 := by
      show l ++ [114, 101, 108] ++ headK [(n : Int)] 1 = l ++ relH n ++ []
      rw [headK_one n hn4]
      simp [relH]
    rw [← e]
    exact hb1)
  have HX1 := Lib.hid (hw1.box HBX2.out (by omega) (by decide))
  have HW1 := Lib.hid (HWA.out.trans hw1)
  have y1 := HX1.out.c 1 rfl
  clear hb1 hw1 x0
  go_wp2
  go_loopw [14] (fun i wr => ∃ k : Nat, k ≤ xss.length ∧ i = .int .i64 k ∧ Bld w0.heap.size b (l ++ relH n ++ rowsT xss k) wr ∧ Wrt w0.heap.size b w wr) (fun i _ => xss.length - (intOf i).toNat)
  case atStart => exact ⟨0, Nat.zero_le _, rfl, H1.out, HW1.out⟩
  case round =>
    obtain ⟨k, hk, rfl, hb, hw⟩ := hrel
    have HB := Lib.hid hb
    have HW := Lib.hid hw
    have hlenk := rowsT_len HOK.out.row4 k hk
    have hbg : xss.length ≤ 256 := HFEW.out
    have hLL : (l ++ relH n ++ rowsT xss k).length ≤ 200000 := by
      rw [List.length_append, List.length_append]
      have : (relH n).length = 5 := rfl
      omega
    obtain ⟨A, hA⟩ : ∃ A, l ++ relH n ++ rowsT xss k = A := ⟨_, rfl⟩
    rw [hA] at HB hLL
    have HA := Lib.hid hA
    have HLL := Lib.hid hLL
    have HBW : Hid (w0.heap.size ≤ wr.heap.size) := Lib.hid (by have := hw.size; omega)
    have HGB := Lib.hid (HW0.out.trans (hw.1.mono (Nat.le_refl _)))
    clear hb hw hA hlenk hLL y1
    by_cases hlt : k < xss.length
    · obtain ⟨b1, off1, rfl, hd1⟩ := HC.out (by omega)
      have hrow := below_cell HGB.out (hd1 k hlt)
      obtain ⟨ra, rc, hrv, hrn, hrc⟩ := HV.out k hlt
      obtain ⟨row, hrow'⟩ : ∃ row, rowN xss k = row := ⟨_, rfl⟩
      have HRA : Hid (∀ w', Wrt w0.heap.size b wr w' → ∀ w'', Wrt w0.heap.size b w' w'' → RowAt w'' (.slice ra row.length rc) row) := Lib.hid (fun w' h1 w'' h2 => by
        have h := HV.out k hlt
        rw [hrv, hrow'] at h
        exact h.below (HGB.out.trans (h1.1.trans h2.1)))
      rw [hrv, hrow'] at hrow
      have HRW2 := Lib.hid hrow'
      have HDG : Hid (Dig10 row) := Lib.hid (by rw [← hrow']; exact HOK.out.dig k hlt)
      have hr4 : row.length ≤ 4 := by rw [← hrow']; exact HOK.out.row4 k hlt
      have HL1 : Hid (A.length ≤ 10000000) := Lib.hid (by have := HLL.out; omega)
      have HL2 : Hid ((A ++ [32]).length ≤ 1000000) := Lib.hid (by rw [List.length_append]; have := HLL.out; simp; omega)
      have hlt' : (k : Int) < (xss.length : Int) := by omega
      clear hd1 hrc hrow' hrv
      go_wp2_with fail
      refine (writeConstC w0.heap.size b A 32 32 _ HB.out (by decide) rfl HL1.out HBW.out).mono ?_
      rintro e w2 ⟨rfl, hb2, hw2⟩
      have HB2 := Lib.hid hb2
      have HW2 := Lib.hid hw2
      have HBW2 : Hid (w0.heap.size ≤ w2.heap.size) := Lib.hid (Nat.le_trans HBW.out hw2.size)
      clear hb2 hw2
      go_wp2_with fail
      refine (writeDigits w0.heap.size b _ _ row _ (HRA.out w2 HW2.out) HDG.out (by omega) HB2.out HL2.out HBW2.out).mono ?_
      rintro e w3 ⟨rfl, hb3, hw3⟩
      have HB3 := Lib.hid hb3
      have HW3 := Lib.hid (HW.out.trans (HW2.out.trans hw3))
      have HS : Hid (l ++ relH n ++ rowsT xss (k + 1) = A ++ [32] ++ digK row row.length) := Lib.hid (by rw [rowsT_succ, HRW2.out, ← HA.out]; simp)
      clear hb3 hw3
      go_wp2
      go_roundw
      case rel => exact ⟨k + 1, by omega, by go_num, by rw [HS.out]; exact HB3.out, HW3.out⟩
      case measure => simp [intOf]; omega
    · obtain rfl : k = xss.length := by omega
      have HE : Hid (l ++ relT n xss = A) := Lib.hid (by rw [← HA.out, relT, List.append_assoc])
      go_wp2
      go_end0
      exact ⟨rfl, by rw [HE.out]; exact HB.out, HW.out⟩

set_option linter.unusedSimpArgs false in
set_option maxHeartbeats 2000000 in
set_option maxRecDepth 100000 in
theorem implRelText (ar : Int) (a : Option Addr) (n c : Nat) (xss : List (List Int)) (l : List UInt8) (w : World) (h : GridAt w (.slice a n c) xss) (hi : RelTextIs ar xss l) :
    Calls Tryd.prog 18 #[.agg #[.int .i64 ar, .slice a n c]] w fun e w' => e = .returned (.string ⟨l.toArray⟩) ∧ Below w.heap.size w w' := by
  have HW : Hid (Below w.heap.size w (w.alloc (.cells #[.int .i64 ar, .slice a n c] 27))) := Lib.hid ((Below.refl _ _).alloc (Nat.le_refl _) _)
  have HBX := Lib.hid (Box.new 27 w #[.int .i64 ar, .slice a n c])
  have HG := Lib.hid (h.below HW.out)
  have x0 := HBX.out.c 0 rfl
  have x1 := HBX.out.c 1 rfl
  clear h
  rcases hi with ⟨hok, rfl⟩ | ⟨hok, rfl⟩
  · have HOK := Lib.hid hok
    obtain ⟨r, rfl⟩ : ∃ r : Nat, ar = r := ⟨ar.toNat, by have := hok.2.1.1; omega⟩
    clear hok
    go_enter Tryd.func18, Tryd.ntmps18
    go_wp2_with fail
    refine (implValidRel 4 r a n c xss true _ HG.out (Tells.yes HOK.out)).mono ?_
    rintro e w2 ⟨rfl, hb2⟩
    have HB2 := Lib.hid hb2
    have y0 := below_cell hb2 x0
    have y1 := below_cell hb2 x1
    have y0' := below_cell ((Below.refl _ _).alloc (Nat.le_refl _) (.cells #[.pointer none, .slice none 0 0] 112)) y0
    have y1' := below_cell ((Below.refl _ _).alloc (Nat.le_refl _) (.cells #[.pointer none, .slice none 0 0] 112)) y1
    have HNB := Lib.hid (Bld.new w2)
    clear hb2 x0 x1
    go_wp2_with fail
    refine (writeRel w2.heap.size r [] a n c xss 4 w2 _ (HG.out.below HB2.out) ((Below.refl _ _).alloc (Nat.le_refl _) _) HOK.out HNB.out (by decide)).mono ?_
    rintro e w3 ⟨rfl, hb3, hw3⟩
    have HB3 := Lib.hid hb3
    have HW3 : Hid (Below w2.heap.size w2 w3) := Lib.hid (((Below.refl _ _).alloc (Nat.le_refl _) _).trans hw3.1)
    have HBW3 : Hid (w2.heap.size ≤ w3.heap.size) := Lib.hid HW3.out.size
    clear hb3 hw3 y0' y1'
    go_wp2_with fail
    refine (stringC w2.heap.size w2.heap.size _ _ HB3.out HBW3.out).mono ?_
    rintro e w4 ⟨rfl, hb4⟩
    have HB4 := Lib.hid hb4
    clear hb4
    go_wp2
    go_ret
    exact ⟨ret_str (List.nil_append _), HW.out.trans (((HB2.out.trans ((HW3.out.trans HB4.out).mono HB2.out.size))).mono HW.out.size)⟩
  · have HOK := Lib.hid hok
    clear hok
    go_enter Tryd.func18, Tryd.ntmps18
    go_wp2_with fail
    refine (implValidRel 4 ar a n c xss false _ HG.out (Tells.no HOK.out)).mono ?_
    rintro e w2 ⟨rfl, hb2⟩
    have HB2 := Lib.hid hb2
    clear hb2 x0 x1
    go_wp2
    go_ret
    exact ⟨rfl, HW.out.trans (HB2.out.mono HW.out.size)⟩

end Go.Proofs.YtadpnckpgpamiabDoor
