/-
  slices.Contains at lists of int64; isConservative of the program.
-/
import Derived.Test.YtclhcnfgpkhplaaKinds10
import Derived.Test.YtclhcnfgpkhplaaTupleOf
namespace Go.Proofs.Ytclhcnfgpkhplaa
open Go.RowKit

set_option maxHeartbeats 1000000 in
set_option maxRecDepth 100000 in
theorem slIndex (v : Value) (xs : List Int) (x : Int) (w : World) (h : RowAt w v xs) :
    Calls Try.prog 192 #[v, .int .i64 x] w fun e w' => ∃ i : Int, e = .returned (.int .i64 i) ∧ (0 ≤ i ↔ HasN xs x) ∧ w = w' := by
  obtain ⟨a, c, rfl, hn, hc⟩ := h
  have HC := Lib.hid hc
  clear hc
  go_enter Try.func192, Try.ntmps192
  go_wp2
  go_loop [8] (fun i => ∃ k : Nat, k ≤ xs.length ∧ i = .int .i64 k ∧ ∀ j, j < k → intN xs j ≠ x) (fun i => xs.length - (intOf i).toNat)
  case atStart => exact ⟨0, Nat.zero_le _, rfl, fun j hj => absurd hj (Nat.not_lt_zero _)⟩
  case round =>
    obtain ⟨k, hk, rfl, hall⟩ := hrel
    have HA := Lib.hid hall
    clear hall
    by_cases hlt : k < xs.length
    · obtain ⟨b1, off1, ha1, hcell1⟩ := HC.out (by omega)
      subst ha1
      have hx1 := hcell1 k hlt
      have hlt' : (k : Int) < (xs.length : Int) := by omega
      clear hcell1
      obtain ⟨y, hy⟩ : ∃ y, intN xs k = y := ⟨_, rfl⟩
      rw [hy] at hx1
      have HY := Lib.hid hy
      clear hy
      by_cases e1 : x = y
      · have HF : Hid (0 ≤ (k : Int) ↔ HasN xs x) := Lib.hid ⟨fun _ => ⟨k, hlt, HY.out.trans e1.symm⟩, fun _ => by omega⟩
        have n1 : (x == y) = true := by simp [e1]
        clear e1
        go_wp2
        go_ret
        exact ⟨_, rfl, HF.out, rfl⟩
      · have n1 : (x == y) = false := by simp [e1]
        have HE := Lib.hid e1
        clear e1
        go_wp2
        go_round
        case rel =>
          refine ⟨k + 1, by omega, by go_num, fun j hj => ?_⟩
          by_cases e : j = k
          · subst e; rw [HY.out]; exact fun e => HE.out e.symm
          · exact HA.out j (by omega)
        case measure => simp [intOf]; omega
    · obtain rfl : k = xs.length := by omega
      have HF : Hid (0 ≤ (-1 : Int) ↔ HasN xs x) := Lib.hid ⟨fun h => absurd h (by decide), fun ⟨i, hi, e⟩ => absurd e (HA.out i hi)⟩
      go_wp2
      go_ret
      exact ⟨_, rfl, HF.out, rfl⟩

set_option maxRecDepth 100000 in
theorem slContains (v : Value) (xs : List Int) (x : Int) (b : Bool) (w : World) (h : RowAt w v xs) (hb : Tells b (HasN xs x)) :
    Calls Try.prog 171 #[v, .int .i64 x] w fun e w' => e = .returned (.bool b) ∧ w = w' := by
  have HR := Lib.hid h
  have HB := Lib.hid hb
  clear h hb
  go_enter Try.func171, Try.ntmps171
  go_wp2_with fail
  refine (slIndex _ xs x _ HR.out).mono ?_
  rintro e w1 ⟨i, rfl, hi, rfl⟩
  by_cases h0 : 0 ≤ i
  · have HF := Lib.hid (HB.out.is_true (hi.1 h0))
    clear hi
    go_wp2
    go_ret
    exact ⟨ret_bool HF.out.symm, rfl⟩
  · have HF := Lib.hid (HB.out.is_false fun h => h0 (hi.2 h))
    have HN : Hid (¬ 0 ≤ i) := Lib.hid h0
    clear hi
    go_wp2
    go_ret
    exact ⟨ret_bool (((decide_eq_false (by have := HN.out; omega)) : decide (0 ≤ i) = false).trans HF.out.symm), rfl⟩

set_option linter.unusedSimpArgs false in
set_option maxHeartbeats 1000000 in
set_option maxRecDepth 100000 in
theorem isConservative (s r b q : Nat) (G : Nat → Int) (tab : List Int) (bb : Bool) (w : World) (hT : TabAt w b G) (ho : OpOk s r tab) (hq : tab.length = q) (hG : ∀ i, i < q → G i = intN tab i) (hb : Tells bb (ConsP s r tab)) :
    Calls Try.prog 129 #[.agg #[.int .i64 s, .int .i64 r, .slice (some ⟨b, 0, none⟩) q q]] w fun e w' => e = .returned (.bool bb) ∧ Below w.heap.size w w' := by
  have h1 : 1 ≤ s := by have := ho.1.1; omega
  have hs4 : s ≤ 4 := by have := ho.1.2; omega
  have hr1 : 1 ≤ r := by have := ho.2.1.1; omega
  have hr3 : r ≤ 3 := by have := ho.2.1.2; omega
  have hlen : tab.length = s ^ r := by have := ho.2.2.1; simp only [Int.toNat_natCast] at this; omega
  have hq64 : q ≤ 64 := by rw [← hq, hlen]; exact (pow_le3 h1 hs4 hr3).1
  have HTB := Lib.hid hT
  have HO := Lib.hid ho
  have HGG := Lib.hid hG
  have HB : Hid (Tells bb (∀ n : Nat, n < q → HasN (digs s r n) (intN tab n))) := Lib.hid (by rw [← hq]; exact hb)
  have HLQ := Lib.hid hq
  have HA : Hid (Below w.heap.size w (w.alloc (.cells #[.int .i64 s, .int .i64 r, .slice (some ⟨b, 0, none⟩) q q] 105))) := Lib.hid ((Below.refl _ _).alloc (Nat.le_refl _) _)
  have HBX := Lib.hid (Box.new 105 w #[.int .i64 s, .int .i64 r, .slice (some ⟨b, 0, none⟩) q q])
  clear hT ho hq hG hb hlen
  go_enter Try.func129, Try.ntmps129
  go_wp2
  go_loopw [8] (fun i wr => ∃ k : Nat, k ≤ q ∧ i = .int .i64 k ∧ (∀ z : Nat, z < k → HasN (digs s r z) (intN tab z)) ∧ wr.cell? ⟨w.heap.size, 0, none⟩ = some (.int .i64 s) ∧ wr.cell? ⟨w.heap.size, 1, none⟩ = some (.int .i64 r) ∧ Below w.heap.size w wr ∧ w.heap.size + 1 ≤ wr.heap.size) (fun i _ => q - (intOf i).toNat)
  case atStart => exact ⟨0, Nat.zero_le _, rfl, fun j hj => absurd hj (Nat.not_lt_zero _), HBX.out.c 0 rfl, HBX.out.c 1 rfl, HA.out, by simp⟩
  case round =>
    obtain ⟨k, hk, rfl, hall, cb0, cb1, hbel, hsz⟩ := hrel
    have HX := Lib.hid hall
    have HW := Lib.hid hbel
    clear hall hbel
    by_cases hlt : k < q
    · have hlt' : (k : Int) < (q : Int) := by omega
      obtain ⟨x, hx⟩ : ∃ x, intN tab k = x := ⟨_, rfl⟩
      have cT := (HTB.out.below HW.out).c k (by omega)
      rw [HGG.out k hlt, hx] at cT
      have hxb := HO.out.2.2.2 k (by rw [HLQ.out]; exact hlt)
      rw [hx] at hxb
      have hx0 := hxb.1
      have hx1 : x < 256 := by omega
      have HXE := Lib.hid hx
      clear hx hxb
      by_cases hh : HasN (digs s r k) x
      · have HI := Lib.hid (Tells.yes hh)
        have HTH : Hid (HasN (digs s r k) (intN tab k)) := Lib.hid (by rw [HXE.out]; exact hh)
        clear hh
        go_wp2_with fail
        refine (tupleOf s r k h1 hs4 hr1 (by omega) (by omega) _).mono ?_
        rintro e w4 ⟨a4, n4, c4, rfl, ho4, hb4⟩
        have HR4 := Lib.hid ho4.rowAt
        have HW4 := Lib.hid (HW.out.trans (hb4.mono HW.out.size))
        have HK0 := Lib.hid (below_cell hb4 cb0)
        have HK1 := Lib.hid (below_cell hb4 cb1)
        have HSZ : Hid (w.heap.size + 1 ≤ w4.heap.size) := Lib.hid (Nat.le_trans hsz hb4.size)
        clear ho4 hb4
        go_wp2_with fail
        refine (slContains _ (digs s r k) x true _ HR4.out HI.out).mono ?_
        rintro e w5 ⟨rfl, rfl⟩
        go_wp2
        go_roundw
        case rel =>
          refine ⟨k + 1, by omega, by go_num, fun z hz => ?_, HK0.out, HK1.out, HW4.out, HSZ.out⟩
          by_cases hzk : z = k
          · subst hzk; exact HTH.out
          · exact HX.out z (by omega)
        case measure => simp [intOf]; omega
      · have HI := Lib.hid (Tells.no hh)
        have HF := Lib.hid (HB.out.is_false fun h => hh (by have := h k hlt; rwa [HXE.out] at this))
        clear hh
        go_wp2_with fail
        refine (tupleOf s r k h1 hs4 hr1 (by omega) (by omega) _).mono ?_
        rintro e w4 ⟨a4, n4, c4, rfl, ho4, hb4⟩
        have HR4 := Lib.hid ho4.rowAt
        have HW4 := Lib.hid (HW.out.trans (hb4.mono HW.out.size))
        have HK0 := Lib.hid (below_cell hb4 cb0)
        have HK1 := Lib.hid (below_cell hb4 cb1)
        have HSZ : Hid (w.heap.size + 1 ≤ w4.heap.size) := Lib.hid (Nat.le_trans hsz hb4.size)
        clear ho4 hb4
        go_wp2_with fail
        refine (slContains _ (digs s r k) x false _ HR4.out HI.out).mono ?_
        rintro e w5 ⟨rfl, rfl⟩
        go_wp2
        go_ret
        exact ⟨ret_bool HF.out.symm, HW4.out⟩
    · obtain rfl : k = q := by omega
      have HF := Lib.hid (HB.out.is_true HX.out)
      go_wp2
      go_ret
      exact ⟨ret_bool HF.out.symm, HW.out⟩
end Go.Proofs.Ytclhcnfgpkhplaa
