/-
  FoldValues of the model and of the program.
-/
import Derived.Test.YtclhcnfgpkhplaaKinds9
import Derived.Test.YtclhcnfgpkhplaaKinds5
import Derived.Test.YtclhcnfgpkhplaaGMaps
import Derived.Test.YtclhcnfgpkhplaaFormOk2
import Derived.Test.YtclhcnfgpkhplaaRegI
namespace Go.Proofs.Ytclhcnfgpkhplaa
open Go.RowKit

/-- A row of which the cap is known to be no less than its length. -/
def RowC (w : World) (v : Value) (xs : List Int) : Prop := RowAt w v xs ∧ ∃ a n c, v = .slice a n c ∧ n ≤ c
theorem RowC.row {w : World} {v : Value} {xs : List Int} (h : RowC w v xs) : RowAt w v xs := h.1
theorem RowC.below {w w' : World} {v : Value} {xs : List Int} (h : RowC w v xs) (hb : Below w.heap.size w w') : RowC w' v xs := ⟨h.1.below hb, h.2⟩
theorem lives_rowC (v : Value) (xs : List Int) : Lives (fun w => RowC w v xs) := fun _ _ hb h => h.below hb
theorem OwnRowE.rowC {w : World} {B E : Nat} {v : Value} {xs : List Int} (h : OwnRowE w B E v xs) : RowC w v xs := ⟨h.at, by
  rcases h.row.rowIn with ⟨rfl, _⟩ | ⟨g, c, rfl, _, _, h1, _⟩
  · exact ⟨_, _, _, rfl, Nat.le_refl _⟩
  · exact ⟨_, _, _, rfl, h1⟩⟩

/-- What an operation makes of the first values of a list. -/
def foldN (s : Nat) (tab vs : List Int) : Nat → Int
  | 0 => intN vs 0
  | k + 1 => opA s tab (foldN s tab vs k) (intN vs (k + 1))
theorem foldN_in {s : Nat} {tab vs : List Int} (ho : OpOk s 2 tab) (hv : ∀ k, k < vs.length → 0 ≤ intN vs k ∧ intN vs k < (s : Int)) : ∀ k, k < vs.length → 0 ≤ foldN s tab vs k ∧ foldN s tab vs k < (s : Int)
  | 0, h => hv 0 h
  | k + 1, h => opA_in ho (foldN_in ho hv k (by omega)) (hv (k + 1) h)

set_option linter.unusedSimpArgs false in
set_option maxHeartbeats 1000000 in
set_option maxRecDepth 100000 in
theorem l06FoldC (s pb po : Nat) (tab : List Int) (v : Value) (vs : List Int) (w : World) (hop : OpAt w pb po 2 tab) (ho : OpOk s 2 tab) (h3 : RowAt w v vs) (h0 : 0 < vs.length) (hv : ∀ k, k < vs.length → 0 ≤ intN vs k ∧ intN vs k < (s : Int)) :
    Calls Try.prog 82 #[.int .i64 (s : Int), .pointer (some ⟨pb, po, none⟩), v] w fun e w' => e = .returned (.int .i64 (foldN s tab vs (vs.length - 1))) ∧ Below w.heap.size w w' := by
  obtain ⟨a, n, c, rfl, hr⟩ := h3.slice
  obtain ⟨b, off, rfl, rfl, hc0⟩ := SlAt.some_of hr 0 h0
  have HR := Lib.hid hr
  have HOP := Lib.hid hop
  have HO := Lib.hid ho
  have HV := Lib.hid hv
  have HFI := Lib.hid (foldN_in ho hv)
  have HBG : Hid (vs.length ≤ 9223372036854775807) := Lib.hid (by obtain ⟨_, _, _, hn, _⟩ := hr; exact hn)
  have h0' : (0 : Int) < (vs.length : Int) := by omega
  rw [Nat.add_zero] at hc0
  clear hr hop ho hv h3
  go_enter Try.func82, Try.ntmps82
  go_wp2
  go_loopw [7, 8] (fun v i wr => ∃ k : Nat, k < vs.length ∧ i = .int .i64 ((k + 1 : Nat) : Int) ∧ v = .int .i64 (foldN s tab vs k) ∧ Below w.heap.size w wr) (fun _ i _ => vs.length - (intOf i).toNat)
  case atStart => exact ⟨0, h0, rfl, rfl, Below.refl _ _⟩
  case round =>
    obtain ⟨k, hk, rfl, rfl, hbel⟩ := hrel
    have HW := Lib.hid hbel
    clear hbel
    obtain ⟨j, hj⟩ : ∃ j, k + 1 = j := ⟨_, rfl⟩
    by_cases hlt : j < vs.length
    · have hlt' : (j : Int) < (vs.length : Int) := by omega
      have hbj : (j : Int) + 1 ≤ 9223372036854775807 := by have := HBG.out; omega
      obtain ⟨x, hx⟩ : ∃ x, foldN s tab vs k = x := ⟨_, rfl⟩
      obtain ⟨y, hy⟩ : ∃ y, intN vs j = y := ⟨_, rfl⟩
      have HX : Hid (0 ≤ x ∧ x < (s : Int)) := Lib.hid (by rw [← hx]; exact HFI.out k hk)
      have HY : Hid (0 ≤ y ∧ y < (s : Int)) := Lib.hid (by rw [← hy]; exact HV.out j hlt)
      obtain ⟨z, hz⟩ : ∃ z, intN tab (codeN s [x, y]) = z := ⟨_, rfl⟩
      have HZ := Lib.hid hz
      have HN : Hid (foldN s tab vs (k + 1) = z) := Lib.hid (by rw [← hz, ← hx, ← hy, ← hj]; rfl)
      have hcj := SlAt.cell_of (HR.out.below HW.out) j hlt
      rw [hy] at hcj
      rw [hx, hj]
      have HJ := Lib.hid hj
      clear hx hy hz hj
      go_wp2_with fail
      refine (l02ValueK s 2 pb po tab _ [x, y] z _ ((HOP.out.below HW.out).below ((Below.refl _ _).alloc (Nat.le_refl _) _)) (row2 _ x y) HO.out (tup2 HX.out HY.out) HZ.out).mono ?_
      rintro e w2 ⟨rfl, hq2⟩
      have HW2 := Lib.hid (HW.out.trans (((Below.refl wr.heap.size wr).alloc (Nat.le_refl _) _).mono HW.out.size) |>.trans (hq2.bel.mono (by have := HW.out.size; simp; omega)))
      clear hq2
      go_wp2
      go_roundw
      case rel => exact ⟨k + 1, by have := HJ.out; omega, by rw [HJ.out]; go_num, by rw [HN.out], HW2.out⟩
      case measure => simp [intOf]; omega
    · have hn : ¬ (j : Int) < (vs.length : Int) := by omega
      have HE : Hid (vs.length - 1 = k) := Lib.hid (by omega)
      rw [hj]
      go_wp2
      go_ret
      exact ⟨by rw [HE.out]; rfl, HW.out⟩

set_option linter.unusedSimpArgs false in
set_option maxHeartbeats 1000000 in
set_option maxRecDepth 100000 in
theorem opFold1 (s b q p : Nat) (G : Nat → Int) (tab : List Int) (x y z : Int) (w : World) (hT : TabAt w b G) (ho : OpOk s 2 tab) (hq : tab.length = q) (hG : ∀ i, i < q → G i = intN tab i) (hbx : Box 105 w p #[.int .i64 (s : Int), .int .i64 2, .slice (some ⟨b, 0, none⟩) q q])
    (hx : 0 ≤ x ∧ x < (s : Int)) (hy : 0 ≤ y ∧ y < (s : Int)) (hz : intN tab (codeN s [x, y]) = z) :
    Calls Try.prog 145 #[.int .i64 x, .int .i64 y, .pointer (some ⟨p, 0, none⟩)] w fun e w' => e = .returned (.int .i64 z) ∧ Below w.heap.size w w' := by
  have h1 : 1 ≤ s := by have := ho.1.1; omega
  have hs4 : s ≤ 4 := by have := ho.1.2; omega
  have hs14 : In14 (s : Int) := ho.1
  have h214 : In14 (2 : Int) := by constructor <;> decide
  have hlen : tab.length = s ^ 2 := by have h := ho.2.2.1; simp only [Int.toNat_natCast] at h; exact Int.ofNat_inj.1 h
  have hq64 : q ≤ 64 := by rw [← hq, hlen]; exact (pow_le3 h1 hs4 (by omega)).1
  have ht := tup2 hx hy
  obtain ⟨m, hm⟩ : ∃ m, codeN s [x, y] = m := ⟨_, rfl⟩
  have hmq : m < q := by rw [← hq, ← hm]; exact ho.lt ht
  have HG : Hid (G m = z) := Lib.hid (by rw [hG m hmq, ← hm]; exact hz)
  have hzb : 0 ≤ z ∧ z < 256 := by
    have := ho.2.2.2 _ (ho.lt ht)
    rw [hz] at this
    omega
  have HTU := Lib.hid ht
  have HM := Lib.hid hm
  have HT := Lib.hid hT
  have c0 := hbx.c 0 rfl
  have c1 := hbx.c 1 rfl
  have c2 := hbx.c 2 rfl
  clear hT ho hq hG hbx hx hy hz hlen ht hm
  go_enter Try.func145, Try.ntmps145
  go_wp2_with fail
  refine (opAt s 2 b q m G 2 _ [x, y] z _ (HT.out.below ((Below.refl _ _).alloc (Nat.le_refl _) _)) (row2 _ x y) hs14 h214 HTU.out HM.out hmq hq64 HG.out hzb).mono ?_
  rintro e w2 ⟨rfl, hb2⟩
  have HW : Hid (Below w.heap.size w w2) := Lib.hid (((Below.refl w.heap.size w).alloc (Nat.le_refl _) _).trans (hb2.mono (by simp)))
  clear hb2 c0 c1 c2
  go_wp2
  go_ret
  exact ⟨rfl, HW.out⟩

set_option linter.unusedSimpArgs false in
set_option maxHeartbeats 1000000 in
set_option maxRecDepth 100000 in
theorem foldedOp (s b q p : Nat) (G : Nat → Int) (tab vs : List Int) (a : Option Addr) (n c : Nat) (w : World) (hT : TabAt w b G) (ho : OpOk s 2 tab) (hq : tab.length = q) (hG : ∀ i, i < q → G i = intN tab i) (hbx : Box 105 w p #[.int .i64 (s : Int), .int .i64 2, .slice (some ⟨b, 0, none⟩) q q])
    (hr : RowAt w (.slice a n c) vs.tail) (h0 : 0 < vs.length) (hv : ∀ k, k < vs.length → 0 ≤ intN vs k ∧ intN vs k < (s : Int)) :
    Calls Try.prog 144 #[.int .i64 (intN vs 0), .slice a n c, .func (.func 145) #[] #[.pointer (some ⟨p, 0, none⟩)]] w fun e w' => e = .returned (.int .i64 (foldN s tab vs (vs.length - 1))) ∧ Below w.heap.size w w' := by
  obtain rfl : n = vs.length - 1 := by obtain ⟨_, _, he, _⟩ := hr; simp only [Value.slice.injEq, List.length_tail] at he; exact he.2.1
  obtain ⟨m, hm⟩ : ∃ m, vs.length - 1 = m := ⟨_, rfl⟩
  have HR := Lib.hid hr
  have HT := Lib.hid hT
  have HO := Lib.hid ho
  have HV := Lib.hid hv
  have HG := Lib.hid hG
  have HQ := Lib.hid hq
  have HBX := Lib.hid hbx
  have HFI := Lib.hid (foldN_in ho hv)
  have HBG : Hid (m ≤ 9223372036854775807) := Lib.hid (by obtain ⟨_, _, _, hn, _⟩ := hr; rw [List.length_tail] at hn; omega)
  have HM := Lib.hid hm
  have HL : Hid (vs.length = m + 1) := Lib.hid (by omega)
  rw [hm]
  obtain ⟨x0, hx0⟩ : ∃ x, intN vs 0 = x := ⟨_, rfl⟩
  have HX0 := Lib.hid hx0
  rw [hx0]
  clear hr hT ho hv hG hq hbx hm hx0
  go_enter Try.func144, Try.ntmps144
  go_wp2
  go_loopw [7, 13] (fun v i wr => ∃ k : Nat, k ≤ m ∧ i = .int .i64 (k : Int) ∧ v = .int .i64 (foldN s tab vs k) ∧ Below w.heap.size w wr) (fun _ i _ => m - (intOf i).toNat)
  case atStart => exact ⟨0, by omega, rfl, by rw [← HX0.out]; rfl, Below.refl _ _⟩
  case round =>
    obtain ⟨k, hk, rfl, rfl, hbel⟩ := hrel
    have HW := Lib.hid hbel
    clear hbel
    by_cases hlt : k < m
    · have hlt' : (k : Int) < (m : Int) := by omega
      have hbj : (k : Int) + 1 ≤ 9223372036854775807 := by have := HBG.out; omega
      obtain ⟨x, hx⟩ : ∃ x, foldN s tab vs k = x := ⟨_, rfl⟩
      obtain ⟨y, hy⟩ : ∃ y, intN vs (k + 1) = y := ⟨_, rfl⟩
      have HX : Hid (0 ≤ x ∧ x < (s : Int)) := Lib.hid (by rw [← hx]; exact HFI.out k (by have := HL.out; omega))
      have HY : Hid (0 ≤ y ∧ y < (s : Int)) := Lib.hid (by rw [← hy]; exact HV.out (k + 1) (by have := HL.out; omega))
      obtain ⟨z, hz⟩ : ∃ z, intN tab (codeN s [x, y]) = z := ⟨_, rfl⟩
      have HZ := Lib.hid hz
      have HN : Hid (foldN s tab vs (k + 1) = z) := Lib.hid (by rw [← hz, ← hx, ← hy]; rfl)
      obtain ⟨bb, off, rfl, _, hcj⟩ := SlAt.some_of (HR.out.below HW.out) k (by have := HL.out; rw [List.length_tail]; omega)
      have hyt : intN vs.tail k = y := by rw [← hy]; simp [intN]
      rw [hyt] at hcj
      rw [hx]
      clear hx hy hz hyt
      go_wp2_with fail
      refine (opFold1 s b q p G tab x y z _ (HT.out.below HW.out) HO.out HQ.out HG.out (HBX.out.below HW.out) HX.out HY.out HZ.out).mono ?_
      rintro e w2 ⟨rfl, hb2⟩
      have HW2 := Lib.hid (HW.out.trans (hb2.mono HW.out.size))
      clear hb2
      go_wp2
      go_roundw
      case rel => exact ⟨k + 1, by omega, by go_num, by rw [HN.out], HW2.out⟩
      case measure => simp [intOf]; omega
    · obtain rfl : k = m := by omega
      go_wp2
      go_ret
      exact ⟨rfl, HW.out⟩

theorem row_none (w : World) (a : Option Addr) : RowAt w (.slice a 0 0) [] := ⟨a, 0, rfl, by simp, fun h => absurd h (by simp)⟩
theorem row_tail {w : World} {b off n c c' : Nat} {vs : List Int} (h : RowAt w (.slice (some ⟨b, off, none⟩) n c) vs) : RowAt w (.slice (some ⟨b, off + 1, none⟩) (vs.length - 1) c') vs.tail := by
  have hl : vs.tail.length = vs.length - 1 := List.length_tail
  have hbig : vs.length ≤ 9223372036854775807 := by obtain ⟨_, _, _, hn, _⟩ := h; exact hn
  refine ⟨_, c', by rw [hl], by rw [hl]; omega, fun _ => ⟨b, off + 1, rfl, fun i hi => ?_⟩⟩
  have := SlAt.cell_of h (i + 1) (by omega)
  rw [show off + (i + 1) = off + 1 + i by omega] at this
  rw [this]
  simp [intN]

set_option linter.unusedSimpArgs false in
set_option maxHeartbeats 1000000 in
set_option maxRecDepth 100000 in
theorem opFold (s b q : Nat) (G : Nat → Int) (tab vs : List Int) (v : Value) (w : World) (hT : TabAt w b G) (ho : OpOk s 2 tab) (hq : tab.length = q) (hG : ∀ i, i < q → G i = intN tab i)
    (hr : RowC w v vs) (h0 : 0 < vs.length) (hv : ∀ k, k < vs.length → 0 ≤ intN vs k ∧ intN vs k < (s : Int)) :
    Calls Try.prog 85 #[.agg #[.int .i64 (s : Int), .int .i64 (2 : Int), .slice (some ⟨b, 0, none⟩) q q], v] w fun e w' => e = .returned (.int .i64 (foldN s tab vs (vs.length - 1))) ∧ Below w.heap.size w w' := by
  obtain ⟨hr1, a, n, c, rfl, hnc⟩ := hr
  obtain ⟨b3, off, rfl, rfl, hc0⟩ := SlAt.some_of hr1 0 h0
  rw [Nat.add_zero] at hc0
  have HA : Hid (Below w.heap.size w (w.alloc (.cells #[.int .i64 (s : Int), .int .i64 (2 : Int), .slice (some ⟨b, 0, none⟩) q q] 105))) := Lib.hid ((Below.refl _ _).alloc (Nat.le_refl _) _)
  have HTB := Lib.hid (hT.below HA.out)
  have HO := Lib.hid ho
  have HGG := Lib.hid hG
  have HLQ := Lib.hid hq
  have HV := Lib.hid hv
  have HR := Lib.hid (hr1.below HA.out)
  have HBX := Lib.hid (Box.new 105 w #[.int .i64 (s : Int), .int .i64 (2 : Int), .slice (some ⟨b, 0, none⟩) q q])
  obtain ⟨x0, hx0⟩ : ∃ x, intN vs 0 = x := ⟨_, rfl⟩
  have HX0 := Lib.hid hx0
  rw [hx0] at hc0
  have HCW := Lib.hid (below_cell HA.out hc0)
  obtain ⟨v0, hv0⟩ : ∃ v, foldN s tab vs (vs.length - 1) = v := ⟨_, rfl⟩
  have HV0 := Lib.hid hv0
  rw [hv0]
  have hl0 : (0 : Int) < (vs.length : Int) := by omega
  have hl1 : (1 : Int) ≤ (vs.length : Int) := by omega
  have hlc : (vs.length : Int) ≤ (c : Int) := by omega
  clear hT ho hq hG hr1 hv hx0 hc0 hv0
  by_cases hc1 : c = 1
  · subst hc1
    have hn1 : vs.length = 1 := by omega
    have HTL : Hid (vs.tail = []) := Lib.hid (by apply List.length_eq_zero_iff.1; rw [List.length_tail]; omega)
    clear hn1
    go_enter Try.func85, Try.ntmps85
    go_wp2
    refine wp_region_noPanic ?_
    refine wp_region_inv (fun w' => w'.cell? ⟨b3, off, none⟩ = some (.int .i64 x0) ∧ Below (w.alloc (.cells #[.int .i64 (s : Int), .int .i64 (2 : Int), .slice (some ⟨b, 0, none⟩) q q] 105)).heap.size (w.alloc (.cells #[.int .i64 (s : Int), .int .i64 (2 : Int), .slice (some ⟨b, 0, none⟩) q q] 105)) w') (fun w1 w2 => Below w1.heap.size w1 w2) (fun k vv ww => match k with
      | 0 => vv = .slice (some ⟨b3, off, none⟩) vs.length 1
      | 1 => vv = .pointer (some ⟨b3, off, none⟩)
      | 2 => vv = .int .i64 x0
      | 3 => vv = .slice (some ⟨b3, off, none⟩) vs.length 1
      | 4 => vv = .slice (some ⟨b3, off, none⟩) 0 0
      | 5 => vv = .func (.func 145) #[] #[.pointer (some ⟨w.heap.size, 0, none⟩)]
      | 6 => vv = .int .i64 v0
      | 7 => vv = .int .i64 v0
      | _ => True) [(7, some 4), (6, some 11), (5, some 10), (4, some 9), (3, some 8), (2, some 7), (1, some 6), (0, some 5)] 8 (by kernel_rfl) rfl (by kernel_rfl) (by kernel_rfl) (by kernel_rfl) ?_ ?_ ?_ ?_
    · intro k v w1 w2 hN h
      match k, h with
      | 0, h => exact h
      | 1, h => exact h
      | 2, h => exact h
      | 3, h => exact h
      | 4, h => exact h
      | 5, h => exact h
      | 6, h => exact h
      | 7, h => exact h
      | k + 8, _ => exact trivial
    · exact ⟨HCW.out, (Below.refl _ _).drew⟩
    · refine ⟨⟨⟨⟨⟨⟨⟨⟨trivial, ?_⟩, ?_⟩, ?_⟩, ?_⟩, ?_⟩, ?_⟩, ?_⟩, ?_⟩
      · refine StepOk.intro (some 5) rfl rfl (fun x w1 hS hdep K hK => ?_)
        clear hdep
        have hSS := Lib.hid hS
        obtain ⟨c0, hB⟩ := hS
        refine ⟨?_⟩
        simp only [puts, Act.put, List.setIfInBounds_toArray, List.set_cons_zero, List.set_cons_succ]
        go_simp
        exact hK.out _ (.slice (some ⟨b3, off, none⟩) vs.length 1) _ (by simp only [puts, Act.put, List.setIfInBounds_toArray, List.set_cons_zero, List.set_cons_succ]) (Below.refl _ _) (hSS.out) (rfl)
      · refine StepOk.intro (some 6) rfl rfl (fun x w1 hS hdep K hK => ?_)
        have h0 : x 0 = .slice (some ⟨b3, off, none⟩) vs.length 1 := hdep 0 (by kernel_rfl)
        clear hdep
        have hSS := Lib.hid hS
        obtain ⟨c0, hB⟩ := hS
        refine ⟨?_⟩
        simp only [puts, Act.put, List.setIfInBounds_toArray, List.set_cons_zero, List.set_cons_succ, h0]
        go_simp
        exact hK.out _ (.pointer (some ⟨b3, off, none⟩)) _ (by simp only [puts, Act.put, List.setIfInBounds_toArray, List.set_cons_zero, List.set_cons_succ, h0]) (Below.refl _ _) (hSS.out) (rfl)
      · refine StepOk.intro (some 7) rfl rfl (fun x w1 hS hdep K hK => ?_)
        have h1 : x 1 = .pointer (some ⟨b3, off, none⟩) := hdep 1 (by kernel_rfl)
        clear hdep
        have hSS := Lib.hid hS
        obtain ⟨c0, hB⟩ := hS
        refine ⟨?_⟩
        simp only [puts, Act.put, List.setIfInBounds_toArray, List.set_cons_zero, List.set_cons_succ, h1]
        go_simp
        exact hK.out _ (.int .i64 x0) _ (by simp only [puts, Act.put, List.setIfInBounds_toArray, List.set_cons_zero, List.set_cons_succ, h1]) (Below.refl _ _) (hSS.out) (rfl)
      · refine StepOk.intro (some 8) rfl rfl (fun x w1 hS hdep K hK => ?_)
        clear hdep
        have hSS := Lib.hid hS
        obtain ⟨c0, hB⟩ := hS
        refine ⟨?_⟩
        simp only [puts, Act.put, List.setIfInBounds_toArray, List.set_cons_zero, List.set_cons_succ]
        go_simp
        exact hK.out _ (.slice (some ⟨b3, off, none⟩) vs.length 1) _ (by simp only [puts, Act.put, List.setIfInBounds_toArray, List.set_cons_zero, List.set_cons_succ]) (Below.refl _ _) (hSS.out) (rfl)
      · refine StepOk.intro (some 9) rfl rfl (fun x w1 hS hdep K hK => ?_)
        have h3 : x 3 = .slice (some ⟨b3, off, none⟩) vs.length 1 := hdep 3 (by kernel_rfl)
        clear hdep
        have hSS := Lib.hid hS
        obtain ⟨c0, hB⟩ := hS
        refine ⟨?_⟩
        simp only [puts, Act.put, List.setIfInBounds_toArray, List.set_cons_zero, List.set_cons_succ, h3]
        go_simp
        exact hK.out _ (.slice (some ⟨b3, off, none⟩) 0 0) _ (by simp only [puts, Act.put, List.setIfInBounds_toArray, List.set_cons_zero, List.set_cons_succ, h3]) (Below.refl _ _) (hSS.out) (rfl)
      · refine StepOk.intro (some 10) rfl rfl (fun x w1 hS hdep K hK => ?_)
        clear hdep
        have hSS := Lib.hid hS
        obtain ⟨c0, hB⟩ := hS
        refine ⟨?_⟩
        simp only [puts, Act.put, List.setIfInBounds_toArray, List.set_cons_zero, List.set_cons_succ]
        go_simp
        exact hK.out _ (.func (.func 145) #[] #[.pointer (some ⟨w.heap.size, 0, none⟩)]) _ (by simp only [puts, Act.put, List.setIfInBounds_toArray, List.set_cons_zero, List.set_cons_succ]) (Below.refl _ _) (hSS.out) (rfl)
      · refine StepOk.intro (some 11) rfl rfl (fun x w1 hS hdep K hK => ?_)
        have h2 : x 2 = .int .i64 x0 := hdep 2 (by kernel_rfl)
        have h4 : x 4 = .slice (some ⟨b3, off, none⟩) 0 0 := hdep 4 (by kernel_rfl)
        have h5 : x 5 = .func (.func 145) #[] #[.pointer (some ⟨w.heap.size, 0, none⟩)] := hdep 5 (by kernel_rfl)
        clear hdep
        have hSS := Lib.hid hS
        obtain ⟨c0, hB⟩ := hS
        refine ⟨?_⟩
        simp only [puts, Act.put, List.setIfInBounds_toArray, List.set_cons_zero, List.set_cons_succ, h2, h4, h5]
        go_simp; go_at_call 144; refine ((HX0.out ▸ foldedOp s b q w.heap.size G tab vs _ _ _ _ (HTB.out.below hB) HO.out HLQ.out HGG.out (HBX.out.below hB) (show RowAt w1 (.slice (some ⟨b3, off, none⟩) 0 0) vs.tail from by rw [HTL.out]; exact row_none _ _) h0 HV.out :)).mono ?_; rintro e w5 ⟨rfl, hb5⟩
        rw [HV0.out]
        exact hK.out _ (.int .i64 v0) _ (by simp only [puts, Act.put, List.setIfInBounds_toArray, List.set_cons_zero, List.set_cons_succ, h2, h4, h5]) hb5 (⟨below_cell hb5 c0, hB.trans (hb5.mono hB.size)⟩) (rfl)
      · refine StepOk.intro (some 4) rfl rfl (fun x w1 hS hdep K hK => ?_)
        have h0 : x 0 = .slice (some ⟨b3, off, none⟩) vs.length 1 := hdep 0 (by kernel_rfl)
        have h1 : x 1 = .pointer (some ⟨b3, off, none⟩) := hdep 1 (by kernel_rfl)
        have h2 : x 2 = .int .i64 x0 := hdep 2 (by kernel_rfl)
        have h3 : x 3 = .slice (some ⟨b3, off, none⟩) vs.length 1 := hdep 3 (by kernel_rfl)
        have h4 : x 4 = .slice (some ⟨b3, off, none⟩) 0 0 := hdep 4 (by kernel_rfl)
        have h5 : x 5 = .func (.func 145) #[] #[.pointer (some ⟨w.heap.size, 0, none⟩)] := hdep 5 (by kernel_rfl)
        have h6 : x 6 = .int .i64 v0 := hdep 6 (by kernel_rfl)
        clear hdep
        have hSS := Lib.hid hS
        obtain ⟨c0, hB⟩ := hS
        refine ⟨?_⟩
        simp only [puts, Act.put, List.setIfInBounds_toArray, List.set_cons_zero, List.set_cons_succ, h0, h1, h2, h3, h4, h5, h6]
        go_simp
        exact hK.out _ (.int .i64 v0) _ (by simp only [puts, Act.put, List.setIfInBounds_toArray, List.set_cons_zero, List.set_cons_succ, h0, h1, h2, h3, h4, h5, h6]) (Below.refl _ _) (hSS.out) (rfl)
    · intro x w1 hS hx
      have e0 : x 0 = .slice (some ⟨b3, off, none⟩) vs.length 1 := hx 0 (by decide)
      have e1 : x 1 = .pointer (some ⟨b3, off, none⟩) := hx 1 (by decide)
      have e2 : x 2 = .int .i64 x0 := hx 2 (by decide)
      have e3 : x 3 = .slice (some ⟨b3, off, none⟩) vs.length 1 := hx 3 (by decide)
      have e4 : x 4 = .slice (some ⟨b3, off, none⟩) 0 0 := hx 4 (by decide)
      have e5 : x 5 = .func (.func 145) #[] #[.pointer (some ⟨w.heap.size, 0, none⟩)] := hx 5 (by decide)
      have e6 : x 6 = .int .i64 v0 := hx 6 (by decide)
      have e7 : x 7 = .int .i64 v0 := hx 7 (by decide)
      clear hx
      obtain ⟨c0, hB⟩ := hS
      simp only [puts, Act.put, List.setIfInBounds_toArray, List.set_cons_zero, List.set_cons_succ, e0, e1, e2, e3, e4, e5, e6, e7]
      clear e0 e1 e2 e3 e4 e5 e6 e7
      refine NoPanic.normal ?_
      go_wp2
      go_ret
      exact ⟨rfl, HA.out.trans (hB.mono HA.out.size)⟩

  · go_enter Try.func85, Try.ntmps85
    go_wp2
    refine wp_region_noPanic ?_
    refine wp_region_inv (fun w' => w'.cell? ⟨b3, off, none⟩ = some (.int .i64 x0) ∧ Below (w.alloc (.cells #[.int .i64 (s : Int), .int .i64 (2 : Int), .slice (some ⟨b, 0, none⟩) q q] 105)).heap.size (w.alloc (.cells #[.int .i64 (s : Int), .int .i64 (2 : Int), .slice (some ⟨b, 0, none⟩) q q] 105)) w') (fun w1 w2 => Below w1.heap.size w1 w2) (fun k vv ww => match k with
      | 0 => vv = .slice (some ⟨b3, off, none⟩) vs.length c
      | 1 => vv = .pointer (some ⟨b3, off, none⟩)
      | 2 => vv = .int .i64 x0
      | 3 => vv = .slice (some ⟨b3, off, none⟩) vs.length c
      | 4 => vv = .slice (some ⟨b3, off + 1, none⟩) (vs.length - 1) (c - 1)
      | 5 => vv = .func (.func 145) #[] #[.pointer (some ⟨w.heap.size, 0, none⟩)]
      | 6 => vv = .int .i64 v0
      | 7 => vv = .int .i64 v0
      | _ => True) [(7, some 4), (6, some 11), (5, some 10), (4, some 9), (3, some 8), (2, some 7), (1, some 6), (0, some 5)] 8 (by kernel_rfl) rfl (by kernel_rfl) (by kernel_rfl) (by kernel_rfl) ?_ ?_ ?_ ?_
    · intro k v w1 w2 hN h
      match k, h with
      | 0, h => exact h
      | 1, h => exact h
      | 2, h => exact h
      | 3, h => exact h
      | 4, h => exact h
      | 5, h => exact h
      | 6, h => exact h
      | 7, h => exact h
      | k + 8, _ => exact trivial
    · exact ⟨HCW.out, (Below.refl _ _).drew⟩
    · refine ⟨⟨⟨⟨⟨⟨⟨⟨trivial, ?_⟩, ?_⟩, ?_⟩, ?_⟩, ?_⟩, ?_⟩, ?_⟩, ?_⟩
      · refine StepOk.intro (some 5) rfl rfl (fun x w1 hS hdep K hK => ?_)
        clear hdep
        have hSS := Lib.hid hS
        obtain ⟨c0, hB⟩ := hS
        refine ⟨?_⟩
        simp only [puts, Act.put, List.setIfInBounds_toArray, List.set_cons_zero, List.set_cons_succ]
        go_simp
        exact hK.out _ (.slice (some ⟨b3, off, none⟩) vs.length c) _ (by simp only [puts, Act.put, List.setIfInBounds_toArray, List.set_cons_zero, List.set_cons_succ]) (Below.refl _ _) (hSS.out) (rfl)
      · refine StepOk.intro (some 6) rfl rfl (fun x w1 hS hdep K hK => ?_)
        have h0 : x 0 = .slice (some ⟨b3, off, none⟩) vs.length c := hdep 0 (by kernel_rfl)
        clear hdep
        have hSS := Lib.hid hS
        obtain ⟨c0, hB⟩ := hS
        refine ⟨?_⟩
        simp only [puts, Act.put, List.setIfInBounds_toArray, List.set_cons_zero, List.set_cons_succ, h0]
        go_simp
        exact hK.out _ (.pointer (some ⟨b3, off, none⟩)) _ (by simp only [puts, Act.put, List.setIfInBounds_toArray, List.set_cons_zero, List.set_cons_succ, h0]) (Below.refl _ _) (hSS.out) (rfl)
      · refine StepOk.intro (some 7) rfl rfl (fun x w1 hS hdep K hK => ?_)
        have h1 : x 1 = .pointer (some ⟨b3, off, none⟩) := hdep 1 (by kernel_rfl)
        clear hdep
        have hSS := Lib.hid hS
        obtain ⟨c0, hB⟩ := hS
        refine ⟨?_⟩
        simp only [puts, Act.put, List.setIfInBounds_toArray, List.set_cons_zero, List.set_cons_succ, h1]
        go_simp
        exact hK.out _ (.int .i64 x0) _ (by simp only [puts, Act.put, List.setIfInBounds_toArray, List.set_cons_zero, List.set_cons_succ, h1]) (Below.refl _ _) (hSS.out) (rfl)
      · refine StepOk.intro (some 8) rfl rfl (fun x w1 hS hdep K hK => ?_)
        clear hdep
        have hSS := Lib.hid hS
        obtain ⟨c0, hB⟩ := hS
        refine ⟨?_⟩
        simp only [puts, Act.put, List.setIfInBounds_toArray, List.set_cons_zero, List.set_cons_succ]
        go_simp
        exact hK.out _ (.slice (some ⟨b3, off, none⟩) vs.length c) _ (by simp only [puts, Act.put, List.setIfInBounds_toArray, List.set_cons_zero, List.set_cons_succ]) (Below.refl _ _) (hSS.out) (rfl)
      · refine StepOk.intro (some 9) rfl rfl (fun x w1 hS hdep K hK => ?_)
        have h3 : x 3 = .slice (some ⟨b3, off, none⟩) vs.length c := hdep 3 (by kernel_rfl)
        clear hdep
        have hSS := Lib.hid hS
        obtain ⟨c0, hB⟩ := hS
        refine ⟨?_⟩
        simp only [puts, Act.put, List.setIfInBounds_toArray, List.set_cons_zero, List.set_cons_succ, h3]
        go_simp
        exact hK.out _ (.slice (some ⟨b3, off + 1, none⟩) (vs.length - 1) (c - 1)) _ (by simp only [puts, Act.put, List.setIfInBounds_toArray, List.set_cons_zero, List.set_cons_succ, h3]) (Below.refl _ _) (hSS.out) (rfl)
      · refine StepOk.intro (some 10) rfl rfl (fun x w1 hS hdep K hK => ?_)
        clear hdep
        have hSS := Lib.hid hS
        obtain ⟨c0, hB⟩ := hS
        refine ⟨?_⟩
        simp only [puts, Act.put, List.setIfInBounds_toArray, List.set_cons_zero, List.set_cons_succ]
        go_simp
        exact hK.out _ (.func (.func 145) #[] #[.pointer (some ⟨w.heap.size, 0, none⟩)]) _ (by simp only [puts, Act.put, List.setIfInBounds_toArray, List.set_cons_zero, List.set_cons_succ]) (Below.refl _ _) (hSS.out) (rfl)
      · refine StepOk.intro (some 11) rfl rfl (fun x w1 hS hdep K hK => ?_)
        have h2 : x 2 = .int .i64 x0 := hdep 2 (by kernel_rfl)
        have h4 : x 4 = .slice (some ⟨b3, off + 1, none⟩) (vs.length - 1) (c - 1) := hdep 4 (by kernel_rfl)
        have h5 : x 5 = .func (.func 145) #[] #[.pointer (some ⟨w.heap.size, 0, none⟩)] := hdep 5 (by kernel_rfl)
        clear hdep
        have hSS := Lib.hid hS
        obtain ⟨c0, hB⟩ := hS
        refine ⟨?_⟩
        simp only [puts, Act.put, List.setIfInBounds_toArray, List.set_cons_zero, List.set_cons_succ, h2, h4, h5]
        go_simp; go_at_call 144; refine ((HX0.out ▸ foldedOp s b q w.heap.size G tab vs _ _ _ _ (HTB.out.below hB) HO.out HLQ.out HGG.out (HBX.out.below hB) (show RowAt w1 (.slice (some ⟨b3, off + 1, none⟩) (vs.length - 1) (c - 1)) vs.tail from row_tail (HR.out.below hB)) h0 HV.out :)).mono ?_; rintro e w5 ⟨rfl, hb5⟩
        rw [HV0.out]
        exact hK.out _ (.int .i64 v0) _ (by simp only [puts, Act.put, List.setIfInBounds_toArray, List.set_cons_zero, List.set_cons_succ, h2, h4, h5]) hb5 (⟨below_cell hb5 c0, hB.trans (hb5.mono hB.size)⟩) (rfl)
      · refine StepOk.intro (some 4) rfl rfl (fun x w1 hS hdep K hK => ?_)
        have h0 : x 0 = .slice (some ⟨b3, off, none⟩) vs.length c := hdep 0 (by kernel_rfl)
        have h1 : x 1 = .pointer (some ⟨b3, off, none⟩) := hdep 1 (by kernel_rfl)
        have h2 : x 2 = .int .i64 x0 := hdep 2 (by kernel_rfl)
        have h3 : x 3 = .slice (some ⟨b3, off, none⟩) vs.length c := hdep 3 (by kernel_rfl)
        have h4 : x 4 = .slice (some ⟨b3, off + 1, none⟩) (vs.length - 1) (c - 1) := hdep 4 (by kernel_rfl)
        have h5 : x 5 = .func (.func 145) #[] #[.pointer (some ⟨w.heap.size, 0, none⟩)] := hdep 5 (by kernel_rfl)
        have h6 : x 6 = .int .i64 v0 := hdep 6 (by kernel_rfl)
        clear hdep
        have hSS := Lib.hid hS
        obtain ⟨c0, hB⟩ := hS
        refine ⟨?_⟩
        simp only [puts, Act.put, List.setIfInBounds_toArray, List.set_cons_zero, List.set_cons_succ, h0, h1, h2, h3, h4, h5, h6]
        go_simp
        exact hK.out _ (.int .i64 v0) _ (by simp only [puts, Act.put, List.setIfInBounds_toArray, List.set_cons_zero, List.set_cons_succ, h0, h1, h2, h3, h4, h5, h6]) (Below.refl _ _) (hSS.out) (rfl)
    · intro x w1 hS hx
      have e0 : x 0 = .slice (some ⟨b3, off, none⟩) vs.length c := hx 0 (by decide)
      have e1 : x 1 = .pointer (some ⟨b3, off, none⟩) := hx 1 (by decide)
      have e2 : x 2 = .int .i64 x0 := hx 2 (by decide)
      have e3 : x 3 = .slice (some ⟨b3, off, none⟩) vs.length c := hx 3 (by decide)
      have e4 : x 4 = .slice (some ⟨b3, off + 1, none⟩) (vs.length - 1) (c - 1) := hx 4 (by decide)
      have e5 : x 5 = .func (.func 145) #[] #[.pointer (some ⟨w.heap.size, 0, none⟩)] := hx 5 (by decide)
      have e6 : x 6 = .int .i64 v0 := hx 6 (by decide)
      have e7 : x 7 = .int .i64 v0 := hx 7 (by decide)
      clear hx
      obtain ⟨c0, hB⟩ := hS
      simp only [puts, Act.put, List.setIfInBounds_toArray, List.set_cons_zero, List.set_cons_succ, e0, e1, e2, e3, e4, e5, e6, e7]
      clear e0 e1 e2 e3 e4 e5 e6 e7
      refine NoPanic.normal ?_
      go_wp2
      go_ret
      exact ⟨rfl, HA.out.trans (hB.mono HA.out.size)⟩


end Go.Proofs.Ytclhcnfgpkhplaa
