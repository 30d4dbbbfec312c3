/-
  Decimal of the model; strings put together; writeHead and writeDigits of the program.
-/
import Derived.Test.YtadpnckpgpamiabDoorBld
import Derived.Laws.IdiomStrings
import Derived.Test.YtadpnckpgpamiabDoorRegI
namespace Go.Proofs.YtadpnckpgpamiabDoor
open Go.RowKit

/-- Two strings put together. -/
theorem cat (l m : List UInt8) (hl : l.length ≤ 10000000) (hm : m.length ≤ 10000000) (w : World) : (Op.stringOp .add ⟨l.toArray⟩ ⟨m.toArray⟩).run Tryd.prog w = .ok (.string ⟨(l ++ m).toArray⟩) w := by
  have e1 : (ByteArray.mk l.toArray).size = l.length := by show l.toArray.size = _; simp
  have e2 : (ByteArray.mk m.toArray).size = m.length := by show m.toArray.size = _; simp
  rw [run_string_add_sum w _ _ (by rw [e1, e2]; omega), ByteArray.mk_append_mk]

/-- The digit of a number below 10. -/
def dig1 (n : Nat) : List UInt8 := [(48 + n).toUInt8]
theorem conv1 (p n : Nat) (hn : n < 10) (wv : World) (h : wv.cell? ⟨p, 0, none⟩ = some (.int .u8 (48 + (n : Int)))) : (convert 110 9 (.slice (some ⟨p, 0, none⟩) 1 1)).run Tryd.prog wv = .ok (.string ⟨(dig1 n).toArray⟩) wv :=
  run_convert_bytes_back wv 110 9 5 ⟨p, 0, none⟩ 1 (dig1 n) Tryd.underlying110 Tryd.underlying5 Tryd.underlying9 (fun j hj => by
    obtain rfl : j = 0 := by simpa [dig1] using hj
    have e : (((48 + n).toUInt8.toNat : Nat) : Int) = 48 + (n : Int) := by simp; omega
    simp only [dig1, List.getElem_cons_zero, e, ← h]
    simp [Addr.add])
theorem dec_small {n : Nat} (h : n < 10) : Lib.decDigits n = dig1 n := by rw [Lib.decDigits, dif_pos h]; rfl
theorem dec_two {n : Nat} (h1 : ¬ n < 10) (h2 : n < 100) : Lib.decDigits n = dig1 (n / 10) ++ dig1 (n % 10) := by
  rw [Lib.decDigits, dif_neg h1, dec_small (by omega)]; rfl
theorem dec_len {n : Nat} (h : n < 100) : (Lib.decDigits n).length ≤ 2 := by
  by_cases h1 : n < 10
  · rw [dec_small h1]; simp [dig1]
  · rw [dec_two h1 h]; simp [dig1]

set_option linter.unusedSimpArgs false in
set_option maxHeartbeats 2000000 in
set_option maxRecDepth 100000 in
theorem decOne (n : Nat) (hn : n < 10) (w : World) :
    Calls Tryd.prog 141 #[.int .i64 n] w fun e w' => e = .returned (.string ⟨(dig1 n).toArray⟩) ∧ Below w.heap.size w w' := by
  have h10 : ¬ (n : Int) ≥ 10 := by omega
  have hcv := conv1 w.heap.size n hn (w.alloc (.cells #[.int .u8 (48 + (n : Int))] 5)) (by simp [World.cell?_alloc_new])
  go_enter Tryd.func141, Tryd.ntmps141
  go_wp2
  go_ret
  exact ⟨rfl, (Below.refl _ _).alloc (Nat.le_refl _) _⟩

set_option linter.unusedSimpArgs false in
set_option maxHeartbeats 2000000 in
set_option maxRecDepth 100000 in
theorem decTwo (n : Nat) (h1 : ¬ n < 10) (h2 : n < 100) (w : World) :
    Calls Tryd.prog 141 #[.int .i64 n] w fun e w' => e = .returned (.string ⟨(dig1 (n / 10) ++ dig1 (n % 10)).toArray⟩) ∧ Below w.heap.size w w' := by
  have h10 : (n : Int) ≥ 10 := by omega
  obtain ⟨q, hq⟩ : ∃ q, n / 10 = q := ⟨_, rfl⟩
  obtain ⟨r, hr⟩ : ∃ r, n % 10 = r := ⟨_, rfl⟩
  rw [hq, hr]
  have hn0 : (0 : Int) ≤ (n : Int) := by omega
  have hq1 : (n : Int) / 10 = (q : Int) := by omega
  have hr1 : (n : Int) % 10 = (r : Int) := by omega
  have HQ : Hid (q < 10) := Lib.hid (by omega)
  have HR : Hid (r < 10) := Lib.hid (by omega)
  have hrb : (r : Int) < 10 := by omega
  have HCT := Lib.hid (fun w1 => cat (dig1 q) (dig1 r) (by simp [dig1]) (by simp [dig1]) w1)
  have hw1 : IntKind.i64.wrap (q : Int) = q := IntWalk.i64_in _ (by omega)
  have hm1 : (n : Int).tmod 10 = (r : Int) := by rw [Int.tmod_eq_emod_of_nonneg (by omega)]; exact hr1
  have hw2 : IntKind.i64.wrap (48 + (r : Int)) = 48 + (r : Int) := IntWalk.i64_in _ (by omega)
  have hw3 : IntKind.u8.wrap (48 + (r : Int)) = 48 + (r : Int) := by show (48 + (r : Int)) % 256 = _; omega
  clear hq hr
  go_enter Tryd.func141, Tryd.ntmps141
  go_wp2
  refine wp_region_noPanic ?_
  refine wp_region_inv (fun w' => Below w.heap.size w w') (fun w1 w2 => Below w1.heap.size w1 w2) (fun kI vv ww => match kI with
    | 0 => vv = .int .i64 n
    | 1 => vv = .int .i64 q
    | 2 => vv = .string ⟨(dig1 q).toArray⟩
    | 3 => vv = .int .i64 n
    | 4 => vv = .int .i64 r
    | 5 => vv = .int .i64 (48 + (r : Int))
    | 6 => vv = .int .u8 (48 + (r : Int))
    | 7 => ∃ p, vv = .slice (some ⟨p, 0, none⟩) 1 1 ∧ ww.cell? ⟨p, 0, none⟩ = some (.int .u8 (48 + (r : Int)))
    | 8 => vv = .string ⟨(dig1 r).toArray⟩
    | 9 => vv = .string ⟨(dig1 q ++ dig1 r).toArray⟩
    | 10 => vv = .string ⟨(dig1 q ++ dig1 r).toArray⟩
    | _ => True) [(10, some 2), (9, some 14), (8, some 13), (7, some 12), (6, some 11), (5, some 10), (4, some 9), (3, some 8), (2, some 7), (1, some 6), (0, some 5)] 11 (by kernel_rfl) rfl (by kernel_rfl) (by kernel_rfl) (by kernel_rfl) ?_ ?_ ?_ ?_
  · intro kI v w1 w2 hN h
    match kI, h with
    | 0, h => exact h
    | 1, h => exact h
    | 2, h => exact h
    | 3, h => exact h
    | 4, h => exact h
    | 5, h => exact h
    | 6, h => exact h
    | 7, h => exact by obtain ⟨p, e1, e2⟩ := h; exact ⟨p, e1, below_cell hN e2⟩
    | 8, h => exact h
    | 9, h => exact h
    | 10, h => exact h
    | kI + 11, _ => exact trivial
  · exact ((QW.refl w).drew.below _)
  · refine ⟨⟨⟨⟨⟨⟨⟨⟨⟨⟨⟨trivial, ?_⟩, ?_⟩, ?_⟩, ?_⟩, ?_⟩, ?_⟩, ?_⟩, ?_⟩, ?_⟩, ?_⟩, ?_⟩
    · refine StepOk.intro (some 5) rfl rfl (fun xI w1 hS hdep K hK => ?_)
      clear hdep
      have hSS := Lib.hid hS
      obtain hB := hS
      refine ⟨?_⟩
      simp only [puts, Act.put, List.setIfInBounds_toArray, List.set_cons_zero, List.set_cons_succ]
      go_simp
      exact hK.out _ (.int .i64 n) _ (by simp only [puts, Act.put, List.setIfInBounds_toArray, List.set_cons_zero, List.set_cons_succ]) (Below.refl _ _) (hSS.out) (rfl)
    · refine StepOk.intro (some 6) rfl rfl (fun xI w1 hS hdep K hK => ?_)
      have h0 : xI 0 = .int .i64 n := hdep 0 (by kernel_rfl)
      clear hdep
      have hSS := Lib.hid hS
      obtain hB := hS
      refine ⟨?_⟩
      simp only [puts, Act.put, List.setIfInBounds_toArray, List.set_cons_zero, List.set_cons_succ, h0]
      go_simp
      exact hK.out _ (.int .i64 q) _ (by simp only [puts, Act.put, List.setIfInBounds_toArray, List.set_cons_zero, List.set_cons_succ, h0, hw1]) (Below.refl _ _) (hSS.out) (rfl)
    · refine StepOk.intro (some 7) rfl rfl (fun xI w1 hS hdep K hK => ?_)
      have h1 : xI 1 = .int .i64 q := hdep 1 (by kernel_rfl)
      clear hdep
      have hSS := Lib.hid hS
      obtain hB := hS
      refine ⟨?_⟩
      simp only [puts, Act.put, List.setIfInBounds_toArray, List.set_cons_zero, List.set_cons_succ, h1]
      go_simp; go_at_call 141; refine (decOne q HQ.out _).mono ?_; rintro e w5 ⟨rfl, hb5⟩
      exact hK.out _ (.string ⟨(dig1 q).toArray⟩) _ (by simp only [puts, Act.put, List.setIfInBounds_toArray, List.set_cons_zero, List.set_cons_succ, h1]) hb5 (hSS.out.trans (hb5.mono hSS.out.size)) (rfl)
    · refine StepOk.intro (some 8) rfl rfl (fun xI w1 hS hdep K hK => ?_)
      clear hdep
      have hSS := Lib.hid hS
      obtain hB := hS
      refine ⟨?_⟩
      simp only [puts, Act.put, List.setIfInBounds_toArray, List.set_cons_zero, List.set_cons_succ]
      go_simp
      exact hK.out _ (.int .i64 n) _ (by simp only [puts, Act.put, List.setIfInBounds_toArray, List.set_cons_zero, List.set_cons_succ]) (Below.refl _ _) (hSS.out) (rfl)
    · refine StepOk.intro (some 9) rfl rfl (fun xI w1 hS hdep K hK => ?_)
      have h3 : xI 3 = .int .i64 n := hdep 3 (by kernel_rfl)
      clear hdep
      have hSS := Lib.hid hS
      obtain hB := hS
      refine ⟨?_⟩
      simp only [puts, Act.put, List.setIfInBounds_toArray, List.set_cons_zero, List.set_cons_succ, h3]
      go_simp
      exact hK.out _ (.int .i64 r) _ (by simp only [puts, Act.put, List.setIfInBounds_toArray, List.set_cons_zero, List.set_cons_succ, h3, hm1]) (Below.refl _ _) (hSS.out) (rfl)
    · refine StepOk.intro (some 10) rfl rfl (fun xI w1 hS hdep K hK => ?_)
      have h4 : xI 4 = .int .i64 r := hdep 4 (by kernel_rfl)
      clear hdep
      have hSS := Lib.hid hS
      obtain hB := hS
      refine ⟨?_⟩
      simp only [puts, Act.put, List.setIfInBounds_toArray, List.set_cons_zero, List.set_cons_succ, h4]
      go_simp
      exact hK.out _ (.int .i64 (48 + (r : Int))) _ (by simp only [puts, Act.put, List.setIfInBounds_toArray, List.set_cons_zero, List.set_cons_succ, h4, hw2]) (Below.refl _ _) (hSS.out) (rfl)
    · refine StepOk.intro (some 11) rfl rfl (fun xI w1 hS hdep K hK => ?_)
      have h5 : xI 5 = .int .i64 (48 + (r : Int)) := hdep 5 (by kernel_rfl)
      clear hdep
      have hSS := Lib.hid hS
      obtain hB := hS
      refine ⟨?_⟩
      simp only [puts, Act.put, List.setIfInBounds_toArray, List.set_cons_zero, List.set_cons_succ, h5]
      go_simp
      exact hK.out _ (.int .u8 (48 + (r : Int))) _ (by simp only [puts, Act.put, List.setIfInBounds_toArray, List.set_cons_zero, List.set_cons_succ, h5, hw3]) (Below.refl _ _) (hSS.out) (rfl)
    · refine StepOk.intro (some 12) rfl rfl (fun xI w1 hS hdep K hK => ?_)
      have h6 : xI 6 = .int .u8 (48 + (r : Int)) := hdep 6 (by kernel_rfl)
      clear hdep
      have hSS := Lib.hid hS
      obtain hB := hS
      refine ⟨?_⟩
      simp only [puts, Act.put, List.setIfInBounds_toArray, List.set_cons_zero, List.set_cons_succ, h6]
      go_simp
      exact hK.out _ (.slice (some ⟨w1.heap.size, 0, none⟩) 1 1) _ (by simp only [puts, Act.put, List.setIfInBounds_toArray, List.set_cons_zero, List.set_cons_succ, h6]) ((Below.refl _ _).alloc (Nat.le_refl _) _) (hSS.out.trans (((Below.refl _ _).alloc (Nat.le_refl _) _).mono hSS.out.size)) (⟨_, rfl, by simp [World.cell?_alloc_new]⟩)
    · refine StepOk.intro (some 13) rfl rfl (fun xI w1 hS hdep K hK => ?_)
      have h7 : ∃ p, (xI 7) = .slice (some ⟨p, 0, none⟩) 1 1 ∧ w1.cell? ⟨p, 0, none⟩ = some (.int .u8 (48 + (r : Int))) := hdep 7 (by kernel_rfl)
      clear hdep
      have hSS := Lib.hid hS
      obtain hB := hS
      refine ⟨?_⟩
      simp only [puts, Act.put, List.setIfInBounds_toArray, List.set_cons_zero, List.set_cons_succ]
      obtain ⟨p, hp1, hp2⟩ := h7
      have hcv := conv1 p r HR.out w1 hp2
      simp only [hp1]
      go_simp
      exact hK.out _ (.string ⟨(dig1 r).toArray⟩) _ (by simp only [puts, Act.put, List.setIfInBounds_toArray, List.set_cons_zero, List.set_cons_succ, hp1]) (Below.refl _ _) (hSS.out) (rfl)
    · refine StepOk.intro (some 14) rfl rfl (fun xI w1 hS hdep K hK => ?_)
      have h2 : xI 2 = .string ⟨(dig1 q).toArray⟩ := hdep 2 (by kernel_rfl)
      have h8 : xI 8 = .string ⟨(dig1 r).toArray⟩ := hdep 8 (by kernel_rfl)
      clear hdep
      have hSS := Lib.hid hS
      obtain hB := hS
      refine ⟨?_⟩
      simp only [puts, Act.put, List.setIfInBounds_toArray, List.set_cons_zero, List.set_cons_succ, h2, h8]
      have hct := HCT.out w1
      go_simp
      exact hK.out _ (.string ⟨(dig1 q ++ dig1 r).toArray⟩) _ (by simp only [puts, Act.put, List.setIfInBounds_toArray, List.set_cons_zero, List.set_cons_succ, h2, h8]) (Below.refl _ _) (hSS.out) (rfl)
    · refine StepOk.intro (some 2) rfl rfl (fun xI w1 hS hdep K hK => ?_)
      have h0 : xI 0 = .int .i64 n := hdep 0 (by kernel_rfl)
      have h1 : xI 1 = .int .i64 q := hdep 1 (by kernel_rfl)
      have h2 : xI 2 = .string ⟨(dig1 q).toArray⟩ := hdep 2 (by kernel_rfl)
      have h3 : xI 3 = .int .i64 n := hdep 3 (by kernel_rfl)
      have h4 : xI 4 = .int .i64 r := hdep 4 (by kernel_rfl)
      have h5 : xI 5 = .int .i64 (48 + (r : Int)) := hdep 5 (by kernel_rfl)
      have h6 : xI 6 = .int .u8 (48 + (r : Int)) := hdep 6 (by kernel_rfl)
      have h7 : ∃ p, (xI 7) = .slice (some ⟨p, 0, none⟩) 1 1 ∧ w1.cell? ⟨p, 0, none⟩ = some (.int .u8 (48 + (r : Int))) := hdep 7 (by kernel_rfl)
      have h8 : xI 8 = .string ⟨(dig1 r).toArray⟩ := hdep 8 (by kernel_rfl)
      have h9 : xI 9 = .string ⟨(dig1 q ++ dig1 r).toArray⟩ := hdep 9 (by kernel_rfl)
      clear hdep
      have hSS := Lib.hid hS
      obtain hB := hS
      refine ⟨?_⟩
      simp only [puts, Act.put, List.setIfInBounds_toArray, List.set_cons_zero, List.set_cons_succ, h0, h1, h2, h3, h4, h5, h6, h8, h9]
      go_simp
      exact hK.out _ (.string ⟨(dig1 q ++ dig1 r).toArray⟩) _ (by simp only [puts, Act.put, List.setIfInBounds_toArray, List.set_cons_zero, List.set_cons_succ, h0, h1, h2, h3, h4, h5, h6, h8, h9]) (Below.refl _ _) (hSS.out) (rfl)
  · intro xI w1 hS hx
    have e0 : xI 0 = .int .i64 n := hx 0 (by decide)
    have e1 : xI 1 = .int .i64 q := hx 1 (by decide)
    have e2 : xI 2 = .string ⟨(dig1 q).toArray⟩ := hx 2 (by decide)
    have e3 : xI 3 = .int .i64 n := hx 3 (by decide)
    have e4 : xI 4 = .int .i64 r := hx 4 (by decide)
    have e5 : xI 5 = .int .i64 (48 + (r : Int)) := hx 5 (by decide)
    have e6 : xI 6 = .int .u8 (48 + (r : Int)) := hx 6 (by decide)
    have e7 : ∃ p, (xI 7) = .slice (some ⟨p, 0, none⟩) 1 1 ∧ w1.cell? ⟨p, 0, none⟩ = some (.int .u8 (48 + (r : Int))) := hx 7 (by decide)
    have e8 : xI 8 = .string ⟨(dig1 r).toArray⟩ := hx 8 (by decide)
    have e9 : xI 9 = .string ⟨(dig1 q ++ dig1 r).toArray⟩ := hx 9 (by decide)
    have e10 : xI 10 = .string ⟨(dig1 q ++ dig1 r).toArray⟩ := hx 10 (by decide)
    clear hx
    obtain hB := hS
    simp only [puts, Act.put, List.setIfInBounds_toArray, List.set_cons_zero, List.set_cons_succ, e0, e1, e2, e3, e4, e5, e6, e8, e9, e10]
    clear e0 e1 e2 e3 e4 e5 e6 e8 e9 e10
    refine NoPanic.normal ?_
    have HB := Lib.hid hS
    clear hS
    go_wp2
    go_ret
    exact ⟨rfl, HB.out⟩

theorem decC (n : Nat) (hn : n < 100) (w : World) :
    Calls Tryd.prog 141 #[.int .i64 n] w fun e w' => e = .returned (.string ⟨(Lib.decDigits n).toArray⟩) ∧ Below w.heap.size w w' := by
  by_cases h : n < 10
  · rw [dec_small h]; exact decOne n h w
  · rw [dec_two h hn]; exact decTwo n h hn w

/-- The digits of a list's first k numbers. -/
def digK (xs : List Int) : Nat → List UInt8
  | 0 => []
  | k + 1 => digK xs k ++ dig1 (intN xs k).toNat
theorem digK_succ (xs : List Int) (k : Nat) : digK xs (k + 1) = digK xs k ++ dig1 (intN xs k).toNat := rfl
theorem digK_len (xs : List Int) : ∀ k, (digK xs k).length = k
  | 0 => rfl
  | k + 1 => by rw [digK_succ, List.length_append, digK_len xs k]; rfl
/-- All numbers are digits. -/
def Dig10 (xs : List Int) : Prop := ∀ j, j < xs.length → 0 ≤ intN xs j ∧ intN xs j < 10
/-- A list's first k numbers, each behind a blank. -/
def headK (xs : List Int) : Nat → List UInt8
  | 0 => []
  | k + 1 => headK xs k ++ 32 :: Lib.decDigits (intN xs k).toNat
theorem headK_succ (xs : List Int) (k : Nat) : headK xs (k + 1) = headK xs k ++ 32 :: Lib.decDigits (intN xs k).toNat := rfl
def Dec100 (xs : List Int) : Prop := ∀ j, j < xs.length → 0 ≤ intN xs j ∧ intN xs j < 100
theorem headK_len {xs : List Int} (h : Dec100 xs) : ∀ k, k ≤ xs.length → (headK xs k).length ≤ 3 * k
  | 0, _ => Nat.le_refl _
  | k + 1, hk => by
    have h1 := headK_len h k (by omega)
    have h2 := h k (by omega)
    have h3 := dec_len (n := (intN xs k).toNat) (by omega)
    unfold headK
    rw [List.length_append, List.length_cons]
    omega

theorem writeDigitC (B b : Nat) (l : List UInt8) (n : Nat) (w : World) (h : Bld B b l w) (hn : n < 10) (hlen : l.length ≤ 10000000) (hBw : B ≤ w.heap.size) :
    Calls Tryd.prog 83 #[.pointer (some ⟨b, 0, none⟩), .int .u8 (48 + (n : Int))] w fun e w' => e = .returned .nilIface ∧ Bld B b (l ++ dig1 n) w' ∧ Wrt B b w w' := by
  have := writeByteC B b l (48 + n) w h (by omega) hlen hBw
  rwa [show ((48 + n : Nat) : Int) = 48 + (n : Int) by omega] at this
theorem writeConstC (B b : Nat) (l : List UInt8) (n : Nat) (u : UInt8) (w : World) (h : Bld B b l w) (hn : n < 256) (hu : u = n.toUInt8) (hlen : l.length ≤ 10000000) (hBw : B ≤ w.heap.size) :
    Calls Tryd.prog 83 #[.pointer (some ⟨b, 0, none⟩), .int .u8 (n : Int)] w fun e w' => e = .returned .nilIface ∧ Bld B b (l ++ [u]) w' ∧ Wrt B b w w' := by
  subst hu
  exact writeByteC B b l n w h hn hlen hBw

set_option linter.unusedSimpArgs false in
set_option maxHeartbeats 2000000 in
set_option maxRecDepth 100000 in
theorem writeDigits (B b : Nat) (l : List UInt8) (v : Value) (xs : List Int) (w : World) (hr : ∀ w', Wrt B b w w' → RowAt w' v xs) (hd : Dig10 xs) (hx : xs.length ≤ 1000) (h : Bld B b l w) (hlen : l.length ≤ 1000000) (hBw : B ≤ w.heap.size) :
    Calls Tryd.prog 84 #[.pointer (some ⟨b, 0, none⟩), v] w fun e w' => e = .returned (.tuple #[]) ∧ Bld B b (l ++ digK xs xs.length) w' ∧ Wrt B b w w' := by
  obtain ⟨a, c, rfl, hn, -⟩ := hr w (Wrt.refl _ _ _)
  have HR := Lib.hid hr
  have HD := Lib.hid hd
  have H0 : Hid (Bld B b (l ++ digK xs 0) w) := Lib.hid (by show Bld B b (l ++ []) w; rw [List.append_nil]; exact h)
  clear hr hd h
  go_enter Tryd.func84, Tryd.ntmps84
  go_wp2
  go_loopw [8] (fun i wr => ∃ k : Nat, k ≤ xs.length ∧ i = .int .i64 k ∧ Bld B b (l ++ digK xs k) wr ∧ Wrt B b w wr) (fun i _ => xs.length - (intOf i).toNat)
  case atStart => exact ⟨0, Nat.zero_le _, rfl, H0.out, Wrt.refl _ _ _⟩
  case round =>
    obtain ⟨k, hk, rfl, hb, hw⟩ := hrel
    have HB := Lib.hid hb
    have HW := Lib.hid hw
    clear hb hw
    by_cases hlt : k < xs.length
    · obtain ⟨a', c', hv, -, hc⟩ := HR.out wr HW.out
      simp only [Value.slice.injEq] at hv
      obtain ⟨rfl, -, rfl⟩ := hv
      obtain ⟨b1, off1, rfl, hcell⟩ := hc (by omega)
      have hx1 : wr.cell? ⟨b1, off1 + k, none⟩ = some (.int .i64 (intN xs k)) := hcell k hlt
      have hdk := HD.out k hlt
      obtain ⟨n, hne⟩ : ∃ n : Nat, (intN xs k).toNat = n := ⟨_, rfl⟩
      have hni : intN xs k = (n : Int) := by omega
      have hn9 : (n : Int) < 10 := by omega
      have HN : Hid (n < 10) := Lib.hid (by omega)
      have HS : Hid (l ++ digK xs (k + 1) = (l ++ digK xs k) ++ dig1 n) := Lib.hid (by rw [digK_succ, hne, List.append_assoc])
      have HL : Hid ((l ++ digK xs k).length ≤ 10000000) := Lib.hid (by rw [List.length_append, digK_len]; omega)
      have HBW : Hid (B ≤ wr.heap.size) := Lib.hid (by have := HW.out.size; omega)
      rw [hni] at hx1
      have hlt' : (k : Int) < (xs.length : Int) := by omega
      clear hdk hne hni hcell hc
      go_wp2_with fail
      refine (writeDigitC B b _ n _ HB.out HN.out HL.out HBW.out).mono ?_
      rintro e w2 ⟨rfl, hb2, hw2⟩
      have HB2 := Lib.hid hb2
      have HW2 := Lib.hid (HW.out.trans hw2)
      clear hb2 hw2
      go_wp2
      go_roundw
      case rel => exact ⟨k + 1, by omega, by go_num, by rw [HS.out]; exact HB2.out, HW2.out⟩
      case measure => simp [intOf]; omega
    · obtain rfl : k = xs.length := by omega
      go_wp2
      go_end0
      exact ⟨rfl, HB.out, HW.out⟩

set_option linter.unusedSimpArgs false in
set_option maxHeartbeats 2000000 in
set_option maxRecDepth 100000 in
theorem writeHead (B b : Nat) (l m : List UInt8) (v : Value) (xs : List Int) (w : World) (hr : ∀ w', Wrt B b w w' → RowAt w' v xs) (hd : Dec100 xs) (hx : xs.length ≤ 1000) (h : Bld B b l w) (hlen : l.length ≤ 1000000) (hm : m.length ≤ 1000) (hBw : B ≤ w.heap.size) :
    Calls Tryd.prog 82 #[.pointer (some ⟨b, 0, none⟩), .string ⟨m.toArray⟩, v] w fun e w' => e = .returned (.tuple #[]) ∧ Bld B b (l ++ m ++ headK xs xs.length) w' ∧ Wrt B b w w' := by
  obtain ⟨a, c, rfl, hn, -⟩ := hr w (Wrt.refl _ _ _)
  have HR := Lib.hid hr
  have HD := Lib.hid hd
  have H0 := Lib.hid h
  clear hr hd h
  go_enter Tryd.func82, Tryd.ntmps82
  go_wp2_with fail
  refine (writeStringC B b l m _ H0.out (by omega) (by omega) hBw).mono ?_
  rintro e w1 ⟨⟨z, rfl⟩, hb1, hw1⟩
  have H1 : Hid (Bld B b (l ++ m ++ headK xs 0) w1) := Lib.hid (by show Bld B b (l ++ m ++ []) w1; rw [List.append_nil]; exact hb1)
  have HW1 := Lib.hid hw1
  clear hb1 hw1
  go_wp2
  go_loopw [13] (fun i wr => ∃ k : Nat, k ≤ xs.length ∧ i = .int .i64 k ∧ Bld B b (l ++ m ++ headK xs k) wr ∧ Wrt B b w wr) (fun i _ => xs.length - (intOf i).toNat)
  case atStart => exact ⟨0, Nat.zero_le _, rfl, H1.out, HW1.out⟩
  case round =>
    obtain ⟨k, hk, rfl, hb, hw⟩ := hrel
    have HB := Lib.hid hb
    have HW := Lib.hid hw
    clear hb hw
    by_cases hlt : k < xs.length
    · obtain ⟨a', c', hv, -, hc⟩ := HR.out wr HW.out
      simp only [Value.slice.injEq] at hv
      obtain ⟨rfl, -, rfl⟩ := hv
      obtain ⟨b1, off1, rfl, hcell⟩ := hc (by omega)
      have hx1 : wr.cell? ⟨b1, off1 + k, none⟩ = some (.int .i64 (intN xs k)) := hcell k hlt
      have hdk := HD.out k hlt
      have hhl := headK_len HD.out k hk
      obtain ⟨n, hne⟩ : ∃ n : Nat, (intN xs k).toNat = n := ⟨_, rfl⟩
      have hni : intN xs k = (n : Int) := by omega
      have HN : Hid (n < 100) := Lib.hid (by omega)
      have hdl := dec_len HN.out
      have HS : Hid (l ++ m ++ headK xs (k + 1) = (l ++ m ++ headK xs k ++ [32]) ++ Lib.decDigits n) := Lib.hid (by rw [headK_succ, hne]; simp)
      have HL : Hid ((l ++ m ++ headK xs k).length ≤ 10000000) := Lib.hid (by rw [List.length_append, List.length_append]; omega)
      have HL2 : Hid ((l ++ m ++ headK xs k ++ [32]).length ≤ 10000000) := Lib.hid (by rw [List.length_append, List.length_append, List.length_append]; simp; omega)
      have HDL : Hid ((Lib.decDigits n).length ≤ 10000000) := Lib.hid (by omega)
      have HBW : Hid (B ≤ wr.heap.size) := Lib.hid (by have := HW.out.size; omega)
      rw [hni] at hx1
      have hlt' : (k : Int) < (xs.length : Int) := by omega
      clear hdk hne hni hcell hc hhl hdl
      go_wp2_with fail
      refine (writeConstC B b _ 32 32 _ HB.out (by decide) rfl HL.out HBW.out).mono ?_
      rintro e w2 ⟨rfl, hb2, hw2⟩
      have HB2 := Lib.hid hb2
      have HW2 := Lib.hid (HW.out.trans hw2)
      have HBW2 : Hid (B ≤ w2.heap.size) := Lib.hid (Nat.le_trans HBW.out hw2.size)
      clear hb2 hw2
      go_wp2_with fail
      refine (formatC n HN.out _).mono ?_
      rintro e w3 ⟨rfl, rfl⟩
      go_wp2_with fail
      refine (writeStringC B b _ (Lib.decDigits n) _ HB2.out HL2.out HDL.out HBW2.out).mono ?_
      rintro e w4 ⟨⟨z4, rfl⟩, hb4, hw4⟩
      have HB4 := Lib.hid hb4
      have HW4 := Lib.hid (HW2.out.trans hw4)
      clear hb4 hw4
      go_wp2
      go_roundw
      case rel => exact ⟨k + 1, by omega, by go_num, by rw [HS.out]; exact HB4.out, HW4.out⟩
      case measure => simp [intOf]; omega
    · obtain rfl : k = xs.length := by omega
      go_wp2
      go_end0
      exact ⟨rfl, HB.out, HW.out⟩

end Go.Proofs.YtadpnckpgpamiabDoor
