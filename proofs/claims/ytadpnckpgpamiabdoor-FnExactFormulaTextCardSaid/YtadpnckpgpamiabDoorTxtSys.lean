/-
  The text of a system: SystemText of the model and of the program.
-/
import Derived.Test.YtadpnckpgpamiabDoorTxtRel
import Derived.Test.YtadpnckpgpamiabDoorSysOk
import Derived.Test.YtadpnckpgpamiabDoorRegI
namespace Go.Proofs.YtadpnckpgpamiabDoor
open Go.RowKit

/-- The first line. -/
def sysH (p u : Nat) : List UInt8 := [115, 121, 115, 116, 101, 109, 32] ++ dig1 p ++ [32] ++ Lib.decDigits u ++ [10]
/-- The line of an equation. -/
def eqnT (r : Nat) (row : List Int) : List UInt8 := digK row row.length ++ ([32, 61, 32] ++ dig1 r ++ [10])
def eqnsT (rs : List (Int × List Int)) : Nat → List UInt8
  | 0 => []
  | k + 1 => eqnsT rs k ++ eqnT (arO rs k).toNat (rowO rs k)
theorem eqnsT_succ (rs : List (Int × List Int)) (k : Nat) : eqnsT rs (k + 1) = eqnsT rs k ++ eqnT (arO rs k).toNat (rowO rs k) := rfl
def sysT (p u : Nat) (rs : List (Int × List Int)) : List UInt8 := sysH p u ++ eqnsT rs rs.length
theorem PrimeP.lePT {p : Int} (h : PrimeP p) : p ≤ 3 := by rcases h with rfl | rfl <;> decide
theorem EqnOk.dig {p u r : Int} {row : List Int} (h : EqnOk p u r row) (hp : PrimeP p) : Dig10 row := fun k hk => by
  have := h.2.2 k hk
  have h1 := this.1
  have h2 := this.2
  rcases hp with rfl | rfl <;> omega
theorem EqnOk.len {p u r : Int} {row : List Int} (h : EqnOk p u r row) (hu : InP u 1 12) : row.length ≤ 12 := by
  have := h.1
  have := hu.2
  omega
theorem eqnT_len {r : Nat} {row : List Int} (h : row.length ≤ 12) : (eqnT r row).length ≤ 17 := by
  unfold eqnT
  rw [List.length_append, digK_len]
  simp [dig1]
  omega
theorem eqnsT_len {rs : List (Int × List Int)} (h : ∀ j, j < rs.length → (rowO rs j).length ≤ 12) : ∀ k, k ≤ rs.length → (eqnsT rs k).length ≤ 17 * k
  | 0, _ => Nat.le_refl _
  | k + 1, hk => by
    have h1 := eqnsT_len h k (by omega)
    have h2 := eqnT_len (r := (arO rs k).toNat) (h k (by omega))
    rw [eqnsT_succ, List.length_append]
    omega
theorem sysH_len (p u : Nat) (hu : u < 100) : (sysH p u).length ≤ 12 := by
  have := dec_len hu
  unfold sysH
  rw [List.length_append, List.length_append]
  simp [dig1]
  omega

set_option linter.unusedSimpArgs false in
set_option maxHeartbeats 2000000 in
set_option maxRecDepth 100000 in
theorem l07Text (pb po p u : Nat) (rs : List (Int × List Int)) (w : World) (h : SysAt w pb po p u rs) (hok : SysOk p u rs) :
    Calls Tryd.prog 88 #[.pointer (some ⟨pb, po, none⟩)] w fun e w' => e = .returned (.string ⟨(sysT p u rs).toArray⟩) ∧ Below w.heap.size w w' := by
  obtain ⟨hp0, hp1, a, n, c, hp2, a', c', hv, hn, hc⟩ := h
  simp only [Value.slice.injEq] at hv
  obtain ⟨rfl, rfl, rfl⟩ := hv
  have HC := Lib.hid hc
  have HOK := Lib.hid hok
  have HP0 := Lib.hid hp0
  have HP1 := Lib.hid hp1
  have HP2 := Lib.hid hp2
  have HPN : Hid (p < 10) := Lib.hid (by have := hok.1; rcases this with h | h <;> omega)
  have HUN : Hid (u < 100) := Lib.hid (by have := hok.2.1.2; omega)
  have HR24 : Hid (rs.length ≤ 24) := Lib.hid hok.2.2.1
  have HLEN : Hid (∀ j, j < rs.length → (rowO rs j).length ≤ 12) := Lib.hid (fun j hj => (hok.2.2.2 j hj).len hok.2.1)
  have hsl := sysH_len p u HUN.out
  have HSL := Lib.hid hsl
  obtain ⟨A1, hA1⟩ : ∃ A, [115, 121, 115, 116, 101, 109, 32] ++ dig1 p = A := ⟨_, rfl⟩
  obtain ⟨A2, hA2⟩ : ∃ A, A1 ++ [32] = A := ⟨_, rfl⟩
  obtain ⟨A3, hA3⟩ : ∃ A, A2 ++ Lib.decDigits u = A := ⟨_, rfl⟩
  have hA4 : A3 ++ [10] = sysH p u := by rw [← hA3, ← hA2, ← hA1]; rfl
  have e1 : A1.length = 8 := by rw [← hA1]; rfl
  have e2 : A2.length = 9 := by rw [← hA2, List.length_append, e1]; rfl
  have hdl := dec_len HUN.out
  have e3 : A3.length ≤ 11 := by rw [← hA3, List.length_append, e2]; omega
  have HC1 : Hid (∀ w, (Op.stringOp .add ⟨#[115, 121, 115, 116, 101, 109, 32]⟩ ⟨(dig1 p).toArray⟩).run Tryd.prog w = .ok (.string ⟨A1.toArray⟩) w) := Lib.hid (fun w => catE [115, 121, 115, 116, 101, 109, 32] (dig1 p) _ hA1 (by decide) (by simp [dig1]) w)
  have HC2 : Hid (∀ w, (Op.stringOp .add ⟨A1.toArray⟩ ⟨#[32]⟩).run Tryd.prog w = .ok (.string ⟨A2.toArray⟩) w) := Lib.hid (fun w => catE A1 [32] _ hA2 (by omega) (by decide) w)
  have HC3 : Hid (∀ w, (Op.stringOp .add ⟨A2.toArray⟩ ⟨(Lib.decDigits u).toArray⟩).run Tryd.prog w = .ok (.string ⟨A3.toArray⟩) w) := Lib.hid (fun w => catE A2 (Lib.decDigits u) _ hA3 (by omega) (by omega) w)
  have HC4 : Hid (∀ w, (Op.stringOp .add ⟨A3.toArray⟩ ⟨#[10]⟩).run Tryd.prog w = .ok (.string ⟨(sysH p u).toArray⟩) w) := Lib.hid (fun w => catE A3 [10] _ hA4 (by omega) (by decide) w)
  clear hc hok hp0 hp1 hp2 hA1 hA2 hA3 hA4 e1 e2 e3 hdl hsl
  go_enter Tryd.func88, Tryd.ntmps88
  go_upto_region 1 with fail
  refine wp_region_noPanic ?_
  refine wp_region_inv (fun w' => w'.cell? ⟨pb, po, none⟩ = some (.int .i64 p) ∧ w'.cell? ⟨pb, po + 1, none⟩ = some (.int .i64 u) ∧ Below w.heap.size w w') (fun w1 w2 => Below w1.heap.size w1 w2) (fun kI vv ww => match kI with
    | 0 => vv = .pointer (some ⟨pb, po, none⟩)
    | 1 => vv = .pointer (some ⟨pb, po, none⟩)
    | 2 => vv = .pointer (some ⟨pb, po, none⟩)
    | 3 => vv = .int .i64 p
    | 4 => vv = .string ⟨(dig1 p).toArray⟩
    | 5 => vv = .string ⟨A1.toArray⟩
    | 6 => vv = .string ⟨A2.toArray⟩
    | 7 => vv = .pointer (some ⟨pb, po, none⟩)
    | 8 => vv = .pointer (some ⟨pb, po, none⟩)
    | 9 => vv = .pointer (some ⟨pb, po + 1, none⟩)
    | 10 => vv = .int .i64 u
    | 11 => vv = .string ⟨(Lib.decDigits u).toArray⟩
    | 12 => vv = .string ⟨A3.toArray⟩
    | 13 => vv = .string ⟨(sysH p u).toArray⟩
    | 14 => vv = .string ⟨(sysH p u).toArray⟩
    | _ => True) [(14, some 3), (13, some 19), (12, some 18), (11, some 17), (10, some 16), (9, some 15), (8, some 14), (7, some 13), (6, some 12), (5, some 11), (4, some 10), (3, some 9), (2, some 8), (1, some 7), (0, some 6)] 15 (by kernel_rfl) rfl (by kernel_rfl) (by kernel_rfl) (by kernel_rfl) ?_ ?_ ?_ ?_
  · intro kI v w1 w2 hN h
    match kI, h with
    | 0, h => exact h
    | 1, h => exact h
    | 2, h => exact h
    | 3, h => exact h
    | 4, h => exact h
    | 5, h => exact h
    | 6, h => exact h
    | 7, h => exact h
    | 8, h => exact h
    | 9, h => exact h
    | 10, h => exact h
    | 11, h => exact h
    | 12, h => exact h
    | 13, h => exact h
    | 14, h => exact h
    | kI + 15, _ => exact trivial
  · exact ⟨HP0.out, HP1.out, ((QW.refl w).drew.below _)⟩
  · refine ⟨⟨⟨⟨⟨⟨⟨⟨⟨⟨⟨⟨⟨⟨⟨trivial, ?_⟩, ?_⟩, ?_⟩, ?_⟩, ?_⟩, ?_⟩, ?_⟩, ?_⟩, ?_⟩, ?_⟩, ?_⟩, ?_⟩, ?_⟩, ?_⟩, ?_⟩
    · refine StepOk.intro (some 6) rfl rfl (fun xI w1 hS hdep K hK => ?_)
      clear hdep
      have hSS := Lib.hid hS
      obtain ⟨c0, c1, hB⟩ := hS
      refine ⟨?_⟩
      simp only [puts, Act.put, List.setIfInBounds_toArray, List.set_cons_zero, List.set_cons_succ]
      go_simp
      exact hK.out _ (.pointer (some ⟨pb, po, none⟩)) _ (by simp only [puts, Act.put, List.setIfInBounds_toArray, List.set_cons_zero, List.set_cons_succ]) (Below.refl _ _) (hSS.out) (rfl)
    · refine StepOk.intro (some 7) rfl rfl (fun xI w1 hS hdep K hK => ?_)
      have h0 : xI 0 = .pointer (some ⟨pb, po, none⟩) := hdep 0 (by kernel_rfl)
      clear hdep
      have hSS := Lib.hid hS
      obtain ⟨c0, c1, hB⟩ := hS
      refine ⟨?_⟩
      simp only [puts, Act.put, List.setIfInBounds_toArray, List.set_cons_zero, List.set_cons_succ, h0]
      go_simp
      exact hK.out _ (.pointer (some ⟨pb, po, none⟩)) _ (by simp only [puts, Act.put, List.setIfInBounds_toArray, List.set_cons_zero, List.set_cons_succ, h0]) (Below.refl _ _) (hSS.out) (rfl)
    · refine StepOk.intro (some 8) rfl rfl (fun xI w1 hS hdep K hK => ?_)
      have h1 : xI 1 = .pointer (some ⟨pb, po, none⟩) := hdep 1 (by kernel_rfl)
      clear hdep
      have hSS := Lib.hid hS
      obtain ⟨c0, c1, hB⟩ := hS
      refine ⟨?_⟩
      simp only [puts, Act.put, List.setIfInBounds_toArray, List.set_cons_zero, List.set_cons_succ, h1]
      go_simp
      exact hK.out _ (.pointer (some ⟨pb, po, none⟩)) _ (by simp only [puts, Act.put, List.setIfInBounds_toArray, List.set_cons_zero, List.set_cons_succ, h1]) (Below.refl _ _) (hSS.out) (rfl)
    · refine StepOk.intro (some 9) rfl rfl (fun xI w1 hS hdep K hK => ?_)
      have h2 : xI 2 = .pointer (some ⟨pb, po, none⟩) := hdep 2 (by kernel_rfl)
      clear hdep
      have hSS := Lib.hid hS
      obtain ⟨c0, c1, hB⟩ := hS
      refine ⟨?_⟩
      simp only [puts, Act.put, List.setIfInBounds_toArray, List.set_cons_zero, List.set_cons_succ, h2]
      go_simp
      exact hK.out _ (.int .i64 p) _ (by simp only [puts, Act.put, List.setIfInBounds_toArray, List.set_cons_zero, List.set_cons_succ, h2]) (Below.refl _ _) (hSS.out) (rfl)
    · refine StepOk.intro (some 10) rfl rfl (fun xI w1 hS hdep K hK => ?_)
      have h3 : xI 3 = .int .i64 p := hdep 3 (by kernel_rfl)
      clear hdep
      have hSS := Lib.hid hS
      obtain ⟨c0, c1, hB⟩ := hS
      refine ⟨?_⟩
      simp only [puts, Act.put, List.setIfInBounds_toArray, List.set_cons_zero, List.set_cons_succ, h3]
      go_simp; go_at_call 141; refine (decOne p HPN.out _).mono ?_; rintro e w5 ⟨rfl, hb5⟩
      exact hK.out _ (.string ⟨(dig1 p).toArray⟩) _ (by simp only [puts, Act.put, List.setIfInBounds_toArray, List.set_cons_zero, List.set_cons_succ, h3]) hb5 (⟨below_cell hb5 hSS.out.1, below_cell hb5 hSS.out.2.1, hSS.out.2.2.trans (hb5.mono hSS.out.2.2.size)⟩) (rfl)
    · refine StepOk.intro (some 11) rfl rfl (fun xI w1 hS hdep K hK => ?_)
      have h4 : xI 4 = .string ⟨(dig1 p).toArray⟩ := hdep 4 (by kernel_rfl)
      clear hdep
      have hSS := Lib.hid hS
      obtain ⟨c0, c1, hB⟩ := hS
      refine ⟨?_⟩
      simp only [puts, Act.put, List.setIfInBounds_toArray, List.set_cons_zero, List.set_cons_succ, h4]
      have hct := HC1.out w1
      go_simp
      exact hK.out _ (.string ⟨A1.toArray⟩) _ (by simp only [puts, Act.put, List.setIfInBounds_toArray, List.set_cons_zero, List.set_cons_succ, h4]) (Below.refl _ _) (hSS.out) (rfl)
    · refine StepOk.intro (some 12) rfl rfl (fun xI w1 hS hdep K hK => ?_)
      have h5 : xI 5 = .string ⟨A1.toArray⟩ := hdep 5 (by kernel_rfl)
      clear hdep
      have hSS := Lib.hid hS
      obtain ⟨c0, c1, hB⟩ := hS
      refine ⟨?_⟩
      simp only [puts, Act.put, List.setIfInBounds_toArray, List.set_cons_zero, List.set_cons_succ, h5]
      have hct := HC2.out w1
      go_simp
      exact hK.out _ (.string ⟨A2.toArray⟩) _ (by simp only [puts, Act.put, List.setIfInBounds_toArray, List.set_cons_zero, List.set_cons_succ, h5]) (Below.refl _ _) (hSS.out) (rfl)
    · refine StepOk.intro (some 13) rfl rfl (fun xI w1 hS hdep K hK => ?_)
      clear hdep
      have hSS := Lib.hid hS
      obtain ⟨c0, c1, hB⟩ := hS
      refine ⟨?_⟩
      simp only [puts, Act.put, List.setIfInBounds_toArray, List.set_cons_zero, List.set_cons_succ]
      go_simp
      exact hK.out _ (.pointer (some ⟨pb, po, none⟩)) _ (by simp only [puts, Act.put, List.setIfInBounds_toArray, List.set_cons_zero, List.set_cons_succ]) (Below.refl _ _) (hSS.out) (rfl)
    · refine StepOk.intro (some 14) rfl rfl (fun xI w1 hS hdep K hK => ?_)
      have h7 : xI 7 = .pointer (some ⟨pb, po, none⟩) := hdep 7 (by kernel_rfl)
      clear hdep
      have hSS := Lib.hid hS
      obtain ⟨c0, c1, hB⟩ := hS
      refine ⟨?_⟩
      simp only [puts, Act.put, List.setIfInBounds_toArray, List.set_cons_zero, List.set_cons_succ, h7]
      go_simp
      exact hK.out _ (.pointer (some ⟨pb, po, none⟩)) _ (by simp only [puts, Act.put, List.setIfInBounds_toArray, List.set_cons_zero, List.set_cons_succ, h7]) (Below.refl _ _) (hSS.out) (rfl)
    · refine StepOk.intro (some 15) rfl rfl (fun xI w1 hS hdep K hK => ?_)
      have h8 : xI 8 = .pointer (some ⟨pb, po, none⟩) := hdep 8 (by kernel_rfl)
      clear hdep
      have hSS := Lib.hid hS
      obtain ⟨c0, c1, hB⟩ := hS
      refine ⟨?_⟩
      simp only [puts, Act.put, List.setIfInBounds_toArray, List.set_cons_zero, List.set_cons_succ, h8]
      go_simp
      exact hK.out _ (.pointer (some ⟨pb, po + 1, none⟩)) _ (by simp only [puts, Act.put, List.setIfInBounds_toArray, List.set_cons_zero, List.set_cons_succ, h8]) (Below.refl _ _) (hSS.out) (rfl)
    · refine StepOk.intro (some 16) rfl rfl (fun xI w1 hS hdep K hK => ?_)
      have h9 : xI 9 = .pointer (some ⟨pb, po + 1, none⟩) := hdep 9 (by kernel_rfl)
      clear hdep
      have hSS := Lib.hid hS
      obtain ⟨c0, c1, hB⟩ := hS
      refine ⟨?_⟩
      simp only [puts, Act.put, List.setIfInBounds_toArray, List.set_cons_zero, List.set_cons_succ, h9]
      go_simp
      exact hK.out _ (.int .i64 u) _ (by simp only [puts, Act.put, List.setIfInBounds_toArray, List.set_cons_zero, List.set_cons_succ, h9]) (Below.refl _ _) (hSS.out) (rfl)
    · refine StepOk.intro (some 17) rfl rfl (fun xI w1 hS hdep K hK => ?_)
      have h4 : xI 4 = .string ⟨(dig1 p).toArray⟩ := hdep 4 (by kernel_rfl)
      have h10 : xI 10 = .int .i64 u := hdep 10 (by kernel_rfl)
      clear hdep
      have hSS := Lib.hid hS
      obtain ⟨c0, c1, hB⟩ := hS
      refine ⟨?_⟩
      simp only [puts, Act.put, List.setIfInBounds_toArray, List.set_cons_zero, List.set_cons_succ, h4, h10]
      go_simp; go_at_call 141; refine (decC u HUN.out _).mono ?_; rintro e w5 ⟨rfl, hb5⟩
      exact hK.out _ (.string ⟨(Lib.decDigits u).toArray⟩) _ (by simp only [puts, Act.put, List.setIfInBounds_toArray, List.set_cons_zero, List.set_cons_succ, h4, h10]) hb5 (⟨below_cell hb5 hSS.out.1, below_cell hb5 hSS.out.2.1, hSS.out.2.2.trans (hb5.mono hSS.out.2.2.size)⟩) (rfl)
    · refine StepOk.intro (some 18) rfl rfl (fun xI w1 hS hdep K hK => ?_)
      have h6 : xI 6 = .string ⟨A2.toArray⟩ := hdep 6 (by kernel_rfl)
      have h11 : xI 11 = .string ⟨(Lib.decDigits u).toArray⟩ := hdep 11 (by kernel_rfl)
      clear hdep
      have hSS := Lib.hid hS
      obtain ⟨c0, c1, hB⟩ := hS
      refine ⟨?_⟩
      simp only [puts, Act.put, List.setIfInBounds_toArray, List.set_cons_zero, List.set_cons_succ, h6, h11]
      have hct := HC3.out w1
      go_simp
      exact hK.out _ (.string ⟨A3.toArray⟩) _ (by simp only [puts, Act.put, List.setIfInBounds_toArray, List.set_cons_zero, List.set_cons_succ, h6, h11]) (Below.refl _ _) (hSS.out) (rfl)
    · refine StepOk.intro (some 19) rfl rfl (fun xI w1 hS hdep K hK => ?_)
      have h12 : xI 12 = .string ⟨A3.toArray⟩ := hdep 12 (by kernel_rfl)
      clear hdep
      have hSS := Lib.hid hS
      obtain ⟨c0, c1, hB⟩ := hS
      refine ⟨?_⟩
      simp only [puts, Act.put, List.setIfInBounds_toArray, List.set_cons_zero, List.set_cons_succ, h12]
      have hct := HC4.out w1
      go_simp
      exact hK.out _ (.string ⟨(sysH p u).toArray⟩) _ (by simp only [puts, Act.put, List.setIfInBounds_toArray, List.set_cons_zero, List.set_cons_succ, h12]) (Below.refl _ _) (hSS.out) (rfl)
    · refine StepOk.intro (some 3) rfl rfl (fun xI w1 hS hdep K hK => ?_)
      have h0 : xI 0 = .pointer (some ⟨pb, po, none⟩) := hdep 0 (by kernel_rfl)
      have h1 : xI 1 = .pointer (some ⟨pb, po, none⟩) := hdep 1 (by kernel_rfl)
      have h2 : xI 2 = .pointer (some ⟨pb, po, none⟩) := hdep 2 (by kernel_rfl)
      have h3 : xI 3 = .int .i64 p := hdep 3 (by kernel_rfl)
      have h4 : xI 4 = .string ⟨(dig1 p).toArray⟩ := hdep 4 (by kernel_rfl)
      have h5 : xI 5 = .string ⟨A1.toArray⟩ := hdep 5 (by kernel_rfl)
      have h6 : xI 6 = .string ⟨A2.toArray⟩ := hdep 6 (by kernel_rfl)
      have h7 : xI 7 = .pointer (some ⟨pb, po, none⟩) := hdep 7 (by kernel_rfl)
      have h8 : xI 8 = .pointer (some ⟨pb, po, none⟩) := hdep 8 (by kernel_rfl)
      have h9 : xI 9 = .pointer (some ⟨pb, po + 1, none⟩) := hdep 9 (by kernel_rfl)
      have h10 : xI 10 = .int .i64 u := hdep 10 (by kernel_rfl)
      have h11 : xI 11 = .string ⟨(Lib.decDigits u).toArray⟩ := hdep 11 (by kernel_rfl)
      have h12 : xI 12 = .string ⟨A3.toArray⟩ := hdep 12 (by kernel_rfl)
      have h13 : xI 13 = .string ⟨(sysH p u).toArray⟩ := hdep 13 (by kernel_rfl)
      clear hdep
      have hSS := Lib.hid hS
      obtain ⟨c0, c1, hB⟩ := hS
      refine ⟨?_⟩
      simp only [puts, Act.put, List.setIfInBounds_toArray, List.set_cons_zero, List.set_cons_succ, h0, h1, h2, h3, h4, h5, h6, h7, h8, h9, h10, h11, h12, h13]
      go_simp
      exact hK.out _ (.string ⟨(sysH p u).toArray⟩) _ (by simp only [puts, Act.put, List.setIfInBounds_toArray, List.set_cons_zero, List.set_cons_succ, h0, h1, h2, h3, h4, h5, h6, h7, h8, h9, h10, h11, h12, h13]) (Below.refl _ _) (hSS.out) (rfl)
  · intro xI w1 hS hx
    have e0 : xI 0 = .pointer (some ⟨pb, po, none⟩) := hx 0 (by decide)
    have e1 : xI 1 = .pointer (some ⟨pb, po, none⟩) := hx 1 (by decide)
    have e2 : xI 2 = .pointer (some ⟨pb, po, none⟩) := hx 2 (by decide)
    have e3 : xI 3 = .int .i64 p := hx 3 (by decide)
    have e4 : xI 4 = .string ⟨(dig1 p).toArray⟩ := hx 4 (by decide)
    have e5 : xI 5 = .string ⟨A1.toArray⟩ := hx 5 (by decide)
    have e6 : xI 6 = .string ⟨A2.toArray⟩ := hx 6 (by decide)
    have e7 : xI 7 = .pointer (some ⟨pb, po, none⟩) := hx 7 (by decide)
    have e8 : xI 8 = .pointer (some ⟨pb, po, none⟩) := hx 8 (by decide)
    have e9 : xI 9 = .pointer (some ⟨pb, po + 1, none⟩) := hx 9 (by decide)
    have e10 : xI 10 = .int .i64 u := hx 10 (by decide)
    have e11 : xI 11 = .string ⟨(Lib.decDigits u).toArray⟩ := hx 11 (by decide)
    have e12 : xI 12 = .string ⟨A3.toArray⟩ := hx 12 (by decide)
    have e13 : xI 13 = .string ⟨(sysH p u).toArray⟩ := hx 13 (by decide)
    have e14 : xI 14 = .string ⟨(sysH p u).toArray⟩ := hx 14 (by decide)
    clear hx
    obtain ⟨c0, c1, hB⟩ := hS
    simp only [puts, Act.put, List.setIfInBounds_toArray, List.set_cons_zero, List.set_cons_succ, e0, e1, e2, e3, e4, e5, e6, e7, e8, e9, e10, e11, e12, e13, e14]
    clear e0 e1 e2 e3 e4 e5 e6 e7 e8 e9 e10 e11 e12 e13 e14
    refine NoPanic.normal ?_
    have HB1 := Lib.hid hB
    clear hB c0 c1
    go_wp2
    go_loopw [3, 4] (fun s i wr => ∃ k : Nat, k ≤ rs.length ∧ i = .int .i64 k ∧ s = .string ⟨(sysH p u ++ eqnsT rs k).toArray⟩ ∧ Below w.heap.size w wr) (fun _ i _ => rs.length - (intOf i).toNat)
    case atStart => exact ⟨0, Nat.zero_le _, rfl, by show _ = Value.string ⟨(sysH p u ++ []).toArray⟩; rw [List.append_nil], HB1.out⟩
    case round =>
      obtain ⟨k, hk, rfl, rfl, hbel⟩ := hrel
      have HB := Lib.hid hbel
      have hp2 := below_cell hbel HP2.out
      have hlenk := eqnsT_len HLEN.out k hk
      have hbg : rs.length ≤ 24 := HR24.out
      obtain ⟨A, hA⟩ : ∃ A, sysH p u ++ eqnsT rs k = A := ⟨_, rfl⟩
      have hAl : A.length ≤ 500 := by rw [← hA, List.length_append]; have := HSL.out; omega
      rw [hA]
      have HA := Lib.hid hA
      have HAL := Lib.hid hAl
      clear hbel hA hlenk hAl
      by_cases hlt : k < rs.length
      · obtain ⟨b1, off1, rfl, hd1⟩ := HC.out (by omega)
        obtain ⟨r0, hr0⟩ : ∃ r0, arO rs k = r0 := ⟨_, rfl⟩
        obtain ⟨row, hrow⟩ : ∃ row, rowO rs k = row := ⟨_, rfl⟩
        have hE := hd1 k hlt
        have hok1 := HOK.out.2.2.2 k hlt
        rw [hr0, hrow] at hE hok1
        obtain ⟨g1, ra, rn, rc, g0, hrr⟩ := hE
        have HG1 := Lib.hid g1
        have HG0 := Lib.hid g0
        obtain ⟨ra', rc', hrv, hrn, hrc⟩ := hrr
        simp only [Value.slice.injEq] at hrv
        obtain ⟨rfl, rfl, rfl⟩ := hrv
        have HRC := Lib.hid hrc
        have HR0 := Lib.hid hr0
        have HRW := Lib.hid hrow
        have HDG : Hid (Dig10 row) := Lib.hid (hok1.dig HOK.out.1)
        have hr12 : row.length ≤ 12 := hok1.len HOK.out.2.1
        have hrr1 := hok1.2.1.1
        have hrr2 := hok1.2.1.2
        have hp3 : (p : Int) ≤ 3 := HOK.out.1.lePT
        obtain ⟨r, rfl⟩ : ∃ r : Nat, r0 = r := ⟨r0.toNat, by omega⟩
        have HRN : Hid (r < 10) := Lib.hid (by omega)
        have hlt' : (k : Int) < (rs.length : Int) := by omega
        obtain ⟨wo, rfl⟩ : ∃ wo : World, wo = wr := ⟨_, rfl⟩
        clear hd1 hrc hr0 hrow hok1 hrr1 hrr2 hp3 g1 g0
        go_wp2
        go_loopw [3, 5] (fun s i wr => ∃ j : Nat, j ≤ row.length ∧ i = .int .i64 j ∧ s = .string ⟨(A ++ digK row j).toArray⟩ ∧ Below wo.heap.size wo wr) (fun _ i _ => row.length - (intOf i).toNat)
        case atStart => exact ⟨0, Nat.zero_le _, rfl, by show _ = Value.string ⟨(A ++ []).toArray⟩; rw [List.append_nil], Below.refl _ _⟩
        case round =>
          obtain ⟨j, hj, rfl, rfl, hbel2⟩ := hrel
          have HB2 := Lib.hid hbel2
          have hq2 := below_cell hbel2 hp2
          have hg0 := below_cell hbel2 (below_cell HB.out HG0.out)
          clear hbel2
          by_cases hjt : j < row.length
          · obtain ⟨b2, off2, rfl, hd2⟩ := HRC.out (by omega)
            have hx : wo.cell? ⟨b2, off2 + j, none⟩ = some (.int .i64 (intN row j)) := below_cell HB.out (hd2 j hjt)
            have hx2 := below_cell HB2.out hx
            have hdj := HDG.out j hjt
            obtain ⟨d, hde⟩ : ∃ d : Nat, (intN row j).toNat = d := ⟨_, rfl⟩
            have hdi : intN row j = (d : Int) := by omega
            rw [hdi] at hx2
            have HD : Hid (d < 10) := Lib.hid (by omega)
            have HS : Hid ((A ++ digK row j) ++ dig1 d = A ++ digK row (j + 1)) := Lib.hid (by rw [digK_succ, hde, List.append_assoc])
            have HL : Hid ((A ++ digK row j).length ≤ 10000000) := Lib.hid (by rw [List.length_append, digK_len]; have := HAL.out; omega)
            have hjt' : (j : Int) < (row.length : Int) := by omega
            obtain ⟨G, hG⟩ : ∃ G, A ++ digK row j = G := ⟨_, rfl⟩
            rw [hG]
            have HG := Lib.hid hG
            clear hx hdj hde hdi hd2 hG
            go_wp2_with fail
            refine (decOne d HD.out _).mono ?_
            rintro e w4 ⟨rfl, hb4⟩
            have HB4 := Lib.hid (HB2.out.trans (hb4.mono HB2.out.size))
            have hct : (Op.stringOp .add ⟨G.toArray⟩ ⟨(dig1 d).toArray⟩).run Tryd.prog w4 = .ok (.string ⟨(A ++ digK row (j + 1)).toArray⟩) w4 := catE G (dig1 d) _ (by rw [← HG.out]; exact HS.out) (by rw [← HG.out]; exact HL.out) (by simp [dig1]) w4
            clear hb4 hq2 hg0 hx2
            go_wp2
            clear hct
            go_roundw
            case rel => exact ⟨j + 1, by omega, by go_num, rfl, HB4.out⟩
            case measure => simp [intOf]; omega
          · obtain rfl : j = row.length := by omega
            have hg1 := below_cell HB2.out (below_cell HB.out HG1.out)
            have HBT := Lib.hid (HB.out.trans (HB2.out.mono HB.out.size))
            obtain ⟨G, hG⟩ : ∃ G, A ++ digK row row.length = G := ⟨_, rfl⟩
            have hGl : G.length ≤ 600 := by rw [← hG, List.length_append, digK_len]; have := HAL.out; omega
            rw [hG]
            have HG := Lib.hid hG
            have HGL := Lib.hid hGl
            clear hG hGl
            go_wp2_with fail
            refine (decOne r HRN.out _).mono ?_
            rintro e w4 ⟨rfl, hb4⟩
            have HB4 := Lib.hid (HBT.out.trans (hb4.mono HBT.out.size))
            obtain ⟨E1, hE1⟩ : ∃ E, [32, 61, 32] ++ dig1 r = E := ⟨_, rfl⟩
            obtain ⟨E2, hE2⟩ : ∃ E, E1 ++ [10] = E := ⟨_, rfl⟩
            have hl1 : E1.length = 4 := by rw [← hE1]; rfl
            have hl2 : E2.length = 5 := by rw [← hE2, List.length_append, hl1]; rfl
            have HNX : Hid (sysH p u ++ eqnsT rs (k + 1) = G ++ E2) := Lib.hid (by
              rw [eqnsT_succ, HR0.out, HRW.out, ← HG.out, ← HA.out, ← hE2, ← hE1]
              simp [eqnT])
            have hct1 : (Op.stringOp .add ⟨#[32, 61, 32]⟩ ⟨(dig1 r).toArray⟩).run Tryd.prog w4 = .ok (.string ⟨E1.toArray⟩) w4 := catE [32, 61, 32] (dig1 r) _ hE1 (by decide) (by simp [dig1]) w4
            have hct2 : (Op.stringOp .add ⟨E1.toArray⟩ ⟨#[10]⟩).run Tryd.prog w4 = .ok (.string ⟨E2.toArray⟩) w4 := catE E1 [10] _ hE2 (by omega) (by decide) w4
            have hct3 : (Op.stringOp .add ⟨G.toArray⟩ ⟨E2.toArray⟩).run Tryd.prog w4 = .ok (.string ⟨(G ++ E2).toArray⟩) w4 := catE G E2 _ rfl (by have := HGL.out; omega) (by omega) w4
            clear hb4 hE1 hE2 hl1 hl2 hg1 hq2 hg0
            go_wp2
            clear hct1 hct2 hct3
            go_roundw
            case rel => exact ⟨k + 1, by omega, by go_num, by rw [HNX.out], HB4.out⟩
            case measure => simp [intOf]; omega
      · obtain rfl : k = rs.length := by omega
        have HE : Hid (sysT p u rs = A) := Lib.hid HA.out
        go_wp2
        go_ret
        exact ⟨ret_str HE.out.symm, HB.out⟩

end Go.Proofs.YtadpnckpgpamiabDoor
