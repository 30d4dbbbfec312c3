/-
  The value of a list: ApplyOp of the model and of the program.
-/
import Derived.Test.YtnbgpeoceejolaaOpOk
import Derived.Test.YtnbgpeoceejolaaGSet
namespace Go.Proofs.Ytnbgpeoceejolaa
open Go.RowKit

set_option maxHeartbeats 1000000 in
theorem l01Code (v : Value) (xs : List Int) (ar size : Int) (w : World) (h : RowAt w v xs) (hs : In14 size) (har : In14 ar) (ht : TupP size ar xs) :
    Calls Try.prog 177 #[.int .i64 size, v] w fun e w' => e = .returned (.int .i64 (codeN size xs : Int)) ∧ w = w' := by
  rw [← codeN_cast ht hs har]
  obtain ⟨a, c, rfl, hn, hc⟩ := h
  have HC := Lib.hid hc
  have HT := Lib.hid ht
  have h1 : 1 ≤ size := hs.1
  have h2 : size ≤ 4 := hs.2
  have hlen := ht.len har
  clear hc ht hs har
  go_enter Try.func177, Try.ntmps177
  go_wp2
  go_loop [5, 6] (fun m i => ∃ k : Nat, k ≤ xs.length ∧ i = .int .i64 k ∧ m = .int .i64 (codeK size xs k)) (fun _ i => xs.length - (intOf i).toNat)
  case atStart => exact ⟨0, Nat.zero_le _, rfl, rfl⟩
  case round =>
    obtain ⟨k, hk, rfl, rfl⟩ := hrel
    by_cases hlt : k < xs.length
    · obtain ⟨b1, off1, ha1, hcell1⟩ := HC.out (by omega)
      subst ha1
      have hx1 := hcell1 k hlt
      have hlt' : (k : Int) < (xs.length : Int) := by omega
      obtain ⟨r0, r1⟩ := codeK_lt h1 h2 k (by omega) fun j hj => HT.out.2 j (by omega)
      obtain ⟨g0, g1⟩ := HT.out.2 k hlt
      have hm0 : 0 ≤ codeK size xs k * size := Int.mul_nonneg r0 (by omega)
      have hm1 : codeK size xs k * size ≤ 1024 := by
        have : codeK size xs k * size ≤ codeK size xs k * 4 := Int.mul_le_mul_of_nonneg_left h2 r0
        omega
      clear hcell1
      go_wp2
      go_round
      case rel => exact ⟨k + 1, by omega, by go_num, rfl⟩
      case measure => simp [intOf]; omega
    · obtain rfl : k = xs.length := by omega
      go_wp2
      go_ret
      exact ⟨rfl, rfl⟩

/-- What ApplyOp answers. -/
def ApplyOpIs (size ar : Int) (tab : List Int) (xs : List Int) (v cd : Int) : Prop :=
  (¬ OpOk size ar tab ∧ v = 0 ∧ cd = 1) ∨ (OpOk size ar tab ∧ ¬ TupP size ar xs ∧ v = 0 ∧ cd = 2) ∨ (OpOk size ar tab ∧ TupP size ar xs ∧ v = intN tab (codeN size xs) ∧ cd = 0)
theorem ApplyOpIs.exists (size ar : Int) (tab : List Int) (xs : List Int) : ∃ v cd, ApplyOpIs size ar tab xs v cd := by
  by_cases h : OpOk size ar tab
  · by_cases k : TupP size ar xs
    · exact ⟨_, _, .inr (.inr ⟨h, k, rfl, rfl⟩)⟩
    · exact ⟨_, _, .inr (.inl ⟨h, k, rfl, rfl⟩)⟩
  · exact ⟨_, _, .inl ⟨h, rfl, rfl⟩⟩

theorem In13.in14 {n : Int} (h : In13 n) : In14 n := ⟨h.1, by have := h.2; omega⟩

/-- The number of a list lies in the table. -/
theorem OpOk.lt {size ar : Int} {tab xs : List Int} (h : OpOk size ar tab) (k : TupP size ar xs) : codeN size xs < tab.length := by
  obtain ⟨hs, ha, ht⟩ := h
  obtain ⟨s, rfl⟩ : ∃ s : Nat, size = s := ⟨size.toNat, by have := hs.1; omega⟩
  obtain ⟨r, rfl⟩ : ∃ r : Nat, ar = r := ⟨ar.toNat, by have := ha.1; omega⟩
  have h1 : 1 ≤ s := by have := hs.1; omega
  have h2 := codeN_pow h1 k
  have h3 := ht.1
  simp only [Int.toNat_natCast] at h3
  omega

theorem SlAt.some_of {w : World} {a : Option Addr} {n c : Nat} {xs : List Int} (h : RowAt w (.slice a n c) xs) (k : Nat) (hk : k < xs.length) :
    ∃ b off, a = some ⟨b, off, none⟩ ∧ n = xs.length ∧ w.cell? ⟨b, off + k, none⟩ = some (.int .i64 (intN xs k)) := by
  obtain ⟨a', c', hv, hn, hc⟩ := h
  simp only [Value.slice.injEq] at hv
  obtain ⟨rfl, rfl, rfl⟩ := hv
  obtain ⟨b, off, ha, h⟩ := hc (by omega)
  exact ⟨b, off, ha, rfl, h k hk⟩

theorem numberOfN (v : Value) (xs : List Int) (ar size : Int) (m : Nat) (w : World) (h : RowAt w v xs) (hs : In14 size) (har : In14 ar) (ht : TupP size ar xs) (hm : codeN size xs = m) :
    Calls Try.prog 181 #[.int .i64 size, v] w fun e w' => e = .returned (.int .i64 (m : Int)) ∧ w = w' := hm ▸ numberOf' v xs ar size w h hs har ht

theorem l01CodeN (v : Value) (xs : List Int) (ar size : Int) (m : Nat) (w : World) (h : RowAt w v xs) (hs : In14 size) (har : In14 ar) (ht : TupP size ar xs) (hm : codeN size xs = m) :
    Calls Try.prog 177 #[.int .i64 size, v] w fun e w' => e = .returned (.int .i64 (m : Int)) ∧ w = w' := hm ▸ l01Code v xs ar size w h hs har ht

set_option maxHeartbeats 1000000 in
set_option maxRecDepth 100000 in
theorem l02Value (size ar : Int) (pb po : Nat) (tab : List Int) (v : Value) (xs : List Int) (w : World) (h : OpAt w pb po ar tab) (hv : RowAt w v xs) (ho : OpOk size ar tab) (ht : TupP size ar xs) :
    Calls Try.prog 204 #[.int .i64 size, .pointer (some ⟨pb, po, none⟩), v] w fun e w' => e = .returned (.int .i64 (intN tab (codeN size xs))) ∧ QW w w' := by
  obtain ⟨hp0, a, n, c, hp1, hr⟩ := h
  have hlt := ho.lt ht
  generalize hcd : codeN size xs = m at *
  obtain ⟨b, off, rfl, rfl, hcell⟩ := SlAt.some_of hr m hlt
  have HV := Lib.hid hv
  have HS := Lib.hid ho.1
  have HA := Lib.hid ho.2.1.in14
  have HX := Lib.hid ht
  have HCD := Lib.hid hcd
  have hltI : (m : Int) < (tab.length : Int) := by omega
  have hn : tab.length ≤ 9223372036854775807 := by obtain ⟨_, _, hv, hn, _⟩ := hr; exact hn
  clear hr hv ho ht hcd
  go_enter Try.func204, Try.ntmps204
  go_wp2
  go_quiet ((go_at_call 177; exact QW.calls_same (l01CodeN _ _ _ _ _ _ (((QW.refl _).drewN _).row HV.out) HS.out HA.out HX.out HCD.out)))
  go_wp2
  go_ret
  exact ⟨rfl, (QW.refl _).drewN _⟩

end Go.Proofs.Ytnbgpeoceejolaa
