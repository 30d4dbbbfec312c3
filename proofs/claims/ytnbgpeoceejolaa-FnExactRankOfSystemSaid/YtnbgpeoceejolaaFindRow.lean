/-
  The search for a row with a number other than 0.
-/
import Derived.Test.YtnbgpeoceejolaaSwap
namespace Go.Proofs.Ytnbgpeoceejolaa
open Go.RowKit

set_option linter.unusedSimpArgs false in
set_option maxHeartbeats 4000000 in
set_option maxRecDepth 100000 in
theorem nonzeroC (ub g fo l k1 c : Nat) (x : Int) (w : World) (hu : w.cell? ⟨ub, 0, none⟩ = some (.int .i64 (c : Int))) (hx : w.cell? ⟨g, fo + c, none⟩ = some (.int .i64 x)) (hc : c < l) :
    Calls Try.prog 186 #[.slice (some ⟨g, fo, none⟩) l k1, .pointer (some ⟨ub, 0, none⟩)] w fun e w' => e = .returned (.bool (x != 0)) ∧ w = w' := by
  have hcl : (c : Int) < (l : Int) := by omega
  go_enter Try.func186, Try.ntmps186
  go_wp2
  go_ret
  exact ⟨rfl, rfl⟩

/-- The first of some rows with a number other than 0, or none. -/
def FoundRow (R : Nat → List Int) (c d n : Nat) (m : Int) : Prop := (m = -1 ∧ ∀ j, d ≤ j → j < n → intN (R j) c = 0) ∨ ∃ k : Nat, d + k < n ∧ m = (k : Int) ∧ intN (R (d + k)) c ≠ 0 ∧ ∀ j, d ≤ j → j < d + k → intN (R j) c = 0

set_option linter.unusedSimpArgs false in
set_option maxHeartbeats 4000000 in
set_option maxRecDepth 100000 in
theorem indexRowC (a : Option Addr) (ub rb g N n l d c k1 q : Nat) (s : Nat → Nat) (p : Int) (F : Nat → Int) (w : World) (h : PRows w rb g N n l s p F) (hu : w.cell? ⟨ub, 0, none⟩ = some (.int .i64 (c : Int))) (hc : c < l) (hd : d + q = n) (hq : q ≤ 1000) (ha : 0 < q → a = some ⟨rb, d, none⟩) :
    Calls Try.prog 185 #[.slice a q k1, .func (.func 186) #[] #[.pointer (some ⟨ub, 0, none⟩)]] w fun e w' => ∃ m : Int, e = .returned (.int .i64 m) ∧ FoundRow (rowAtF F s l) c d n m ∧ w = w' := by
  have HH := Lib.hid h
  clear h
  go_enter Try.func185, Try.ntmps185
  go_wp2
  go_loop [8] (fun i => ∃ k : Nat, k ≤ q ∧ i = .int .i64 k ∧ (∀ j, d ≤ j → j < d + k → intN (rowAtF F s l j) c = 0)) (fun i => q - (intOf i).toNat)
  case atStart => exact ⟨0, Nat.zero_le _, rfl, fun j h1 h2 => by omega⟩
  case round =>
    obtain ⟨k, hk, rfl, hall⟩ := hrel
    have HA := Lib.hid hall
    clear hall
    by_cases hlt : k < q
    · obtain rfl := ha (by omega)
      have e1 := HH.out.at_ (d + k) (by omega)
      have e2 := HH.out.flat.1 (s (d + k) * l + c) (by have := HH.out.fits (i := d + k) (by omega); omega)
      obtain ⟨x, hx⟩ : ∃ x, F (s (d + k) * l + c) = x := ⟨_, rfl⟩
      rw [hx] at e2
      have HX : Hid (intN (rowAtF F s l (d + k)) c = x) := Lib.hid (by rw [rowAtF_at hc]; exact hx)
      have hlt2 : (k : Int) < (q : Int) := by omega
      clear hx
      by_cases hz : x = 0
      · have HZ := Lib.hid hz
        have hzb : (x != 0) = false := by rw [hz]; rfl
        clear hz
        go_wp2_with fail
        refine (nonzeroC ub g (s (d + k) * l) l l c x _ hu e2 hc).mono ?_
        rintro e w2 ⟨rfl, rfl⟩
        go_wp2
        go_round
        case rel =>
          refine ⟨k + 1, by omega, by go_num, fun j h1 h2 => ?_⟩
          by_cases hjk : j = d + k
          · subst hjk; rw [HX.out]; exact HZ.out
          · exact HA.out j h1 (by omega)
        case measure => simp [intOf]; omega
      · have hzb : (x != 0) = true := bne_iff_ne.2 hz
        have HF : Hid (intN (rowAtF F s l (d + k)) c ≠ 0) := Lib.hid (by rw [HX.out]; exact hz)
        clear hz
        go_wp2_with fail
        refine (nonzeroC ub g (s (d + k) * l) l l c x _ hu e2 hc).mono ?_
        rintro e w2 ⟨rfl, rfl⟩
        go_wp2
        go_ret
        exact ⟨_, rfl, .inr ⟨k, by omega, rfl, HF.out, HA.out⟩, rfl⟩
    · obtain rfl : k = q := by omega
      have HF : Hid (∀ j, d ≤ j → j < n → intN (rowAtF F s l j) c = 0) := Lib.hid fun j h1 h2 => HA.out j h1 (by omega)
      go_wp2
      go_ret
      exact ⟨_, rfl, .inl ⟨rfl, HF.out⟩, rfl⟩

end Go.Proofs.Ytnbgpeoceejolaa
