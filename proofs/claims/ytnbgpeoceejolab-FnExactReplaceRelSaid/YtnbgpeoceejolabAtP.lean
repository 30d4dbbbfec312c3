/-
  The values of a tuple at some places: l01At and l01Places of the model, numberAt of the program.
-/
import Derived.Test.YtnbgpeoceejolabGMaps
import Derived.Test.YtnbgpeoceejolabGSet
namespace Go.Proofs.Ytnbgpeoceejolab
open Go.RowKit

def PlP (ps : List Int) (x : Int) : Prop := ∀ k, k < ps.length → 0 ≤ intN ps k ∧ intN ps k < x
theorem PlP.tup {ps : List Int} {x : Int} : PlP ps x ↔ TupP x ps.length ps := ⟨fun h => ⟨rfl, h⟩, fun h => h.2⟩
theorem mapped_place {size ar : Int} {t ps : List Int} (ht : TupP size ar t) (hp : PlP ps ar) : TupP size ps.length (mapped t ps) := by
  refine ⟨by rw [mapped_len], fun k hk => ?_⟩
  rw [mapped_len] at hk
  rw [mapped_at _ _ _ hk]
  have h1 := hp k hk
  have h2 := ht.1
  exact ht.2 _ (by omega)


set_option maxHeartbeats 1000000 in
theorem l01Places (v : Value) (ps : List Int) (x : Int) (b : Bool) (w : World) (h : RowAt w v ps) (h1 : 1 ≤ x) (h2 : x ≤ 4) (hb : Tells b (PlP ps x)) :
    Calls Try.prog 45 #[v, .int .i64 x] w fun e w' => e = .returned (.bool b) ∧ w = w' := by
  obtain ⟨a, c, rfl, hn, hc⟩ := h
  have HC := Lib.hid hc
  have HB := Lib.hid hb
  clear hc hb
  go_enter Try.func45, Try.ntmps45
  go_wp2
  go_loop [5] (fun i => ∃ k : Nat, k ≤ ps.length ∧ i = .int .i64 k ∧ ∀ j, j < k → 0 ≤ intN ps j ∧ intN ps j < x) (fun i => ps.length - (intOf i).toNat)
  case atStart => exact ⟨0, Nat.zero_le _, rfl, fun j hj => absurd hj (Nat.not_lt_zero _)⟩
  case round =>
    obtain ⟨k, hk, rfl, hall⟩ := hrel
    have HA := Lib.hid hall
    clear hall
    by_cases hlt : k < ps.length
    · obtain ⟨b1, off1, ha1, hcell1⟩ := HC.out (by omega)
      subst ha1
      have hx1 := hcell1 k hlt
      have hlt' : (k : Int) < (ps.length : Int) := by omega
      clear hcell1
      by_cases hin : InP (intN ps k) 0 (x - 1)
      · have HI := Lib.hid (Tells.yes hin)
        have HP := Lib.hid hin
        clear hin
        go_wp2_with (go_at_call 51; refine (l00In _ _ _ true _ HI.out).mono ?_; rintro e w' ⟨rfl, rfl⟩)
        go_round
        case rel =>
          refine ⟨k + 1, by omega, by go_num, fun j hj => ?_⟩
          by_cases e : j = k
          · subst e; have := HP.out; unfold InP at this; omega
          · exact HA.out j (by omega)
        case measure => simp [intOf]; omega
      · have HI := Lib.hid (Tells.no hin)
        have HF := Lib.hid (HB.out.is_false fun h => hin (by have := h k hlt; unfold InP; omega))
        clear hin
        go_wp2_with (go_at_call 51; refine (l00In _ _ _ false _ HI.out).mono ?_; rintro e w' ⟨rfl, rfl⟩)
        go_ret
        exact ⟨ret_bool HF.out.symm, rfl⟩
    · obtain rfl : k = ps.length := by omega
      have HF := Lib.hid (HB.out.is_true fun j hj => HA.out j hj)
      go_wp2
      go_ret
      exact ⟨ret_bool HF.out.symm, rfl⟩

end Go.Proofs.Ytnbgpeoceejolab
