/-
  The laws' marks of templates.
-/
import Derived.Test.YtnbgpeoceejolabOwnRels
namespace Go.Proofs.Ytnbgpeoceejolab
open Go.RowKit

set_option maxHeartbeats 1000000 in
theorem markTemplate (B E : Nat) (sz : Int) (a : Option Addr) (n c : Nat) (rs : List (Int × List (List Int))) (k0 : Int) (w : World) (h : OwnRels w B E (.slice a n c) rs) (hk0 : 0 ≤ k0) (hk1 : k0 + offR rs rs.length ≤ 1000000000000) :
    Calls Try.prog 14 #[.agg #[.int .i64 sz, .slice a n c], .int .i64 k0] w fun e w' => e = .returned (.int .i64 (k0 + offR rs rs.length)) ∧ OwnRels w' B E (.slice a n c) (marksR k0 rs) ∧ Only (fun g => B ≤ g ∧ g < E) w w' := by
  have hbw : Below w.heap.size w (w.alloc (.cells #[.int .i64 sz, .slice a n c] 37)) := (Below.refl _ _).alloc (Nat.le_refl _) _
  have H := Lib.hid (h.below hbw)
  have HN : Hid (Only (fun g => B ≤ g ∧ g < E) w (w.alloc (.cells #[.int .i64 sz, .slice a n c] 37))) := ⟨rfl, rfl, rfl, by simp, fun k hk _ => Below.heap_alloc _ _ _ hk⟩
  clear h hbw
  go_enter Try.func14, Try.ntmps14
  go_wp2_with fail
  refine (markRelS B E _ _ _ _ H.out hk0 hk1).mono ?_
  rintro e w2 ⟨rfl, ho2, hn2⟩
  have HO := Lib.hid ho2
  have HN2 := Lib.hid (HN.out.trans hn2)
  clear ho2 hn2
  go_wp2
  go_ret
  exact ⟨rfl, HO.out, HN2.out⟩

end Go.Proofs.Ytnbgpeoceejolab
