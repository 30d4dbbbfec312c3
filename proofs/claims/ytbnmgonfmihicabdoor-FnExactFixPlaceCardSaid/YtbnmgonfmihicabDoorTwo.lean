/-
  A law's statement that hands copies of two arguments to a function and keeps the relation that it answers in a new box: what holds behind it, whichever order was drawn.
-/
import Derived.Test.YtbnmgonfmihicabDoorGrow
namespace Go.Proofs.YtbnmgonfmihicabDoor
open Go.RowKit

def TwoMade (w : World) (C : List (Addr × Value)) (R : List (World → Prop)) (lo : Nat) (x : Int) (zs : List (List Int)) (cd : Int) (v8 v9 : Value) (wc : World) : Prop :=
  ∃ (bk b0 e0 : Nat) (a : Option Addr) (n c : Nat), v8 = .pointer (some ⟨bk, 0, none⟩) ∧ v9 = .int .i64 cd ∧ Kept w C R wc ∧ RelBox wc bk (.int .i64 x) (.slice a n c) ∧ OwnGrid wc b0 e0 (.slice a n c) zs ∧ lo ≤ bk ∧ lo ≤ b0 ∧ (bk < b0 ∨ e0 ≤ bk)

theorem OwnGrid.away {w : World} {B E : Nat} {v : Value} {xss : List (List Int)} (h : OwnGrid w B E v xss) {p : Addr} (hp : p.block < B ∨ E ≤ p.block) (u : Value) : OwnGrid (w.setCell p u) B E v xss :=
  h.only ((Only.refl (fun k => k = p.block) w).setCell rfl u) fun k h1 h2 e => by omega

/-- The box was made before the call. -/
theorem TwoMade.early {w X wm : World} {C : List (Addr × Value)} {R : List (World → Prop)} {lo : Nat} {x : Int} {zs : List (List Int)} {cd : Int} {b0 e0 : Nat} {a : Option Addr} {n c : Nat} {z0 z1 : Value}
    (hK : Kept w C R X) (hx : Below X.heap.size X wm) (hbox : RelBox wm X.heap.size z0 z1) (ho : OwnGrid wm b0 e0 (.slice a n c) zs) (hlo : lo ≤ X.heap.size) (hb : X.heap.size < b0) :
    TwoMade w C R lo x zs cd (.pointer (some ⟨X.heap.size, 0, none⟩)) (.int .i64 cd) ((wm.setCell ⟨X.heap.size, 0, none⟩ (.int .i64 x)).setCell ⟨X.heap.size, 1, none⟩ (.slice a n c)) :=
  ⟨_, b0, e0, a, n, c, rfl, rfl, hK.below ((hx.setCell (by show X.heap.size ≤ X.heap.size; omega) _).setCell (by show X.heap.size ≤ X.heap.size; omega) _), (hbox.set0 _).set1 _,
    (ho.away (.inl hb) _).away (.inl hb) _, hlo, by omega, .inl hb⟩
/-- It was made behind it. -/
theorem TwoMade.late {w wm : World} {C : List (Addr × Value)} {R : List (World → Prop)} {lo : Nat} {x : Int} {zs : List (List Int)} {cd : Int} {b0 : Nat} {a : Option Addr} {n c : Nat}
    (hK : Kept w C R wm) (ho : OwnGrid wm b0 wm.heap.size (.slice a n c) zs) (hlo : lo ≤ b0) (hb : b0 ≤ wm.heap.size) :
    TwoMade w C R lo x zs cd (.pointer (some ⟨wm.heap.size, 0, none⟩)) (.int .i64 cd) (wm.alloc (.cells #[.int .i64 x, .slice a n c] 27)) :=
  ⟨_, b0, wm.heap.size, a, n, c, rfl, rfl, hK.below ((Below.refl _ _).alloc (Nat.le_refl _) _), RelBox.new _ _ _, ho.below ((Below.refl _ _).alloc (Nat.le_refl _) _), by omega, hlo, .inr (Nat.le_refl _)⟩

end Go.Proofs.YtbnmgonfmihicabDoor
