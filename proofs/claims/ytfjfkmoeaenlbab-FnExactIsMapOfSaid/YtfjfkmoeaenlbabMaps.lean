/-
  Maps of templates in the model: l01Mapped, l01Maps.
-/
import Derived.Test.YtfjfkmoeaenlbabValidT
import Derived.Test.YtfjfkmoeaenlbabHas
import Derived.Test.YtfjfkmoeaenlbabGrow
import Derived.Deep.RegionHeld3
namespace Go.Proofs.Ytfjfkmoeaenlbab
open Go.RowKit

def mapK (to xs : List Int) (k : Nat) : List Int := (List.range k).map fun i => intN to (intN xs i).toNat
def mapped (to xs : List Int) : List Int := mapK to xs xs.length
theorem mapK_len (to xs : List Int) (k : Nat) : (mapK to xs k).length = k := by simp [mapK]
theorem mapK_succ (to xs : List Int) (k : Nat) : (mapK to xs (k + 1)).map (Value.int .i64) = (mapK to xs k).map (Value.int .i64) ++ [.int .i64 (intN to (intN xs k).toNat)] := by simp [mapK, List.range_succ]
theorem mapped_len (to xs : List Int) : (mapped to xs).length = xs.length := mapK_len _ _ _
theorem mapped_at (to xs : List Int) (k : Nat) (h : k < xs.length) : intN (mapped to xs) k = intN to (intN xs k).toNat := by
  rw [intN_at _ _ (by rw [mapped_len]; exact h)]
  simp [mapped, mapK]

theorem info_int' : (Try.prog.info? 2).map (fun i => (i.zero, i.size, i.bytes)) = some (some (.int .i64 0), 1, 8) := by kernel_rfl

set_option maxHeartbeats 1000000 in
theorem l01Mapped (v1 v2 : Value) (xs to : List Int) (w : World) (h1 : RowAt w v1 xs) (h2 : RowAt w v2 to) (hl : xs.length ≤ 4) (hr : ∀ i, i < xs.length → 0 ≤ intN xs i ∧ intN xs i < to.length) :
    Calls Try.prog 35 #[v1, v2] w (fun e w' => ∃ a n c, e = .returned (.slice a n c) ∧ RowAt w' (.slice a n c) (mapped to xs) ∧ Below w.heap.size w w') := by
  obtain ⟨i0, hi, hz0, hz1, hz2⟩ := info_parts info_int'
  obtain ⟨a1, c1, rfl, hn1, hc1⟩ := h1
  obtain ⟨a2, c2, rfl, hn2, hc2⟩ := h2
  have HC1 := Lib.hid hc1
  have HC2 := Lib.hid hc2
  have HR := Lib.hid hr
  clear hc1 hc2 hr
  go_enter Try.func35, Try.ntmps35
  go_wp2
  go_loopw [5, 6] (fun v i wr => ∃ (k : Nat) (a : Option Addr) (n c : Nat), k ≤ xs.length ∧ i = .int .i64 k ∧ v = .slice a n c ∧ wr.ownsRow w.heap.size 2 1 (.slice a n c) k ((mapK to xs k).map (Value.int .i64)) ∧ Below w.heap.size w wr) (fun _ i _ => xs.length - (intOf i).toNat)
  case atStart => exact ⟨0, _, _, _, Nat.zero_le _, rfl, rfl, ownRow_lit w w.heap.size [] (Nat.le_refl _) (by simp), (Below.refl _ _).alloc (Nat.le_refl _) _⟩
  case round =>
    obtain ⟨k, a, n, c, hk, rfl, rfl, hown, hbel⟩ := hrel
    by_cases hlt : k < xs.length
    · obtain ⟨b1, off1, ha1, hcell1⟩ := HC1.out (by omega)
      subst ha1
      obtain ⟨g0, g1⟩ := HR.out k hlt
      obtain ⟨b2, off2, ha2, hcell2⟩ := HC2.out (by omega)
      subst ha2
      have hx1 := below_cell hbel (hcell1 k hlt)
      have hx2 := below_cell hbel (hcell2 (intN xs k).toNat (by omega))
      have hlt' : (k : Int) < (xs.length : Int) := by omega
      have HO := Lib.hid hown
      have HW := Lib.hid hbel
      have hc1 := cell_one_new wr (.int .i64 (intN to (intN xs k).toNat)) 2
      have HC1' := Lib.hid hc1
      clear hcell1 hcell2 hown hbel hc1
      go_wp2_with (at_builtin; refine wpList_append_own _ rfl _ _ 25 rfl w.heap.size 2 i0 (.int .i64 0) 1 8 Try.underlying25 hi hz0 hz1 hz2 rfl (by decide) (.slice a n c) k _ rfl (HO.out.alloc _) ⟨wr.heap.size, 0, none⟩ 1 1 [.int .i64 (intN to (intN xs k).toNat)] rfl rfl HC1'.out (by simp [Value.oneCell']) (by unfold maxLen; omega) (by omega) (by have := HW.out.size; simp; omega) ?_; intro v' w3 hown' hgrow _; obtain ⟨g', c', rfl⟩ := ownsRow_succ hown'; have HG3 := Lib.hid hown'; have HR3 := Lib.hid hgrow; clear hown' hgrow)
      go_roundw
      case rel =>
        refine ⟨k + 1, _, _, _, by omega, by go_num, rfl, ?_, ((HW.out.alloc HW.out.size _).grown HR3.out (by have := HW.out.size; simp; omega) (fun q hq => (HO.out.lt q hq).1))⟩
        rw [mapK_succ]; exact HG3.out
      case measure => simp [intOf]; omega
    · obtain rfl : k = xs.length := by omega
      have HE : Hid (OwnRow wr w.heap.size (.slice a n c) (mapped to xs)) := by
        show World.ownsRow _ _ _ _ _ _ _
        rw [mapped_len]
        exact hown
      have HW := Lib.hid hbel
      clear hown hbel
      go_wp2
      go_ret
      exact ⟨_, _, _, rfl, HE.out.rowAt, HW.out⟩

def MapsP (rs qs : List (Int × List (List Int))) (to : List Int) : Prop := ∀ i, i < rs.length → ∀ j, j < (gridN rs i).length → HasP (gridN qs i) (mapped to (rowN (gridN rs i) j))

theorem lives_rel (b o : Nat) (ar : Int) (xss : List (List Int)) : Lives (fun w => RelAt w b o ar xss) := fun _ _ hb h => h.below hb
theorem two_rel {w w1 : World} {C : List (Addr × Value)} {R : List (World → Prop)} {a b a' b' : Addr} {x y x' y' : Value}
    (h : w1.cell? a = some x ∧ w1.cell? a' = some x' ∧ w1.cell? b = some y ∧ w1.cell? b' = some y' ∧ Kept w C R w1) (i : Nat) {p o : Nat} {ar : Int} {xss : List (List Int)} (hi : R[i]? = some (fun w => RelAt w p o ar xss)) : RelAt w1 p o ar xss := h.2.2.2.2.reads i _ hi
theorem two_row {w w1 : World} {C : List (Addr × Value)} {R : List (World → Prop)} {a b a' b' : Addr} {x y x' y' : Value}
    (h : w1.cell? a = some x ∧ w1.cell? a' = some x' ∧ w1.cell? b = some y ∧ w1.cell? b' = some y' ∧ Kept w C R w1) (i : Nat) {v : Value} {xs : List Int} (hi : R[i]? = some (fun w => RowAt w v xs)) : RowAt w1 v xs := h.2.2.2.2.row i hi

end Go.Proofs.Ytfjfkmoeaenlbab
