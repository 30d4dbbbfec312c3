/-
  The relation of equal values: EqualRel of the model and of the program.
-/
import Derived.Test.YtjkbffoaenhhgaaDoorGBase
import Derived.Test.YtjkbffoaenhhgaaDoorGRel
namespace Go.Proofs.YtjkbffoaenhhgaaDoor
open Go.RowKit

def eqRows (n : Nat) : List (List Int) := (List.range n).map fun (i : Nat) => [(i : Int), (i : Int)]
theorem eqRows_length (n : Nat) : (eqRows n).length = n := by simp [eqRows]
theorem eqRows_at (n i : Nat) (h : i < n) : rowN (eqRows n) i = [(i : Int), (i : Int)] := by
  rw [rowN_at _ _ (by rw [eqRows_length]; exact h)]
  simp [eqRows]

set_option maxHeartbeats 1000000 in
set_option maxRecDepth 100000 in
theorem implEqualRel (size : Nat) (h1 : 1 ≤ size) (hs : size ≤ 4) (w : World) :
    Calls Tryd.prog 17 #[.int .i64 size] w (MadeRel2 w 2 (eqRows size) 0) := by
  obtain ⟨i0, hi, hz0, hz1, hz2⟩ := info_parts info_row
  go_enter Tryd.func17, Tryd.ntmps17
  go_wp2_with (go_at_call 38; refine (isSize _ true _ (Tells.yes ⟨by omega, by omega⟩)).mono ?_; rintro e w' ⟨rfl, rfl⟩)
  go_loopw [12] (fun i wr => ∃ (k : Nat) (a : Option Addr) (n c : Nat) (V : Nat → Value), k ≤ size ∧ i = .int .i64 k ∧ RelBox wr (w.heap.size + 1) (.int .i64 2) (.slice a n c) ∧ RelBox wr w.heap.size (.int .i64 0) (.slice none 0 0) ∧ OwnGridV wr (w.heap.size + 2) wr.heap.size (.slice a n c) k V (fun i => [(i : Int), (i : Int)]) ∧ Below w.heap.size w wr ∧ w.heap.size + 2 ≤ wr.heap.size) (fun i _ => size - (intOf i).toNat)
  case atStart =>
    refine ⟨0, none, 0, 0, fun _ => .slice none 0 0, by omega, rfl, ?_, (RelBox.new w _ _).alloc _, ?_, ((Below.refl _ _).alloc (Nat.le_refl _) _).alloc (by simp) _, by simp⟩
    · have := RelBox.new (w.alloc (.cells #[.int .i64 0, .slice none 0 0] 27)) (.int .i64 2) (.slice none 0 0)
      rw [World.size_alloc] at this
      exact this
    · exact OwnGridV.none _ _ _ _
  case round =>
    obtain ⟨k, a, n, c, V, hk, rfl, hb1, hb0, hgr, hbel, hsz⟩ := hrel
    by_cases hlt : k < size
    · have c1 := hb1.c1
      have hlt' : (k : Int) < (size : Int) := by omega
      have f1 := hb1.free 1
      have HG := Lib.hid hgr
      have HB0 := Lib.hid hb0
      have HB1 := Lib.hid hb1
      have HW := Lib.hid hbel
      clear hgr hb0 hb1 hbel
      have hc1 := cell_one_new (wr.alloc (.cells #[.int .i64 k, .int .i64 k] 2)) (.slice (some ⟨wr.heap.size, 0, none⟩) 2 2) 29
      rw [World.size_alloc] at hc1
      have HC1 := Lib.hid hc1
      have HFAR := Lib.hid (HG.out.far (w.heap.size + 1) (by omega))
      have HFAR0 := Lib.hid (HG.out.far w.heap.size (by omega))
      clear hc1
      go_wp2_with (at_builtin; refine wpList_append_own _ rfl _ _ 25 rfl (w.heap.size + 2) 29 i0 (.slice none 0 0) 1 24 Tryd.underlying25 hi hz0 hz1 hz2 rfl (by decide) (.slice a n c) k _ rfl ((HG.out.outer.alloc _).alloc _) ⟨wr.heap.size + 1, 0, none⟩ 1 1 [.slice (some ⟨wr.heap.size, 0, none⟩) 2 2] rfl rfl HC1.out (by simp [Value.oneCell']) (by unfold maxLen; omega) (by omega) (by simp; omega) ?_; intro v' w3 hown' hgrow _; obtain ⟨g', c', rfl⟩ := ownsRow_succ hown'; have HG3 := Lib.hid hown'; have HR3 := Lib.hid hgrow; have hb3 := ((HB1.out.alloc _).alloc _).grown hgrow HFAR.out; have e1 := hb3.c1; have e2 := hb3.free 1; have HB3 := Lib.hid hb3; clear hown' hgrow hb3)
      go_roundw
      case rel =>
        have hlit : OwnRow (wr.alloc (.cells #[.int .i64 k, .int .i64 k] 2)) wr.heap.size (.slice (some ⟨wr.heap.size, 0, none⟩) 2 2) [(k : Int), (k : Int)] := ownRow_lit wr wr.heap.size [(k : Int), (k : Int)] (Nat.le_refl _) (by simp)
        have hb2 : Below wr.heap.size wr ((wr.alloc (.cells #[.int .i64 k, .int .i64 k] 2)).alloc (.cells #[.slice (some ⟨wr.heap.size, 0, none⟩) 2 2] 29)) := ((Below.refl _ _).alloc (Nat.le_refl _) _).alloc (by simp) _
        have hg := HG.out.grow hb2 (hlit.below ((Below.refl _ _).alloc (Nat.le_refl _) _)) hsz HG3.out HR3.out
        have hw3 := ((HW.out.trans (hb2.mono HW.out.size)).grown HR3.out (by simp; omega) (fun q hq => by have := (HG.out.outer.lt q hq).1; omega))
        have hs3 : wr.heap.size + 2 ≤ w3.heap.size := by have := HR3.out.size; simp at this; omega
        refine ⟨k + 1, some ⟨g', 0, none⟩, k + 1, c', _, by omega, by go_num, HB3.out.set1 _, (((HB0.out.alloc _).alloc _).grown HR3.out HFAR0.out).other (by simp) _, ((hg.same (by simp) fun g hg _ => Below.heap_setCell _ _ _ _ (by simp; omega)).full).congr fun i hi => ?_, hw3.setCell (by simp) _, by simp; omega⟩
        by_cases hik : i = k
        · subst hik; simp
        · simp [hik]
      case measure => simp [intOf]; omega
    · obtain rfl : k = size := by omega
      have c0 := hb1.c0
      have c1 := hb1.c1
      have d0 := hb0.c0
      have d1 := hb0.c1
      have f0 := hb0.free 0
      have f1 := hb0.free 1
      have HE : Hid (OwnGrid wr (w.heap.size + 2) wr.heap.size (.slice a n c) (eqRows k)) := by
        refine ⟨V, ?_⟩
        rw [eqRows_length]
        exact hgr.congr fun i hi => by rw [eqRows_at k i hi]
      have HW := Lib.hid hbel
      clear hb1 hb0 hgr hbel
      go_wp2
      refine bodyPost_ret (v := .tuple #[.agg #[.int .i64 2, .slice a n c], .int .i64 0]) (by simp [results, Tryd.results17, go_sem, d0, d1]) rfl ⟨a, n, c, rfl, ?_, ?_⟩
      · exact (((HE.out.stored (by simp) _).stored (by simp) _).mono (by omega)).full
      · exact (HW.out.setCell (by simp) _).setCell (by simp) _

set_option maxHeartbeats 1000000 in
theorem implEqualRel_no (size : Int) (h : ¬ In14 size) (w : World) :
    Calls Tryd.prog 17 #[.int .i64 size] w (MadeRel2 w 0 [] 1) := by
  have HT := Lib.hid (Tells.no h)
  clear h
  go_enter Tryd.func17, Tryd.ntmps17
  go_wp2_with (go_at_call 38; refine (isSize _ false _ HT.out).mono ?_; rintro e w' ⟨rfl, rfl⟩)
  refine bodyPost_ret (v := .tuple #[.agg #[.int .i64 0, .slice none 0 0], .int .i64 1]) (by simp [results, Tryd.results17, go_sem]) rfl ⟨none, 0, 0, rfl, ?_, ?_⟩
  · exact OwnGrid.nil _ _ _ (Nat.le_refl _)
  · exact (Below.refl _ _).alloc (Nat.le_refl _) _

end Go.Proofs.YtjkbffoaenhhgaaDoor
