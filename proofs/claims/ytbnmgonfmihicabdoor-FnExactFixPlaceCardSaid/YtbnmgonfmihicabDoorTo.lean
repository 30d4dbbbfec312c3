/-
  The laws' copies of an argument: toInt64S, toInt64SS, toRel: rows in memory of their own.
-/
import Derived.Test.YtbnmgonfmihicabDoorProg
import Derived.Test.YtbnmgonfmihicabDoorOwn
import Derived.Deep.RegionHeld3
import Derived.Deep.QuietTactic
import Derived.BigQuiet
namespace Go.Proofs.YtbnmgonfmihicabDoor
open Go.RowKit

theorem info_int : (Tryd.prog.info? 2).map (fun i => (i.zero, i.size, i.bytes)) = some (some (.int .i64 0), 1, 8) := by kernel_rfl
theorem info_row : (Tryd.prog.info? 25).map (fun i => (i.zero, i.size, i.bytes)) = some (some (.slice none 0 0), 1, 24) := by kernel_rfl

/-- A row of its own, made by the call; nothing that was there has turned. -/
def MadeRow (w : World) (xs : List Int) (e : Ending) (w' : World) : Prop := ∃ a n c, e = .returned (.slice a n c) ∧ OwnRow w' w.heap.size (.slice a n c) xs ∧ Below w.heap.size w w'

set_option maxHeartbeats 400000 in
theorem toRow (v : Value) (xs : List Int) (w : World) (h : RowAt w v xs) (hl : xs.length ≤ 1048576) :
    Calls Tryd.prog 11 #[v] w (MadeRow w xs) := by
  obtain ⟨a, c, rfl, hn, hc⟩ := h
  obtain ⟨i0, hi, hz0, hz1, hz2⟩ := info_parts info_int
  have HC := Lib.hid hc
  clear hc
  go_enter Tryd.func11, Tryd.ntmps11
  go_wp2_with (at_make; refine wpList_make_full _ rfl _ _ 25 rfl w.heap.size 2 i0 (.int .i64 0) 1 Tryd.underlying25 hi hz0 hz1 .i64 .i64 _ _ xs.length rfl rfl rfl rfl (by rw [hz2]; omega) (by unfold maxLen; omega) (Nat.le_refl _) ?_; intro w1 hown hgrow)
  have hu := upto_zero xs.length (fun i => .int .i64 (intN xs i)) (.int .i64 0)
  have hown0 : w1.ownsRow w.heap.size 2 1 (.slice (some ⟨w.heap.size, 0, none⟩) xs.length xs.length) xs.length (upto xs.length 0 (fun i => .int .i64 (intN xs i)) (.int .i64 0)) := by
    rw [hu, ← toList_madeCells_one]
    simpa [Value.cells] using hown
  have hb0 : Below w.heap.size w w1 := (Below.refl _ _).grown hgrow (Nat.le_refl _) (fun _ h => by simp at h)
  clear hu hown hgrow
  go_loopw [4] (fun i wr => ∃ k : Nat, k ≤ xs.length ∧ i = .int .i64 k ∧ wr.ownsRow w.heap.size 2 1 (.slice (some ⟨w.heap.size, 0, none⟩) xs.length xs.length) xs.length (upto xs.length k (fun i => .int .i64 (intN xs i)) (.int .i64 0)) ∧ Below w.heap.size w wr) (fun i _ => xs.length - (intOf i).toNat)
  case atStart => exact ⟨0, Nat.zero_le _, rfl, hown0, hb0⟩
  case round =>
    obtain ⟨k, hk, rfl, hown, hbel⟩ := hrel
    by_cases hlt : k < xs.length
    · obtain ⟨b, off, ha, hcell⟩ := HC.out (by omega)
      subst ha
      have hc1 := below_cell hbel (hcell k hlt)
      have hc2 := hown.cellAt k (by omega)
      rw [upto_at _ _ _ _ _ hlt, if_neg (by omega)] at hc2
      have hf2 := hown.frozenAt k
      have hst := Lib.hid (hown.stored k (.int .i64 (intN xs k)))
      have hbl := Lib.hid hbel
      clear hcell hown hbel hown0 hb0
      go_wp2
      go_roundw
      case rel => exact ⟨k + 1, by omega, by go_num, by have h := hst.out.1; rwa [upto_set _ _ _ _ _ rfl] at h, hbl.out.setCell (Nat.le_refl _) _⟩
      case measure => simp [intOf]; omega
    · obtain rfl : k = xs.length := by omega
      clear hown0 hb0
      rw [upto_all, ← ints_range] at hown
      have H := Lib.hid hown
      have HB := Lib.hid hbel
      clear hown hbel
      go_wp2
      go_ret
      exact ⟨_, _, _, rfl, H.out, HB.out⟩

/-- A grid of which k rows are made. -/
structure GridPart (w wr : World) (n k : Nat) (U : Nat → Value) (xss : List (List Int)) : Prop where
  outer : wr.ownsRow w.heap.size 25 1 (.slice (some ⟨w.heap.size, 0, none⟩) n n) n (upto n k U (.slice none 0 0))
  rows : ∀ i, i < k → OwnRow wr (w.heap.size + 1) (U i) (rowN xss i)
  apart : ∀ i j, i < j → j < k → ∀ g, (U i).ownBlock = some g → (U j).ownBlock ≠ some g
  below : Below w.heap.size w wr
  size : w.heap.size + 1 ≤ wr.heap.size

theorem GridPart.step {w wr w2 : World} {n k : Nat} {U : Nat → Value} {xss : List (List Int)} {v : Value} (h : GridPart w wr n k U xss)
    (ho : OwnRow w2 wr.heap.size v (rowN xss k)) (hb : Below wr.heap.size wr w2) :
    GridPart w (w2.setCell ⟨w.heap.size, k, none⟩ v) n (k + 1) (fun i => if i = k then v else U i) xss := by
  have hs := hb.size
  have h1 := (ownsRow_below h.outer hb).stored k v
  have hU : upto n k U (.slice none 0 0) = upto n k (fun i => if i = k then v else U i) (.slice none 0 0) := upto_congr fun i hi => by rw [if_neg (by omega)]
  refine ⟨?_, ?_, ?_, ?_, ?_⟩
  · have := h1.1
    rwa [hU, upto_set _ _ _ _ _ (by simp)] at this
  · intro i hi
    have hk : ∀ (u : Value) (B : Nat) (ys : List Int), OwnRow w2 B u ys → w.heap.size + 1 ≤ B → OwnRow (w2.setCell ⟨w.heap.size, k, none⟩ v) (w.heap.size + 1) u ys := by
      intro u B ys hu hB
      refine OwnRow.mono (ownsRow_same hu fun g hg => ?_) hB
      have := (hu.lt g hg).1
      exact Below.heap_setCell _ _ _ _ (by show g ≠ w.heap.size; omega)
    by_cases hik : i = k
    · subst hik
      simp only [if_true]
      exact hk _ _ _ ho h.size
    · simp only [if_neg hik]
      exact hk _ _ _ ((h.rows i (by omega)).below hb) (Nat.le_refl _)
  · intro i j hij hj g hg
    by_cases hjk : j = k
    · subst hjk
      simp only [show ¬ i = j by omega, if_false, if_true] at hg ⊢
      intro hg2
      have a1 := ((h.rows i hij).lt g hg).2
      have a2 := (ho.lt g hg2).1
      omega
    · simp only [show ¬ i = k by omega, hjk, if_false] at hg ⊢
      exact h.apart i j hij (by omega) g hg
  · exact (h.below.trans (hb.mono (by have := h.size; omega))).setCell (Nat.le_refl _) _
  · have := h.size
    simp [World.setCell]
    omega

theorem GridPart.grid {w wr : World} {U : Nat → Value} {xss : List (List Int)} (h : GridPart w wr xss.length xss.length U xss) :
    OwnGrid wr w.heap.size wr.heap.size (.slice (some ⟨w.heap.size, 0, none⟩) xss.length xss.length) xss := by
  have ho := h.outer
  rw [upto_all] at ho
  exact ⟨U, ho, Nat.le_refl _, fun g hg => (ho.lt g hg).2, fun i hi => (h.rows i hi).mono (by omega), fun i hi g hg => ((h.rows i hi).lt g hg).2, h.apart⟩

theorem row_len_le (xss : List (List Int)) (k : Nat) (h : k < xss.length) : xss.length + (rowN xss k).length ≤ xss.length + (xss.map List.length).sum := by
  rw [rowN_at xss k h]
  have h1 : xss.map List.length = (xss.map List.length).take k ++ xss[k].length :: (xss.map List.length).drop (k + 1) := by
    have := List.take_append_drop k (xss.map List.length)
    rw [List.drop_eq_getElem_cons (by simpa using h)] at this
    simpa using this.symm
  rw [h1, List.sum_append, List.sum_cons]
  omega

/-- A grid of its own, made by the call; nothing that was there has turned. -/
def MadeGrid (w : World) (xss : List (List Int)) (e : Ending) (w' : World) : Prop := ∃ a n c, e = .returned (.slice a n c) ∧ OwnGrid w' w.heap.size w'.heap.size (.slice a n c) xss ∧ Below w.heap.size w w'

set_option maxHeartbeats 400000 in
theorem toGrid (v : Value) (xss : List (List Int)) (w : World) (h : GridAt w v xss) (hl : xss.length + (xss.map List.length).sum ≤ 1048576) :
    Calls Tryd.prog 31 #[v] w (MadeGrid w xss) := by
  obtain ⟨V, ⟨a, c, rfl, hn, hc⟩, hV⟩ := h
  obtain ⟨i0, hi, hz0, hz1, hz2⟩ := info_parts info_row
  have HC := Lib.hid hc
  have HV := Lib.hid hV
  clear hc hV
  go_enter Tryd.func31, Tryd.ntmps31
  go_wp2_with (at_make; refine wpList_make_full _ rfl _ _ 22 rfl w.heap.size 25 i0 (.slice none 0 0) 1 Tryd.underlying22 hi hz0 hz1 .i64 .i64 _ _ xss.length rfl rfl rfl rfl (by rw [hz2]; omega) (by unfold maxLen; omega) (Nat.le_refl _) ?_; intro w1 hown hgrow)
  have hp0 : GridPart w w1 xss.length 0 (fun _ => .slice none 0 0) xss := by
    refine ⟨?_, fun i hi => absurd hi (by omega), fun i j _ hj => absurd hj (by omega), (Below.refl _ _).grown hgrow (Nat.le_refl _) (fun _ h => by simp at h), ?_⟩
    · rw [upto_zero, ← toList_madeCells_one]
      simpa [Value.cells] using hown
    · exact (hown.lt _ rfl).2
  clear hown hgrow
  go_loopw [4] (fun i wr => ∃ (k : Nat) (U : Nat → Value), k ≤ xss.length ∧ i = .int .i64 k ∧ GridPart w wr xss.length k U xss) (fun i _ => xss.length - (intOf i).toNat)
  case atStart => exact ⟨0, _, Nat.zero_le _, rfl, hp0⟩
  case round =>
    obtain ⟨k, U, hk, rfl, hp⟩ := hrel
    clear hp0
    by_cases hlt : k < xss.length
    · obtain ⟨b, off, ha, hcell⟩ := HC.out (by omega)
      subst ha
      have hc1 := below_cell hp.below (hcell k hlt)
      have hrow := Lib.hid ((HV.out k hlt).below hp.below)
      have hlen := row_len_le xss k hlt
      have HP := Lib.hid hp
      clear hcell hp
      go_wp2_with fail
      refine (toRow _ _ _ hrow.out (by omega)).mono ?_
      rintro e w2 ⟨a2, n2, c2, rfl, ho, hb2⟩
      have hst := HP.out.step ho hb2
      have hown := ownsRow_below HP.out.outer hb2
      have hc2 := hown.cellAt k (by omega)
      rw [upto_at _ _ _ _ _ hlt, if_neg (by omega)] at hc2
      have hf2 := hown.frozenAt k
      have HS := Lib.hid hst
      clear hown hst ho hb2
      go_wp2
      go_roundw
      case rel => exact ⟨k + 1, _, by omega, by go_num, HS.out⟩
      case measure => simp [intOf]; omega
    · obtain rfl : k = xss.length := by omega
      have HP := Lib.hid hp
      clear hp
      go_wp2
      go_ret
      exact ⟨_, _, _, rfl, HP.out.grid, HP.out.below⟩

theorem OwnGrid.mono {w : World} {B B' E : Nat} {v : Value} {xss : List (List Int)} (h : OwnGrid w B E v xss) (hB : B' ≤ B) : OwnGrid w B' E v xss := by
  obtain ⟨V, h⟩ := h
  exact ⟨V, ownsRow_mono h.outer hB, h.le, h.top, fun i hi => (h.rows i hi).mono hB, h.hi, h.apart⟩

theorem OwnGrid.block {w w' : World} {B E : Nat} {v : Value} {xss : List (List Int)} (h : OwnGrid w B E v xss) (hs : w.heap.size ≤ w'.heap.size) (hg : ∀ g, B ≤ g → w'.heap[g]? = w.heap[g]?) : OwnGrid w' B E v xss := by
  obtain ⟨V, h⟩ := h
  exact ⟨V, ownsRow_same h.outer fun g hv => hg g (h.outer.lt g hv).1, Nat.le_trans h.le hs, h.top, fun i hi => ownsRow_same (h.rows i hi) fun g hv => hg g ((h.rows i hi).lt g hv).1, h.hi, h.apart⟩

theorem OwnGrid.stored {w : World} {B E : Nat} {v : Value} {xss : List (List Int)} (h : OwnGrid w B E v xss) {p : Addr} (hp : p.block < B) (u : Value) : OwnGrid (w.setCell p u) B E v xss :=
  h.block (by simp [World.setCell]) fun _ hg => Below.heap_setCell _ _ _ _ (by omega)

theorem OwnGrid.full {w : World} {B E : Nat} {v : Value} {xss : List (List Int)} (h : OwnGrid w B E v xss) : OwnGrid w B w.heap.size v xss := by
  obtain ⟨V, h⟩ := h
  exact ⟨V, h.outer, Nat.le_refl _, fun g hg => (h.outer.lt g hg).2, h.rows, fun i hi g hg => ((h.rows i hi).lt g hg).2, h.apart⟩

/-- A relation of its own. -/
def MadeRel (w : World) (ar : Int) (xss : List (List Int)) (e : Ending) (w' : World) : Prop :=
  ∃ a n c, e = .returned (.agg #[.int .i64 ar, .slice a n c]) ∧ OwnGrid w' w.heap.size w'.heap.size (.slice a n c) xss ∧ Below w.heap.size w w'

set_option maxHeartbeats 400000 in
theorem toRel (ar : Int) (a : Option Addr) (n c : Nat) (xss : List (List Int)) (w : World) (h : GridAt w (.slice a n c) xss) (hl : xss.length + (xss.map List.length).sum ≤ 1048576) :
    Calls Tryd.prog 10 #[.agg #[.int .i64 ar, .slice a n c]] w (MadeRel w ar xss) := by
  have hH := Lib.hid h
  clear h
  go_enter Tryd.func10, Tryd.ntmps10
  go_wp2_with fail
  refine (toGrid _ _ _ (hH.out.below ((((Below.refl _ _).alloc (Nat.le_refl _) _).alloc (by simp) _).alloc (by simp; omega) _)) hl).mono ?_
  rintro e w2 ⟨a2, n2, c2, rfl, ho, hb2⟩
  obtain ⟨hc, hf⟩ := bcell hb2
  have hz : w.heap.size + 3 ≤ w2.heap.size := by have := hb2.size; simp at this; omega
  have HO := Lib.hid ho
  have HB := Lib.hid hb2
  clear ho hb2
  go_wp2
  refine bodyPost_ret (v := .agg #[.int .i64 ar, .slice a2 n2 c2]) (by simp [results, Tryd.results10, go_sem, hc]) rfl ⟨a2, n2, c2, rfl, ?_, ?_⟩
  · exact ((((HO.out.stored (by simp) _).stored (by simp) _).stored (by simp) _).mono (by simp; omega)).full
  · exact ((((((((Below.refl _ _).alloc (Nat.le_refl _) _).alloc (by simp) _).alloc (by simp; omega) _).trans (HB.out.mono (by simp; omega))).setCell (by simp; omega) _).setCell (by simp) _).setCell (by simp) _)

end Go.Proofs.YtbnmgonfmihicabDoor
