/-
  The tuple with a number: tupleOf of the program.
-/
import Derived.Test.YtnbgpeoceejolaaPlaces
namespace Go.Proofs.Ytnbgpeoceejolaa
open Go.RowKit
attribute [local go_sem] Oper.semAt_some

/-- A row whose places of a list hold the digits, the others 0. -/
def rowP (size ar num : Nat) (pre : List Nat) : List Value := (List.range ar).map fun i => if i ∈ pre.map (· % ar) then .int .i64 (digN size ar num i : Int) else .int .i64 0
theorem rowP_nil (size ar num : Nat) : rowP size ar num [] = List.replicate ar (.int .i64 0) := by
  apply List.ext_getElem?
  intro j
  by_cases h : j < ar <;> simp [rowP, h]
theorem rowP_all (size ar num : Nat) : rowP size ar num (List.range ar) = (digs size ar num).map (Value.int .i64) := by
  unfold rowP digs
  rw [List.map_map]
  refine List.map_congr_left fun i hi => ?_
  have h := List.mem_range.1 hi
  rw [if_pos]
  · rfl
  · exact List.mem_map.2 ⟨i, hi, Nat.mod_eq_of_lt h⟩
theorem rowP_set (size ar num : Nat) (pre : List Nat) (j : Nat) (h0 : 0 < ar) : (rowP size ar num pre).set (j % ar) (.int .i64 (digN size ar num (j % ar) : Int)) = rowP size ar num (pre ++ [j]) := by
  have hlt := Nat.mod_lt j h0
  unfold rowP
  apply List.ext_getElem?
  intro i
  rw [List.getElem?_set]
  by_cases hi : j % ar = i
  · subst hi
    simp [hlt]
  · rw [if_neg hi]
    by_cases h : i < ar
    · have he : i ∈ (pre ++ [j]).map (· % ar) ↔ i ∈ pre.map (· % ar) := by
        simp only [List.map_append, List.map_cons, List.map_nil, List.mem_append, List.mem_singleton]
        exact ⟨fun h => h.resolve_right fun e => hi e.symm, .inl⟩
      simp only [List.getElem?_map, List.getElem?_range h, Option.map_some, he]
    · simp [h]

theorem ownsRow_alloc_new (w : World) (B : Nat) (xs : List Value) (n : Nat) (hB : B ≤ w.heap.size) (hl : xs.length = n) (hn : n ≤ 1000000) :
    (w.alloc (.cells xs.toArray 2)).ownsRow B 2 1 (.slice (some ⟨w.heap.size, 0, none⟩) n n) n xs := by
  have := World.ownsRow_lit (e := 2) (size := 1) w xs.toArray n hB (by unfold maxLen; omega) (by simp [hl])
  simpa using this

theorem made_row (size ar num : Nat) : madeCells #[.int .i64 0] ar = (rowP size ar num []).toArray := by
  apply Array.ext'
  rw [toList_madeCells_one, rowP_nil]

theorem make_ints (size ar num : Nat) (h4 : ar ≤ 4) (w : World) : (Instr.makeSlice 34 (.int .i64 ar) (.int .i64 ar)).run Try.prog w = .ok (.slice (some ⟨w.heap.size, 0, none⟩) ar ar) (w.alloc (.cells (rowP size ar num []).toArray 2)) := by
  obtain ⟨i0, hi, hz0, hz1, hz2⟩ := info_parts info_int
  have h := run_makeSlice (P := Try.prog) w 34 2 i0 (.int .i64 0) Try.underlying34 hi hz0 .i64 .i64 ar ar (by omega) (by omega) (by rw [hz1]; simp; omega) (by rw [hz2]; omega) (by omega)
  rw [h, hz1, ← made_row size ar num]
  simp [Value.cells]

/-- What a loop over a tuple's places keeps: the row in its box. -/
def TupI (size ar num : Nat) (w : World) (pre : List Nat) (W : World) : Prop :=
  (Boxed W (w.heap.size + 1) 34 (.slice (some ⟨w.heap.size, 0, none⟩) ar ar) ∧ W.ownsRow w.heap.size 2 1 (.slice (some ⟨w.heap.size, 0, none⟩) ar ar) ar (rowP size ar num pre)) ∧ Below w.heap.size w W

theorem tupI_own (size ar num : Nat) (w : World) (B : Nat) (hB : w.heap.size ≤ B) : OwnFrom B (TupI size ar num w) := by
  refine OwnFrom.and (Own.from ?_ _) (ownFrom_below (Nat.le_refl _) hB)
  rintro pre X Y row ⟨hb, hr⟩ hg hrow
  refine ⟨hb.kept hg fun e => ?_, hr.kept hg (.inr fun e => ?_)⟩
  · obtain ⟨o, ho, hc⟩ := hrow _ e.symm
    rw [show X.heap[_]? = _ from hb] at ho; cases ho; cases hc
  · rcases hr.2 with ⟨hn, _⟩ | ⟨g, cap, cur, hv, _, hgb, _⟩
    · exact absurd hn (by simp)
    · obtain ⟨o, ho, hc⟩ := hrow _ e.symm
      simp only [Value.slice.injEq, Option.some.injEq, Addr.mk.injEq] at hv
      obtain ⟨⟨rfl, _⟩, _⟩ := hv
      rw [hgb] at ho; cases ho; cases hc

set_option maxRecDepth 100000 in
set_option maxHeartbeats 4000000 in
theorem tupleOf_in (n : Nat) (hn : 3 ≤ n) (size ar num : Nat) (h1 : 1 ≤ size) (h2 : size ≤ 4) (h3 : 1 ≤ ar) (h4 : ar ≤ 4) (hnum : num < 256) (w : World) :
    CallsIn Fence.wide n Try.prog 109 #[.int .i64 size, .int .i64 ar, .int .i64 num] w (MadeRow w (digs size ar num)) := by
  have hn1 : 1 ≤ n := by omega
  have hmk := make_ints size ar num h4
  refine callsIn_of_wp_marks Try.func109 rfl trivial ?_ rfl
  simp only [Try.ntmps109, List.size_toArray, List.length_cons, List.length_nil, Nat.reduceAdd, Nat.reduceSub, Array.replicate_succ, Array.replicate_zero, List.push_toArray, List.append_toArray, List.nil_append, List.cons_append]
  gi_wp2_with (refine ⟨trivial, ?_⟩; gi_at_call 150; refine (callsIn_wide.2 (placesOf_in size ar num _)).mono ?_; rintro e w' ⟨rfl, rfl⟩)
  obtain ⟨W0, hW0⟩ : ∃ W0, (w.alloc (.cells (rowP size ar num []).toArray 2)).alloc (.cells #[.slice (some ⟨w.heap.size, 0, none⟩) ar ar] 34) = W0 := ⟨_, rfl⟩
  rw [hW0]
  have hsz : W0.heap.size = w.heap.size + 2 := by rw [← hW0]; simp
  have hI0 : TupI size ar num w [] W0 := by
    rw [← hW0]
    refine ⟨⟨?_, ?_⟩, ((Below.refl _ _).alloc (Nat.le_refl _) _).alloc (by simp) _⟩
    · have := Boxed.new (w.alloc (.cells (rowP size ar num []).toArray 2)) 34 (.slice (some ⟨w.heap.size, 0, none⟩) ar ar)
      rwa [World.size_alloc] at this
    · exact (ownsRow_alloc_new w w.heap.size (rowP size ar num []) ar (Nat.le_refl _) (by simp [rowP]) (by omega)).alloc _
  have hd0 := (Boxed.new W0 2 (.int .i64 size)).cell
  have hd1 := (Boxed.new (W0.alloc (.cells #[.int .i64 size] 2)) 2 (.int .i64 ar)).cell
  have hd2 := (Boxed.new ((W0.alloc (.cells #[.int .i64 size] 2)).alloc (.cells #[.int .i64 ar] 2)) 2 (.int .i64 num)).cell
  simp only [World.size_alloc, hsz] at hd0 hd1 hd2
  have hL : (((W0.alloc (.cells #[.int .i64 size] 2)).alloc (.cells #[.int .i64 ar] 2)).alloc (.cells #[.int .i64 num] 2)).heap.size = w.heap.size + 5 := by simp [hsz]
  refine wpIn_rangeFunc_ownG rfl hn1 (gf := 192) (lb := #[.pointer (some ⟨w.heap.size + 1 + 1, 0, none⟩), .pointer (some ⟨w.heap.size + 1 + 1 + 1, 0, none⟩), .pointer (some ⟨w.heap.size + 1 + 1 + 2, 0, none⟩)]) rfl trivial (enters_of Try.func192 (by kernel_rfl) rfl)
    (places_stops (n - 1) (by omega) (w.heap.size + 1 + 1) size ar num h1 h2 h4 hnum _ ?c0 ?c1 ?c2) (fun h k => h.trans k) ?hb (Below.refl _ _) (fun _ => rfl)
    (TupI size ar num w) (fun _ _ _ => False) (tupI_own size ar num w _ (by rw [hL]; omega)) (fun _ _ _ _ _ hs _ _ => hs) ?i0 ?a1 ?assign ?body ?done ?stop
  case c0 => exact below_cell (((Below.refl _ _).alloc (Nat.le_refl _) _).alloc (by simp) _) hd0
  case c1 => exact below_cell ((Below.refl _ _).alloc (Nat.le_refl _) _) hd1
  case c2 => exact hd2
  case hb =>
    intro W l o o' hl _ _ _
    rw [hL] at hl
    exact ⟨by simp, fun k _ h2 => World.putObj_heap_other (fun e => by omega)⟩
  case i0 =>
    have hO := tupI_own size ar num w (w.heap.size + 2) (by omega)
    exact hO.alloc _ (hO.alloc _ (hO.alloc _ hI0))
  case assign =>
    intro l x W K hK
    gi_wp2
    exact hK
  case body =>
    rintro l pre x W ⟨⟨hb, hr⟩, hB⟩ hlen
    have hxlt : x % ar < ar := Nat.mod_lt x (by omega)
    have cb := hb.cell
    have hst := hr.stored (x % ar) (.int .i64 (digN size ar num (x % ar) : Int))
    rw [rowP_set size ar num pre x (by omega)] at hst
    have cr := hr.cellAt (x % ar) (by omega)
    obtain ⟨u, hu⟩ : ∃ u, W.cell? ⟨w.heap.size, x % ar, none⟩ = some u := by
      rw [cr]
      simp [rowP, hxlt]
    have fr := hr.frozenAt (x % ar)
    generalize digN size ar num (x % ar) = d at *
    have HB := Lib.hid hb
    have HR := Lib.hid hst.1
    have HW := Lib.hid hB
    have hj : (x : Int) % (ar : Int) < (ar : Int) := by omega
    clear hb hr hB hst cr
    gi_wp2
    refine ⟨(KeepsOthers.setCell _ _ _).from _, ⟨by simp [World.setCell], fun k hk1 _ => Below.heap_setCell _ _ _ _ (by show k ≠ w.heap.size; omega)⟩, ⟨⟨?_, HR.out⟩, HW.out.setCell (Nat.le_refl _) _⟩⟩
    have h := HB.out
    unfold Boxed at h ⊢
    rw [Below.heap_setCell _ _ _ _ (by show w.heap.size + 1 ≠ w.heap.size; omega)]
    exact h
  case done =>
    rintro D xs W hD rfl ⟨⟨hb, hr⟩, hB⟩ hK
    have cb := hb.cell
    rw [rowP_all] at hr
    have HR := Lib.hid hr
    have HW := Lib.hid hB
    clear hb hr hB
    gi_wp2
    refine ⟨by simp, .inl ⟨_, _, rfl, run_takeDeferred hK, ?_⟩⟩
    rw [hL] at hD
    refine ⟨_, results_tmp rfl _ _ _, _, _, _, rfl, ?_, HW.out.trans (belowK_b (w := w) (Nat.le_refl _) W D _ _ (by omega) hK rfl rfl)⟩
    unfold OwnRow
    rw [digs_len]
    exact ownsRow_putObj HR.out _ hK rfl
  case stop =>
    rintro D c pre W _ _ h _
    exact h.elim

theorem tupleOf (size ar num : Nat) (h1 : 1 ≤ size) (h2 : size ≤ 4) (h3 : 1 ≤ ar) (h4 : ar ≤ 4) (hnum : num < 256) (w : World) :
    Calls Try.prog 109 #[.int .i64 size, .int .i64 ar, .int .i64 num] w (MadeRow w (digs size ar num)) :=
  (callsIn_wide (n := 3)).1 (tupleOf_in 3 (Nat.le_refl _) size ar num h1 h2 h3 h4 hnum w)

end Go.Proofs.Ytnbgpeoceejolaa
