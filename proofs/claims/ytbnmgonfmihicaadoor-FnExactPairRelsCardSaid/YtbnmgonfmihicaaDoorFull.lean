/-
  The relation of all tuples: FullRel of the model and of the program.
-/
import Derived.Test.YtbnmgonfmihicaaDoorLSet
import Derived.Test.YtbnmgonfmihicaaDoorRelOf
import Derived.Test.YtbnmgonfmihicaaDoorMake
namespace Go.Proofs.YtbnmgonfmihicaaDoor
open Go.RowKit

def ltS (k : Nat) : Nat → Bool := fun n => decide (n < k)
theorem ltS_zero : ltS 0 = fun _ => false := by funext n; simp [ltS]
theorem ltS_put (k : Nat) : putS (ltS k) k = ltS (k + 1) := by
  funext n
  unfold putS ltS
  rw [Bool.eq_iff_iff]
  simp
  omega
/-- What FullRel answers. -/
def FullRelIs (size ar : Int) (x : Int) (zs : List (List Int)) (cd : Int) : Prop := RelAns (In14 size) (In14 ar) ar (rowsS size.toNat ar.toNat (ltS (size.toNat ^ ar.toNat)) 256) x zs cd
theorem FullRelIs.exists (size ar : Int) : ∃ x zs cd, FullRelIs size ar x zs cd := RelAns.exists _ _ _ _
theorem FullRelIs.small {size ar : Int} {x : Int} {zs : List (List Int)} {cd : Int} (h : FullRelIs size ar x zs cd) : (zs.map List.length).sum ≤ 1048576 := RelAns.small h fun _ h2 => rowsS_small _ _ _ (by have := h2.2; omega)
theorem full_rows {s r : Nat} (h1 : 1 ≤ s) (h2 : s ≤ 4) (h3 : 1 ≤ r) (h4 : r ≤ 4) : rowsS s r (ltS (s ^ r)) 256 = rowsS s r (ltS (s ^ r)) (s ^ r) := by
  unfold rowsS
  rw [memb_cut (pow_lim h1 h2 h3 h4).1 fun j hj _ => ?_]
  simp [ltS]
  exact hj

set_option maxHeartbeats 1000000 in
theorem specFull_no (size ar : Int) (w : World) (h : ¬ In14 size) : Calls Tryd.prog 18 #[.int .i64 size, .int .i64 ar] w (MadeRel2 w 0 [] 1) := by
  have HT := Lib.hid (Tells.no h)
  clear h
  go_enter Tryd.func18, Tryd.ntmps18
  go_wp2_with (go_at_call 31; refine (l01Size _ false _ HT.out).mono ?_; rintro e w' ⟨rfl, rfl⟩)
  refine bodyPost_ret (v := .tuple #[.agg #[.int .i64 0, .slice none 0 0], .int .i64 1]) (by simp [results, Tryd.results18, go_sem]) rfl ⟨none, 0, 0, rfl, ?_, ?_⟩
  · exact OwnGrid.nil _ _ _ (Nat.le_refl _)
  · exact (Below.refl _ _).alloc (Nat.le_refl _) _

set_option maxHeartbeats 1000000 in
theorem specFull_no2 (size ar : Int) (w : World) (hs : In14 size) (h : ¬ In14 ar) : Calls Tryd.prog 18 #[.int .i64 size, .int .i64 ar] w (MadeRel2 w 0 [] 2) := by
  have HT := Lib.hid (Tells.no h)
  have HS := Lib.hid (Tells.yes hs)
  clear h hs
  go_enter Tryd.func18, Tryd.ntmps18
  go_wp2_with (first
    | (go_at_call 31; refine (l01Size _ true _ HS.out).mono ?_; rintro e w' ⟨rfl, rfl⟩)
    | (go_at_call 32; refine (l01Arity _ false _ HT.out).mono ?_; rintro e w' ⟨rfl, rfl⟩))
  refine bodyPost_ret (v := .tuple #[.agg #[.int .i64 0, .slice none 0 0], .int .i64 2]) (by simp [results, Tryd.results18, go_sem]) rfl ⟨none, 0, 0, rfl, ?_, ?_⟩
  · exact OwnGrid.nil _ _ _ (Nat.le_refl _)
  · exact (Below.refl _ _).alloc (Nat.le_refl _) _

set_option maxHeartbeats 1000000 in
theorem implFull_no (size ar : Int) (w : World) (h : ¬ In14 size) : Calls Tryd.prog 19 #[.int .i64 size, .int .i64 ar] w (MadeRel2 w 0 [] 1) := by
  have HT := Lib.hid (Tells.no h)
  clear h
  go_enter Tryd.func19, Tryd.ntmps19
  go_wp2_with (go_at_call 38; refine (isSize _ false _ HT.out).mono ?_; rintro e w' ⟨rfl, rfl⟩)
  refine bodyPost_ret (v := .tuple #[.agg #[.int .i64 0, .slice none 0 0], .int .i64 1]) (by simp [results, Tryd.results19, go_sem]) rfl ⟨none, 0, 0, rfl, ?_, ?_⟩
  · exact OwnGrid.nil _ _ _ (Nat.le_refl _)
  · exact (Below.refl _ _).alloc (Nat.le_refl _) _

set_option maxHeartbeats 1000000 in
theorem implFull_no2 (size ar : Int) (w : World) (hs : In14 size) (h : ¬ In14 ar) : Calls Tryd.prog 19 #[.int .i64 size, .int .i64 ar] w (MadeRel2 w 0 [] 2) := by
  have HT := Lib.hid (Tells.no h)
  have HS := Lib.hid (Tells.yes hs)
  clear h hs
  go_enter Tryd.func19, Tryd.ntmps19
  go_wp2_with (first
    | (go_at_call 38; refine (isSize _ true _ HS.out).mono ?_; rintro e w' ⟨rfl, rfl⟩)
    | (go_at_call 39; refine (isArity _ false _ HT.out).mono ?_; rintro e w' ⟨rfl, rfl⟩))
  refine bodyPost_ret (v := .tuple #[.agg #[.int .i64 0, .slice none 0 0], .int .i64 2]) (by simp [results, Tryd.results19, go_sem]) rfl ⟨none, 0, 0, rfl, ?_, ?_⟩
  · exact OwnGrid.nil _ _ _ (Nat.le_refl _)
  · exact (Below.refl _ _).alloc (Nat.le_refl _) _

set_option maxHeartbeats 4000000 in
set_option maxRecDepth 100000 in
theorem l01Full (s r : Nat) (h1 : 1 ≤ s) (h2 : s ≤ 4) (h4 : r ≤ 4) (w : World) :
    Calls Tryd.prog 47 #[.int .i64 s, .int .i64 r] w (MadeRel w r (rowsS s r (ltS (s ^ r)) (s ^ r))) := by
  have HR0 := Lib.hid (RelBox.new w (.int .i64 0) (.slice none 0 0))
  have HB0 := Lib.hid ((Below.refl w.heap.size w).alloc (Nat.le_refl _) (.cells #[.int .i64 0, .slice none 0 0] 25))
  have hlim := (pow_le4 h1 h2 r h4).1
  go_enter Tryd.func47, Tryd.ntmps47
  go_wp2_with fail
  refine (l01Empty s r h1 h2 h4 _).mono ?_
  rintro e w2 ⟨p, g, rfl, hset, hb2⟩
  have hg := (hset.has.lt g rfl).1
  rw [World.size_alloc] at hg hset
  have hp := hset.le
  rw [← ltS_zero] at hset
  have HSET := Lib.hid hset
  have HB2 := Lib.hid (HB0.out.trans (hb2.mono (by simp)))
  have HR2 := Lib.hid (HR0.out.below hb2)
  clear hset hb2
  go_wp2
  go_loopw [6] (fun i wr => ∃ k : Nat, k ≤ s ^ r ∧ i = .int .i64 k ∧ LSetAt wr (w.heap.size + 1) p g s r (ltS k) ∧ RelBox wr w.heap.size (.int .i64 0) (.slice none 0 0) ∧ Below w.heap.size w wr) (fun i _ => s ^ r - (intOf i).toNat)
  case atStart => exact ⟨0, Nat.zero_le _, rfl, HSET.out, HR2.out, HB2.out⟩
  case round =>
    obtain ⟨k, hk, rfl, hset, hr, hw⟩ := hrel
    have hcb := hset.c2
    by_cases hlt : k < s ^ r
    · have hfr := hset.has.frozenAt k
      have hat := hset.at k hlt
      have hput := hset.put k
      rw [ltS_put] at hput
      have HS3 := Lib.hid hput
      have HR3 := Lib.hid (hr.other (a := ⟨g, k, none⟩) (by show w.heap.size ≠ g; omega) (.bool true))
      have HW3 := Lib.hid (hw.setCell (p := ⟨g, k, none⟩) (by show w.heap.size ≤ g; omega) (.bool true))
      generalize hNN : s ^ r = N at *
      have HN := Lib.hid hNN
      have hlt' : (k : Int) < (N : Int) := by omega
      clear hset hr hw hput hNN
      go_wp2
      go_roundw
      case rel => exact ⟨k + 1, by omega, by go_num, HS3.out, HR3.out, HW3.out⟩
      case measure => simp [intOf]; omega
    · obtain rfl : k = s ^ r := by omega
      have HS2 := Lib.hid hset
      have HR3 := Lib.hid hr
      have HW := Lib.hid hw
      clear hset hr hw
      go_wp2_with fail
      refine (setRel _ p g s r _ _ HS2.out h1 h2 h4).mono ?_
      rintro e w4 ⟨a4, n4, c4, rfl, ho4, hb4⟩
      have hr4 := HR3.out.below hb4
      have d0 := hr4.c0
      have d1 := hr4.c1
      have f0 := hr4.free 0
      have f1 := hr4.free 1
      have HO4 := Lib.hid ho4
      have HW4 := Lib.hid (HW.out.trans (hb4.mono HW.out.size))
      have HZ := Lib.hid HR3.out.lt
      clear ho4 hb4 hr4
      go_wp2
      refine bodyPost_ret (v := .agg #[.int .i64 r, .slice a4 n4 c4]) (by simp [results, Tryd.results47, go_sem, d0, d1]) rfl ⟨a4, n4, c4, rfl, ?_, ?_⟩
      · have e1 := HZ.out
        exact (((HO4.out.stored (by show w.heap.size < wr.heap.size; omega) _).stored (by show w.heap.size < wr.heap.size; omega) _).mono (by omega)).full
      · exact (HW4.out.setCell (by show w.heap.size ≤ w.heap.size; omega) _).setCell (by show w.heap.size ≤ w.heap.size; omega) _

set_option maxHeartbeats 4000000 in
set_option maxRecDepth 100000 in
theorem fullBits (s r : Nat) (h1 : 1 ≤ s) (h2 : s ≤ 4) (h4 : r ≤ 4) (w : World) :
    Calls Tryd.prog 48 #[.int .i64 s, .int .i64 r] w fun e w' => e = .returned (bitsV (ltS (s ^ r))) ∧ Below w.heap.size w w' := by
  have hlim := (pow_le4 h1 h2 r h4).1
  have hx0 := (bits_new w (fun _ => false)).alloc (.cells (bitsC fun _ => false).toArray 53)
  have hx1 := bits_new (w.alloc (.cells (bitsC fun _ => false).toArray 53)) (fun _ => false)
  rw [World.size_alloc, ← ltS_zero] at hx1
  have HX0 := Lib.hid hx0
  have HX1 := Lib.hid hx1
  have HB0 := Lib.hid (((Below.refl w.heap.size w).alloc (Nat.le_refl _) (.cells (bitsC fun _ => false).toArray 53)).alloc (by simp) (.cells (bitsC fun _ => false).toArray 53))
  generalize hNN : s ^ r = N at *
  have HN := Lib.hid hNN
  clear hNN hx0 hx1
  go_enter Tryd.func48, Tryd.ntmps48
  go_wp2_with fail
  refine (tupleCount s r h1 h2 h4 _).mono ?_
  rw [HN.out]
  rintro e w2 ⟨rfl, rfl⟩
  go_wp2
  go_loopw [10] (fun i wr => ∃ k : Nat, k ≤ N ∧ i = .int .i64 k ∧ BitsBox wr (w.heap.size + 1) (ltS k) ∧ BitsBox wr w.heap.size (fun _ => false) ∧ Below w.heap.size w wr) (fun i _ => N - (intOf i).toNat)
  case atStart =>
    rw [bits_zero]
    exact ⟨0, Nat.zero_le _, rfl, HX1.out, HX0.out, HB0.out⟩
  case round =>
    obtain ⟨k, hk, rfl, hb, hb1, hw⟩ := hrel
    by_cases hlt : k < N
    · have hlt' : (k : Int) < (N : Int) := by omega
      have HB := Lib.hid hb
      have HB1 := Lib.hid hb1
      have HW := Lib.hid hw
      clear hb hb1 hw
      go_wp2_with fail
      refine (putBit _ _ k (by omega) _ HB.out).mono ?_
      rintro e w3 ⟨rfl, ho, hb3⟩
      rw [ltS_put] at hb3
      have HB3 := Lib.hid hb3
      have HB4 : Hid (BitsBox w3 w.heap.size (fun _ => false)) := by
        have h := HB1.out
        unfold BitsBox at h
        show w3.heap[_]? = _
        rw [ho.block _ HB1.out.lt (by omega)]; exact h
      have HW3 := Lib.hid (HW.out.trans (ho.below HW.out.size (fun k hk => by omega)))
      clear hb3 ho
      go_wp2
      go_roundw
      case rel => exact ⟨k + 1, by omega, by go_num, HB3.out, HB4.out, HW3.out⟩
      case measure => simp [intOf]; omega
    · obtain rfl : k = N := by omega
      have c0 := hb.cell 0 (by omega)
      have c1 := hb.cell 1 (by omega)
      have c2 := hb.cell 2 (by omega)
      have c3 := hb.cell 3 (by omega)
      have d0 := hb1.cell 0 (by omega)
      have d1 := hb1.cell 1 (by omega)
      have d2 := hb1.cell 2 (by omega)
      have d3 := hb1.cell 3 (by omega)
      have f0 := hb1.free 0
      have f1 := hb1.free 1
      have f2 := hb1.free 2
      have f3 := hb1.free 3
      have HW := Lib.hid hw
      clear hb hb1 hw
      go_wp2
      refine bodyPost_ret (v := bitsV (ltS k)) (by simp [results, Tryd.results48, go_sem, d0, d1, d2, d3, bitsV, bitsC]) rfl ⟨rfl, ?_⟩
      exact ((((HW.out.setCell (by simp) _).setCell (by simp) _).setCell (by simp) _).setCell (by simp) _)

set_option maxHeartbeats 4000000 in
set_option maxRecDepth 100000 in
theorem specFull_in (s r : Nat) (h1 : 1 ≤ s) (h2 : s ≤ 4) (h3 : 1 ≤ r) (h4 : r ≤ 4) (w : World) :
    Calls Tryd.prog 18 #[.int .i64 s, .int .i64 r] w (MadeRel2 w r (rowsS s r (ltS (s ^ r)) 256) 0) := by
  have HS : Hid (In14 (s : Int)) := ⟨by omega, by omega⟩
  have HA : Hid (In14 (r : Int)) := ⟨by omega, by omega⟩
  have HR0 := Lib.hid (RelBox.new w (.int .i64 0) (.slice none 0 0))
  have HB0 := Lib.hid ((Below.refl w.heap.size w).alloc (Nat.le_refl _) (.cells #[.int .i64 0, .slice none 0 0] 25))
  rw [full_rows h1 h2 h3 h4]
  go_enter Tryd.func18, Tryd.ntmps18
  go_wp2_with (first
    | (go_at_call 31; refine (l01Size _ true _ (Tells.yes HS.out)).mono ?_; rintro e w' ⟨rfl, rfl⟩)
    | (go_at_call 32; refine (l01Arity _ true _ (Tells.yes HA.out)).mono ?_; rintro e w' ⟨rfl, rfl⟩)
    | fail)

  have HB2 := HB0
  have HR2 := HR0
  refine (l01Full s r h1 h2 h4 _).mono ?_
  rintro e w4 ⟨a4, n4, c4, rfl, ho4, hb4⟩
  have hr4 := HR2.out.below hb4
  have d0 := hr4.c0
  have d1 := hr4.c1
  have f0 := hr4.free 0
  have f1 := hr4.free 1
  have HO4 := Lib.hid ho4
  have HW4 := Lib.hid (HB2.out.trans (hb4.mono HB2.out.size))
  have HZ := Lib.hid HR2.out.lt
  clear ho4 hb4 hr4
  go_wp2
  refine bodyPost_ret (v := .tuple #[.agg #[.int .i64 r, .slice a4 n4 c4], .int .i64 0]) (by simp [results, Tryd.results18, go_sem, d0, d1]) rfl ⟨a4, n4, c4, rfl, ?_, ?_⟩
  · have e1 := HZ.out
    exact (((HO4.out.stored e1 _).stored e1 _).mono (Nat.le_of_lt e1)).full
  · exact (HW4.out.setCell (by show w.heap.size ≤ w.heap.size; omega) _).setCell (by show w.heap.size ≤ w.heap.size; omega) _

theorem specFullRel (size ar : Int) (x : Int) (zs : List (List Int)) (cd : Int) (w : World) (hi : FullRelIs size ar x zs cd) :
    Calls Tryd.prog 18 #[.int .i64 size, .int .i64 ar] w (MadeRel2 w x zs cd) := by
  rcases hi with ⟨hs, ha, rfl, rfl, rfl⟩ | ⟨hs, ha, rfl, rfl, rfl⟩ | ⟨hs, rfl, rfl, rfl⟩
  · obtain ⟨s, rfl⟩ : ∃ s : Nat, size = s := ⟨size.toNat, by have := hs.1; omega⟩
    obtain ⟨r, rfl⟩ : ∃ r : Nat, x = r := ⟨x.toNat, by have := ha.1; omega⟩
    simp only [Int.toNat_natCast]
    exact specFull_in s r (by have := hs.1; omega) (by have := hs.2; omega) (by have := ha.1; omega) (by have := ha.2; omega) w
  · exact specFull_no2 size ar w hs ha
  · exact specFull_no size ar w hs

set_option maxHeartbeats 4000000 in
set_option maxRecDepth 100000 in
theorem implFull_in (s r : Nat) (h1 : 1 ≤ s) (h2 : s ≤ 4) (h3 : 1 ≤ r) (h4 : r ≤ 4) (w : World) (hT : TzTab w) :
    Calls Tryd.prog 19 #[.int .i64 s, .int .i64 r] w (MadeRel2 w r (rowsS s r (ltS (s ^ r)) 256) 0) := by
  have HS : Hid (In14 (s : Int)) := ⟨by omega, by omega⟩
  have HA : Hid (In14 (r : Int)) := ⟨by omega, by omega⟩
  have HR0 := Lib.hid (RelBox.new w (.int .i64 0) (.slice none 0 0))
  have HB0 := Lib.hid ((Below.refl w.heap.size w).alloc (Nat.le_refl _) (.cells #[.int .i64 0, .slice none 0 0] 25))
  have HTZ0 := Lib.hid hT
  clear hT
  go_enter Tryd.func19, Tryd.ntmps19
  go_wp2_with (first
    | (go_at_call 38; refine (isSize _ true _ (Tells.yes HS.out)).mono ?_; rintro e w' ⟨rfl, rfl⟩)
    | (go_at_call 39; refine (isArity _ true _ (Tells.yes HA.out)).mono ?_; rintro e w' ⟨rfl, rfl⟩)
    | fail)

  refine (fullBits s r h1 h2 h4 _).mono ?_
  rintro e w2 ⟨rfl, hb2⟩
  have HB2 := Lib.hid (HB0.out.trans (hb2.mono (by simp)))
  have HR2 := Lib.hid (HR0.out.below hb2)
  have HTZ := Lib.hid (HTZ0.out.below HB2.out)
  clear hb2
  go_wp2_with fail
  refine (relOf s r h1 h2 h3 h4 _ _ HTZ.out).mono ?_
  rintro e w4 ⟨a4, n4, c4, rfl, ho4, hb4⟩
  have hr4 := HR2.out.below hb4
  have d0 := hr4.c0
  have d1 := hr4.c1
  have f0 := hr4.free 0
  have f1 := hr4.free 1
  have HO4 := Lib.hid ho4
  have HW4 := Lib.hid (HB2.out.trans (hb4.mono HB2.out.size))
  have HZ := Lib.hid HR2.out.lt
  clear ho4 hb4 hr4
  go_wp2
  refine bodyPost_ret (v := .tuple #[.agg #[.int .i64 r, .slice a4 n4 c4], .int .i64 0]) (by simp [results, Tryd.results19, go_sem, d0, d1]) rfl ⟨a4, n4, c4, rfl, ?_, ?_⟩
  · have e1 := HZ.out
    exact (((HO4.out.stored e1 _).stored e1 _).mono (Nat.le_of_lt e1)).full
  · exact (HW4.out.setCell (by show w.heap.size ≤ w.heap.size; omega) _).setCell (by show w.heap.size ≤ w.heap.size; omega) _

theorem implFullRel (size ar : Int) (x : Int) (zs : List (List Int)) (cd : Int) (w : World) (hT : TzTab w) (hi : FullRelIs size ar x zs cd) :
    Calls Tryd.prog 19 #[.int .i64 size, .int .i64 ar] w (MadeRel2 w x zs cd) := by
  rcases hi with ⟨hs, ha, rfl, rfl, rfl⟩ | ⟨hs, ha, rfl, rfl, rfl⟩ | ⟨hs, rfl, rfl, rfl⟩
  · obtain ⟨s, rfl⟩ : ∃ s : Nat, size = s := ⟨size.toNat, by have := hs.1; omega⟩
    obtain ⟨r, rfl⟩ : ∃ r : Nat, x = r := ⟨x.toNat, by have := ha.1; omega⟩
    simp only [Int.toNat_natCast]
    exact implFull_in s r (by have := hs.1; omega) (by have := hs.2; omega) (by have := ha.1; omega) (by have := ha.2; omega) w hT
  · exact implFull_no2 size ar w hs ha
  · exact implFull_no size ar w hs

end Go.Proofs.YtbnmgonfmihicaaDoor
