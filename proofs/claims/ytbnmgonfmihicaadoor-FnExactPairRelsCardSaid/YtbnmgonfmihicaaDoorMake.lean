/-
  The relation of some tuples: MakeRel of the model and of the program.
-/
import Derived.Test.YtbnmgonfmihicaaDoorLSet
import Derived.Test.YtbnmgonfmihicaaDoorRelOf
import Derived.Test.YtbnmgonfmihicaaDoorGraph2
namespace Go.Proofs.YtbnmgonfmihicaaDoor
open Go.RowKit

def MakeOk (size ar : Int) (xs : List (List Int)) (k : Nat) : Prop := In14 ar ∧ ∀ j, j < k → TupP size ar (rowN xs j)
theorem MakeOk.zero {size ar : Int} {xs : List (List Int)} {b : Bool} (h : Tells b (In14 ar)) : Tells b (MakeOk size ar xs 0) := h.congr ⟨fun h => ⟨h, fun j hj => absurd hj (by omega)⟩, fun h => h.1⟩
theorem MakeOk.next {size ar : Int} {xs : List (List Int)} {k : Nat} {b : Bool} (h : MakeOk size ar xs k) (h2 : Tells b (TupP size ar (rowN xs k))) : Tells b (MakeOk size ar xs (k + 1)) :=
  h2.congr ⟨fun ht => ⟨h.1, fun j hj => by
    by_cases e : j = k
    · subst e; exact ht
    · exact h.2 j (by omega)⟩, fun ht => ht.2 k (by omega)⟩
theorem MakeOk.less {size ar : Int} {xs : List (List Int)} {k n : Nat} (h : ¬ MakeOk size ar xs k) (hk : k ≤ n) : ¬ MakeOk size ar xs n := fun g => h ⟨g.1, fun j hj => g.2 j (by omega)⟩
/-- What MakeRel answers. -/
def MakeRelIs (size ar : Int) (xs : List (List Int)) (x : Int) (zs : List (List Int)) (cd : Int) : Prop := RelAns (In14 size) (MakeOk size ar xs xs.length) ar (rowsS size.toNat ar.toNat (setOf size xs) 256) x zs cd
theorem MakeRelIs.exists (size ar : Int) (xs : List (List Int)) : ∃ x zs cd, MakeRelIs size ar xs x zs cd := RelAns.exists _ _ _ _
theorem MakeRelIs.small {size ar : Int} {xs : List (List Int)} {x : Int} {zs : List (List Int)} {cd : Int} (h : MakeRelIs size ar xs x zs cd) : (zs.map List.length).sum ≤ 1048576 := RelAns.small h fun _ h2 => rowsS_small _ _ _ (by have := h2.1.2; omega)
theorem make_rows {s r : Nat} {xs : List (List Int)} (h1 : 1 ≤ s) (h2 : s ≤ 4) (h3 : 1 ≤ r) (h4 : r ≤ 4) (h : ∀ j, j < xs.length → TupP s r (rowN xs j)) : rowsS s r (setOf s xs) 256 = rowsS s r (setOf s xs) (s ^ r) := by
  unfold rowsS
  rw [memb_cut (pow_lim h1 h2 h3 h4).1 fun j hj _ => ?_]
  cases hb : setOf s xs j with
  | false => rfl
  | true =>
    obtain ⟨x, hx, rfl⟩ := (setOf_iff j).1 hb
    obtain ⟨i, hi, rfl⟩ := mem_rowN.1 hx
    have := codeN_pow h1 (h i hi)
    omega

set_option maxHeartbeats 1000000 in
theorem specMake_no (size ar : Int) (v : Value) (w : World) (h : ¬ In14 size) : Calls Tryd.prog 10 #[.int .i64 size, .int .i64 ar, v] w (MadeRel2 w 0 [] 1) := by
  have HT := Lib.hid (Tells.no h)
  clear h
  go_enter Tryd.func10, Tryd.ntmps10
  go_wp2_with (go_at_call 31; refine (l01Size _ false _ HT.out).mono ?_; rintro e w' ⟨rfl, rfl⟩)
  refine bodyPost_ret (v := .tuple #[.agg #[.int .i64 0, .slice none 0 0], .int .i64 1]) (by simp [results, Tryd.results10, go_sem]) rfl ⟨none, 0, 0, rfl, ?_, ?_⟩
  · exact OwnGrid.nil _ _ _ (Nat.le_refl _)
  · exact (Below.refl _ _).alloc (Nat.le_refl _) _

set_option maxHeartbeats 1000000 in
theorem implMake_no (size ar : Int) (v : Value) (w : World) (h : ¬ In14 size) : Calls Tryd.prog 12 #[.int .i64 size, .int .i64 ar, v] w (MadeRel2 w 0 [] 1) := by
  have HT := Lib.hid (Tells.no h)
  clear h
  go_enter Tryd.func12, Tryd.ntmps12
  go_wp2_with (go_at_call 38; refine (isSize _ false _ HT.out).mono ?_; rintro e w' ⟨rfl, rfl⟩)
  refine bodyPost_ret (v := .tuple #[.agg #[.int .i64 0, .slice none 0 0], .int .i64 1]) (by simp [results, Tryd.results12, go_sem]) rfl ⟨none, 0, 0, rfl, ?_, ?_⟩
  · exact OwnGrid.nil _ _ _ (Nat.le_refl _)
  · exact (Below.refl _ _).alloc (Nat.le_refl _) _

set_option maxHeartbeats 8000000 in
set_option maxRecDepth 100000 in
theorem specMake_in (s : Nat) (ar : Int) (h1 : 1 ≤ s) (h2 : s ≤ 4) (v : Value) (xs : List (List Int)) (x : Int) (zs : List (List Int)) (cd : Int) (w : World) (h : GridAt w v xs) (hi : MakeRelIs s ar xs x zs cd) :
    Calls Tryd.prog 10 #[.int .i64 s, .int .i64 ar, v] w (MadeRel2 w x zs cd) := by
  have HI := Lib.hid hi
  have HS : Hid (In14 (s : Int)) := ⟨by omega, by omega⟩
  have HR0 := Lib.hid (RelBox.new w (.int .i64 0) (.slice none 0 0))
  have HB0 := Lib.hid ((Below.refl w.heap.size w).alloc (Nat.le_refl _) (.cells #[.int .i64 0, .slice none 0 0] 25))
  obtain ⟨b0, hb0⟩ := Tells.exists (In14 ar)
  have HT0 := Lib.hid hb0
  obtain ⟨V, ⟨a', c', rfl, hn, hc⟩, hV⟩ := h
  have HC := Lib.hid hc
  have HV := Lib.hid hV
  clear hc hV hi hb0
  go_enter Tryd.func10, Tryd.ntmps10
  go_wp2_with (first
    | (go_at_call 31; refine (l01Size _ true _ (Tells.yes HS.out)).mono ?_; rintro e w' ⟨rfl, rfl⟩)
    | (go_at_call 32; refine (l01Arity _ b0 _ HT0.out).mono ?_; rintro e w' ⟨rfl, rfl⟩))
  go_loop [8, 9] (fun o i => ∃ (k : Nat) (b : Bool), k ≤ xs.length ∧ i = .int .i64 k ∧ o = .bool b ∧ Tells b (MakeOk s ar xs k)) (fun _ i => xs.length - (intOf i).toNat)
  case atStart => exact ⟨0, b0, Nat.zero_le _, rfl, rfl, MakeOk.zero HT0.out⟩
  case round =>
    obtain ⟨k, b, hk, rfl, rfl, hb⟩ := hrel
    by_cases hlt : k < xs.length
    · have hlt' : (k : Int) < (xs.length : Int) := by omega
      cases b
      · have hz : x = 0 ∧ zs = [] ∧ cd = 2 := by
          rcases HI.out with ⟨_, h2, _⟩ | ⟨_, _, h3, h4, h5⟩ | ⟨h1, _⟩
          · exact absurd h2 (MakeOk.less (fun g => Bool.noConfusion (hb.2 g)) hk)
          · exact ⟨h3, h4, h5⟩
          · exact absurd HS.out h1
        obtain ⟨rfl, rfl, rfl⟩ := hz
        have d0 := HR0.out.c0
        have d1 := HR0.out.c1
        have f0 := HR0.out.free 0
        have f1 := HR0.out.free 1
        go_wp2
        refine bodyPost_ret (v := .tuple #[.agg #[.int .i64 0, .slice none 0 0], .int .i64 2]) (by simp [results, Tryd.results10, go_sem, d0, d1]) rfl ⟨none, 0, 0, rfl, ?_, ?_⟩
        · exact OwnGrid.nil _ _ _ (Nat.le_refl _)
        · exact HB0.out
      · obtain ⟨b1, off1, ha1, hcell1⟩ := HC.out (by omega)
        subst ha1
        have hx1 := below_cell HB0.out (hcell1 k hlt)
        have HROW := Lib.hid ((HV.out k hlt).below HB0.out)
        obtain ⟨b2, hb2⟩ := Tells.exists (TupP s ar (rowN xs k))
        have HT2 := Lib.hid hb2
        have HOK := Lib.hid (hb.1 rfl)
        clear hcell1 hb2 hb
        go_wp2_with fail
        refine (l01Tuple _ _ ar s b2 _ HROW.out HS.out.1 HS.out.2 HT2.out).mono ?_
        rintro e w2 ⟨rfl, rfl⟩
        go_wp2
        go_round
        case rel => exact ⟨k + 1, b2, by omega, by go_num, rfl, MakeOk.next HOK.out HT2.out⟩
        case measure => simp [intOf]; omega
    · obtain rfl : k = xs.length := by omega
      cases b
      · have hz : x = 0 ∧ zs = [] ∧ cd = 2 := by
          rcases HI.out with ⟨_, h2, _⟩ | ⟨_, _, h3, h4, h5⟩ | ⟨h1, _⟩
          · exact absurd h2 (MakeOk.less (fun g => Bool.noConfusion (hb.2 g)) hk)
          · exact ⟨h3, h4, h5⟩
          · exact absurd HS.out h1
        obtain ⟨rfl, rfl, rfl⟩ := hz
        have d0 := HR0.out.c0
        have d1 := HR0.out.c1
        have f0 := HR0.out.free 0
        have f1 := HR0.out.free 1
        go_wp2
        refine bodyPost_ret (v := .tuple #[.agg #[.int .i64 0, .slice none 0 0], .int .i64 2]) (by simp [results, Tryd.results10, go_sem, d0, d1]) rfl ⟨none, 0, 0, rfl, ?_, ?_⟩
        · exact OwnGrid.nil _ _ _ (Nat.le_refl _)
        · exact HB0.out
      · have hok := hb.1 rfl
        have hz : x = ar ∧ zs = rowsS (s : Int).toNat ar.toNat (setOf s xs) 256 ∧ cd = 0 := by
          rcases HI.out with ⟨_, _, h3, h4, h5⟩ | ⟨_, h3, _⟩ | ⟨h1, _⟩
          · exact ⟨h3, h4, h5⟩
          · exact absurd hok h3
          · exact absurd HS.out h1
        obtain ⟨rfl, hzs, rfl⟩ := hz
        have hr1 := hok.1.1
        have hr2 := hok.1.2
        obtain ⟨r, rfl⟩ : ∃ r : Nat, x = r := ⟨x.toNat, by omega⟩
        simp only [Int.toNat_natCast] at hzs
        rw [make_rows h1 h2 (by omega) (by omega) hok.2] at hzs
        subst hzs
        have HOK := Lib.hid hok
        clear hok hb HI
        go_wp2_with fail
        refine (l01Empty s r h1 h2 (by omega) _).mono ?_
        rintro e w2 ⟨p, g, rfl, hset, hb2⟩
        have hset' := hset
        rw [World.size_alloc] at hset'
        have HSET := Lib.hid hset'
        clear hset'
        have hg := (hset.has.lt g rfl).1
        rw [World.size_alloc] at hg
        have hp := hset.le
        rw [World.size_alloc] at hp
        have HB2 := Lib.hid (HB0.out.trans (hb2.mono (by simp)))
        have HR2 := Lib.hid (HR0.out.below hb2)
        clear hset hb2
        go_wp2
        go_loopw [11] (fun i wr => ∃ k : Nat, k ≤ xs.length ∧ i = .int .i64 k ∧ LSetAt wr (w.heap.size + 1) p g s r (setK s xs k) ∧ RelBox wr w.heap.size (.int .i64 0) (.slice none 0 0) ∧ Below w.heap.size w wr) (fun i _ => xs.length - (intOf i).toNat)
        case atStart => exact ⟨0, Nat.zero_le _, rfl, HSET.out, HR2.out, HB2.out⟩
        case round =>
          obtain ⟨k, hk, rfl, hset, hr, hw⟩ := hrel
          by_cases hlt : k < xs.length
          · obtain ⟨b1, off1, ha1, hcell1⟩ := HC.out (by omega)
            subst ha1
            have hx1 := below_cell hw (hcell1 k hlt)
            have hlt' : (k : Int) < (xs.length : Int) := by omega
            have HROW := Lib.hid ((HV.out k hlt).below hw)
            have HS2 := Lib.hid hset
            have HR3 := Lib.hid hr
            have HW := Lib.hid hw
            clear hcell1 hset hr hw
            go_wp2_with fail
            refine (setPut _ p g s r _ _ _ _ HS2.out HROW.out h1 h2 (by omega) (by omega) (HOK.out.2 k hlt)).mono ?_
            rintro e w3 ⟨rfl, hs3, ho3⟩
            have HS3 := Lib.hid hs3
            have HR4 := Lib.hid (HR3.out.same (ho3.block _ HR3.out.lt (by omega)))
            have HW3 := Lib.hid (HW.out.trans (ho3.below HW.out.size (fun k hk => by omega)))
            clear hs3 ho3
            go_wp2
            go_roundw
            case rel => exact ⟨k + 1, by omega, by go_num, HS3.out, HR4.out, HW3.out⟩
            case measure => simp [intOf]; omega
          · obtain rfl : k = xs.length := by omega
            have HS2 := Lib.hid hset
            have HR3 := Lib.hid hr
            have HW := Lib.hid hw
            clear hset hr hw
            go_wp2_with fail
            refine (setRel _ p g s r _ _ HS2.out h1 h2 (by omega)).mono ?_
            rintro e w4 ⟨a4, n4, c4, rfl, ho4, hb4⟩
            have hr4 := HR3.out.below hb4
            have d0 := hr4.c0
            have d1 := hr4.c1
            have f0 := hr4.free 0
            have f1 := hr4.free 1
            have HO4 := Lib.hid ho4
            have HW4 := Lib.hid (HW.out.trans (hb4.mono HW.out.size))
            have HZ := Lib.hid HR3.out.lt
            clear ho4 hb4 hr4
            go_wp2
            refine bodyPost_ret (v := .tuple #[.agg #[.int .i64 r, .slice a4 n4 c4], .int .i64 0]) (by simp [results, Tryd.results10, go_sem, d0, d1]) rfl ⟨a4, n4, c4, rfl, ?_, ?_⟩
            · have e1 := HZ.out
              exact (((HO4.out.stored (by show w.heap.size < wr.heap.size; omega) _).stored (by show w.heap.size < wr.heap.size; omega) _).mono (by omega)).full
            · exact (HW4.out.setCell (by show w.heap.size ≤ w.heap.size; omega) _).setCell (by show w.heap.size ≤ w.heap.size; omega) _

theorem specMakeRel (size ar : Int) (v : Value) (xs : List (List Int)) (x : Int) (zs : List (List Int)) (cd : Int) (w : World) (h : GridAt w v xs) (hi : MakeRelIs size ar xs x zs cd) :
    Calls Tryd.prog 10 #[.int .i64 size, .int .i64 ar, v] w (MadeRel2 w x zs cd) := by
  by_cases hs : In14 size
  · obtain ⟨s, rfl⟩ : ∃ s : Nat, size = s := ⟨size.toNat, by have := hs.1; omega⟩
    exact specMake_in s ar (by have := hs.1; omega) (by have := hs.2; omega) v xs x zs cd w h hi
  · rcases hi with ⟨h1, _⟩ | ⟨h1, _⟩ | ⟨_, rfl, rfl, rfl⟩
    · exact absurd h1 hs
    · exact absurd h1 hs
    · exact specMake_no size ar v w hs

set_option maxHeartbeats 1000000 in
theorem implMake_no2 (size ar : Int) (v : Value) (w : World) (hs : In14 size) (h : ¬ In14 ar) : Calls Tryd.prog 12 #[.int .i64 size, .int .i64 ar, v] w (MadeRel2 w 0 [] 2) := by
  have HT := Lib.hid (Tells.no h)
  have HS := Lib.hid (Tells.yes hs)
  clear h hs
  go_enter Tryd.func12, Tryd.ntmps12
  go_wp2_with (first
    | (go_at_call 38; refine (isSize _ true _ HS.out).mono ?_; rintro e w' ⟨rfl, rfl⟩)
    | (go_at_call 39; refine (isArity _ false _ HT.out).mono ?_; rintro e w' ⟨rfl, rfl⟩))
  refine bodyPost_ret (v := .tuple #[.agg #[.int .i64 0, .slice none 0 0], .int .i64 2]) (by simp [results, Tryd.results12, go_sem]) rfl ⟨none, 0, 0, rfl, ?_, ?_⟩
  · exact OwnGrid.nil _ _ _ (Nat.le_refl _)
  · exact (Below.refl _ _).alloc (Nat.le_refl _) _

set_option maxHeartbeats 8000000 in
set_option maxRecDepth 100000 in
theorem implMake_in (s r : Nat) (h1 : 1 ≤ s) (h2 : s ≤ 4) (h3 : 1 ≤ r) (h4 : r ≤ 4) (v : Value) (xs : List (List Int)) (x : Int) (zs : List (List Int)) (cd : Int) (w : World) (h : GridAt w v xs) (hT : TzTab w) (hi : MakeRelIs s r xs x zs cd) :
    Calls Tryd.prog 12 #[.int .i64 s, .int .i64 r, v] w (MadeRel2 w x zs cd) := by
  have HI := Lib.hid hi
  have HTZ0 := Lib.hid hT
  have HS : Hid (In14 (s : Int)) := ⟨by omega, by omega⟩
  have HA : Hid (In14 (r : Int)) := ⟨by omega, by omega⟩
  have HR0 := Lib.hid ((RelBox.new w (.int .i64 0) (.slice none 0 0)).alloc (.cells (bitsC fun _ => false).toArray 53))
  have hbx := bits_new (w.alloc (.cells #[.int .i64 0, .slice none 0 0] 25)) (fun _ => false)
  rw [World.size_alloc] at hbx
  have HX := Lib.hid hbx
  have HB0 := Lib.hid (((Below.refl w.heap.size w).alloc (Nat.le_refl _) (.cells #[.int .i64 0, .slice none 0 0] 25)).alloc (by simp) (.cells (bitsC fun _ => false).toArray 53))
  obtain ⟨V, ⟨a', c', rfl, hn, hc⟩, hV⟩ := h
  have HC := Lib.hid hc
  have HV := Lib.hid hV
  clear hc hV hi hT hbx
  go_enter Tryd.func12, Tryd.ntmps12
  go_wp2_with (first
    | (go_at_call 38; refine (isSize _ true _ (Tells.yes HS.out)).mono ?_; rintro e w' ⟨rfl, rfl⟩)
    | (go_at_call 39; refine (isArity _ true _ (Tells.yes HA.out)).mono ?_; rintro e w' ⟨rfl, rfl⟩))
  go_loopw [21] (fun i wr => ∃ k : Nat, k ≤ xs.length ∧ i = .int .i64 k ∧ (∀ j, j < k → TupP s r (rowN xs j)) ∧ BitsBox wr (w.heap.size + 1) (setK s xs k) ∧ RelBox wr w.heap.size (.int .i64 0) (.slice none 0 0) ∧ Below w.heap.size w wr) (fun i _ => xs.length - (intOf i).toNat)
  case atStart =>
    rw [bits_zero]
    exact ⟨0, Nat.zero_le _, rfl, fun j hj => absurd hj (by omega), HX.out, HR0.out, HB0.out⟩
  case round =>
    obtain ⟨k, hk, rfl, hall, hb, hr, hw⟩ := hrel
    by_cases hlt : k < xs.length
    · obtain ⟨b1, off1, ha1, hcell1⟩ := HC.out (by omega)
      subst ha1
      have hx1 := below_cell hw (hcell1 k hlt)
      have hlt' : (k : Int) < (xs.length : Int) := by omega
      have HROW := Lib.hid ((HV.out k hlt).below hw)
      have HB := Lib.hid hb
      have HR := Lib.hid hr
      have HW := Lib.hid hw
      have HALL := Lib.hid hall
      clear hcell1 hb hr hw hall
      by_cases ht : TupP s r (rowN xs k)
      · have HT := Lib.hid ht
        clear ht
        go_wp2_with fail
        refine (isListBelow _ _ r s true _ HROW.out (Tells.yes HT.out)).mono ?_
        rintro e w2 ⟨rfl, rfl⟩
        go_wp2_with fail
        refine (numberOf' _ _ r _ _ HROW.out HS.out HA.out HT.out).mono ?_
        rintro e w2 ⟨rfl, rfl⟩
        go_wp2_with fail
        refine (putBit _ _ _ (codeN_lt HT.out HS.out HA.out) _ HB.out).mono ?_
        rintro e w3 ⟨rfl, ho, hb3⟩
        have HB3 := Lib.hid hb3
        have HR3 := Lib.hid (HR.out.same (ho.block _ HR.out.lt (by omega)))
        have HW3 := Lib.hid (HW.out.trans (ho.below HW.out.size (fun k hk => by omega)))
        clear hb3 ho
        go_wp2
        go_roundw
        case rel => exact ⟨k + 1, by omega, by go_num, fun j hj => (by
          by_cases e : j = k
          · subst e; exact HT.out
          · exact HALL.out j (by omega)), HB3.out, HR3.out, HW3.out⟩
        case measure => simp [intOf]; omega
      · have HT := Lib.hid (Tells.no ht)
        have hz : x = 0 ∧ zs = [] ∧ cd = 2 := by
          rcases HI.out with ⟨_, h2, _⟩ | ⟨_, _, h3, h4, h5⟩ | ⟨h1, _⟩
          · exact absurd (h2.2 k hlt) ht
          · exact ⟨h3, h4, h5⟩
          · exact absurd HS.out h1
        obtain ⟨rfl, rfl, rfl⟩ := hz
        clear ht
        go_wp2_with fail
        refine (isListBelow _ _ r s false _ HROW.out HT.out).mono ?_
        rintro e w2 ⟨rfl, rfl⟩
        have d0 := HR.out.c0
        have d1 := HR.out.c1
        have f0 := HR.out.free 0
        have f1 := HR.out.free 1
        go_wp2
        refine bodyPost_ret (v := .tuple #[.agg #[.int .i64 0, .slice none 0 0], .int .i64 2]) (by simp [results, Tryd.results12, go_sem, d0, d1]) rfl ⟨none, 0, 0, rfl, ?_, ?_⟩
        · exact OwnGrid.nil _ _ _ (Nat.le_refl _)
        · exact (HW.out.setCell (by show w.heap.size ≤ w.heap.size; omega) _).setCell (by show w.heap.size ≤ w.heap.size; omega) _
    · obtain rfl : k = xs.length := by omega
      have hz : x = r ∧ zs = rowsS (s : Int).toNat (r : Int).toNat (setOf s xs) 256 ∧ cd = 0 := by
        rcases HI.out with ⟨_, _, h3, h4, h5⟩ | ⟨_, h3, _⟩ | ⟨h1, _⟩
        · exact ⟨h3, h4, h5⟩
        · exact absurd ⟨HA.out, hall⟩ h3
        · exact absurd HS.out h1
      obtain ⟨rfl, hzs, rfl⟩ := hz
      simp only [Int.toNat_natCast] at hzs
      subst hzs
      have c0 := hb.cell 0 (by omega)
      have c1 := hb.cell 1 (by omega)
      have c2 := hb.cell 2 (by omega)
      have c3 := hb.cell 3 (by omega)
      have HR := Lib.hid hr
      have HW := Lib.hid hw
      have HTZ := Lib.hid (HTZ0.out.below hw)
      clear hb hr hw hall HI
      go_wp2_with fail
      refine (relOf s r h1 h2 h3 h4 _ _ HTZ.out).mono ?_
      rw [show setK (s : Int) xs xs.length = setOf s xs from rfl]
      rintro e w4 ⟨a4, n4, c4, rfl, ho4, hb4⟩
      have hr4 := HR.out.below hb4
      have d0 := hr4.c0
      have d1 := hr4.c1
      have f0 := hr4.free 0
      have f1 := hr4.free 1
      have HO4 := Lib.hid ho4
      have HW4 := Lib.hid (HW.out.trans (hb4.mono HW.out.size))
      have HZ := Lib.hid HR.out.lt
      clear ho4 hb4 hr4
      go_wp2
      refine bodyPost_ret (v := .tuple #[.agg #[.int .i64 r, .slice a4 n4 c4], .int .i64 0]) (by simp [results, Tryd.results12, go_sem, d0, d1]) rfl ⟨a4, n4, c4, rfl, ?_, ?_⟩
      · have e1 := HZ.out
        exact (((HO4.out.stored (by show w.heap.size < wr.heap.size; omega) _).stored (by show w.heap.size < wr.heap.size; omega) _).mono (by omega)).full
      · exact (HW4.out.setCell (by show w.heap.size ≤ w.heap.size; omega) _).setCell (by show w.heap.size ≤ w.heap.size; omega) _

theorem implMakeRel (size ar : Int) (v : Value) (xs : List (List Int)) (x : Int) (zs : List (List Int)) (cd : Int) (w : World) (h : GridAt w v xs) (hT : TzTab w) (hi : MakeRelIs size ar xs x zs cd) :
    Calls Tryd.prog 12 #[.int .i64 size, .int .i64 ar, v] w (MadeRel2 w x zs cd) := by
  by_cases hs : In14 size
  · by_cases ha : In14 ar
    · obtain ⟨s, rfl⟩ : ∃ s : Nat, size = s := ⟨size.toNat, by have := hs.1; omega⟩
      obtain ⟨r, rfl⟩ : ∃ r : Nat, ar = r := ⟨ar.toNat, by have := ha.1; omega⟩
      exact implMake_in s r (by have := hs.1; omega) (by have := hs.2; omega) (by have := ha.1; omega) (by have := ha.2; omega) v xs x zs cd w h hT hi
    · rcases hi with ⟨_, h1, _⟩ | ⟨_, _, rfl, rfl, rfl⟩ | ⟨h1, _⟩
      · exact absurd h1.1 ha
      · exact implMake_no2 size ar v w hs ha
      · exact absurd hs h1
  · rcases hi with ⟨h1, _⟩ | ⟨h1, _⟩ | ⟨_, rfl, rfl, rfl⟩
    · exact absurd h1 hs
    · exact absurd h1 hs
    · exact implMake_no size ar v w hs


end Go.Proofs.YtbnmgonfmihicaaDoor
