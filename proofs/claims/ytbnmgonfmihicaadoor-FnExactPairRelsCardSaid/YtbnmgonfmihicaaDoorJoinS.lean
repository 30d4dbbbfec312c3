/-
  The model's set of a relation, and the tuples of one of two relations: l01SetOf and JoinRels of the model.
-/
import Derived.Test.YtbnmgonfmihicaaDoorMake
import Derived.Test.YtbnmgonfmihicaaDoorGRel
namespace Go.Proofs.YtbnmgonfmihicaaDoor
open Go.RowKit

theorem tri_set {w1 : World} {p b c d : Addr} {x y z v : Value} (h : w1.cell? b = some x ∧ w1.cell? c = some y ∧ w1.cell? d = some z) (hb : b.block ≠ p.block) (hc : c.block ≠ p.block) (hd : d.block ≠ p.block) :
    (w1.setCell p v).cell? b = some x ∧ (w1.setCell p v).cell? c = some y ∧ (w1.setCell p v).cell? d = some z :=
  ⟨(World.cell?_of_block (Below.heap_setCell _ _ _ _ hb)).trans h.1, (World.cell?_of_block (Below.heap_setCell _ _ _ _ hc)).trans h.2.1, (World.cell?_of_block (Below.heap_setCell _ _ _ _ hd)).trans h.2.2⟩

set_option maxHeartbeats 4000000 in
set_option maxRecDepth 100000 in
theorem l01SetOf (s r : Nat) (pb po : Nat) (xs : List (List Int)) (w : World) (h1 : 1 ≤ s) (h2 : s ≤ 4) (h3 : 1 ≤ r) (h4 : r ≤ 4) (h : RelAt w pb po r xs) (ht : ∀ j, j < xs.length → TupP s r (rowN xs j)) :
    Calls Tryd.prog 50 #[.int .i64 s, .pointer (some ⟨pb, po, none⟩)] w fun e w' => ∃ p g, e = .returned (.pointer (some ⟨p, 0, none⟩)) ∧ LSetAt w' w.heap.size p g s r (setOf s xs) ∧ Below w.heap.size w w' := by
  obtain ⟨ha, a, n, c, hrow, hgrid⟩ := h
  obtain ⟨V, ⟨a', c', hv, hn, hc⟩, hV⟩ := hgrid
  simp only [Value.slice.injEq] at hv
  obtain ⟨rfl, rfl, rfl⟩ := hv
  have HC := Lib.hid hc
  have HV := Lib.hid hV
  have HT := Lib.hid ht
  have HROW := Lib.hid hrow
  have hpb : pb < w.heap.size := cell_block_lt hrow
  have HS : Hid (In14 (s : Int)) := ⟨by omega, by omega⟩
  have HA : Hid (In14 (r : Int)) := ⟨by omega, by omega⟩
  clear hc hV ht hrow
  go_enter Tryd.func50, Tryd.ntmps50
  go_wp2_with fail
  refine (l01Empty s r h1 h2 h4 _).mono ?_
  rintro e w2 ⟨p, g, rfl, hset, hb2⟩
  have hg := (hset.has.lt g rfl).1
  have hne1 := hset.ne
  have HSET := Lib.hid hset
  have HB2 := Lib.hid hb2
  clear hset hb2 ha
  go_wp2
  go_loopw [6] (fun i wr => ∃ k : Nat, k ≤ xs.length ∧ i = .int .i64 k ∧ LSetAt wr w.heap.size p g s r (setK s xs k) ∧ Below w.heap.size w wr) (fun i _ => xs.length - (intOf i).toNat)
  case atStart => exact ⟨0, Nat.zero_le _, rfl, HSET.out, HB2.out⟩
  case round =>
    obtain ⟨k, hk, rfl, hset, hw⟩ := hrel
    have hrow := below_cell hw HROW.out
    by_cases hlt : k < xs.length
    · obtain ⟨b1, off1, ha1, hcell1⟩ := HC.out (by omega)
      subst ha1
      have hb1 : b1 < w.heap.size := cell_block_lt (hcell1 k hlt)
      have hx1 := below_cell hw (hcell1 k hlt)
      have hcl := codeN_pow h1 (HT.out k hlt)
      have HROWK := Lib.hid ((HV.out k hlt).below hw)
      have HTK := Lib.hid (HT.out k hlt)
      have hput := hset.put (codeN s (rowN xs k))
      have hat := hset.at _ hcl
      have hfr := hset.has.frozenAt (codeN s (rowN xs k))
      have hcb := hset.c2
      have hlt' : (k : Int) < (xs.length : Int) := by omega
      have hne2 : pb ≠ g := by omega
      have hne3 : b1 ≠ g := by omega
      generalize hm : codeN s (rowN xs k) = m at *
      have HM := Lib.hid hm
      have HPUT := Lib.hid hput
      have HW3 : Hid (Below w.heap.size w (wr.setCell ⟨g, m, none⟩ (.bool true)).drew) := Lib.hid ((hw.setCell (p := ⟨g, m, none⟩) (by show w.heap.size ≤ g; omega) (.bool true)).drew)
      generalize s ^ r = N at *
      have hltI : (m : Int) < (N : Int) := by omega
      clear hset hw hput hm hcell1
      go_wp2
      go_region_held3 (fun w' => w'.cell? ⟨p, 2, none⟩ = some (.slice (some ⟨g, 0, none⟩) N N) ∧ w'.cell? ⟨pb, po + 1, none⟩ = some (.slice (some ⟨b1, off1, none⟩) xs.length c) ∧ w'.cell? ⟨b1, off1 + k, none⟩ = some (V k))
        (first | exact ⟨hcb, hrow, hx1⟩ | exact tri_set (by assumption) hne1 hne2 hne3 | go_keep)
        (first
          | (go_at_call 63; refine (l01CodeN _ _ r _ m _ (((QW.refl _).drew).row HROWK.out) HS.out HA.out HTK.out HM.out).mono ?_; rintro e w2 ⟨rfl, rfl⟩))
      go_wp2
      go_roundw
      case rel =>
        refine ⟨k + 1, by omega, by go_num, ?_, HW3.out⟩
        show LSetAt _ _ _ _ _ _ (putS (setK s xs k) (codeN s (rowN xs k)))
        rw [HM.out]
        exact HPUT.out.below ((QW.refl _).drew.bel)
      case measure => simp [intOf]; omega
    · obtain rfl : k = xs.length := by omega
      have HS2 := Lib.hid hset
      have HW := Lib.hid hw
      clear hset hw
      go_wp2
      go_ret
      exact ⟨p, g, rfl, HS2.out, HW.out⟩

theorem setK_left (size : Int) (xs ys : List (List Int)) : ∀ k, k ≤ xs.length → setK size (xs ++ ys) k = setK size xs k := by
  intro k
  induction k with
  | zero => intro _; rfl
  | succ k ih =>
    intro hk
    show putS _ _ = putS _ _
    rw [ih (by omega), rowN_at _ _ (by simp; omega), rowN_at _ _ (by omega), List.getElem_append_left (by omega)]
theorem setK_right (size : Int) (xs ys : List (List Int)) (k : Nat) (hk : k < ys.length) : setK size (xs ++ ys) (xs.length + (k + 1)) = putS (setK size (xs ++ ys) (xs.length + k)) (codeN size (rowN ys k)) := by
  have e : rowN (xs ++ ys) (xs.length + k) = rowN ys k := by
    rw [rowN_at _ _ (by simp; omega), rowN_at _ _ hk, List.getElem_append_right (by omega)]
    simp
  show putS (setK size (xs ++ ys) (xs.length + k)) (codeN size (rowN (xs ++ ys) (xs.length + k))) = _
  rw [e]
theorem join_tups {s r : Int} {xs ys : List (List Int)} (h1 : RelOk s r xs) (h2 : RelOk s r ys) : ∀ j, j < (xs ++ ys).length → TupP s r (rowN (xs ++ ys) j) := fun j hj => by
  have hm : rowN (xs ++ ys) j ∈ xs ++ ys := mem_rowN.2 ⟨j, hj, rfl⟩
  rcases List.mem_append.1 hm with h | h
  · exact h1.tups _ h
  · exact h2.tups _ h
theorem RelOk.rows {s r : Int} {xs : List (List Int)} (h1 : RelOk s r xs) : ∀ j, j < xs.length → TupP s r (rowN xs j) := fun j hj => (h1.2.2 j hj).1

/-- What JoinRels answers. -/
def JoinRelsIs (size x : Int) (xs : List (List Int)) (y : Int) (ys : List (List Int)) (ar : Int) (zs : List (List Int)) (cd : Int) : Prop :=
  TwoCode size x xs y ys cd ∧ ((cd = 0 ∧ ar = x ∧ zs = rowsS size.toNat x.toNat (setOf size (xs ++ ys)) 256) ∨ (cd ≠ 0 ∧ ar = 0 ∧ zs = []))
theorem JoinRelsIs.exists (size x : Int) (xs : List (List Int)) (y : Int) (ys : List (List Int)) : ∃ ar zs cd, JoinRelsIs size x xs y ys ar zs cd := by
  obtain ⟨c, hc⟩ := TwoCode.exists size x xs y ys
  by_cases h : c = 0
  · exact ⟨_, _, c, hc, .inl ⟨h, rfl, rfl⟩⟩
  · exact ⟨_, _, c, hc, .inr ⟨h, rfl, rfl⟩⟩
theorem JoinRelsIs.small {size x : Int} {xs : List (List Int)} {y : Int} {ys : List (List Int)} {ar : Int} {zs : List (List Int)} {cd : Int} (h : JoinRelsIs size x xs y ys ar zs cd) : (zs.map List.length).sum ≤ 1048576 := by
  obtain ⟨hc, ⟨rfl, rfl, rfl⟩ | ⟨_, _, rfl⟩⟩ := h
  · exact rowsS_small _ _ _ (by have := hc.ok.1.2.1.2; omega)
  · simp

set_option maxHeartbeats 4000000 in
set_option maxRecDepth 100000 in
theorem specJoin_in (s r : Nat) (h1 : 1 ≤ s) (h2 : s ≤ 4) (h3 : 1 ≤ r) (h4 : r ≤ 4) (a1 : Option Addr) (n1 c1 : Nat) (xs : List (List Int)) (a2 : Option Addr) (n2 c2 : Nat) (ys : List (List Int)) (w : World) (g1 : GridAt w (.slice a1 n1 c1) xs) (g2 : GridAt w (.slice a2 n2 c2) ys) (hc : TwoCode s r xs r ys 0) :
    Calls Tryd.prog 26 #[.int .i64 s, .agg #[.int .i64 r, .slice a1 n1 c1], .agg #[.int .i64 r, .slice a2 n2 c2]] w (MadeRel2 w r (rowsS s r (setOf s (xs ++ ys)) (s ^ r)) 0) := by
  obtain rfl : n2 = ys.length := by
    obtain ⟨_, ⟨_, _, hv, _⟩, _⟩ := g2
    simp only [Value.slice.injEq] at hv
    exact hv.2.1
  have hR0 := RelBox.new ((w.alloc (.cells #[.int .i64 r, .slice a1 n1 c1] 25)).alloc (.cells #[.int .i64 r, .slice a2 ys.length c2] 25)) (.int .i64 0) (.slice none 0 0)
  rw [World.size_alloc, World.size_alloc] at hR0
  have HR0 := Lib.hid hR0
  have K0 := Lib.hid ((((((Kept.start w).read (lives_grid _ _) g2).read (lives_grid _ _) g1).box w.heap.size rfl (.int .i64 r) (.slice a1 n1 c1) 25).box (w.heap.size + 1) (by simp) (.int .i64 r) (.slice a2 ys.length c2) 25).below ((Below.refl _ _).alloc (Nat.le_refl _) (.cells #[.int .i64 0, .slice none 0 0] 25)))
  clear g1 g2 hR0

  have HC := Lib.hid hc
  have HX := Lib.hid hc.ok.1.rows
  have HY := Lib.hid hc.ok.2.1.rows
  clear hc
  go_enter Tryd.func26, Tryd.ntmps26
  go_wp2_with fail
  refine (l01Two _ _ _ _ _ _ _ _ _ 0 _ ⟨(K0.out.c 2 rfl :), a1, n1, c1, (K0.out.c 3 rfl :), (K0.out.r 0 rfl :)⟩ ⟨(K0.out.c 0 rfl :), a2, ys.length, c2, (K0.out.c 1 rfl :), (K0.out.r 1 rfl :)⟩ HC.out).mono ?_
  rintro e w2 ⟨rfl, hq⟩
  have hsz2 : w.heap.size + 3 ≤ w2.heap.size := by have := hq.bel.size; simpa using this
  have K2 := Lib.hid (K0.out.below hq.bel)
  have HR2 := Lib.hid (HR0.out.below hq.bel)
  clear hq
  go_wp2_with fail
  refine (l01SetOf s r w.heap.size 0 xs _ h1 h2 h3 h4 ⟨(K2.out.c 2 rfl :), a1, n1, c1, (K2.out.c 3 rfl :), (K2.out.r 0 rfl :)⟩ HX.out).mono ?_
  rintro e w3 ⟨p, g, rfl, hset, hb3⟩
  have hg := (hset.has.lt g rfl).1
  have HSET := Lib.hid hset
  have HB3 := Lib.hid hb3
  have HR3 := Lib.hid (HR2.out.below hb3)
  clear hset hb3
  go_wp2
  go_loopw [10] (fun i wr => ∃ k : Nat, k ≤ ys.length ∧ i = .int .i64 k ∧ LSetAt wr w2.heap.size p g s r (setK s (xs ++ ys) (xs.length + k)) ∧ RelBox wr (w.heap.size + 2) (.int .i64 0) (.slice none 0 0) ∧ Below w2.heap.size w2 wr) (fun i _ => ys.length - (intOf i).toNat)
  case atStart =>
    refine ⟨0, Nat.zero_le _, rfl, ?_, HR3.out, HB3.out⟩
    rw [show setK (s : Int) (xs ++ ys) (xs.length + 0) = setOf s xs from setK_left _ _ _ _ (Nat.le_refl _)]
    exact HSET.out
  case round =>
    obtain ⟨k, hk, rfl, hset, hr, hw⟩ := hrel
    have KW := Lib.hid (K2.out.below hw)
    have hcell := KW.out.c 1 rfl
    by_cases hlt : k < ys.length
    · obtain ⟨V, ⟨a', c', hv, hn, hc⟩, hV⟩ : GridAt wr (.slice a2 ys.length c2) ys := (KW.out.r 1 rfl :)
      simp only [Value.slice.injEq] at hv
      obtain ⟨rfl, _, rfl⟩ := hv
      obtain ⟨b1, off1, ha1, hcell1⟩ := hc (by omega)
      subst ha1
      have hx1 := hcell1 k hlt
      have hlt' : (k : Int) < (ys.length : Int) := by omega
      have HROW := Lib.hid (hV k hlt)
      have HS2 := Lib.hid hset
      have HR4 := Lib.hid hr
      have HW := Lib.hid hw
      clear hcell1 hset hr hw hV hc
      go_wp2_with fail
      refine (setPut _ p g s r _ _ _ _ HS2.out HROW.out h1 h2 h3 h4 (HY.out k hlt)).mono ?_
      rintro e w4 ⟨rfl, hs4, ho4⟩
      rw [← setK_right s xs ys k hlt] at hs4
      have HS4 := Lib.hid hs4
      have HR5 := Lib.hid (HR4.out.same (ho4.block _ HR4.out.lt (by omega)))
      have HW4 := Lib.hid (HW.out.trans (ho4.below HW.out.size (fun k hk => by omega)))
      clear hs4 ho4
      go_wp2
      go_roundw
      case rel => exact ⟨k + 1, by omega, by go_num, HS4.out, HR5.out, HW4.out⟩
      case measure => simp [intOf]; omega
    · obtain rfl : k = ys.length := by omega
      rw [show setK (s : Int) (xs ++ ys) (xs.length + ys.length) = setOf s (xs ++ ys) by unfold setOf; rw [List.length_append]] at hset
      have HS2 := Lib.hid hset
      have HR4 := Lib.hid hr
      have HW := Lib.hid KW.out.bel
      clear hset hr hw
      go_wp2_with fail
      refine (setRel _ p g s r _ _ HS2.out h1 h2 h4).mono ?_
      rintro e w5 ⟨a5, n5, c5, rfl, ho5, hb5⟩
      have hr5 := HR4.out.below hb5
      have d0 := hr5.c0
      have d1 := hr5.c1
      have f0 := hr5.free 0
      have f1 := hr5.free 1
      have HO5 := Lib.hid ho5
      have HW5 := Lib.hid (HW.out.trans (hb5.mono HW.out.size))
      have HZ := Lib.hid HR4.out.lt
      clear ho5 hb5 hr5
      go_wp2
      refine bodyPost_ret (v := .tuple #[.agg #[.int .i64 r, .slice a5 n5 c5], .int .i64 0]) (by simp [results, Tryd.results26, go_sem, d0, d1]) rfl ⟨a5, n5, c5, rfl, ?_, ?_⟩
      · have e1 := HZ.out
        exact (((HO5.out.stored e1 _).stored e1 _).mono (by omega)).full
      · exact (HW5.out.setCell (by show w.heap.size ≤ w.heap.size + 2; omega) _).setCell (by show w.heap.size ≤ w.heap.size + 2; omega) _

set_option maxHeartbeats 1000000 in
set_option maxRecDepth 100000 in
theorem specJoin_no (size x : Int) (a1 : Option Addr) (n1 c1 : Nat) (xs : List (List Int)) (y : Int) (a2 : Option Addr) (n2 c2 : Nat) (ys : List (List Int)) (cd : Int) (w : World) (g1 : GridAt w (.slice a1 n1 c1) xs) (g2 : GridAt w (.slice a2 n2 c2) ys) (hc : TwoCode size x xs y ys cd) (h0 : cd ≠ 0) :
    Calls Tryd.prog 26 #[.int .i64 size, .agg #[.int .i64 x, .slice a1 n1 c1], .agg #[.int .i64 y, .slice a2 n2 c2]] w (MadeRel2 w 0 [] cd) := by
  have hR0 := RelBox.new ((w.alloc (.cells #[.int .i64 x, .slice a1 n1 c1] 25)).alloc (.cells #[.int .i64 y, .slice a2 n2 c2] 25)) (.int .i64 0) (.slice none 0 0)
  rw [World.size_alloc, World.size_alloc] at hR0
  have HR0 := Lib.hid hR0
  have K0 := Lib.hid ((((((Kept.start w).read (lives_grid _ _) g2).read (lives_grid _ _) g1).box w.heap.size rfl (.int .i64 x) (.slice a1 n1 c1) 25).box (w.heap.size + 1) (by simp) (.int .i64 y) (.slice a2 n2 c2) 25).below ((Below.refl _ _).alloc (Nat.le_refl _) (.cells #[.int .i64 0, .slice none 0 0] 25)))
  clear g1 g2 hR0

  have HC := Lib.hid hc
  have hne : (cd == 0) = false := beq_eq_false_iff_ne.2 h0
  clear hc h0
  go_enter Tryd.func26, Tryd.ntmps26
  go_wp2_with fail
  refine (l01Two _ _ _ _ _ _ _ _ _ cd _ ⟨(K0.out.c 2 rfl :), a1, n1, c1, (K0.out.c 3 rfl :), (K0.out.r 0 rfl :)⟩ ⟨(K0.out.c 0 rfl :), a2, n2, c2, (K0.out.c 1 rfl :), (K0.out.r 1 rfl :)⟩ HC.out).mono ?_
  rintro e w2 ⟨rfl, hq⟩
  have hb2 : Below _ _ w2 := hq.bel
  have hr := HR0.out.below hb2
  have d0 := hr.c0
  have d1 := hr.c1
  have f0 := hr.free 0
  have f1 := hr.free 1
  have KE := Lib.hid (K0.out.below hb2)
  clear hq hb2 hr
  go_wp2
  refine bodyPost_ret (v := .tuple #[.agg #[.int .i64 0, .slice none 0 0], .int .i64 cd]) (by simp [results, Tryd.results26, go_sem, d0, d1]) rfl ⟨none, 0, 0, rfl, ?_, ?_⟩
  · exact OwnGrid.nil _ _ _ (Nat.le_refl _)
  · exact (KE.out.bel.setCell (by show w.heap.size ≤ w.heap.size + 2; omega) _).setCell (by show w.heap.size ≤ w.heap.size + 2; omega) _

theorem specJoinRels (size x : Int) (a1 : Option Addr) (n1 c1 : Nat) (xs : List (List Int)) (y : Int) (a2 : Option Addr) (n2 c2 : Nat) (ys : List (List Int)) (ar : Int) (zs : List (List Int)) (cd : Int) (w : World) (g1 : GridAt w (.slice a1 n1 c1) xs) (g2 : GridAt w (.slice a2 n2 c2) ys) (hi : JoinRelsIs size x xs y ys ar zs cd) :
    Calls Tryd.prog 26 #[.int .i64 size, .agg #[.int .i64 x, .slice a1 n1 c1], .agg #[.int .i64 y, .slice a2 n2 c2]] w (MadeRel2 w ar zs cd) := by
  obtain ⟨hc, ⟨rfl, rfl, rfl⟩ | ⟨h0, rfl, rfl⟩⟩ := hi
  · obtain ⟨r1, r2, rfl⟩ := hc.ok
    have e1 := r1.1.1
    have e2 := r1.1.2
    have e3 := r1.2.1.1
    have e4 := r1.2.1.2
    obtain ⟨s, rfl⟩ : ∃ s : Nat, size = s := ⟨size.toNat, by omega⟩
    obtain ⟨r, rfl⟩ : ∃ r : Nat, ar = r := ⟨ar.toNat, by omega⟩
    simp only [Int.toNat_natCast]
    rw [make_rows (by omega) (by omega) (by omega) (by omega) (join_tups r1 r2)]
    exact specJoin_in s r (by omega) (by omega) (by omega) (by omega) a1 n1 c1 xs a2 n2 c2 ys w g1 g2 hc
  · exact specJoin_no size x a1 n1 c1 xs y a2 n2 c2 ys cd w g1 g2 hc h0

end Go.Proofs.YtbnmgonfmihicaaDoor
