/-
  The graph of an operation in the program, by the set of its numbers: GraphOfOp.
-/
import Derived.Test.YtpkmdieaifggoabDoorGraph
import Derived.Test.YtpkmdieaifggoabDoorRelOf
namespace Go.Proofs.YtpkmdieaifggoabDoor
open Go.RowKit

theorem codeK_left {size : Int} (xs ys : List Int) : ∀ k, k ≤ xs.length → codeK size (xs ++ ys) k = codeK size xs k := by
  intro k hk
  refine codeK_same k fun j hj => ?_
  rw [intN_at _ _ (by simp; omega), intN_at _ _ (by omega)]
  exact List.getElem_append_left (by omega)

theorem code_snoc (size : Int) (xs : List Int) (x : Int) : code size (xs ++ [x]) = code size xs * size + x := by
  unfold code
  rw [List.length_append]
  show codeK size (xs ++ [x]) xs.length * size + intN (xs ++ [x]) xs.length = _
  rw [codeK_left _ _ _ (Nat.le_refl _), intN_at _ _ (by simp)]
  simp

theorem graph_code (s r k : Nat) (x : Int) (h1 : 1 ≤ s) (hk : k < s ^ r) (h0 : 0 ≤ x) : codeN s (digs s r k ++ [x]) = k * s + x.toNat := by
  have hc := digs_codeK s r k hk r (Nat.le_refl _)
  have hl := digs_len s r k
  unfold codeN
  rw [code_snoc]
  unfold code
  rw [hl, hc]
  simp only [Nat.sub_self, Nat.pow_zero, Nat.div_one]
  have h2 : (0 : Int) ≤ (k : Int) * (s : Int) := Int.mul_nonneg (by omega) (by omega)
  have h3 : ((k : Int) * (s : Int)).toNat = k * s := by rw [← Int.natCast_mul]; exact Int.toNat_natCast _
  omega

theorem OpOk.at {s r : Nat} {tab : List Int} (ho : OpOk s r tab) (k : Nat) (hk : k < tab.length) : 0 ≤ intN tab k ∧ intN tab k < s := ho.2.2.2 k hk

theorem graph_tup {s r : Nat} {tab : List Int} (ho : OpOk s r tab) (k : Nat) (hk : k < tab.length) : TupP s ((r + 1 : Nat) : Int) (digs s r k ++ [intN tab k]) := by
  have h := digs_tup s r k (by have := ho.1.1; omega)
  have hl := digs_len s r k
  refine ⟨by rw [List.length_append, hl]; simp, fun i hi => ?_⟩
  rw [List.length_append, hl] at hi
  simp only [List.length_cons, List.length_nil] at hi
  by_cases hir : i < r
  · have h2 := h.2 i (by omega)
    rw [intN_at _ _ (by omega)] at h2
    rw [intN_at _ _ (by rw [List.length_append, hl]; simp; omega), List.getElem_append_left (by omega)]
    exact h2
  · obtain rfl : i = r := by omega
    rw [intN_at _ _ (by rw [List.length_append, hl]; simp), List.getElem_append_right (by omega)]
    simpa [hl] using ho.at k hk

theorem graph_rows {s r : Nat} {tab : List Int} (ho : OpOk s r tab) (hlen : tab.length = s ^ r) : rowsS s (r + 1) (setOf s (graphR s r tab tab.length)) 256 = graphR s r tab tab.length := by
  have hs1 : 1 ≤ s := by have := ho.1.1; omega
  have hs2 : s ≤ 4 := by have := ho.1.2; omega
  have hr1 := ho.2.1.1
  have hr2 := ho.2.1.2
  refine rowsS_of hs1 hs2 (by omega) (by omega) (fun x hx => ?_) (asc_pairs _ fun k hk => ?_) (fun n _ => setOf_iff n)
  · obtain ⟨j, hj, rfl⟩ := mem_rowN.1 hx
    rw [graphR_len] at hj
    rw [graphR_at _ _ _ _ _ hj]
    exact graph_tup ho j hj
  · rw [graphR_len] at hk
    rw [graphR_at _ _ _ _ _ (by omega), graphR_at _ _ _ _ _ hk]
    have h1 := ho.at k (by omega)
    have h2 := ho.at (k + 1) hk
    rw [graph_code s r k _ hs1 (by omega) h1.1, graph_code s r (k + 1) _ hs1 (by omega) h2.1, Nat.succ_mul]
    omega

set_option maxHeartbeats 4000000 in
set_option maxRecDepth 100000 in
theorem implGraph_yes (s r : Nat) (a : Option Addr) (n c : Nat) (tab : List Int) (w : World) (hT : TzTab w) (h : RowAt w (.slice a n c) tab) (ho : OpOk s r tab) :
    Calls Tryd.prog 21 #[.int .i64 s, .agg #[.int .i64 r, .slice a n c]] w (MadeRel2 w (r + 1) (graphR s r tab tab.length) 0) := by
  have hR0 := (RelBox.new (w.alloc (.cells #[.int .i64 r, .slice a n c] 44)) (.int .i64 0) (.slice none 0 0))
  rw [World.size_alloc] at hR0
  have HR0 := Lib.hid hR0
  have HT0 := Lib.hid hT
  have hb0 := (Below.refl w.heap.size w).alloc (Nat.le_refl _) (.cells #[.int .i64 r, .slice a n c] 44)
  have K0 := Lib.hid ((((Kept.start w).read (lives_row _ _) h).box w.heap.size rfl (.int .i64 r) (.slice a n c) 44).below ((Below.refl _ _).alloc (Nat.le_refl _) (.cells #[.int .i64 0, .slice none 0 0] 27)))
  have HO := Lib.hid (Tells.yes ho)
  have HOO := Lib.hid ho
  obtain ⟨hs, har, htab⟩ := ho
  have hs1 : 1 ≤ s := by have := hs.1; omega
  have hs2 : s ≤ 4 := by have := hs.2; omega
  have hr1 : 1 ≤ r := by have := har.1; omega
  have hr2 : r ≤ 3 := by have := har.2; omega
  have hlen : tab.length = s ^ r := by have := htab.1; simp only [Int.toNat_natCast] at this; omega
  have hl256 : tab.length ≤ 256 := by rw [hlen]; exact (pow_le4 hs1 hs2 r (by omega)).1
  have hpos : 0 < tab.length := by rw [hlen]; exact (pow_le4 hs1 hs2 r (by omega)).2
  obtain ⟨b, off, rfl, rfl, hc0⟩ := SlAt.some_of h 0 hpos
  have hl64 : tab.length * s ≤ 256 := by rw [hlen, ← Nat.pow_succ]; exact (pow_le4 hs1 hs2 (r + 1) (by omega)).1
  have HGR := Lib.hid (graph_rows HOO.out hlen)
  clear hs har htab hpos h hc0 hR0 hT hb0
  go_enter Tryd.func21, Tryd.ntmps21
  have HLEN := Lib.hid hlen
  clear hlen
  go_wp2_with fail
  refine (implValidOp _ _ _ _ _ _ true _ (K0.out.r 0 rfl :) HO.out).mono ?_
  rintro e w1 ⟨rfl, hb1⟩
  have hsz1 : w.heap.size + 2 ≤ w1.heap.size := by have := hb1.size; simpa using this
  have K1 := Lib.hid (K0.out.below hb1)
  have HR1 := Lib.hid (HR0.out.below hb1)
  have cc0 := K1.out.c 0 rfl
  have cc1 := K1.out.c 1 rfl
  have HZ1 := Lib.hid hsz1
  have cc1a := below_cell ((Below.refl w1.heap.size w1).alloc (Nat.le_refl _) (.cells #[.int .u64 0, .int .u64 0, .int .u64 0, .int .u64 0] 61)) cc1
  clear hb1 hsz1
  go_wp2
  clear cc1a
  go_loopw [17] (fun i wr => ∃ k : Nat, k ≤ tab.length ∧ i = .int .i64 k ∧ BitsBox wr w1.heap.size (setK s (graphR s r tab tab.length) k) ∧ Below w1.heap.size w1 wr) (fun i _ => tab.length - (intOf i).toNat)
  case atStart =>
    refine ⟨0, Nat.zero_le _, rfl, ?_, (Below.refl _ _).alloc (Nat.le_refl _) _⟩
    rw [bits_zero]
    exact bits_new w1 (fun _ => false)
  case round =>
    obtain ⟨k, hk, rfl, hb, hbel⟩ := hrel
    by_cases hlt : k < tab.length
    · have cd1 := below_cell hbel cc1
      have hx := SlAt.cell_of ((K1.out.below hbel).row 0 rfl) k hlt
      have hlt' : (k : Int) < (tab.length : Int) := by omega
      obtain ⟨g0, g1⟩ := HOO.out.at k hlt
      have hks : k * s + s ≤ tab.length * s := by rw [← Nat.succ_mul]; exact Nat.mul_le_mul_right _ hlt
      have hcd : codeN s (rowN (graphR s r tab tab.length) k) = k * s + (intN tab k).toNat := by
        rw [graphR_at _ _ _ _ _ hlt]
        exact graph_code s r k _ hs1 (by have := HLEN.out; omega) g0
      have HSET : Hid (setK s (graphR s r tab tab.length) (k + 1) = putS (setK s (graphR s r tab tab.length) k) (k * s + (intN tab k).toNat)) := Lib.hid (by
        show putS _ _ = _
        rw [hcd])
      have hm0 : (0 : Int) ≤ (k : Int) * (s : Int) := Int.mul_nonneg (by omega) (by omega)
      have hm1 : (k : Int) * (s : Int) + (s : Int) ≤ 256 := by rw [← Int.natCast_mul]; omega
      have hm : (k : Int) * (s : Int) + intN tab k = ((k * s + (intN tab k).toNat : Nat) : Int) := by rw [Int.natCast_add, Int.natCast_mul]; omega
      have hm256 : k * s + (intN tab k).toNat < 256 := by omega
      have HB := Lib.hid hb
      have HW := Lib.hid hbel
      clear hb hbel hcd hks
      generalize hmm : k * s + (intN tab k).toNat = m at *
      clear hmm
      go_wp2_with fail
      refine (putBit _ _ m hm256 _ HB.out).mono ?_
      rintro e w3 ⟨rfl, ho3, hb3⟩
      rw [← HSET.out] at hb3
      have HB3 := Lib.hid hb3
      have HW3 := Lib.hid (HW.out.trans (ho3.below HW.out.size (fun k hk => by omega)))
      clear hb3 ho3 hm
      go_wp2
      go_roundw
      case rel => exact ⟨k + 1, by omega, by go_num, HB3.out, HW3.out⟩
      case measure => simp [intOf]; omega
    · obtain rfl : k = tab.length := by omega
      have c0 := hb.cell 0 (by omega)
      have c1 := hb.cell 1 (by omega)
      have c2 := hb.cell 2 (by omega)
      have c3 := hb.cell 3 (by omega)
      have cd0 := below_cell hbel cc0
      have hr := HR1.out.below hbel
      have HR2 := Lib.hid hr
      have HW := Lib.hid hbel
      have KE := Lib.hid (K1.out.below hbel)
      have HTZ := Lib.hid (HT0.out.below KE.out.bel)
      clear hb hbel hr
      go_wp2_with fail
      refine (relOf s (r + 1) hs1 hs2 (by omega) (by omega) _ _ HTZ.out).mono ?_
      rw [show setK (s : Int) (graphR s r tab tab.length) tab.length = setOf s (graphR s r tab tab.length) by unfold setOf; rw [graphR_len], HGR.out]
      rintro e w4 ⟨a4, n4, c4, rfl, ho4, hb4⟩
      have hr4 := HR2.out.below hb4
      have d0 := hr4.c0
      have d1 := hr4.c1
      have f0 := hr4.free 0
      have f1 := hr4.free 1
      have HO4 := Lib.hid ho4
      have KF := Lib.hid (KE.out.below hb4)
      have HZ4 := Lib.hid KE.out.bel.size
      clear ho4 hb4 hr4
      have HZZ : Hid (w.heap.size + 2 ≤ wr.heap.size) := Lib.hid (Nat.le_trans HZ1.out HW.out.size)
      go_wp2
      refine bodyPost_ret (v := .tuple #[.agg #[.int .i64 (r + 1), .slice a4 n4 c4], .int .i64 0]) (by simp [results, Tryd.results21, go_sem, d0, d1]) rfl ⟨a4, n4, c4, rfl, ?_, ?_⟩
      · have e1 := HZZ.out
        exact (((HO4.out.stored (by show w.heap.size + 1 < wr.heap.size; omega) _).stored (by show w.heap.size + 1 < wr.heap.size; omega) _).mono (by omega)).full
      · exact (KF.out.bel.setCell (by show w.heap.size ≤ w.heap.size + 1; omega) _).setCell (by show w.heap.size ≤ w.heap.size + 1; omega) _

set_option maxHeartbeats 1000000 in
set_option maxRecDepth 100000 in
theorem specGraph_no (size ar : Int) (a : Option Addr) (n c : Nat) (tab : List Int) (w : World) (h : RowAt w (.slice a n c) tab) (ho : ¬ OpOk size ar tab) :
    Calls Tryd.prog 19 #[.int .i64 size, .agg #[.int .i64 ar, .slice a n c]] w (MadeRel2 w 0 [] 1) := by
  have HP := Lib.hid ((OpAt.new w ar a n c tab 44 h).below ((Below.refl _ _).alloc (Nat.le_refl _) (.cells #[.int .i64 0, .slice none 0 0] 27)))
  have hR0 := (RelBox.new (w.alloc (.cells #[.int .i64 ar, .slice a n c] 44)) (.int .i64 0) (.slice none 0 0))
  rw [World.size_alloc] at hR0
  have HR0 := Lib.hid hR0
  have K0 := Lib.hid ((((Kept.start w).read (lives_row _ _) h).box w.heap.size rfl (.int .i64 ar) (.slice a n c) 44).below ((Below.refl _ _).alloc (Nat.le_refl _) (.cells #[.int .i64 0, .slice none 0 0] 27)))
  have HO := Lib.hid (Tells.no ho)
  clear h ho hR0
  go_enter Tryd.func19, Tryd.ntmps19
  go_wp2_with fail
  refine (l02Ok _ _ _ _ _ false _ HP.out HO.out).mono ?_
  rintro e w1 ⟨rfl, hq1⟩
  have hb1 := hq1.bel
  have hr := HR0.out.below hb1
  have d0 := hr.c0
  have d1 := hr.c1
  have f0 := hr.free 0
  have f1 := hr.free 1
  have KE := Lib.hid (K0.out.below hb1)
  have HZ := Lib.hid (show w.heap.size + 2 ≤ w1.heap.size by have := hb1.size; simpa using this)
  clear hb1 hr
  go_wp2
  refine bodyPost_ret (v := .tuple #[.agg #[.int .i64 0, .slice none 0 0], .int .i64 1]) (by simp [results, Tryd.results19, go_sem, d0, d1]) rfl ⟨none, 0, 0, rfl, ?_, ?_⟩
  · exact OwnGrid.nil _ _ _ (Nat.le_refl _)
  · exact (KE.out.bel.setCell (by show w.heap.size ≤ w.heap.size + 1; omega) _).setCell (by show w.heap.size ≤ w.heap.size + 1; omega) _

set_option maxHeartbeats 1000000 in
set_option maxRecDepth 100000 in
theorem implGraph_no (size ar : Int) (a : Option Addr) (n c : Nat) (tab : List Int) (w : World) (h : RowAt w (.slice a n c) tab) (ho : ¬ OpOk size ar tab) :
    Calls Tryd.prog 21 #[.int .i64 size, .agg #[.int .i64 ar, .slice a n c]] w (MadeRel2 w 0 [] 1) := by
  have HP := Lib.hid ((OpAt.new w ar a n c tab 44 h).below ((Below.refl _ _).alloc (Nat.le_refl _) (.cells #[.int .i64 0, .slice none 0 0] 27)))
  have hR0 := (RelBox.new (w.alloc (.cells #[.int .i64 ar, .slice a n c] 44)) (.int .i64 0) (.slice none 0 0))
  rw [World.size_alloc] at hR0
  have HR0 := Lib.hid hR0
  have K0 := Lib.hid ((((Kept.start w).read (lives_row _ _) h).box w.heap.size rfl (.int .i64 ar) (.slice a n c) 44).below ((Below.refl _ _).alloc (Nat.le_refl _) (.cells #[.int .i64 0, .slice none 0 0] 27)))
  have HO := Lib.hid (Tells.no ho)
  clear h ho hR0
  go_enter Tryd.func21, Tryd.ntmps21
  go_wp2_with fail
  refine (implValidOp _ _ _ _ _ _ false _ (K0.out.r 0 rfl :) HO.out).mono ?_
  rintro e w1 ⟨rfl, hb1⟩
  have hr := HR0.out.below hb1
  have d0 := hr.c0
  have d1 := hr.c1
  have f0 := hr.free 0
  have f1 := hr.free 1
  have KE := Lib.hid (K0.out.below hb1)
  have HZ := Lib.hid (show w.heap.size + 2 ≤ w1.heap.size by have := hb1.size; simpa using this)
  clear hb1 hr
  go_wp2
  refine bodyPost_ret (v := .tuple #[.agg #[.int .i64 0, .slice none 0 0], .int .i64 1]) (by simp [results, Tryd.results21, go_sem, d0, d1]) rfl ⟨none, 0, 0, rfl, ?_, ?_⟩
  · exact OwnGrid.nil _ _ _ (Nat.le_refl _)
  · exact (KE.out.bel.setCell (by show w.heap.size ≤ w.heap.size + 1; omega) _).setCell (by show w.heap.size ≤ w.heap.size + 1; omega) _

theorem GraphOfOpIs.small {size ar : Int} {tab : List Int} {x : Int} {zs : List (List Int)} {cd : Int} (h : GraphOfOpIs size ar tab x zs cd) : (zs.map List.length).sum ≤ 1048576 := by
  rcases h with ⟨_, _, rfl, _⟩ | ⟨ho, _, rfl, _⟩
  · simp
  · obtain ⟨hs, har, htab⟩ := ho
    have h1 := hs.1
    have h2 := hs.2
    have h3 := har.2
    have hp := (pow_le4 (size := size.toNat) (by omega) (by omega) ar.toNat (by omega)).1
    have hl := htab.1
    have h4 := sum_map_le (graphR size.toNat ar.toNat tab tab.length) 4 fun x hx => by
      obtain ⟨j, hj, rfl⟩ := mem_rowN.1 hx
      rw [graphR_len] at hj
      rw [graphR_at _ _ _ _ _ hj, List.length_append, digs_len]
      simp
      omega
    rw [graphR_len] at h4
    omega

theorem specGraphOfOp (size ar : Int) (a : Option Addr) (n c : Nat) (tab : List Int) (x : Int) (zs : List (List Int)) (cd : Int) (w : World) (h : RowAt w (.slice a n c) tab) (hi : GraphOfOpIs size ar tab x zs cd) :
    Calls Tryd.prog 19 #[.int .i64 size, .agg #[.int .i64 ar, .slice a n c]] w (MadeRel2 w x zs cd) := by
  rcases hi with ⟨ho, rfl, rfl, rfl⟩ | ⟨ho, rfl, rfl, rfl⟩
  · exact specGraph_no size ar a n c tab w h ho
  · obtain ⟨s, rfl⟩ : ∃ s : Nat, size = s := ⟨size.toNat, by have := ho.1.1; omega⟩
    obtain ⟨r, rfl⟩ : ∃ r : Nat, ar = r := ⟨ar.toNat, by have := ho.2.1.1; omega⟩
    simp only [Int.toNat_natCast]
    exact specGraph_yes s r a n c tab w h ho

theorem implGraphOfOp (size ar : Int) (a : Option Addr) (n c : Nat) (tab : List Int) (x : Int) (zs : List (List Int)) (cd : Int) (w : World) (h : RowAt w (.slice a n c) tab) (hT : TzTab w) (hi : GraphOfOpIs size ar tab x zs cd) :
    Calls Tryd.prog 21 #[.int .i64 size, .agg #[.int .i64 ar, .slice a n c]] w (MadeRel2 w x zs cd) := by
  rcases hi with ⟨ho, rfl, rfl, rfl⟩ | ⟨ho, rfl, rfl, rfl⟩
  · exact implGraph_no size ar a n c tab w h ho
  · obtain ⟨s, rfl⟩ : ∃ s : Nat, size = s := ⟨size.toNat, by have := ho.1.1; omega⟩
    obtain ⟨r, rfl⟩ : ∃ r : Nat, ar = r := ⟨ar.toNat, by have := ho.2.1.1; omega⟩
    simp only [Int.toNat_natCast]
    exact implGraph_yes s r a n c tab w hT h ho

theorem lives_tz : Lives TzTab := fun _ _ hb h => h.below hb
theorem stab_tz {w : World} (h : TzTab w) : Stab 0 w.heap.size TzTab w := stab_lives fun _ _ h2 => fun j hj => (World.cell?_of_block (h2 _ (cell_block_lt (h j hj)))).trans (h j hj)

end Go.Proofs.YtpkmdieaifggoabDoor
