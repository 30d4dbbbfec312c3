/-
  The model's sets of tuples: l01Empty, l01Set.put, l01Set.rel.
-/
import Derived.Test.YtbnmgonfmihicaaDoorGSet
import Derived.Test.YtbnmgonfmihicaaDoorApplyOp
import Derived.Test.YtbnmgonfmihicaaDoorGBase
import Derived.Deep.AppendLies
import Derived.Deep.RegionHeld3
namespace Go.Proofs.YtbnmgonfmihicaaDoor
open Go.RowKit

theorem info_bool : (Tryd.prog.info? 4).map (fun i => (i.zero, i.size, i.bytes)) = some (some (.bool false), 1, 1) := by kernel_rfl

/-- A set of the model's behind a pointer: its struct in block p, its truth values in block g. -/
structure LSetAt (w : World) (B p g s ar : Nat) (S : Nat → Bool) : Prop where
  box : w.heap[p]? = some (.cells #[.int .i64 s, .int .i64 ar, .slice (some ⟨g, 0, none⟩) (s ^ ar) (s ^ ar)] 66 (0, 0))
  has : w.ownsRow B 4 1 (.slice (some ⟨g, 0, none⟩) (s ^ ar) (s ^ ar)) (s ^ ar) ((List.range (s ^ ar)).map fun i => .bool (S i))
  ne : p ≠ g
  le : B ≤ p

theorem LSetAt.c0 {w : World} {B p g s ar : Nat} {S : Nat → Bool} (h : LSetAt w B p g s ar S) : w.cell? ⟨p, 0, none⟩ = some (.int .i64 s) := by rw [cell_of_row w p 0 _ _ (0, 0) h.box]; rfl
theorem LSetAt.c1 {w : World} {B p g s ar : Nat} {S : Nat → Bool} (h : LSetAt w B p g s ar S) : w.cell? ⟨p, 1, none⟩ = some (.int .i64 ar) := by rw [cell_of_row w p 1 _ _ (0, 0) h.box]; rfl
theorem LSetAt.c2 {w : World} {B p g s ar : Nat} {S : Nat → Bool} (h : LSetAt w B p g s ar S) : w.cell? ⟨p, 2, none⟩ = some (.slice (some ⟨g, 0, none⟩) (s ^ ar) (s ^ ar)) := by rw [cell_of_row w p 2 _ _ (0, 0) h.box]; rfl
theorem LSetAt.lt {w : World} {B p g s ar : Nat} {S : Nat → Bool} (h : LSetAt w B p g s ar S) : p < w.heap.size := (Array.getElem?_eq_some_iff.1 h.box).1
theorem LSetAt.at {w : World} {B p g s ar : Nat} {S : Nat → Bool} (h : LSetAt w B p g s ar S) (i : Nat) (hi : i < s ^ ar) : w.cell? ⟨g, i, none⟩ = some (.bool (S i)) := by
  rw [h.has.cellAt i (by omega)]
  simp [hi]
theorem LSetAt.below {w w' : World} {B p g s ar : Nat} {S : Nat → Bool} (h : LSetAt w B p g s ar S) (hb : Below w.heap.size w w') : LSetAt w' B p g s ar S :=
  ⟨by rw [hb.block p h.lt]; exact h.box, ownsRow_below h.has hb, h.ne, h.le⟩

set_option maxHeartbeats 1000000 in
theorem l01Empty (s ar : Nat) (h1 : 1 ≤ s) (h2 : s ≤ 4) (h4 : ar ≤ 4) (w : World) :
    Calls Tryd.prog 34 #[.int .i64 s, .int .i64 ar] w fun e w' => ∃ p g, e = .returned (.pointer (some ⟨p, 0, none⟩)) ∧ LSetAt w' w.heap.size p g s ar (fun _ => false) ∧ Below w.heap.size w w' := by
  obtain ⟨i0, hi, hz0, hz1, hz2⟩ := info_parts info_bool
  have hlim := (pow_le4 h1 h2 ar h4).1
  obtain ⟨N, hN⟩ : ∃ N, s ^ ar = N := ⟨_, rfl⟩
  rw [hN] at hlim
  have HN := Lib.hid hN
  clear hN
  go_enter Tryd.func34, Tryd.ntmps34
  go_wp2_with fail
  refine (l01Power s ar h1 h2 h4 _).mono ?_
  rw [HN.out]
  rintro e w2 ⟨rfl, rfl⟩
  go_wp2_with (at_make; refine wpList_make_full _ rfl _ _ 64 rfl w.heap.size 4 i0 (.bool false) 1 Tryd.underlying64 hi hz0 hz1 .i64 .i64 _ _ N rfl rfl rfl rfl (by rw [hz2]; omega) (by unfold maxLen; omega) (Nat.le_refl _) ?_; intro w1 hown hgrow)
  have hown0 : w1.ownsRow w.heap.size 4 1 (.slice (some ⟨w.heap.size, 0, none⟩) N N) N ((List.range N).map fun _ => .bool false) := by
    have hu : ((List.range N).map fun _ => Value.bool false) = List.replicate N (.bool false) := by
      apply List.ext_getElem?
      intro j
      by_cases h : j < N <;> simp [h]
    rw [hu, ← toList_madeCells_one]
    simpa [Value.cells] using hown
  have hlt := (hown0.lt w.heap.size rfl).2
  have hb1 : Below w.heap.size w w1 := (Below.refl _ _).grown hgrow (Nat.le_refl _) (fun _ h => by simp at h)
  have HO := Lib.hid hown0
  have HB := Lib.hid hb1
  clear hown hgrow hown0 hb1
  go_ret
  refine ⟨w1.heap.size, w.heap.size, rfl, ⟨?_, ?_, by omega, by omega⟩, HB.out.alloc HB.out.size _⟩
  · rw [HN.out]
    exact heap_alloc_new w1 _
  · rw [HN.out]
    exact HO.out.alloc _

theorem two_set {w1 : World} {p b c : Addr} {y z v : Value} (h : w1.cell? b = some y ∧ w1.cell? c = some z) (hb : b.block ≠ p.block) (hc : c.block ≠ p.block) : (w1.setCell p v).cell? b = some y ∧ (w1.setCell p v).cell? c = some z :=
  ⟨(World.cell?_of_block (Below.heap_setCell _ _ _ _ hb)).trans h.1, (World.cell?_of_block (Below.heap_setCell _ _ _ _ hc)).trans h.2⟩
theorem two_bel {w1 w2 : World} {b c : Addr} {y z : Value} (h : w1.cell? b = some y ∧ w1.cell? c = some z) (hb : Below w1.heap.size w1 w2) : w2.cell? b = some y ∧ w2.cell? c = some z := ⟨below_cell hb h.1, below_cell hb h.2⟩
theorem two_gr {w1 w2 : World} {row : Option Nat} {b c : Addr} {y z : Value} (h : w1.cell? b = some y ∧ w1.cell? c = some z) (hg : w1.grownBy w2 row) (hb : some b.block ≠ row) (hc : some c.block ≠ row) : w2.cell? b = some y ∧ w2.cell? c = some z :=
  ⟨(hg.cell_far b (cell_block_lt h.1) hb).trans h.1, (hg.cell_far c (cell_block_lt h.2) hc).trans h.2⟩

theorem LSetAt.put {w : World} {B p g s ar : Nat} {S : Nat → Bool} (h : LSetAt w B p g s ar S) (m : Nat) : LSetAt (w.setCell ⟨g, m, none⟩ (.bool true)) B p g s ar (putS S m) := by
  refine ⟨by rw [Below.heap_setCell _ _ _ _ h.ne]; exact h.box, ?_, h.ne, h.le⟩
  have h2 := (h.has.stored m (.bool true)).1
  have he : ((List.range (s ^ ar)).map fun i => Value.bool (S i)).set m (.bool true) = (List.range (s ^ ar)).map fun i => Value.bool (putS S m i) := by
    apply List.ext_getElem?
    intro j
    rw [List.getElem?_set]
    by_cases hj : m = j
    · subst hj
      by_cases hl : m < s ^ ar <;> simp [hl, putS]
    · rw [if_neg hj]
      by_cases hl : j < s ^ ar
      · simp [hl, putS, Ne.symm hj]
      · simp [hl]
  rwa [he] at h2

set_option linter.unusedSimpArgs false in
set_option maxHeartbeats 2000000 in
set_option maxRecDepth 100000 in
theorem setPut (B p g s ar : Nat) (S : Nat → Bool) (v : Value) (xs : List Int) (w : World) (h : LSetAt w B p g s ar S) (hv : RowAt w v xs) (h1 : 1 ≤ s) (h2 : s ≤ 4) (h3 : 1 ≤ ar) (h4 : ar ≤ 4) (ht : TupP s ar xs) :
    Calls Tryd.prog 35 #[.pointer (some ⟨p, 0, none⟩), v] w fun e w' => e = .returned (.tuple #[]) ∧ LSetAt w' B p g s ar (putS S (codeN s xs)) ∧ Only (fun k => k = g) w w' := by
  have hlt := codeN_pow h1 ht
  have hcs := h.c0
  have hcb := h.c2
  have hlim := (pow_le4 h1 h2 ar h4).1
  generalize hm : codeN s xs = m at *
  have hat := h.at m hlt
  have hfr := h.has.frozenAt m
  have hne := h.ne
  have HPUT := Lib.hid (h.put m)
  have HM := Lib.hid hm
  have HV := Lib.hid hv
  have HT := Lib.hid ht
  have HS : Hid (In14 s) := ⟨by omega, by omega⟩
  have HA : Hid (In14 ar) := ⟨by omega, by omega⟩
  have HO : Hid (Only (fun k => k = g) w (w.setCell ⟨g, m, none⟩ (.bool true)).drew) := ((Only.refl (fun k => k = g) w).setCell (p := ⟨g, m, none⟩) rfl _).drew
  generalize s ^ ar = N at *
  have hltI : (m : Int) < (N : Int) := by omega
  clear h hv ht hm
  go_enter Tryd.func35, Tryd.ntmps35
  go_wp2
  go_region_held3 (fun w' => w'.cell? ⟨p, 0, none⟩ = some (.int .i64 s) ∧ w'.cell? ⟨p, 2, none⟩ = some (.slice (some ⟨g, 0, none⟩) N N))
    (first | exact ⟨hcs, hcb⟩ | exact two_set (by assumption) hne hne | go_keep)
    (first
      | (go_at_call 63; refine (l01CodeN _ _ ar _ m _ (((QW.refl _).drew).row HV.out) HS.out HA.out HT.out HM.out).mono ?_; rintro e w2 ⟨rfl, rfl⟩))
  go_wp2
  go_end0
  exact ⟨rfl, HPUT.out.below ((QW.refl _).drew.bel), HO.out⟩

set_option linter.unusedSimpArgs false in
set_option maxHeartbeats 8000000 in
set_option maxRecDepth 100000 in
theorem setRel (B p g s ar : Nat) (S : Nat → Bool) (w : World) (h : LSetAt w B p g s ar S) (h1 : 1 ≤ s) (h2 : s ≤ 4) (h4 : ar ≤ 4) :
    Calls Tryd.prog 36 #[.pointer (some ⟨p, 0, none⟩)] w (MadeRel w ar (rowsS s ar S (s ^ ar))) := by
  obtain ⟨i0, hi0, hz0, hz1, hz2⟩ := info_parts info_row
  have HL := Lib.hid h
  have hlim := (pow_le4 h1 h2 ar h4).1
  have hpw := h.lt
  have hcs := h.c0
  have hca := h.c1
  have hcb := h.c2
  have hR0 := RelBox.new w (.int .i64 0) (.slice none 0 0)
  have HR0 := Lib.hid (hR0.alloc (.cells #[.int .i64 ar, .slice none 0 0] 25))
  have hR1 := RelBox.new (w.alloc (.cells #[.int .i64 0, .slice none 0 0] 25)) (.int .i64 ar) (.slice none 0 0)
  rw [World.size_alloc] at hR1
  have HR1 := Lib.hid hR1
  obtain ⟨N, hN⟩ : ∃ N, s ^ ar = N := ⟨_, rfl⟩
  rw [hN] at hlim hcb ⊢
  have hat : ∀ i, i < N → w.cell? ⟨g, i, none⟩ = some (.bool (S i)) := fun i hi => h.at i (by rw [hN]; exact hi)
  have HAT := Lib.hid hat
  have HN := Lib.hid hN
  clear h hR0 hR1 hat hN
  go_enter Tryd.func36, Tryd.ntmps36
  go_wp2
  go_loopw [4] (fun i wr => ∃ (k : Nat) (a' : Option Addr) (n' c' : Nat) (V : Nat → Value), k ≤ N ∧ i = .int .i64 k ∧ RelBox wr w.heap.size (.int .i64 0) (.slice none 0 0) ∧ RelBox wr (w.heap.size + 1) (.int .i64 ar) (.slice a' n' c') ∧ OwnGridV wr (w.heap.size + 2) wr.heap.size (.slice a' n' c') (memb S k).length V (fun i => digs s ar ((memb S k).getD i 0)) ∧ Below w.heap.size w wr ∧ w.heap.size + 2 ≤ wr.heap.size) (fun i _ => N - (intOf i).toNat)
  case atStart =>
    exact ⟨0, none, 0, 0, fun _ => .slice none 0 0, Nat.zero_le _, rfl, HR0.out, HR1.out, OwnGridV.none _ _ _ _, ((Below.refl _ _).alloc (Nat.le_refl _) _).alloc (by simp) _, by simp⟩
  case round =>
    obtain ⟨k, a', n', c', V, hk, rfl, hb0, hb, hgr, hbel, hsz⟩ := hrel
    by_cases hlt : k < N
    · have cds := below_cell hbel hcs
      have cda := below_cell hbel hca
      have cdb := below_cell hbel hcb
      have hx := below_cell hbel (HAT.out k hlt)
      have hlt' : (k : Int) < (N : Int) := by omega
      cases hS : S k with
      | false =>
        rw [hS] at hx
        have HM : Hid (memb S (k + 1) = memb S k) := Lib.hid (by rw [memb_succ, hS]; simp)
        have HX := Lib.hid hb
        have HX0 := Lib.hid hb0
        have HG := Lib.hid hgr
        have HW := Lib.hid hbel
        clear hb hb0 hgr hbel hS
        go_wp2
        go_roundw
        case rel => exact ⟨k + 1, a', n', c', V, by omega, by go_num, HX0.out, HX.out, by rw [HM.out]; exact HG.out, HW.out, hsz⟩
        case measure => simp [intOf]; omega
      | true =>
        rw [hS] at hx
        have HM : Hid (memb S (k + 1) = memb S k ++ [k]) := Lib.hid (by rw [memb_succ, hS]; simp)
        have hml := memb_len S k
        generalize memb S k = M at *
        have ce := hb.c1
        have fe := hb.free 1
        have HB := Lib.hid hb
        have HX0 := Lib.hid hb0
        have HG := Lib.hid hgr
        have HW := Lib.hid hbel
        have HF := Lib.hid (fun (q : Nat) (hq : q < w.heap.size + 2) => HG.out.far q hq)
        have HS := Lib.hid hsz
        have hq1 : w.heap.size + 1 < wr.heap.size := by omega
        have hq2 : p < wr.heap.size := by omega
        have hq4 : p < w.heap.size + 2 := by omega
        have hne1 : p ≠ w.heap.size + 1 := by omega
        clear hb hb0 hgr hbel hsz hS
        go_wp2
        -- REGION
        refine wp_region_noPanic ?_
        refine wp_region_held_drew (S := (fun w' => w'.cell? ⟨p, 0, none⟩ = some (.int .i64 s) ∧ w'.cell? ⟨p, 1, none⟩ = some (.int .i64 ar))) (by kernel_rfl) ?_ (fun hHeld => ?_)
        · exact ⟨cds, cda⟩
        refine wpAnyH_take (i := 0) (v := ?_) rfl (by kernel_rfl) (by kernel_rfl) (by kernel_rfl) (fun _ _ _ h => h) (Or.inl ⟨by rfl, ?_⟩) (by assumption) ?_
        rotate_left
        · intro wS hSw
          try dsimp only at hSw
          go_simp
          try with_reducible rfl
        try simp only [Act.put, List.setIfInBounds_toArray, List.set_cons_zero, List.set_cons_succ]
        refine wpAnyH_take (i := 2) (v := ?_) rfl (by kernel_rfl) (by kernel_rfl) (by kernel_rfl) (fun _ _ _ h => h) (Or.inl ⟨by rfl, ?_⟩) (by assumption) ?_
        rotate_left
        · intro wS hSw
          try dsimp only at hSw
          go_simp
          try with_reducible rfl
        try simp only [Act.put, List.setIfInBounds_toArray, List.set_cons_zero, List.set_cons_succ]
        refine wpAnyH_take (i := 3) (v := ?_) rfl (by kernel_rfl) (by kernel_rfl) (by kernel_rfl) (fun _ _ _ h => h) (Or.inl ⟨by rfl, ?_⟩) (by assumption) ?_
        rotate_left
        · intro wS hSw
          try dsimp only at hSw
          go_simp
          try with_reducible rfl
        try simp only [Act.put, List.setIfInBounds_toArray, List.set_cons_zero, List.set_cons_succ]
        refine wpAnyH_take (i := 4) (v := ?_) rfl (by kernel_rfl) (by kernel_rfl) (by kernel_rfl) (fun _ _ _ h => h) (Or.inl ⟨by rfl, ?_⟩) (by assumption) ?_
        rotate_left
        · intro wS hSw
          try dsimp only at hSw
          go_simp
          try with_reducible rfl
        try simp only [Act.put, List.setIfInBounds_toArray, List.set_cons_zero, List.set_cons_succ]
        refine wpAnyH_take (i := 5) (v := ?_) rfl (by kernel_rfl) (by kernel_rfl) (by kernel_rfl) (fun _ _ _ h => h) (Or.inl ⟨by rfl, ?_⟩) (by assumption) ?_
        rotate_left
        · intro wS hSw
          try dsimp only at hSw
          go_simp
          try with_reducible rfl
        try simp only [Act.put, List.setIfInBounds_toArray, List.set_cons_zero, List.set_cons_succ]
        refine wpAnyH_take (i := 6) (v := ?_) rfl (by kernel_rfl) (by kernel_rfl) (by kernel_rfl) (fun _ _ _ h => h) (Or.inl ⟨by rfl, ?_⟩) (by assumption) ?_
        rotate_left
        · intro wS hSw
          try dsimp only at hSw
          go_simp
          try with_reducible rfl
        try simp only [Act.put, List.setIfInBounds_toArray, List.set_cons_zero, List.set_cons_succ]
        refine wpAnyH_take (i := 7) (v := ?_) rfl (by kernel_rfl) (by kernel_rfl) (by kernel_rfl) (fun _ _ _ h => h) (Or.inl ⟨by rfl, ?_⟩) (by assumption) ?_
        rotate_left
        · intro wS hSw
          try dsimp only at hSw
          go_simp
          try with_reducible rfl
        try simp only [Act.put, List.setIfInBounds_toArray, List.set_cons_zero, List.set_cons_succ]
        refine wpAnyH_take (i := 8) (v := ?_) rfl (by kernel_rfl) (by kernel_rfl) (by kernel_rfl) (fun _ _ _ h => h) (Or.inl ⟨by rfl, ?_⟩) (by assumption) ?_
        rotate_left
        · intro wS hSw
          try dsimp only at hSw
          go_simp
          try with_reducible rfl
        try simp only [Act.put, List.setIfInBounds_toArray, List.set_cons_zero, List.set_cons_succ]
        refine wpAnyH_take (i := 9) (v := ?_) rfl (by kernel_rfl) (by kernel_rfl) (by kernel_rfl) (fun _ _ _ h => h) (Or.inl ⟨by rfl, ?_⟩) (by assumption) ?_
        rotate_left
        · intro wS hSw
          try dsimp only at hSw
          go_simp
          try with_reducible rfl
        try simp only [Act.put, List.setIfInBounds_toArray, List.set_cons_zero, List.set_cons_succ]
        refine wpAnyH_take (i := 10) (v := ?_) rfl (by kernel_rfl) (by kernel_rfl) (by kernel_rfl) (fun _ _ _ h => h) (Or.inl ⟨by rfl, ?_⟩) (by assumption) ?_
        rotate_left
        · intro wS hSw
          try dsimp only at hSw
          go_simp
          try with_reducible rfl
        try simp only [Act.put, List.setIfInBounds_toArray, List.set_cons_zero, List.set_cons_succ]
        refine wpAnyH_ready (rs := [1, 11]) (by kernel_rfl) (by simp) ?_
        refine AllReadyH.cons rfl (fun K hK => ?_) ?_
        · go_simp
          refine hK.out _ _ ?_ (fun hHeld => ?_)
          · first | exact two_set HS5.out hne1 hne1 | exact HS5.out | exact two_bel (by assumption) hb2 | exact ⟨cds, cda⟩ | go_keep
          clear hK K
          try simp only [Act.put, List.setIfInBounds_toArray, List.set_cons_zero, List.set_cons_succ]
          refine wpAnyH_ready (rs := [11]) (by kernel_rfl) (by simp) ?_
          refine AllReadyH.cons rfl (fun K hK => ?_) AllReadyH.nil
          go_simp; go_at_call 64; refine (l01Digits s ar k h1 (by omega) h4 (by omega) _).mono ?_; rintro e w2 ⟨a2, c2, rfl, ho2, hb2⟩; have hO2 := Lib.hid (OwnRow.mono (B' := wr.heap.size) ho2 (by simp)); have hB2 : Hid (Below wr.heap.size wr w2) := Lib.hid (((QW.refl wr).drew.below _).trans hb2); have ce2 := below_cell hB2.out ce; have ce2a := below_cell ((Below.refl w2.heap.size w2).alloc (Nat.le_refl _) (.cells #[.slice a2 ar c2] 43)) ce2; clear ho2; try dsimp only
          refine hK.out _ _ ?_ (fun hHeld => ?_)
          · first | exact two_set HS5.out hne1 hne1 | exact HS5.out | exact two_bel (by assumption) hb2 | exact ⟨cds, cda⟩ | go_keep
          clear hK K
          try simp only [Act.put, List.setIfInBounds_toArray, List.set_cons_zero, List.set_cons_succ]
          refine wpAnyH_ready (rs := [12]) (by kernel_rfl) (by simp) ?_
          refine AllReadyH.cons rfl (fun K hK => ?_) AllReadyH.nil
          go_simp
          refine hK.out _ _ ?_ (fun hHeld => ?_)
          · first | exact two_set HS5.out hne1 hne1 | exact HS5.out | exact two_bel (by assumption) hb2 | exact ⟨cds, cda⟩ | go_keep
          clear hK K
          try simp only [Act.put, List.setIfInBounds_toArray, List.set_cons_zero, List.set_cons_succ]
          refine wpAnyH_ready (rs := [13]) (by kernel_rfl) (by simp) ?_
          refine AllReadyH.cons rfl (fun K hK => ?_) AllReadyH.nil
          refine step_append_lies _ (by rfl) _ _ 22 (by rfl) (w.heap.size + 2) 43 i0 (.slice none 0 0) 1 24 Tryd.underlying22 hi0 hz0 hz1 hz2 (by rfl) (by decide) (.slice a' n' c') M.length _ (by rfl) ((ownsRow_below HG.out.outer hB2.out).alloc _) _ 1 1 [.slice a2 ar c2] (by rfl) (by rfl) (cell_one_new _ _ _) (by simp [Value.oneCell']) (by omega) (by unfold maxLen; omega) (by omega) (by have := hB2.out.size; simp; omega) _ rfl ?_; intro g5 cap5 w5 hown5 hgrow5 hat5 hlt5; have HS5 := Lib.hid (two_gr (two_bel ⟨cds, cda⟩ (hB2.out.alloc hB2.out.size (.cells #[.slice a2 ar c2] 43))) hgrow5 (Ne.symm (HF.out _ hq4)) (Ne.symm (HF.out _ hq4))); have hb5 := ((HB.out.below hB2.out).alloc (.cells #[.slice a2 ar c2] 43)).grown hgrow5 (HF.out _ (by omega)); have fe5 := hb5.free 1; have ce5 := hb5.c1; have HB5 := Lib.hid hb5; have hx5 := ((HX0.out.below hB2.out).alloc (.cells #[.slice a2 ar c2] 43)).grown hgrow5 (HF.out _ (by omega)); have HX5 := Lib.hid hx5; have HO5 := Lib.hid hown5; have HR5 := Lib.hid hgrow5; clear hb5 hx5 hown5
          refine hK.out _ _ ?_ (fun hHeld => ?_)
          · first | exact two_set HS5.out hne1 hne1 | exact HS5.out | exact two_bel (by assumption) hb2 | exact ⟨cds, cda⟩ | go_keep
          clear hK K
          try simp only [Act.put, List.setIfInBounds_toArray, List.set_cons_zero, List.set_cons_succ]
          refine wpAnyH_take (i := 14) (v := ?_) rfl (by kernel_rfl) (by kernel_rfl) (by kernel_rfl) (fun _ _ _ h => h) (Or.inl ⟨by rfl, ?_⟩) (by assumption) ?_
          rotate_left
          · intro wS hSw
            try dsimp only at hSw
            go_simp
            try with_reducible rfl
          try simp only [Act.put, List.setIfInBounds_toArray, List.set_cons_zero, List.set_cons_succ]
          refine wpAnyH_ready (rs := [15]) (by kernel_rfl) (by simp) ?_
          refine AllReadyH.cons rfl (fun K hK => ?_) AllReadyH.nil
          go_simp
          refine hK.out _ _ ?_ (fun hHeld => ?_)
          · first | exact two_set HS5.out hne1 hne1 | exact HS5.out | exact two_bel (by assumption) hb2 | exact ⟨cds, cda⟩ | go_keep
          clear hK K
          try simp only [Act.put, List.setIfInBounds_toArray, List.set_cons_zero, List.set_cons_succ]
          refine wpAnyH_done (by kernel_rfl) ?_ _
          refine NoPanic.normal ?_
          have hr5 : OwnRow (w2.alloc (.cells #[.slice a2 ar c2] 43)) wr.heap.size (.slice a2 ar c2) (digs s ar k) := hO2.out.below ((Below.refl _ _).alloc (Nat.le_refl _) _)
          have hg5 := Lib.hid (HG.out.grow (hB2.out.alloc hB2.out.size (.cells #[.slice a2 ar c2] 43)) hr5 HS.out HO5.out HR5.out)
          have hW5 := Lib.hid ((HW.out.trans ((hB2.out.alloc hB2.out.size (.cells #[.slice a2 ar c2] 43)).mono HW.out.size)).grown HR5.out (by have := hB2.out.size; have := HS.out; simp; omega) (fun q hq => by have := (HG.out.outer.lt q hq).1; omega))
          have hs5 : Hid (w.heap.size + 2 ≤ w5.heap.size) := Lib.hid (by have h1 := HR5.out.size; have h2 := hB2.out.size; have h3 := HS.out; simp at h1; omega)
          clear hr5 hgrow5 ce2 ce2a ce5 fe5 ce cds cda cdb hx
          go_wp2
          go_roundw
          case rel =>
            refine ⟨k + 1, some ⟨g5, 0, none⟩, M.length + 1, cap5, fun i => if i = M.length then .slice a2 ar c2 else V i, by omega, by go_num, HX5.out.other (by simp) _, HB5.out.set1 _, ?_, hW5.out.setCell (by simp) _, by have := hs5.out; simpa [World.setCell] using this⟩
            rw [HM.out, List.length_append]
            refine ((hg5.out.same (by simp [World.setCell]) fun g hg _ => Below.heap_setCell _ _ _ _ (by show g ≠ w.heap.size + 1; omega)).full).congr fun i hi => ?_
            by_cases hik : i = M.length
            · subst hik; simp
            · simp [hik, List.getElem?_append_left (show i < M.length by have h : i < M.length + 1 := hi; omega)]
          case measure => simp [intOf]; omega
        refine AllReadyH.cons rfl (fun K hK => ?_) AllReadyH.nil
        go_simp; go_at_call 64; refine (l01Digits s ar k h1 (by omega) h4 (by omega) _).mono ?_; rintro e w2 ⟨a2, c2, rfl, ho2, hb2⟩; have hO2 := Lib.hid (OwnRow.mono (B' := wr.heap.size) ho2 (by simp)); have hB2 : Hid (Below wr.heap.size wr w2) := Lib.hid (((QW.refl wr).drew.below _).trans hb2); have ce2 := below_cell hB2.out ce; have ce2a := below_cell ((Below.refl w2.heap.size w2).alloc (Nat.le_refl _) (.cells #[.slice a2 ar c2] 43)) ce2; clear ho2; try dsimp only
        refine hK.out _ _ ?_ (fun hHeld => ?_)
        · first | exact two_set HS5.out hne1 hne1 | exact HS5.out | exact two_bel (by assumption) hb2 | exact ⟨cds, cda⟩ | go_keep
        clear hK K
        try simp only [Act.put, List.setIfInBounds_toArray, List.set_cons_zero, List.set_cons_succ]
        refine wpAnyH_ready (rs := [1, 12]) (by kernel_rfl) (by simp) ?_
        refine AllReadyH.cons rfl (fun K hK => ?_) ?_
        · go_simp
          refine hK.out _ _ ?_ (fun hHeld => ?_)
          · first | exact two_set HS5.out hne1 hne1 | exact HS5.out | exact two_bel (by assumption) hb2 | exact ⟨cds, cda⟩ | go_keep
          clear hK K
          try simp only [Act.put, List.setIfInBounds_toArray, List.set_cons_zero, List.set_cons_succ]
          refine wpAnyH_ready (rs := [12]) (by kernel_rfl) (by simp) ?_
          refine AllReadyH.cons rfl (fun K hK => ?_) AllReadyH.nil
          go_simp
          refine hK.out _ _ ?_ (fun hHeld => ?_)
          · first | exact two_set HS5.out hne1 hne1 | exact HS5.out | exact two_bel (by assumption) hb2 | exact ⟨cds, cda⟩ | go_keep
          clear hK K
          try simp only [Act.put, List.setIfInBounds_toArray, List.set_cons_zero, List.set_cons_succ]
          refine wpAnyH_ready (rs := [13]) (by kernel_rfl) (by simp) ?_
          refine AllReadyH.cons rfl (fun K hK => ?_) AllReadyH.nil
          refine step_append_lies _ (by rfl) _ _ 22 (by rfl) (w.heap.size + 2) 43 i0 (.slice none 0 0) 1 24 Tryd.underlying22 hi0 hz0 hz1 hz2 (by rfl) (by decide) (.slice a' n' c') M.length _ (by rfl) ((ownsRow_below HG.out.outer hB2.out).alloc _) _ 1 1 [.slice a2 ar c2] (by rfl) (by rfl) (cell_one_new _ _ _) (by simp [Value.oneCell']) (by omega) (by unfold maxLen; omega) (by omega) (by have := hB2.out.size; simp; omega) _ rfl ?_; intro g5 cap5 w5 hown5 hgrow5 hat5 hlt5; have HS5 := Lib.hid (two_gr (two_bel ⟨cds, cda⟩ (hB2.out.alloc hB2.out.size (.cells #[.slice a2 ar c2] 43))) hgrow5 (Ne.symm (HF.out _ hq4)) (Ne.symm (HF.out _ hq4))); have hb5 := ((HB.out.below hB2.out).alloc (.cells #[.slice a2 ar c2] 43)).grown hgrow5 (HF.out _ (by omega)); have fe5 := hb5.free 1; have ce5 := hb5.c1; have HB5 := Lib.hid hb5; have hx5 := ((HX0.out.below hB2.out).alloc (.cells #[.slice a2 ar c2] 43)).grown hgrow5 (HF.out _ (by omega)); have HX5 := Lib.hid hx5; have HO5 := Lib.hid hown5; have HR5 := Lib.hid hgrow5; clear hb5 hx5 hown5
          refine hK.out _ _ ?_ (fun hHeld => ?_)
          · first | exact two_set HS5.out hne1 hne1 | exact HS5.out | exact two_bel (by assumption) hb2 | exact ⟨cds, cda⟩ | go_keep
          clear hK K
          try simp only [Act.put, List.setIfInBounds_toArray, List.set_cons_zero, List.set_cons_succ]
          refine wpAnyH_take (i := 14) (v := ?_) rfl (by kernel_rfl) (by kernel_rfl) (by kernel_rfl) (fun _ _ _ h => h) (Or.inl ⟨by rfl, ?_⟩) (by assumption) ?_
          rotate_left
          · intro wS hSw
            try dsimp only at hSw
            go_simp
            try with_reducible rfl
          try simp only [Act.put, List.setIfInBounds_toArray, List.set_cons_zero, List.set_cons_succ]
          refine wpAnyH_ready (rs := [15]) (by kernel_rfl) (by simp) ?_
          refine AllReadyH.cons rfl (fun K hK => ?_) AllReadyH.nil
          go_simp
          refine hK.out _ _ ?_ (fun hHeld => ?_)
          · first | exact two_set HS5.out hne1 hne1 | exact HS5.out | exact two_bel (by assumption) hb2 | exact ⟨cds, cda⟩ | go_keep
          clear hK K
          try simp only [Act.put, List.setIfInBounds_toArray, List.set_cons_zero, List.set_cons_succ]
          refine wpAnyH_done (by kernel_rfl) ?_ _
          refine NoPanic.normal ?_
          have hr5 : OwnRow (w2.alloc (.cells #[.slice a2 ar c2] 43)) wr.heap.size (.slice a2 ar c2) (digs s ar k) := hO2.out.below ((Below.refl _ _).alloc (Nat.le_refl _) _)
          have hg5 := Lib.hid (HG.out.grow (hB2.out.alloc hB2.out.size (.cells #[.slice a2 ar c2] 43)) hr5 HS.out HO5.out HR5.out)
          have hW5 := Lib.hid ((HW.out.trans ((hB2.out.alloc hB2.out.size (.cells #[.slice a2 ar c2] 43)).mono HW.out.size)).grown HR5.out (by have := hB2.out.size; have := HS.out; simp; omega) (fun q hq => by have := (HG.out.outer.lt q hq).1; omega))
          have hs5 : Hid (w.heap.size + 2 ≤ w5.heap.size) := Lib.hid (by have h1 := HR5.out.size; have h2 := hB2.out.size; have h3 := HS.out; simp at h1; omega)
          clear hr5 hgrow5 ce2 ce2a ce5 fe5 ce cds cda cdb hx
          go_wp2
          go_roundw
          case rel =>
            refine ⟨k + 1, some ⟨g5, 0, none⟩, M.length + 1, cap5, fun i => if i = M.length then .slice a2 ar c2 else V i, by omega, by go_num, HX5.out.other (by simp) _, HB5.out.set1 _, ?_, hW5.out.setCell (by simp) _, by have := hs5.out; simpa [World.setCell] using this⟩
            rw [HM.out, List.length_append]
            refine ((hg5.out.same (by simp [World.setCell]) fun g hg _ => Below.heap_setCell _ _ _ _ (by show g ≠ w.heap.size + 1; omega)).full).congr fun i hi => ?_
            by_cases hik : i = M.length
            · subst hik; simp
            · simp [hik, List.getElem?_append_left (show i < M.length by have h : i < M.length + 1 := hi; omega)]
          case measure => simp [intOf]; omega
        refine AllReadyH.cons rfl (fun K hK => ?_) AllReadyH.nil
        go_simp
        refine hK.out _ _ ?_ (fun hHeld => ?_)
        · first | exact two_set HS5.out hne1 hne1 | exact HS5.out | exact two_bel (by assumption) hb2 | exact ⟨cds, cda⟩ | go_keep
        clear hK K
        try simp only [Act.put, List.setIfInBounds_toArray, List.set_cons_zero, List.set_cons_succ]
        refine wpAnyH_ready (rs := [1]) (by kernel_rfl) (by simp) ?_
        refine AllReadyH.cons rfl (fun K hK => ?_) AllReadyH.nil
        go_simp
        refine hK.out _ _ ?_ (fun hHeld => ?_)
        · first | exact two_set HS5.out hne1 hne1 | exact HS5.out | exact two_bel (by assumption) hb2 | exact ⟨cds, cda⟩ | go_keep
        clear hK K
        try simp only [Act.put, List.setIfInBounds_toArray, List.set_cons_zero, List.set_cons_succ]
        refine wpAnyH_ready (rs := [13]) (by kernel_rfl) (by simp) ?_
        refine AllReadyH.cons rfl (fun K hK => ?_) AllReadyH.nil
        refine step_append_lies _ (by rfl) _ _ 22 (by rfl) (w.heap.size + 2) 43 i0 (.slice none 0 0) 1 24 Tryd.underlying22 hi0 hz0 hz1 hz2 (by rfl) (by decide) (.slice a' n' c') M.length _ (by rfl) ((ownsRow_below HG.out.outer hB2.out).alloc _) _ 1 1 [.slice a2 ar c2] (by rfl) (by rfl) (cell_one_new _ _ _) (by simp [Value.oneCell']) (by omega) (by unfold maxLen; omega) (by omega) (by have := hB2.out.size; simp; omega) _ rfl ?_; intro g5 cap5 w5 hown5 hgrow5 hat5 hlt5; have HS5 := Lib.hid (two_gr (two_bel ⟨cds, cda⟩ (hB2.out.alloc hB2.out.size (.cells #[.slice a2 ar c2] 43))) hgrow5 (Ne.symm (HF.out _ hq4)) (Ne.symm (HF.out _ hq4))); have hb5 := ((HB.out.below hB2.out).alloc (.cells #[.slice a2 ar c2] 43)).grown hgrow5 (HF.out _ (by omega)); have fe5 := hb5.free 1; have ce5 := hb5.c1; have HB5 := Lib.hid hb5; have hx5 := ((HX0.out.below hB2.out).alloc (.cells #[.slice a2 ar c2] 43)).grown hgrow5 (HF.out _ (by omega)); have HX5 := Lib.hid hx5; have HO5 := Lib.hid hown5; have HR5 := Lib.hid hgrow5; clear hb5 hx5 hown5
        refine hK.out _ _ ?_ (fun hHeld => ?_)
        · first | exact two_set HS5.out hne1 hne1 | exact HS5.out | exact two_bel (by assumption) hb2 | exact ⟨cds, cda⟩ | go_keep
        clear hK K
        try simp only [Act.put, List.setIfInBounds_toArray, List.set_cons_zero, List.set_cons_succ]
        refine wpAnyH_take (i := 14) (v := ?_) rfl (by kernel_rfl) (by kernel_rfl) (by kernel_rfl) (fun _ _ _ h => h) (Or.inl ⟨by rfl, ?_⟩) (by assumption) ?_
        rotate_left
        · intro wS hSw
          try dsimp only at hSw
          go_simp
          try with_reducible rfl
        try simp only [Act.put, List.setIfInBounds_toArray, List.set_cons_zero, List.set_cons_succ]
        refine wpAnyH_ready (rs := [15]) (by kernel_rfl) (by simp) ?_
        refine AllReadyH.cons rfl (fun K hK => ?_) AllReadyH.nil
        go_simp
        refine hK.out _ _ ?_ (fun hHeld => ?_)
        · first | exact two_set HS5.out hne1 hne1 | exact HS5.out | exact two_bel (by assumption) hb2 | exact ⟨cds, cda⟩ | go_keep
        clear hK K
        try simp only [Act.put, List.setIfInBounds_toArray, List.set_cons_zero, List.set_cons_succ]
        refine wpAnyH_done (by kernel_rfl) ?_ _
        refine NoPanic.normal ?_
        have hr5 : OwnRow (w2.alloc (.cells #[.slice a2 ar c2] 43)) wr.heap.size (.slice a2 ar c2) (digs s ar k) := hO2.out.below ((Below.refl _ _).alloc (Nat.le_refl _) _)
        have hg5 := Lib.hid (HG.out.grow (hB2.out.alloc hB2.out.size (.cells #[.slice a2 ar c2] 43)) hr5 HS.out HO5.out HR5.out)
        have hW5 := Lib.hid ((HW.out.trans ((hB2.out.alloc hB2.out.size (.cells #[.slice a2 ar c2] 43)).mono HW.out.size)).grown HR5.out (by have := hB2.out.size; have := HS.out; simp; omega) (fun q hq => by have := (HG.out.outer.lt q hq).1; omega))
        have hs5 : Hid (w.heap.size + 2 ≤ w5.heap.size) := Lib.hid (by have h1 := HR5.out.size; have h2 := hB2.out.size; have h3 := HS.out; simp at h1; omega)
        clear hr5 hgrow5 ce2 ce2a ce5 fe5 ce cds cda cdb hx
        go_wp2
        go_roundw
        case rel =>
          refine ⟨k + 1, some ⟨g5, 0, none⟩, M.length + 1, cap5, fun i => if i = M.length then .slice a2 ar c2 else V i, by omega, by go_num, HX5.out.other (by simp) _, HB5.out.set1 _, ?_, hW5.out.setCell (by simp) _, by have := hs5.out; simpa [World.setCell] using this⟩
          rw [HM.out, List.length_append]
          refine ((hg5.out.same (by simp [World.setCell]) fun g hg _ => Below.heap_setCell _ _ _ _ (by show g ≠ w.heap.size + 1; omega)).full).congr fun i hi => ?_
          by_cases hik : i = M.length
          · subst hik; simp
          · simp [hik, List.getElem?_append_left (show i < M.length by have h : i < M.length + 1 := hi; omega)]
        case measure => simp [intOf]; omega
    · obtain rfl : k = N := by omega
      have cdb := below_cell hbel hcb
      have c0 := hb.c0
      have c1 := hb.c1
      have d0 := hb0.c0
      have d1 := hb0.c1
      have f0 := hb0.free 0
      have f1 := hb0.free 1
      have HE : Hid (OwnGrid wr (w.heap.size + 2) wr.heap.size (.slice a' n' c') (rowsS s ar S k)) := by
        refine ⟨V, ?_⟩
        rw [rowsS_len]
        exact hgr.congr fun i hi => by
          rw [rowN_at _ _ (by rw [rowsS_len]; exact hi)]
          simp only [rowsS, List.getElem_map]
          simp [List.getD, hi]
      have HW := Lib.hid hbel
      clear hb hb0 hgr hbel
      go_wp2
      refine bodyPost_ret (v := .agg #[.int .i64 ar, .slice a' n' c']) (by simp [results, Tryd.results36, go_sem, d0, d1]) rfl ⟨a', n', c', rfl, ?_, ?_⟩
      · exact (((HE.out.stored (by simp) _).stored (by simp) _).mono (by omega)).full
      · exact (HW.out.setCell (by simp) _).setCell (by simp) _

end Go.Proofs.YtbnmgonfmihicaaDoor
