/-
  The tuples of both of two relations: l01Meet and MeetRels of the model, MeetRels of the program.
-/
import Derived.Test.YtbnmgonfmihicaaDoorGrowAt
import Derived.Test.YtbnmgonfmihicaaDoorJoinS
import Derived.Test.YtbnmgonfmihicaaDoorRelOf
import Derived.Test.YtbnmgonfmihicaaDoorReg
namespace Go.Proofs.YtbnmgonfmihicaaDoor
open Go.RowKit

def meetL (xs ys : List (List Int)) : List (List Int) := xs.filter fun t => decide (t ∈ ys)
theorem meetL_nil (ys : List (List Int)) : meetL [] ys = [] := rfl
theorem meetL_snoc_in {xs ys : List (List Int)} {t : List Int} (h : t ∈ ys) : meetL (xs ++ [t]) ys = meetL xs ys ++ [t] := by simp [meetL, List.filter_append, h]
theorem meetL_snoc_out {xs ys : List (List Int)} {t : List Int} (h : ¬ t ∈ ys) : meetL (xs ++ [t]) ys = meetL xs ys := by simp [meetL, List.filter_append, h]
theorem meetL_len (xs ys : List (List Int)) : (meetL xs ys).length ≤ xs.length := List.length_filter_le _ _
theorem hasP_mem {xss : List (List Int)} {t : List Int} : HasP xss t ↔ t ∈ xss := mem_rowN.symm

theorem RelOk.few {size ar : Int} {xss : List (List Int)} (h : RelOk size ar xss) : xss.length ≤ 256 := by
  have e1 := h.1.1
  have e2 := h.1.2
  have e3 := h.2.1.1
  have e4 := h.2.1.2
  obtain ⟨s, rfl⟩ : ∃ s : Nat, size = s := ⟨size.toNat, by omega⟩
  obtain ⟨r, rfl⟩ : ∃ r : Nat, ar = r := ⟨ar.toNat, by omega⟩
  have := rowsS_asc (by omega) (by omega) (by omega) (by omega) h.tups h.asc
  rw [← this, rowsS_len]
  exact memb_len _ _

set_option linter.unusedSimpArgs false in
set_option maxHeartbeats 8000000 in
set_option maxRecDepth 100000 in
theorem l01Meet (r y : Int) (p1 o1 p2 o2 : Nat) (xs ys : List (List Int)) (w : World) (h1 : RelAt w p1 o1 r xs) (h2 : RelAt w p2 o2 y ys) (hr : ∀ j, j < xs.length → 1 ≤ (rowN xs j).length ∧ (rowN xs j).length ≤ 4) (hl : xs.length ≤ 256) :
    Calls Tryd.prog 55 #[.pointer (some ⟨p1, o1, none⟩), .pointer (some ⟨p2, o2, none⟩)] w (MadeRel w r (meetL xs ys)) := by
  obtain ⟨i0, hi0, hz0, hz1, hz2⟩ := info_parts info_rowO
  have HR0 := Lib.hid ((RelBox.new w (.int .i64 0) (.slice none 0 0)).alloc (.cells #[.int .i64 r, .slice none 0 0] 25))
  have hR1 := RelBox.new (w.alloc (.cells #[.int .i64 0, .slice none 0 0] 25)) (.int .i64 r) (.slice none 0 0)
  rw [World.size_alloc] at hR1
  have HG0 := Lib.hid (GrowAt.start (w0 := w.heap.size) (B := w.heap.size + 2) hR1 (by omega) (by simp) (by omega))
  have HW0 := Lib.hid (((Below.refl w.heap.size w).alloc (Nat.le_refl _) (.cells #[.int .i64 0, .slice none 0 0] 25)).alloc (by simp) (.cells #[.int .i64 r, .slice none 0 0] 25))
  obtain ⟨ha, a1, n1, c1, hrow, hgrid⟩ := h1
  obtain ⟨V, ⟨a', c', hv, hn, hc⟩, hV⟩ := hgrid
  simp only [Value.slice.injEq] at hv
  obtain ⟨rfl, rfl, rfl⟩ := hv
  have HC := Lib.hid hc
  have HV := Lib.hid hV
  have HLEN := Lib.hid hr
  have H2 := Lib.hid h2
  have HROW := Lib.hid hrow
  have hp1 : p1 < w.heap.size := cell_block_lt hrow
  have ha2 := below_cell HW0.out ha
  clear hc hV hr h2 hrow hR1
  go_enter Tryd.func55, Tryd.ntmps55
  go_wp2
  clear ha ha2
  go_loopw [6] (fun i wr => ∃ (k : Nat) (a' : Option Addr) (n' c' : Nat), k ≤ xs.length ∧ i = .int .i64 k ∧ RelBox wr w.heap.size (.int .i64 0) (.slice none 0 0) ∧ GrowAt w.heap.size (w.heap.size + 2) (w.heap.size + 1) r (meetL (xs.take k) ys) a' n' c' wr ∧ Below w.heap.size w wr) (fun i _ => xs.length - (intOf i).toNat)
  case atStart => exact ⟨0, none, 0, 0, Nat.zero_le _, rfl, HR0.out, HG0.out, HW0.out⟩
  case round =>
    obtain ⟨k, a', n', c', hk, rfl, hb0, hg, hbel⟩ := hrel
    have hrow := below_cell hbel HROW.out
    by_cases hlt : k < xs.length
    · obtain ⟨b1, off1, ha1, hcell1⟩ := HC.out (by omega)
      subst ha1
      obtain ⟨a4, c4, hv4, _⟩ := HV.out k hlt
      have hx1 := below_cell hbel (hcell1 k hlt)
      rw [hv4] at hx1
      have hR := HV.out k hlt
      rw [hv4] at hR
      have HR := Lib.hid (hR.below hbel)
      have hlt' : (k : Int) < (xs.length : Int) := by omega
      have HLK := Lib.hid (HLEN.out k hlt)
      have HB0 := Lib.hid hb0
      have HG := Lib.hid hg
      have HW := Lib.hid hbel
      have H2W := Lib.hid (H2.out.below hbel)
      have HTK := Lib.hid (take_row xs k hlt)
      clear hcell1 hv4 hR hb0 hg hbel
      generalize hrk : rowN xs k = row at *
      clear hrk
      by_cases hin : row ∈ ys
      · have HM : Hid (meetL (xs.take (k + 1)) ys = meetL (xs.take k) ys ++ [row]) := Lib.hid (by rw [HTK.out, meetL_snoc_in hin])
        have HT := Lib.hid (Tells.yes (hasP_mem.2 hin))
        have hml : (meetL (xs.take k) ys).length ≤ 256 := Nat.le_trans (meetL_len _ _) (by rw [List.length_take]; omega)
        clear HTK hin
        generalize meetL (xs.take k) ys = M at *
        obtain rfl := HG.out.len
        go_wp2_with fail
        refine (l01Has p2 o2 y ys _ row true _ H2W.out HR.out HT.out).mono ?_
        rintro e w2 ⟨rfl, hq⟩
        have HQ := Lib.hid hq
        have hrow2 := hq.cell hrow
        have hx2 := hq.cell hx1
        have HG2 := Lib.hid (HG.out.below hq.bel)
        have HR2 := Lib.hid (HR.out.below hq.bel)
        have HB2 := Lib.hid (HB0.out.below hq.bel)
        have hce := HG2.out.box.c1
        clear hq hrow hx1
        go_wp2_with fail
        refine wp_region_noPanic ?_
        refine wp_region_late (S := (fun w' => w'.cell? ⟨w.heap.size + 1, 1, none⟩ = some (.slice a' M.length c') ∧ w'.cell? ⟨p1, o1 + 1, none⟩ = some (.slice (some ⟨b1, off1, none⟩) xs.length c1) ∧ w'.cell? ⟨b1, off1 + k, none⟩ = some (.slice a4 row.length c4) ∧ Below w2.heap.size w2 w')) [11, 13] (by kernel_rfl) ?_ (fun hHeld => ?_)
        · exact ⟨hce, hrow2, hx2, (QW.refl w2).drew.below _⟩
        refine wpAnyL_free (i := 0) (v := ?_) (some 30) rfl rfl (by kernel_rfl) (by kernel_rfl) (by kernel_rfl) (by decide) (fun _ _ _ h => h) (Or.inl ⟨by rfl, ?_⟩) (fun h0 => by assumption) ?_
        rotate_left
        · intro wS
          go_simp
          try with_reducible rfl
        try simp only [Act.put, List.setIfInBounds_toArray, List.set_cons_zero, List.set_cons_succ]
        refine wpAnyL_take (i := 1) (v := ?_) (some 31) rfl rfl (by kernel_rfl) (by kernel_rfl) (by kernel_rfl) (by kernel_rfl) (by kernel_rfl) (fun _ _ _ h => h) (Or.inl ⟨by rfl, ?_⟩) (by assumption) ?_
        rotate_left
        · intro wS hSw
          try dsimp only at hSw
          go_simp
          try with_reducible rfl
        try simp only [Act.put, List.setIfInBounds_toArray, List.set_cons_zero, List.set_cons_succ]
        refine wpAnyL_free (i := 2) (v := ?_) (some 32) rfl rfl (by kernel_rfl) (by kernel_rfl) (by kernel_rfl) (by decide) (fun _ _ _ h => h) (Or.inl ⟨by rfl, ?_⟩) (fun h0 => by assumption) ?_
        rotate_left
        · intro wS
          go_simp
          try with_reducible rfl
        try simp only [Act.put, List.setIfInBounds_toArray, List.set_cons_zero, List.set_cons_succ]
        refine wpAnyL_free (i := 3) (v := ?_) (some 33) rfl rfl (by kernel_rfl) (by kernel_rfl) (by kernel_rfl) (by decide) (fun _ _ _ h => h) (Or.inl ⟨by rfl, ?_⟩) (fun h0 => by assumption) ?_
        rotate_left
        · intro wS
          go_simp
          try with_reducible rfl
        try simp only [Act.put, List.setIfInBounds_toArray, List.set_cons_zero, List.set_cons_succ]
        refine wpAnyL_free (i := 4) (v := ?_) (some 34) rfl rfl (by kernel_rfl) (by kernel_rfl) (by kernel_rfl) (by decide) (fun _ _ _ h => h) (Or.inl ⟨by rfl, ?_⟩) (fun h0 => by assumption) ?_
        rotate_left
        · intro wS
          go_simp
          try with_reducible rfl
        try simp only [Act.put, List.setIfInBounds_toArray, List.set_cons_zero, List.set_cons_succ]
        refine wpAnyL_take (i := 5) (v := ?_) (some 35) rfl rfl (by kernel_rfl) (by kernel_rfl) (by kernel_rfl) (by kernel_rfl) (by kernel_rfl) (fun _ _ _ h => h) (Or.inl ⟨by rfl, ?_⟩) (by assumption) ?_
        rotate_left
        · intro wS hSw
          try dsimp only at hSw
          go_simp
          try with_reducible rfl
        try simp only [Act.put, List.setIfInBounds_toArray, List.set_cons_zero, List.set_cons_succ]
        refine wpAnyL_free (i := 6) (v := ?_) (some 36) rfl rfl (by kernel_rfl) (by kernel_rfl) (by kernel_rfl) (by decide) (fun _ _ _ h => h) (Or.inl ⟨by rfl, ?_⟩) (fun h0 => by assumption) ?_
        rotate_left
        · intro wS
          go_simp
          try with_reducible rfl
        try simp only [Act.put, List.setIfInBounds_toArray, List.set_cons_zero, List.set_cons_succ]
        refine wpAnyL_free (i := 7) (v := ?_) (some 37) rfl rfl (by kernel_rfl) (by kernel_rfl) (by kernel_rfl) (by decide) (fun _ _ _ h => h) (Or.inl ⟨by rfl, ?_⟩) (fun h0 => by assumption) ?_
        rotate_left
        · intro wS
          go_simp
          try with_reducible rfl
        try simp only [Act.put, List.setIfInBounds_toArray, List.set_cons_zero, List.set_cons_succ]
        refine wpAnyL_take (i := 8) (v := ?_) (some 38) rfl rfl (by kernel_rfl) (by kernel_rfl) (by kernel_rfl) (by kernel_rfl) (by kernel_rfl) (fun _ _ _ h => h) (Or.inl ⟨by rfl, ?_⟩) (by assumption) ?_
        rotate_left
        · intro wS hSw
          try dsimp only at hSw
          go_simp
          try with_reducible rfl
        try simp only [Act.put, List.setIfInBounds_toArray, List.set_cons_zero, List.set_cons_succ]
        refine wpAnyL_ready (rs := [9]) (by kernel_rfl) (by simp) ?_
        refine AllReadyL.cons rfl (fun K hK => ?_) AllReadyL.nil
        go_simp; go_at_call 59; refine (l00Own a4 _ c4 row _ (HR2.out.below hHeld.2.2.2) HLK.out.1 (by have := HLK.out.2; omega)).mono ?_; rintro e w3 ⟨a3, c3, rfl, ho3, hb3⟩
        have HO3 := Lib.hid (OwnRow.mono (B' := w2.heap.size) ho3 (by simp))
        have HB3 : Hid (Below w2.heap.size w2 w3) := Lib.hid (((QW.refl w2).drew.below _).trans hb3)
        clear ho3
        refine hK.out _ _ ?_ (fun hHeld => ?_)
        · exact ⟨below_cell hb3 hHeld.1, below_cell hb3 hHeld.2.1, below_cell hb3 hHeld.2.2.1, HB3.out⟩
        clear hK K
        try simp only [Act.put, List.setIfInBounds_toArray, List.set_cons_zero, List.set_cons_succ]
        refine wpAnyL_ready (rs := [10]) (by kernel_rfl) (by simp) ?_
        refine AllReadyL.cons rfl (fun K hK => ?_) AllReadyL.nil
        go_simp
        refine hK.out _ _ ?_ (fun hHeld => ?_)
        · exact ⟨below_cell ((Below.refl _ _).alloc (Nat.le_refl _) _) hHeld.1, below_cell ((Below.refl _ _).alloc (Nat.le_refl _) _) hHeld.2.1, below_cell ((Below.refl _ _).alloc (Nat.le_refl _) _) hHeld.2.2.1, HB3.out.alloc HB3.out.size _⟩
        clear hK K
        try simp only [Act.put, List.setIfInBounds_toArray, List.set_cons_zero, List.set_cons_succ]
        refine wpAnyL_ready (rs := [11]) (by kernel_rfl) (by simp) ?_
        refine AllReadyL.last rfl (by kernel_rfl) (fun K hK => ?_) AllReadyL.nil
        obtain ⟨V2, hV2⟩ := HG2.out.own
        have HV2 := Lib.hid hV2
        clear hV2
        refine step_append_lies _ (by rfl) _ _ 22 (by rfl) (w.heap.size + 2) 43 i0 (.slice none 0 0) 1 24 Tryd.underlying22 hi0 hz0 hz1 hz2 (by rfl) (by decide) (.slice a' M.length c') M.length _ (by rfl) ((ownsRow_below HV2.out.outer HB3.out).alloc _) _ 1 1 [.slice a3 row.length c3] (by rfl) (by rfl) (cell_one_new _ _ _) (by simp [Value.oneCell']) (by omega) (by unfold maxLen; omega) (by omega) (by have := HB3.out.size; have := HG2.out.le; simp; omega) _ rfl ?_; intro g5 cap5 w5 hown5 hgrow5 hat5 hlt5
        have hgm := HG2.out.more HV2.out HB3.out HO3.out hown5 hgrow5
        have HGM := Lib.hid hgm
        have hb5 := ((HG2.out.box.below HB3.out).alloc (.cells #[.slice a3 row.length c3] 43)).grown hgrow5 (HV2.out.far _ (by omega))
        have ce5 := hb5.c1
        have fe5 := hb5.free 1
        clear hgm hown5 hgrow5 hb5 hat5 hlt5
        refine hK.out _ _ ?_
        clear hK K
        try simp only [Act.put, List.setIfInBounds_toArray, List.set_cons_zero, List.set_cons_succ]
        refine wpAnyL_free (i := 12) (v := ?_) (some 42) rfl rfl (by kernel_rfl) (by kernel_rfl) (by kernel_rfl) (by decide) (fun _ _ _ h => h) (Or.inl ⟨by rfl, ?_⟩) (fun h0 => absurd h0 (by decide)) ?_
        rotate_left
        · intro wS
          go_simp
          try with_reducible rfl
        try simp only [Act.put, List.setIfInBounds_toArray, List.set_cons_zero, List.set_cons_succ]
        refine wpAnyL_ready (rs := [13]) (by kernel_rfl) (by simp) ?_
        refine AllReadyL.last rfl (by kernel_rfl) (fun K hK => ?_) AllReadyL.nil
        go_simp
        refine hK.out _ _ ?_
        clear hK K
        try simp only [Act.put, List.setIfInBounds_toArray, List.set_cons_zero, List.set_cons_succ]
        refine wpAnyL_done (by kernel_rfl) ?_ _
        refine NoPanic.normal ?_
        clear hHeld ce5 fe5
        go_wp2
        go_roundw
        case rel => exact ⟨k + 1, _, _, _, by omega, by go_num, HB2.out.same (HGM.out.2.2 _ (by omega) (by omega)), by rw [HM.out]; exact HGM.out.1, (HW.out.trans (HQ.out.below _)).trans HGM.out.2.1⟩
        case measure => simp [intOf]; omega

      · have HM : Hid (meetL (xs.take (k + 1)) ys = meetL (xs.take k) ys) := Lib.hid (by rw [HTK.out, meetL_snoc_out hin])
        have HT := Lib.hid (Tells.no (fun h => hin (hasP_mem.1 h)))
        clear HTK hin
        go_wp2_with fail
        refine (l01Has p2 o2 y ys _ row false _ H2W.out HR.out HT.out).mono ?_
        rintro e w2 ⟨rfl, hq⟩
        have HQ := Lib.hid hq
        clear hq hrow hx1
        go_wp2
        go_roundw
        case rel => exact ⟨k + 1, _, _, _, by omega, by go_num, HB0.out.below HQ.out.bel, by rw [HM.out]; exact HG.out.below HQ.out.bel, HW.out.trans (HQ.out.below _)⟩
        case measure => simp [intOf]; omega
    · obtain rfl : k = xs.length := by omega
      rw [take_all] at hg
      obtain rfl := hg.len
      have c0 := hg.box.c0
      have c1' := hg.box.c1
      have d0 := hb0.c0
      have d1 := hb0.c1
      have f0 := hb0.free 0
      have f1 := hb0.free 1
      have HG := Lib.hid hg
      have HW := Lib.hid hbel
      have HZ := Lib.hid hb0.lt
      clear hg hb0 hbel
      generalize meetL xs ys = M at *
      go_wp2
      refine bodyPost_ret (v := .agg #[.int .i64 r, .slice a' M.length c']) (by simp [results, Tryd.results55, go_sem, d0, d1]) rfl ⟨a', _, c', rfl, ?_, ?_⟩
      · have e1 := HZ.out
        exact (((HG.out.grid.stored (by show w.heap.size < w.heap.size + 2; omega) _).stored (by show w.heap.size < w.heap.size + 2; omega) _).mono (by omega)).full
      · exact (HW.out.setCell (by show w.heap.size ≤ w.heap.size; omega) _).setCell (by show w.heap.size ≤ w.heap.size; omega) _

theorem meet_sets {s r : Nat} (h1 : 1 ≤ s) (h2 : s ≤ 4) (h3 : 1 ≤ r) (h4 : r ≤ 4) {xs ys : List (List Int)} (hx : RelOk s r xs) (hy : RelOk s r ys) : rowsS s r (opAll (· && ·) (setOf s xs) (setOf s ys)) 256 = meetL xs ys := by
  refine rowsS_of h1 h2 h3 h4 (fun x h => hx.tups x (List.mem_filter.1 h).1) (hx.asc.filter _) fun n _ => ?_
  unfold opAll
  rw [Bool.and_eq_true, setOf_iff, setOf_iff]
  constructor
  · rintro ⟨⟨x, mx, rfl⟩, y, my, e⟩
    obtain rfl := codeN_inj (hy.tups y my) (hx.tups x mx) hx.1 hx.2.1 e
    exact ⟨y, List.mem_filter.2 ⟨mx, by simpa using my⟩, rfl⟩
  · rintro ⟨x, mx, rfl⟩
    obtain ⟨a, b⟩ := List.mem_filter.1 mx
    exact ⟨⟨x, a, rfl⟩, x, by simpa using b, rfl⟩
theorem few_small {size ar : Int} {xs zs : List (List Int)} (h : RelOk size ar xs) (hs : ∀ z, z ∈ zs → z ∈ xs) (hl : zs.length ≤ xs.length) : (zs.map List.length).sum ≤ 1048576 := by
  have h1 := sum_map_le zs 4 fun z hz => (h.tups z (hs z hz)).len h.2.1
  have h2 := h.few
  omega

/-- What MeetRels answers. -/
def MeetRelsIs (size x : Int) (xs : List (List Int)) (y : Int) (ys : List (List Int)) (ar : Int) (zs : List (List Int)) (cd : Int) : Prop :=
  TwoCode size x xs y ys cd ∧ ((cd = 0 ∧ ar = x ∧ zs = meetL xs ys) ∨ (cd ≠ 0 ∧ ar = 0 ∧ zs = []))
theorem MeetRelsIs.exists (size x : Int) (xs : List (List Int)) (y : Int) (ys : List (List Int)) : ∃ ar zs cd, MeetRelsIs size x xs y ys ar zs cd := by
  obtain ⟨c, hc⟩ := TwoCode.exists size x xs y ys
  by_cases h : c = 0
  · exact ⟨_, _, c, hc, .inl ⟨h, rfl, rfl⟩⟩
  · exact ⟨_, _, c, hc, .inr ⟨h, rfl, rfl⟩⟩
theorem MeetRelsIs.small {size x : Int} {xs : List (List Int)} {y : Int} {ys : List (List Int)} {ar : Int} {zs : List (List Int)} {cd : Int} (h : MeetRelsIs size x xs y ys ar zs cd) : (zs.map List.length).sum ≤ 1048576 := by
  obtain ⟨hc, ⟨rfl, rfl, rfl⟩ | ⟨_, _, rfl⟩⟩ := h
  · exact few_small hc.ok.1 (fun z hz => (List.mem_filter.1 hz).1) (meetL_len _ _)
  · simp

set_option maxHeartbeats 4000000 in
set_option maxRecDepth 100000 in
theorem specMeetRels_in (s r : Nat) (_h1 : 1 ≤ s) (_h2 : s ≤ 4) (h3 : 1 ≤ r) (h4 : r ≤ 4) (a1 : Option Addr) (n1 c1 : Nat) (xs : List (List Int)) (a2 : Option Addr) (n2 c2 : Nat) (ys : List (List Int)) (w : World) (g1 : GridAt w (.slice a1 n1 c1) xs) (g2 : GridAt w (.slice a2 n2 c2) ys) (hc : TwoCode s r xs r ys 0) :
    Calls Tryd.prog 24 #[.int .i64 s, .agg #[.int .i64 r, .slice a1 n1 c1], .agg #[.int .i64 r, .slice a2 n2 c2]] w (MadeRel2 w r (meetL xs ys) 0) := by
  have hR0 := RelBox.new ((w.alloc (.cells #[.int .i64 r, .slice a1 n1 c1] 25)).alloc (.cells #[.int .i64 r, .slice a2 n2 c2] 25)) (.int .i64 0) (.slice none 0 0)
  rw [World.size_alloc, World.size_alloc] at hR0
  have HR0 := Lib.hid hR0
  have K0 := Lib.hid ((((((Kept.start w).read (lives_grid _ _) g2).read (lives_grid _ _) g1).box w.heap.size rfl (.int .i64 r) (.slice a1 n1 c1) 25).box (w.heap.size + 1) (by simp) (.int .i64 r) (.slice a2 n2 c2) 25).below ((Below.refl _ _).alloc (Nat.le_refl _) (.cells #[.int .i64 0, .slice none 0 0] 25)))
  clear g1 g2 hR0
  have HC := Lib.hid hc
  have HX := Lib.hid hc.ok.1
  have HLEN : Hid (∀ j, j < xs.length → 1 ≤ (rowN xs j).length ∧ (rowN xs j).length ≤ 4) := Lib.hid fun j hj => by
    have h1 := (hc.ok.1.tups _ (rowN_mem hj)).1
    omega
  have hl := hc.ok.1.few
  clear hc
  go_enter Tryd.func24, Tryd.ntmps24
  go_wp2_with fail
  refine (l01Two _ _ _ _ _ _ _ _ _ 0 _ ⟨(K0.out.c 2 rfl :), a1, n1, c1, (K0.out.c 3 rfl :), (K0.out.r 0 rfl :)⟩ ⟨(K0.out.c 0 rfl :), a2, n2, c2, (K0.out.c 1 rfl :), (K0.out.r 1 rfl :)⟩ HC.out).mono ?_
  rintro e w2 ⟨rfl, hq⟩
  have hsz2 : w.heap.size + 3 ≤ w2.heap.size := by have := hq.bel.size; simpa using this
  have K2 := Lib.hid (K0.out.below hq.bel)
  have HR2 := Lib.hid (HR0.out.below hq.bel)
  clear hq
  go_wp2_with fail
  refine (l01Meet r r w.heap.size 0 (w.heap.size + 1) 0 xs ys _ ⟨(K2.out.c 2 rfl :), a1, n1, c1, (K2.out.c 3 rfl :), (K2.out.r 0 rfl :)⟩ ⟨(K2.out.c 0 rfl :), a2, n2, c2, (K2.out.c 1 rfl :), (K2.out.r 1 rfl :)⟩ HLEN.out hl).mono ?_
  rintro e w5 ⟨a5, n5, c5, rfl, ho5, hb5⟩
  have hr5 := HR2.out.below hb5
  have d0 := hr5.c0
  have d1 := hr5.c1
  have f0 := hr5.free 0
  have f1 := hr5.free 1
  have HO5 := Lib.hid ho5
  have HW5 := Lib.hid (K2.out.bel.trans (hb5.mono K2.out.bel.size))
  have HZ := Lib.hid HR2.out.lt
  clear ho5 hb5 hr5
  go_wp2
  refine bodyPost_ret (v := .tuple #[.agg #[.int .i64 r, .slice a5 n5 c5], .int .i64 0]) (by simp [results, Tryd.results24, go_sem, d0, d1]) rfl ⟨a5, n5, c5, rfl, ?_, ?_⟩
  · have e1 := HZ.out
    exact (((HO5.out.stored e1 _).stored e1 _).mono (by omega)).full
  · exact (HW5.out.setCell (by show w.heap.size ≤ w.heap.size + 1 + 1; omega) _).setCell (by show w.heap.size ≤ w.heap.size + 1 + 1; omega) _

set_option maxHeartbeats 1000000 in
set_option maxRecDepth 100000 in
theorem specMeetRels_no (size x : Int) (a1 : Option Addr) (n1 c1 : Nat) (xs : List (List Int)) (y : Int) (a2 : Option Addr) (n2 c2 : Nat) (ys : List (List Int)) (cd : Int) (w : World) (g1 : GridAt w (.slice a1 n1 c1) xs) (g2 : GridAt w (.slice a2 n2 c2) ys) (hc : TwoCode size x xs y ys cd) (h0 : cd ≠ 0) :
    Calls Tryd.prog 24 #[.int .i64 size, .agg #[.int .i64 x, .slice a1 n1 c1], .agg #[.int .i64 y, .slice a2 n2 c2]] w (MadeRel2 w 0 [] cd) := by
  have hR0 := RelBox.new ((w.alloc (.cells #[.int .i64 x, .slice a1 n1 c1] 25)).alloc (.cells #[.int .i64 y, .slice a2 n2 c2] 25)) (.int .i64 0) (.slice none 0 0)
  rw [World.size_alloc, World.size_alloc] at hR0
  have HR0 := Lib.hid hR0
  have K0 := Lib.hid ((((((Kept.start w).read (lives_grid _ _) g2).read (lives_grid _ _) g1).box w.heap.size rfl (.int .i64 x) (.slice a1 n1 c1) 25).box (w.heap.size + 1) (by simp) (.int .i64 y) (.slice a2 n2 c2) 25).below ((Below.refl _ _).alloc (Nat.le_refl _) (.cells #[.int .i64 0, .slice none 0 0] 25)))
  clear g1 g2 hR0

  have HC := Lib.hid hc
  have hne : (cd == 0) = false := beq_eq_false_iff_ne.2 h0
  clear hc h0
  go_enter Tryd.func24, Tryd.ntmps24
  go_wp2_with fail
  refine (l01Two _ _ _ _ _ _ _ _ _ cd _ ⟨(K0.out.c 2 rfl :), a1, n1, c1, (K0.out.c 3 rfl :), (K0.out.r 0 rfl :)⟩ ⟨(K0.out.c 0 rfl :), a2, n2, c2, (K0.out.c 1 rfl :), (K0.out.r 1 rfl :)⟩ HC.out).mono ?_
  rintro e w2 ⟨rfl, hq⟩
  have hb2 : Below _ _ w2 := hq.bel
  have hr := HR0.out.below hb2
  have d0 := hr.c0
  have d1 := hr.c1
  have f0 := hr.free 0
  have f1 := hr.free 1
  have KE := Lib.hid (K0.out.below hb2)
  clear hq hb2 hr
  go_wp2
  refine bodyPost_ret (v := .tuple #[.agg #[.int .i64 0, .slice none 0 0], .int .i64 cd]) (by simp [results, Tryd.results24, go_sem, d0, d1]) rfl ⟨none, 0, 0, rfl, ?_, ?_⟩
  · exact OwnGrid.nil _ _ _ (Nat.le_refl _)
  · exact (KE.out.bel.setCell (by show w.heap.size ≤ w.heap.size + 2; omega) _).setCell (by show w.heap.size ≤ w.heap.size + 2; omega) _


theorem specMeetRels (size x : Int) (a1 : Option Addr) (n1 c1 : Nat) (xs : List (List Int)) (y : Int) (a2 : Option Addr) (n2 c2 : Nat) (ys : List (List Int)) (ar : Int) (zs : List (List Int)) (cd : Int) (w : World) (g1 : GridAt w (.slice a1 n1 c1) xs) (g2 : GridAt w (.slice a2 n2 c2) ys) (hi : MeetRelsIs size x xs y ys ar zs cd) :
    Calls Tryd.prog 24 #[.int .i64 size, .agg #[.int .i64 x, .slice a1 n1 c1], .agg #[.int .i64 y, .slice a2 n2 c2]] w (MadeRel2 w ar zs cd) := by
  obtain ⟨hc, ⟨rfl, rfl, rfl⟩ | ⟨h0, rfl, rfl⟩⟩ := hi
  · obtain ⟨r1, r2, rfl⟩ := hc.ok
    have e1 := r1.1.1
    have e2 := r1.1.2
    have e3 := r1.2.1.1
    have e4 := r1.2.1.2
    obtain ⟨s, rfl⟩ : ∃ s : Nat, size = s := ⟨size.toNat, by omega⟩
    obtain ⟨r, rfl⟩ : ∃ r : Nat, ar = r := ⟨ar.toNat, by omega⟩
    exact specMeetRels_in s r (by omega) (by omega) (by omega) (by omega) a1 n1 c1 xs a2 n2 c2 ys w g1 g2 hc
  · exact specMeetRels_no size x a1 n1 c1 xs y a2 n2 c2 ys cd w g1 g2 hc h0

set_option linter.unusedSimpArgs false in
set_option maxHeartbeats 8000000 in
set_option maxRecDepth 100000 in
theorem implMeetRels_in (s r : Nat) (h1 : 1 ≤ s) (h2 : s ≤ 4) (h3 : 1 ≤ r) (h4 : r ≤ 4) (a1 : Option Addr) (n1 c1 : Nat) (xs : List (List Int)) (a2 : Option Addr) (n2 c2 : Nat) (ys : List (List Int)) (w : World) (g1 : GridAt w (.slice a1 n1 c1) xs) (g2 : GridAt w (.slice a2 n2 c2) ys) (hT : TzTab w) (hc : TwoCode s r xs r ys 0) :
    Calls Tryd.prog 25 #[.int .i64 s, .agg #[.int .i64 r, .slice a1 n1 c1], .agg #[.int .i64 r, .slice a2 n2 c2]] w (MadeRel2 w r (meetL xs ys) 0) := by
  have hR0 := RelBox.new ((w.alloc (.cells #[.int .i64 r, .slice a1 n1 c1] 25)).alloc (.cells #[.int .i64 r, .slice a2 n2 c2] 25)) (.int .i64 0) (.slice none 0 0)
  rw [World.size_alloc, World.size_alloc] at hR0
  have HR0 := Lib.hid hR0
  have K0 := Lib.hid (((((((Kept.start w).read lives_tz hT).read (lives_grid _ _) g2).read (lives_grid _ _) g1).box w.heap.size rfl (.int .i64 r) (.slice a1 n1 c1) 25).box (w.heap.size + 1) (by simp) (.int .i64 r) (.slice a2 n2 c2) 25).below ((Below.refl _ _).alloc (Nat.le_refl _) (.cells #[.int .i64 0, .slice none 0 0] 25)))
  clear g1 g2 hR0 hT
  rw [← meet_sets h1 h2 h3 h4 hc.ok.1 hc.ok.2.1]
  have HC := Lib.hid hc
  have HR1 := Lib.hid hc.ok.1
  have HR2 := Lib.hid hc.ok.2.1
  clear hc
  go_enter Tryd.func25, Tryd.ntmps25
  go_wp2_with fail
  refine (pairCode _ _ _ _ _ _ _ _ _ _ _ 0 _ (K0.out.grid 0 rfl) (K0.out.grid 1 rfl) HC.out).mono ?_
  rintro e w2 ⟨rfl, hb2⟩
  have hsz2 : w.heap.size + 3 ≤ w2.heap.size := by have := hb2.size; simpa using this
  have K2 := Lib.hid (K0.out.below hb2)
  have HB2 := Lib.hid (HR0.out.below hb2)
  clear hb2
  go_wp2_with fail
  refine wp_region_noPanic ?_
  refine wp_region_late (S := (fun w' => w'.cell? ⟨w.heap.size + 1, 0, none⟩ = some (.int .i64 r) ∧ w'.cell? ⟨w.heap.size + 1, 1, none⟩ = some (.slice a2 n2 c2) ∧ w'.cell? ⟨w.heap.size, 0, none⟩ = some (.int .i64 r) ∧ w'.cell? ⟨w.heap.size, 1, none⟩ = some (.slice a1 n1 c1) ∧ Kept w [(⟨w.heap.size + 1, 0, none⟩, .int .i64 r), (⟨w.heap.size + 1, 1, none⟩, .slice a2 n2 c2), (⟨w.heap.size, 0, none⟩, .int .i64 r), (⟨w.heap.size, 1, none⟩, .slice a1 n1 c1)] [fun w => GridAt w (.slice a1 n1 c1) xs, fun w => GridAt w (.slice a2 n2 c2) ys, TzTab] w')) [11] (by kernel_rfl) ?_ (fun hHeld => ?_)
  · exact K2.out.drew.two 0 2 rfl rfl rfl rfl
  refine wpAnyL_free (i := 0) (v := ?_) (some 17) rfl rfl (by kernel_rfl) (by kernel_rfl) (by kernel_rfl) (by decide) (fun _ _ _ h => h) (Or.inl ⟨by rfl, ?_⟩) (fun h0 => by assumption) ?_
  rotate_left
  · intro wS
    go_simp
    try with_reducible rfl
  try simp only [Act.put, List.setIfInBounds_toArray, List.set_cons_zero, List.set_cons_succ]
  refine wpAnyL_free (i := 1) (v := ?_) (some 18) rfl rfl (by kernel_rfl) (by kernel_rfl) (by kernel_rfl) (by decide) (fun _ _ _ h => h) (Or.inl ⟨by rfl, ?_⟩) (fun h0 => by assumption) ?_
  rotate_left
  · intro wS
    go_simp
    try with_reducible rfl
  try simp only [Act.put, List.setIfInBounds_toArray, List.set_cons_zero, List.set_cons_succ]
  refine wpAnyL_take (i := 2) (v := ?_) (some 19) rfl rfl (by kernel_rfl) (by kernel_rfl) (by kernel_rfl) (by kernel_rfl) (by kernel_rfl) (fun _ _ _ h => h) (Or.inl ⟨by rfl, ?_⟩) (by assumption) ?_
  rotate_left
  · intro wS hSw
    try dsimp only at hSw
    go_simp
    try with_reducible rfl
  try simp only [Act.put, List.setIfInBounds_toArray, List.set_cons_zero, List.set_cons_succ]
  refine wpAnyL_free (i := 3) (v := ?_) (some 20) rfl rfl (by kernel_rfl) (by kernel_rfl) (by kernel_rfl) (by decide) (fun _ _ _ h => h) (Or.inl ⟨by rfl, ?_⟩) (fun h0 => by assumption) ?_
  rotate_left
  · intro wS
    go_simp
    try with_reducible rfl
  try simp only [Act.put, List.setIfInBounds_toArray, List.set_cons_zero, List.set_cons_succ]
  refine wpAnyL_take (i := 4) (v := ?_) (some 21) rfl rfl (by kernel_rfl) (by kernel_rfl) (by kernel_rfl) (by kernel_rfl) (by kernel_rfl) (fun _ _ _ h => h) (Or.inl ⟨by rfl, ?_⟩) (by assumption) ?_
  rotate_left
  · intro wS hSw
    try dsimp only at hSw
    go_simp
    try with_reducible rfl
  try simp only [Act.put, List.setIfInBounds_toArray, List.set_cons_zero, List.set_cons_succ]
  refine wpAnyL_free (i := 6) (v := ?_) (some 23) rfl rfl (by kernel_rfl) (by kernel_rfl) (by kernel_rfl) (by decide) (fun _ _ _ h => h) (Or.inl ⟨by rfl, ?_⟩) (fun h0 => by assumption) ?_
  rotate_left
  · intro wS
    go_simp
    try with_reducible rfl
  try simp only [Act.put, List.setIfInBounds_toArray, List.set_cons_zero, List.set_cons_succ]
  refine wpAnyL_take (i := 7) (v := ?_) (some 24) rfl rfl (by kernel_rfl) (by kernel_rfl) (by kernel_rfl) (by kernel_rfl) (by kernel_rfl) (fun _ _ _ h => h) (Or.inl ⟨by rfl, ?_⟩) (by assumption) ?_
  rotate_left
  · intro wS hSw
    try dsimp only at hSw
    go_simp
    try with_reducible rfl
  try simp only [Act.put, List.setIfInBounds_toArray, List.set_cons_zero, List.set_cons_succ]
  refine wpAnyL_ready (rs := [5]) (by kernel_rfl) (by simp) ?_
  refine AllReadyL.cons rfl (fun K hK => ?_) AllReadyL.nil
  go_simp; go_at_call 53; refine (bitsOf _ _ _ _ _ _ _ (hHeld.2.2.2.2.r 0 rfl :) HR1.out).mono ?_; rintro e w5 ⟨rfl, hb5⟩
  refine hK.out _ _ ?_ (fun hHeld => ?_)
  · exact ⟨below_cell hb5 hHeld.1, below_cell hb5 hHeld.2.1, below_cell hb5 hHeld.2.2.1, below_cell hb5 hHeld.2.2.2.1, hHeld.2.2.2.2.below hb5⟩
  clear hK K
  try simp only [Act.put, List.setIfInBounds_toArray, List.set_cons_zero, List.set_cons_succ]
  refine wpAnyL_ready (rs := [8]) (by kernel_rfl) (by simp) ?_
  refine AllReadyL.cons rfl (fun K hK => ?_) AllReadyL.nil
  go_simp; go_at_call 53; refine (bitsOf _ _ _ _ _ _ _ (hHeld.2.2.2.2.r 1 rfl :) HR2.out).mono ?_; rintro e w6 ⟨rfl, hb6⟩
  refine hK.out _ _ ?_ (fun hHeld => ?_)
  · exact ⟨below_cell hb6 hHeld.1, below_cell hb6 hHeld.2.1, below_cell hb6 hHeld.2.2.1, below_cell hb6 hHeld.2.2.2.1, hHeld.2.2.2.2.below hb6⟩
  clear hK K
  try simp only [Act.put, List.setIfInBounds_toArray, List.set_cons_zero, List.set_cons_succ]
  refine wpAnyL_ready (rs := [9]) (by kernel_rfl) (by simp) ?_
  refine AllReadyL.cons rfl (fun K hK => ?_) AllReadyL.nil
  go_simp; go_at_call 57; refine (meetBits _ _ _).mono ?_; rintro e w7 ⟨rfl, hb7⟩
  refine hK.out _ _ ?_ (fun hHeld => ?_)
  · exact ⟨below_cell hb7 hHeld.1, below_cell hb7 hHeld.2.1, below_cell hb7 hHeld.2.2.1, below_cell hb7 hHeld.2.2.2.1, hHeld.2.2.2.2.below hb7⟩
  clear hK K
  try simp only [Act.put, List.setIfInBounds_toArray, List.set_cons_zero, List.set_cons_succ]
  refine wpAnyL_ready (rs := [10]) (by kernel_rfl) (by simp) ?_
  refine AllReadyL.cons rfl (fun K hK => ?_) AllReadyL.nil
  go_simp; go_at_call 43; refine (relOf s r h1 h2 h3 h4 _ _ (hHeld.2.2.2.2.r 2 rfl :)).mono ?_; rintro e w8 ⟨a8, n8, c8, rfl, ho8, hb8⟩
  have hr8 : RelBox w8 (w.heap.size + 1 + 1) (.int .i64 0) (.slice none 0 0) := ((((HB2.out.below ((QW.refl _).drew.bel)).below hb5).below hb6).below hb7).below hb8
  have d0 := hr8.c0
  have d1 := hr8.c1
  have f0 := hr8.free 0
  have f1 := hr8.free 1
  have HO8 := Lib.hid ho8
  have HZ : Hid (w.heap.size + 1 + 1 < _) := Lib.hid (((((HB2.out.below ((QW.refl _).drew.bel)).below hb5).below hb6).below hb7).lt)
  clear ho8 hr8
  refine hK.out _ _ ?_ (fun hHeld => ?_)
  · exact ⟨below_cell hb8 hHeld.1, below_cell hb8 hHeld.2.1, below_cell hb8 hHeld.2.2.1, below_cell hb8 hHeld.2.2.2.1, hHeld.2.2.2.2.below hb8⟩
  clear hK K
  try simp only [Act.put, List.setIfInBounds_toArray, List.set_cons_zero, List.set_cons_succ]
  refine wpAnyL_ready (rs := [11]) (by kernel_rfl) (by simp) ?_
  refine AllReadyL.last rfl (by kernel_rfl) (fun K hK => ?_) AllReadyL.nil
  go_simp
  refine hK.out _ _ ?_
  clear hK K
  try simp only [Act.put, List.setIfInBounds_toArray, List.set_cons_zero, List.set_cons_succ]
  refine wpAnyL_free (i := 12) (v := ?_) (some 7) rfl rfl (by kernel_rfl) (by kernel_rfl) (by kernel_rfl) (by decide) (fun _ _ _ h => h) (Or.inl ⟨by rfl, ?_⟩) (fun h0 => absurd h0 (by decide)) ?_
  rotate_left
  · intro wS
    go_simp
    try with_reducible rfl
  try simp only [Act.put, List.setIfInBounds_toArray, List.set_cons_zero, List.set_cons_succ]
  refine wpAnyL_done (by kernel_rfl) ?_ _
  refine NoPanic.normal ?_
  have K8 := Lib.hid hHeld.2.2.2.2
  clear hHeld hb5 hb6 hb7 hb8

  go_wp2
  refine bodyPost_ret (v := .tuple #[.agg #[.int .i64 r, .slice a8 n8 c8], .int .i64 0]) (by simp [results, Tryd.results25, go_sem, d0, d1]) rfl ⟨a8, n8, c8, rfl, ?_, ?_⟩
  · have e1 := HZ.out
    exact (((HO8.out.stored e1 _).stored e1 _).mono (by omega)).full
  · exact (K8.out.bel.setCell (by show w.heap.size ≤ w.heap.size + 1 + 1; omega) _).setCell (by show w.heap.size ≤ w.heap.size + 1 + 1; omega) _

set_option maxHeartbeats 1000000 in
set_option maxRecDepth 100000 in
theorem implMeetRels_no (size x : Int) (a1 : Option Addr) (n1 c1 : Nat) (xs : List (List Int)) (y : Int) (a2 : Option Addr) (n2 c2 : Nat) (ys : List (List Int)) (cd : Int) (w : World) (g1 : GridAt w (.slice a1 n1 c1) xs) (g2 : GridAt w (.slice a2 n2 c2) ys) (hc : TwoCode size x xs y ys cd) (h0 : cd ≠ 0) :
    Calls Tryd.prog 25 #[.int .i64 size, .agg #[.int .i64 x, .slice a1 n1 c1], .agg #[.int .i64 y, .slice a2 n2 c2]] w (MadeRel2 w 0 [] cd) := by
  have hR0 := RelBox.new ((w.alloc (.cells #[.int .i64 x, .slice a1 n1 c1] 25)).alloc (.cells #[.int .i64 y, .slice a2 n2 c2] 25)) (.int .i64 0) (.slice none 0 0)
  rw [World.size_alloc, World.size_alloc] at hR0
  have HR0 := Lib.hid hR0
  have K0 := Lib.hid ((((((Kept.start w).read (lives_grid _ _) g2).read (lives_grid _ _) g1).box w.heap.size rfl (.int .i64 x) (.slice a1 n1 c1) 25).box (w.heap.size + 1) (by simp) (.int .i64 y) (.slice a2 n2 c2) 25).below ((Below.refl _ _).alloc (Nat.le_refl _) (.cells #[.int .i64 0, .slice none 0 0] 25)))
  clear g1 g2 hR0

  have HC := Lib.hid hc
  have hne : (cd == 0) = false := beq_eq_false_iff_ne.2 h0
  clear hc h0
  go_enter Tryd.func25, Tryd.ntmps25
  go_wp2_with fail
  refine (pairCode _ _ _ _ _ _ _ _ _ _ _ cd _ (K0.out.grid 0 rfl) (K0.out.grid 1 rfl) HC.out).mono ?_
  rintro e w2 ⟨rfl, hq⟩
  have hb2 : Below _ _ w2 := hq
  have hr := HR0.out.below hb2
  have d0 := hr.c0
  have d1 := hr.c1
  have f0 := hr.free 0
  have f1 := hr.free 1
  have KE := Lib.hid (K0.out.below hb2)
  clear hq hb2 hr
  go_wp2
  refine bodyPost_ret (v := .tuple #[.agg #[.int .i64 0, .slice none 0 0], .int .i64 cd]) (by simp [results, Tryd.results25, go_sem, d0, d1]) rfl ⟨none, 0, 0, rfl, ?_, ?_⟩
  · exact OwnGrid.nil _ _ _ (Nat.le_refl _)
  · exact (KE.out.bel.setCell (by show w.heap.size ≤ w.heap.size + 2; omega) _).setCell (by show w.heap.size ≤ w.heap.size + 2; omega) _


theorem implMeetRels (size x : Int) (a1 : Option Addr) (n1 c1 : Nat) (xs : List (List Int)) (y : Int) (a2 : Option Addr) (n2 c2 : Nat) (ys : List (List Int)) (ar : Int) (zs : List (List Int)) (cd : Int) (w : World) (g1 : GridAt w (.slice a1 n1 c1) xs) (g2 : GridAt w (.slice a2 n2 c2) ys) (hT : TzTab w) (hi : MeetRelsIs size x xs y ys ar zs cd) :
    Calls Tryd.prog 25 #[.int .i64 size, .agg #[.int .i64 x, .slice a1 n1 c1], .agg #[.int .i64 y, .slice a2 n2 c2]] w (MadeRel2 w ar zs cd) := by
  obtain ⟨hc, ⟨rfl, rfl, rfl⟩ | ⟨h0, rfl, rfl⟩⟩ := hi
  · obtain ⟨r1, r2, rfl⟩ := hc.ok
    have e1 := r1.1.1
    have e2 := r1.1.2
    have e3 := r1.2.1.1
    have e4 := r1.2.1.2
    obtain ⟨s, rfl⟩ : ∃ s : Nat, size = s := ⟨size.toNat, by omega⟩
    obtain ⟨r, rfl⟩ : ∃ r : Nat, ar = r := ⟨ar.toNat, by omega⟩
    exact implMeetRels_in s r (by omega) (by omega) (by omega) (by omega) a1 n1 c1 xs a2 n2 c2 ys w g1 g2 hT hc
  · exact implMeetRels_no size x a1 n1 c1 xs y a2 n2 c2 ys cd w g1 g2 hc h0

end Go.Proofs.YtbnmgonfmihicaaDoor
