/-
  InstanceFormula of the model and of the program.
-/
import Derived.Test.YtiinohkkfjbfhaaRestrict
import Derived.Test.YtiinohkkfjbfhaaTold
import Derived.Test.YtiinohkkfjbfhaaAtomF
namespace Go.Proofs.Ytiinohkkfjbfhaa
open Go.RowKit

def copyL (cs : List (Int × List Int)) (k : Nat) : List (Int × List Int) := (List.range k).map fun i => (arO cs i, rowO cs i)
theorem copyL_len (cs : List (Int × List Int)) (k : Nat) : (copyL cs k).length = k := by simp [copyL]
theorem copyL_succ (cs : List (Int × List Int)) (k : Nat) : copyL cs (k + 1) = copyL cs k ++ [(arO cs k, rowO cs k)] := by simp [copyL, List.range_succ]
def InstanceFormulaIs (sz : Int) (rs : List (Int × List (List Int))) (va : Int) (cs : List (Int × List Int)) (free x y : Int) (zs : List (Int × List Int)) (cd : Int) : Prop :=
  (InstOk sz rs va cs ∧ In14 free ∧ free ≤ va ∧ ((va ≤ 8 ∧ cs.length ≤ 16 ∧ free = x ∧ va = y ∧ zs = copyL cs cs.length ∧ cd = 0)
    ∨ (¬ (va ≤ 8 ∧ cs.length ≤ 16) ∧ x = 0 ∧ y = 0 ∧ zs = [] ∧ cd = 3)))
  ∨ (InstOk sz rs va cs ∧ ¬ (In14 free ∧ free ≤ va) ∧ x = 0 ∧ y = 0 ∧ zs = [] ∧ cd = 2)
  ∨ (¬ InstOk sz rs va cs ∧ x = 0 ∧ y = 0 ∧ zs = [] ∧ cd = 1)
theorem InstanceFormulaIs.exists (sz : Int) (rs : List (Int × List (List Int))) (va : Int) (cs : List (Int × List Int)) (free : Int) : ∃ x y zs cd, InstanceFormulaIs sz rs va cs free x y zs cd := by
  by_cases h : InstOk sz rs va cs
  · by_cases h2 : In14 free ∧ free ≤ va
    · by_cases h3 : va ≤ 8 ∧ cs.length ≤ 16
      · exact ⟨_, _, _, _, .inl ⟨h, h2.1, h2.2, .inl ⟨h3.1, h3.2, rfl, rfl, rfl, rfl⟩⟩⟩
      · exact ⟨_, _, _, _, .inl ⟨h, h2.1, h2.2, .inr ⟨h3, rfl, rfl, rfl, rfl⟩⟩⟩
    · exact ⟨_, _, _, _, .inr (.inl ⟨h, h2, rfl, rfl, rfl, rfl⟩)⟩
  · exact ⟨_, _, _, _, .inr (.inr ⟨h, rfl, rfl, rfl, rfl⟩)⟩
theorem InstanceFormulaIs.small {sz : Int} {rs : List (Int × List (List Int))} {va : Int} {cs : List (Int × List Int)} {free x y : Int} {zs : List (Int × List Int)} {cd : Int} (h : InstanceFormulaIs sz rs va cs free x y zs cd) : opsSize zs ≤ 1048576 := by
  rcases h with ⟨h, -, -, ⟨-, h5, -, -, rfl, -⟩ | ⟨-, -, -, rfl, -⟩⟩ | ⟨-, -, -, -, rfl, -⟩ | ⟨-, -, -, rfl, -⟩
  · have h1 := partO_mulI (copyL cs cs.length) 4 cs.length fun k hk => by
      have e : rowO (copyL cs cs.length) k = rowO cs k := by simp [copyL, rowO, List.getD, hk]
      rw [e]
      have := (h.text.2.2 k hk).2.1.2
      omega
    unfold opsSize
    rw [copyL_len]
    omega
  · simp [opsSize, partO]
  · simp [opsSize, partO]
  · simp [opsSize, partO]

set_option linter.unusedSimpArgs false in
set_option maxHeartbeats 2000000 in
set_option maxRecDepth 100000 in
theorem implInstanceFormula (sz : Int) (a1 : Option Addr) (n1 c1 : Nat) (rs : List (Int × List (List Int))) (va : Int) (a2 : Option Addr) (n2 c2 : Nat) (cs : List (Int × List Int)) (free x y : Int) (zs : List (Int × List Int)) (cd : Int) (w : World) (h1 : RelsAt w (.slice a1 n1 c1) rs) (h2 : OpsAt w (.slice a2 n2 c2) cs) (hi : InstanceFormulaIs sz rs va cs free x y zs cd) :
    Calls Try.prog 51 #[.agg #[.int .i64 sz, .slice a1 n1 c1], .agg #[.int .i64 va, .slice a2 n2 c2], .int .i64 free] w (MadeF w x y zs cd) := by
  obtain rfl : n2 = cs.length := by obtain ⟨_, _, hv, _⟩ := h2; simp only [Value.slice.injEq] at hv; exact hv.2.1
  have hcl : cs.length ≤ 9223372036854775807 := by obtain ⟨_, _, _, hn, _⟩ := h2; exact hn
  have HRB : Hid (Box 70 (((w.alloc (.cells #[.int .i64 sz, .slice a1 n1 c1] 33)).alloc (.cells #[.int .i64 va, .slice a2 cs.length c2] 37)).alloc (.cells #[.int .i64 0, .int .i64 0, .slice none 0 0] 70)) (w.heap.size + 2) #[.int .i64 0, .int .i64 0, .slice none 0 0]) := Lib.hid (by
    have h := Box.new 70 ((w.alloc (.cells #[.int .i64 sz, .slice a1 n1 c1] 33)).alloc (.cells #[.int .i64 va, .slice a2 cs.length c2] 37)) #[.int .i64 0, .int .i64 0, .slice none 0 0]
    simp only [World.size_alloc] at h
    exact h)
  have K0 := Lib.hid ((((((Kept.start w).read (lives_rels _ _) h1).read (lives_ops _ _) h2).box w.heap.size rfl (.int .i64 sz) (.slice a1 n1 c1) 33).box (w.heap.size + 1) (by simp) (.int .i64 va) (.slice a2 cs.length c2) 37).below ((Below.refl _ _).alloc (Nat.le_refl _) (.cells #[.int .i64 0, .int .i64 0, .slice none 0 0] 70)))
  clear h1 h2
  rcases hi with ⟨h1, h2, h3, ⟨h4, h5, rfl, rfl, rfl, rfl⟩ | ⟨h4, rfl, rfl, rfl, rfl⟩⟩ | ⟨h1, h2, rfl, rfl, rfl, rfl⟩ | ⟨h1, rfl, rfl, rfl, rfl⟩
  · skip
    have H1 := Lib.hid (Tells.yes h1)
    have HTX := Lib.hid h1.text
    have H2 := Lib.hid (Tells.yes h2)
    have h3' : ¬ va < free := by omega
    have hv10 := h1.2.1.2
    have hc24 := h1.2.2.1
    obtain ⟨i0, hi, hz0, hz1, hz2⟩ := info_parts info_Atom
    have h4' : ¬ 8 < va := by omega
    have h5' : ¬ (16 : Int) < (cs.length : Int) := by omega
    clear h1 h2
    go_enter Try.func51, Try.ntmps51
    go_wp2_with fail
    refine (implValidInstance _ _ _ _ _ _ _ _ _ _ true _ (K0.out.r 1 rfl :) (K0.out.r 0 rfl :) H1.out).mono ?_
    rintro e w1 ⟨rfl, hb1⟩
    have K1 := Lib.hid (K0.out.below hb1)
    have HR1 := Lib.hid (HRB.out.below hb1)
    have hz : w.heap.size + 3 ≤ w1.heap.size := by have := hb1.size; simpa using this
    have hne1 : w.heap.size + 1 ≠ w1.heap.size := by omega
    have hne2 : ¬ w1.heap.size = w.heap.size + 1 := by omega
    have c0' := K1.out.c 0 rfl
    have c1' := K1.out.c 1 rfl
    clear hb1
    have e0 := HR1.out.c 0 rfl
    have f0 := HR1.out.free 0
    have e1 := HR1.out.c 1 rfl
    have f1 := HR1.out.free 1
    have e2 := HR1.out.c 2 rfl
    have f2 := HR1.out.free 2
    have c1n : (w1.alloc (.cells #[.int .i64 free, .int .i64 va, .slice none 0 0] 70)).cell? ⟨w.heap.size + 1, 1, none⟩ = some (.slice a2 cs.length c2) := below_cell ((Below.refl _ _).alloc (Nat.le_refl _) _) c1'
    go_wp2_with (go_at_call 103; refine (isArity _ true _ H2.out).mono ?_; rintro e w2 ⟨rfl, rfl⟩)
    clear c1n
    clear c0' c1'
    clear e0 f0 e1 f1 e2 f2
    go_loopw [43] (fun i wr => ∃ (k : Nat) (a : Option Addr) (n c : Nat), k ≤ cs.length ∧ i = .int .i64 k ∧ Box 70 wr w1.heap.size #[.int .i64 free, .int .i64 va, .slice a n c] ∧ OwnOps 125 wr (w1.heap.size + 1) wr.heap.size (.slice a n c) (copyL cs k) ∧ Below w1.heap.size w1 wr ∧ w1.heap.size + 1 ≤ wr.heap.size) (fun i _ => cs.length - (intOf i).toNat)
    case atStart => exact ⟨0, none, 0, 0, Nat.zero_le _, rfl, Box.new _ _ _, OwnOps.nil _ _ _ _ (Nat.le_refl _), (Below.refl _ _).alloc (Nat.le_refl _) _, by simp⟩
    case round =>
      obtain ⟨k, a, n, c, hk, rfl, hbx, hg, hbr, hsz⟩ := hrel
      by_cases hlt : k < cs.length
      · have hlt' : (k : Int) < (cs.length : Int) := by omega
        have KR := Lib.hid (K1.out.below hbr)
        obtain ⟨ca, cc, hcv, hcn, hcc⟩ := (KR.out.r 0 rfl : OpsAt wr (.slice a2 cs.length c2) cs)
        simp only [Value.slice.injEq] at hcv
        obtain ⟨rfl, _, rfl⟩ := hcv
        obtain ⟨b1, off1, ha1, hcell1⟩ := hcc (by omega)
        subst ha1
        obtain ⟨z0, a4, n4, c4, z1, hr⟩ := hcell1 k hlt
        have hrl : 1 ≤ (rowO cs k).length ∧ (rowO cs k).length ≤ 4 := by
          have h1 := HTX.out.2.2 k hlt
          have h2 := h1.2.1.1
          have h3 := h1.2.1.2
          omega
        have hr0 : 0 < (rowO cs k).length := by omega
        have hr4 : (rowO cs k).length ≤ 1000 := by omega
        have hn4 : n4 = (rowO cs k).length := by obtain ⟨_, _, hv, _⟩ := hr; simp only [Value.slice.injEq] at hv; exact hv.2.1
        subst hn4
        have xc := KR.out.c 1 rfl
        have HLN : Hid ((copyL cs k).length = k) := Lib.hid (copyL_len _ _)
        have hkm : k ≤ 1000 := by omega
        clear hcell1 hcc hrl
        have HBX := Lib.hid (hbx.below ((Below.refl _ _).alloc (Nat.le_refl _) (.cells #[.int .i64 (arO cs k), .slice a4 (rowO cs k).length c4] 95)))
        have HG := Lib.hid ((hg.below ((Below.refl _ _).alloc (Nat.le_refl _) (.cells #[.int .i64 (arO cs k), .slice a4 (rowO cs k).length c4] 95))).full)
        have HROW := Lib.hid (hr.below ((Below.refl _ _).alloc (Nat.le_refl _) (.cells #[.int .i64 (arO cs k), .slice a4 (rowO cs k).length c4] 95)))
        have HBW : Hid (Below w1.heap.size w1 (wr.alloc (.cells #[.int .i64 (arO cs k), .slice a4 (rowO cs k).length c4] 95))) := Lib.hid (hbr.alloc hbr.size _)
        have HSZ : Hid (w1.heap.size + 1 ≤ (wr.alloc (.cells #[.int .i64 (arO cs k), .slice a4 (rowO cs k).length c4] 95)).heap.size) := Lib.hid (by simp; omega)
        have BC := Box.new 95 wr #[.int .i64 (arO cs k), .slice a4 (rowO cs k).length c4]
        have y0 := BC.c 0 rfl
        have y1 := BC.c 1 rfl
        have g1 := HBX.out.c 2 rfl
        clear hbx hg hr hbr BC
        go_wp2
        refine wp_region_noPanic ?_
        refine wp_region_late (S := (fun w' => w'.cell? ⟨w1.heap.size, 2, none⟩ = some (.slice a n c) ∧ w'.cell? ⟨wr.heap.size, 0, none⟩ = some (.int .i64 (arO cs k)) ∧ w'.cell? ⟨wr.heap.size, 1, none⟩ = some (.slice a4 (rowO cs k).length c4) ∧ Below (wr.alloc (.cells #[.int .i64 (arO cs k), .slice a4 (rowO cs k).length c4] 95)).heap.size (wr.alloc (.cells #[.int .i64 (arO cs k), .slice a4 (rowO cs k).length c4] 95)) w')) [9, 11] (by kernel_rfl) ?_ (fun hHeld => ?_)
        · exact ⟨g1, y0, y1, (QW.refl _).drew.below _⟩
        refine wpAnyL_free (i := 0) (v := ?_) (some 47) rfl rfl (by kernel_rfl) (by kernel_rfl) (by kernel_rfl) (by decide) (fun _ _ _ h => h) (Or.inl ⟨by rfl, ?_⟩) (fun h0 => by assumption) ?_
        rotate_left
        · intro wS
          go_simp
          try with_reducible rfl
        try simp only [Act.put, List.setIfInBounds_toArray, List.set_cons_zero, List.set_cons_succ]
        refine wpAnyL_take (i := 1) (v := ?_) (some 48) rfl rfl (by kernel_rfl) (by kernel_rfl) (by kernel_rfl) (by kernel_rfl) (by kernel_rfl) (fun _ _ _ h => h) (Or.inl ⟨by rfl, ?_⟩) (by assumption) ?_
        rotate_left
        · intro wS hSw
          try dsimp only at hSw
          go_simp
          try with_reducible rfl
        try simp only [Act.put, List.setIfInBounds_toArray, List.set_cons_zero, List.set_cons_succ]
        refine wpAnyL_free (i := 2) (v := ?_) (some 49) rfl rfl (by kernel_rfl) (by kernel_rfl) (by kernel_rfl) (by decide) (fun _ _ _ h => h) (Or.inl ⟨by rfl, ?_⟩) (fun h0 => by assumption) ?_
        rotate_left
        · intro wS
          go_simp
          try with_reducible rfl
        try simp only [Act.put, List.setIfInBounds_toArray, List.set_cons_zero, List.set_cons_succ]
        refine wpAnyL_take (i := 3) (v := ?_) (some 50) rfl rfl (by kernel_rfl) (by kernel_rfl) (by kernel_rfl) (by kernel_rfl) (by kernel_rfl) (fun _ _ _ h => h) (Or.inl ⟨by rfl, ?_⟩) (by assumption) ?_
        rotate_left
        · intro wS hSw
          try dsimp only at hSw
          go_simp
          try with_reducible rfl
        try simp only [Act.put, List.setIfInBounds_toArray, List.set_cons_zero, List.set_cons_succ]
        refine wpAnyL_free (i := 4) (v := ?_) (some 51) rfl rfl (by kernel_rfl) (by kernel_rfl) (by kernel_rfl) (by decide) (fun _ _ _ h => h) (Or.inl ⟨by rfl, ?_⟩) (fun h0 => by assumption) ?_
        rotate_left
        · intro wS
          go_simp
          try with_reducible rfl
        try simp only [Act.put, List.setIfInBounds_toArray, List.set_cons_zero, List.set_cons_succ]
        refine wpAnyL_take (i := 5) (v := ?_) (some 52) rfl rfl (by kernel_rfl) (by kernel_rfl) (by kernel_rfl) (by kernel_rfl) (by kernel_rfl) (fun _ _ _ h => h) (Or.inl ⟨by rfl, ?_⟩) (by assumption) ?_
        rotate_left
        · intro wS hSw
          try dsimp only at hSw
          go_simp
          try with_reducible rfl
        try simp only [Act.put, List.setIfInBounds_toArray, List.set_cons_zero, List.set_cons_succ]
        refine wpAnyL_ready (rs := [6]) (by kernel_rfl) (by simp) ?_
        refine AllReadyL.cons rfl (fun K hK => ?_) AllReadyL.nil
        go_simp; go_at_call 97; refine (cloneInts _ (rowO cs k) _ (HROW.out.below hHeld.2.2.2) hr0 hr4).mono ?_; rintro e w3 ⟨g3, c3, rfl, ho3, hb3⟩
        have HO3 := Lib.hid (ho3.mono (B' := (wr.alloc (.cells #[.int .i64 (arO cs k), .slice a4 (rowO cs k).length c4] 95)).heap.size) hHeld.2.2.2.size)
        have HB3 := Lib.hid (hHeld.2.2.2.trans (hb3.mono hHeld.2.2.2.size))
        refine hK.out _ _ ?_ (fun hHeld => ?_)
        · exact ⟨below_cell hb3 hHeld.1, below_cell hb3 hHeld.2.1, below_cell hb3 hHeld.2.2.1, hHeld.2.2.2.trans (hb3.mono hHeld.2.2.2.size)⟩
        clear hK K
        try simp only [Act.put, List.setIfInBounds_toArray, List.set_cons_zero, List.set_cons_succ]
        refine wpAnyL_free (i := 7) (v := ?_) (some 54) rfl rfl (by kernel_rfl) (by kernel_rfl) (by kernel_rfl) (by decide) (fun _ _ _ h => h) (Or.inl ⟨by rfl, ?_⟩) (fun h0 => by assumption) ?_
        rotate_left
        · intro wS
          go_simp
          try with_reducible rfl
        try simp only [Act.put, List.setIfInBounds_toArray, List.set_cons_zero, List.set_cons_succ]
        refine wpAnyL_ready (rs := [8]) (by kernel_rfl) (by simp) ?_
        refine AllReadyL.cons rfl (fun K hK => ?_) AllReadyL.nil
        go_simp
        refine hK.out _ _ ?_ (fun hHeld => ?_)
        · exact ⟨below_cell ((Below.refl _ _).alloc (Nat.le_refl _) _) hHeld.1, below_cell ((Below.refl _ _).alloc (Nat.le_refl _) _) hHeld.2.1, below_cell ((Below.refl _ _).alloc (Nat.le_refl _) _) hHeld.2.2.1, hHeld.2.2.2.trans (((Below.refl _ _).alloc (Nat.le_refl _) _).mono hHeld.2.2.2.size)⟩
        clear hK K
        try simp only [Act.put, List.setIfInBounds_toArray, List.set_cons_zero, List.set_cons_succ]
        refine wpAnyL_ready (rs := [9]) (by kernel_rfl) (by simp) ?_
        refine AllReadyL.last rfl (by kernel_rfl) (fun K hK => ?_) AllReadyL.nil
        obtain ⟨V, hV⟩ := HG.out
        have hV' := hV
        obtain ⟨xs, hxo, hxx⟩ := hV'.outer
        have HV := Lib.hid hV
        have HX := Lib.hid hxx
        have hxl := ownsRow_len hxo
        have HXL := Lib.hid hxl
        have hal := (Below.refl w3.heap.size w3).alloc (Nat.le_refl _) (.cells #[.int .i64 (arO cs k), .slice (some ⟨g3, 0, none⟩) (rowO cs k).length c3] 125)
        have HAL := Lib.hid hal
        clear hV hV' hxx hxl hal
        refine step_append_lies _ (by rfl) _ _ 68 (by rfl) (w1.heap.size + 1) 125 i0 (.agg #[.int .i64 0, .slice none 0 0]) 2 32 Try.underlying68 hi hz0 hz1 hz2 (by rfl) (by decide) (.slice a n c) (copyL cs k).length _ (by rfl) ((ownsRow_below hxo (HB3.out)).alloc _) _ 1 1 [.int .i64 (arO cs k), .slice (some ⟨g3, 0, none⟩) (rowO cs k).length c3] (by rfl) (by rfl) (fun j u hu => World.news_of_block (heap_alloc_new w3 _) j u (by simpa using hu)) (by simp [Value.oneCell']) (by omega) (by rw [HLN.out]; unfold maxLen; omega) (by rw [HLN.out]; omega) (by have := HB3.out.size; have := HSZ.out; simp; omega) _ rfl ?_; intro g5 cap5 w5 hown5 hgrow5 hat5 hlt5
        have HGM := Lib.hid (OwnOpsV.grow HV.out rfl HXL.out HX.out (HB3.out.trans (HAL.out.mono HB3.out.size)) (OwnRow.below HO3.out HAL.out) HSZ.out hown5 hgrow5 (fun g hg => by
          obtain rfl : g5 = g := by simpa [Value.ownBlock] using hg
          rcases hat5 with e | e
          · exact .inl e
          · exact .inr (by omega)))
        have HB5 := Lib.hid (((HB3.out.trans (HAL.out.mono HB3.out.size)).mono HSZ.out).grown hgrow5 (by have := HB3.out.size; have := HSZ.out; simp; omega) (fun q hq => (hxo.lt q hq).1))
        have hb5 := HBX.out.same (HB5.out.block w1.heap.size (Nat.lt_succ_self _))
        have k2 : w5.cell? ⟨w1.heap.size, 2, none⟩ = some (.slice a n c) := hb5.c 2 rfl
        have z2 := hb5.free 2
        have HB6 := Lib.hid (hb5.set 2 (.slice (some ⟨g5, 0, none⟩) ((copyL cs k).length + 1) cap5))
        have hG2 : OwnOps 125 w5 (w1.heap.size + 1) w5.heap.size (.slice (some ⟨g5, 0, none⟩) ((copyL cs k).length + 1) cap5) ((copyL cs k) ++ [(arO cs k, rowO cs k)]) := by
          have e : ((copyL cs k) ++ [(arO cs k, rowO cs k)]).length = (copyL cs k).length + 1 := by simp
          show ∃ V, OwnOpsV _ _ _ _ _ ((copyL cs k) ++ [(arO cs k, rowO cs k)]).length V _
          rw [e]
          exact ⟨_, HGM.out⟩
        have HG6 := Lib.hid ((hG2.stored (p := ⟨w1.heap.size, 2, none⟩) (Nat.lt_succ_self _) (.slice (some ⟨g5, 0, none⟩) ((copyL cs k).length + 1) cap5)).full)
        have HBE := Lib.hid ((HBW.out.trans (HB5.out.mono (Nat.le_succ _))).setCell (p := ⟨w1.heap.size, 2, none⟩) (Nat.le_refl _) (.slice (some ⟨g5, 0, none⟩) ((copyL cs k).length + 1) cap5))
        have HZ6 : Hid (w1.heap.size + 1 ≤ (w5.setCell ⟨w1.heap.size, 2, none⟩ (.slice (some ⟨g5, 0, none⟩) ((copyL cs k).length + 1) cap5)).heap.size) := Lib.hid (by have := HB5.out.size; have := HSZ.out; simp [World.setCell]; omega)
        clear hown5 hgrow5 hat5 hlt5 hxo hb5 hG2
        refine hK.out _ _ ?_
        clear hK K
        try simp only [Act.put, List.setIfInBounds_toArray, List.set_cons_zero, List.set_cons_succ]
        refine wpAnyL_free (i := 10) (v := ?_) (some 57) rfl rfl (by kernel_rfl) (by kernel_rfl) (by kernel_rfl) (by decide) (fun _ _ _ h => h) (Or.inl ⟨by rfl, ?_⟩) (fun h0 => absurd h0 (by decide)) ?_
        rotate_left
        · intro wS
          go_simp
          try with_reducible rfl
        try simp only [Act.put, List.setIfInBounds_toArray, List.set_cons_zero, List.set_cons_succ]
        refine wpAnyL_ready (rs := [11]) (by kernel_rfl) (by simp) ?_
        refine AllReadyL.last rfl (by kernel_rfl) (fun K hK => ?_) AllReadyL.nil
        go_simp
        refine hK.out _ _ ?_
        clear hK K
        try simp only [Act.put, List.setIfInBounds_toArray, List.set_cons_zero, List.set_cons_succ]
        refine wpAnyL_done (by kernel_rfl) ?_ _
        refine NoPanic.normal ?_
        go_wp2
        go_roundw
        case rel =>
          refine ⟨k + 1, _, _, _, by omega, by go_num, HB6.out, ?_, HBE.out, HZ6.out⟩
          rw [copyL_succ]
          have h := HG6.out
          exact h
        case measure => simp [intOf]; omega
      · obtain rfl : k = cs.length := by omega
        have KR := Lib.hid (K1.out.below hbr)
        have HRR := Lib.hid (HR1.out.same (hbr.block _ HR1.out.lt))
        have g0 := hbx.c 0 rfl
        have g1 := hbx.c 1 rfl
        have g2 := hbx.c 2 rfl
        have xc := KR.out.c 1 rfl
        have HG := Lib.hid hg
        have HNL : Hid (n = cs.length) := Lib.hid (by
          have hl := copyL_len cs cs.length
          obtain ⟨V, hV⟩ := hg
          obtain ⟨xs, h1, _⟩ := hV.outer
          rcases ownsRow2_parts h1 with ⟨e1, e2, _⟩ | ⟨g, cc, e1, _⟩
          · simp only [Value.slice.injEq] at e1; omega
          · simp only [Value.slice.injEq] at e1; omega)
        have hszr := hbr.size
        clear hbx hg hbr
        have e0 := HRR.out.c 0 rfl
        have f0 := HRR.out.free 0
        have e1 := HRR.out.c 1 rfl
        have f1 := HRR.out.free 1
        have e2 := HRR.out.c 2 rfl
        have f2 := HRR.out.free 2
        go_wp2
        refine bodyPost_ret (v := .tuple #[.agg #[.int .i64 free, .int .i64 va, .slice a n c], .int .i64 0]) (by simp [results, Try.results51, go_sem, e0, e1, e2]) rfl ⟨_, _, _, rfl, ?_, ?_⟩
        · exact ((((HG.out.stored (by show w.heap.size + 2 < w1.heap.size + 1; omega) _).stored (by show w.heap.size + 2 < w1.heap.size + 1; omega) _).stored (by show w.heap.size + 2 < w1.heap.size + 1; omega) _).mono (by omega)).full
        · exact (((KR.out.bel.setCell (by show w.heap.size ≤ w.heap.size + 2; omega) _).setCell (by show w.heap.size ≤ w.heap.size + 2; omega) _).setCell (by show w.heap.size ≤ w.heap.size + 2; omega) _)
  · skip
    have H1 := Lib.hid (Tells.yes h1)
    have HTX := Lib.hid h1.text
    have H2 := Lib.hid (Tells.yes h2)
    have h3' : ¬ va < free := by omega
    have hv10 := h1.2.1.2
    have hc24 := h1.2.2.1
    obtain ⟨i0, hi, hz0, hz1, hz2⟩ := info_parts info_Atom
    clear h1 h2
    by_cases h5 : 8 < va
    · go_enter Try.func51, Try.ntmps51
      go_wp2_with fail
      refine (implValidInstance _ _ _ _ _ _ _ _ _ _ true _ (K0.out.r 1 rfl :) (K0.out.r 0 rfl :) H1.out).mono ?_
      rintro e w1 ⟨rfl, hb1⟩
      have K1 := Lib.hid (K0.out.below hb1)
      have HR1 := Lib.hid (HRB.out.below hb1)
      have hz : w.heap.size + 3 ≤ w1.heap.size := by have := hb1.size; simpa using this
      have hne1 : w.heap.size + 1 ≠ w1.heap.size := by omega
      have hne2 : ¬ w1.heap.size = w.heap.size + 1 := by omega
      have c0' := K1.out.c 0 rfl
      have c1' := K1.out.c 1 rfl
      clear hb1
      have e0 := HR1.out.c 0 rfl
      have f0 := HR1.out.free 0
      have e1 := HR1.out.c 1 rfl
      have f1 := HR1.out.free 1
      have e2 := HR1.out.c 2 rfl
      have f2 := HR1.out.free 2
      go_wp2_with (go_at_call 103; refine (isArity _ true _ H2.out).mono ?_; rintro e w2 ⟨rfl, rfl⟩)
      try go_wp2
      refine bodyPost_ret (v := .tuple #[.agg #[.int .i64 0, .int .i64 0, .slice none 0 0], .int .i64 3]) (by simp [results, Try.results51, go_sem, e0, e1, e2]) rfl ⟨_, _, _, rfl, OwnOps.nil _ _ _ _ (Nat.le_refl _), ?_⟩
      exact (((K1.out.bel.setCell (by show w.heap.size ≤ w.heap.size + 2; omega) _).setCell (by show w.heap.size ≤ w.heap.size + 2; omega) _).setCell (by show w.heap.size ≤ w.heap.size + 2; omega) _)
    · have h6 : (16 : Int) < (cs.length : Int) := Classical.byContradiction fun h => h4 ⟨by omega, by omega⟩
      go_enter Try.func51, Try.ntmps51
      go_wp2_with fail
      refine (implValidInstance _ _ _ _ _ _ _ _ _ _ true _ (K0.out.r 1 rfl :) (K0.out.r 0 rfl :) H1.out).mono ?_
      rintro e w1 ⟨rfl, hb1⟩
      have K1 := Lib.hid (K0.out.below hb1)
      have HR1 := Lib.hid (HRB.out.below hb1)
      have hz : w.heap.size + 3 ≤ w1.heap.size := by have := hb1.size; simpa using this
      have hne1 : w.heap.size + 1 ≠ w1.heap.size := by omega
      have hne2 : ¬ w1.heap.size = w.heap.size + 1 := by omega
      have c0' := K1.out.c 0 rfl
      have c1' := K1.out.c 1 rfl
      clear hb1
      have e0 := HR1.out.c 0 rfl
      have f0 := HR1.out.free 0
      have e1 := HR1.out.c 1 rfl
      have f1 := HR1.out.free 1
      have e2 := HR1.out.c 2 rfl
      have f2 := HR1.out.free 2
      go_wp2_with (go_at_call 103; refine (isArity _ true _ H2.out).mono ?_; rintro e w2 ⟨rfl, rfl⟩)
      try go_wp2
      refine bodyPost_ret (v := .tuple #[.agg #[.int .i64 0, .int .i64 0, .slice none 0 0], .int .i64 3]) (by simp [results, Try.results51, go_sem, e0, e1, e2]) rfl ⟨_, _, _, rfl, OwnOps.nil _ _ _ _ (Nat.le_refl _), ?_⟩
      exact (((K1.out.bel.setCell (by show w.heap.size ≤ w.heap.size + 2; omega) _).setCell (by show w.heap.size ≤ w.heap.size + 2; omega) _).setCell (by show w.heap.size ≤ w.heap.size + 2; omega) _)
  · skip
    have H1 := Lib.hid (Tells.yes h1)
    clear h1
    by_cases h3 : In14 free
    · have H2 := Lib.hid (Tells.yes h3)
      have h4 : va < free := Classical.byContradiction fun h => h2 ⟨h3, by omega⟩
      go_enter Try.func51, Try.ntmps51
      go_wp2_with fail
      refine (implValidInstance _ _ _ _ _ _ _ _ _ _ true _ (K0.out.r 1 rfl :) (K0.out.r 0 rfl :) H1.out).mono ?_
      rintro e w1 ⟨rfl, hb1⟩
      have K1 := Lib.hid (K0.out.below hb1)
      have HR1 := Lib.hid (HRB.out.below hb1)
      have hz : w.heap.size + 3 ≤ w1.heap.size := by have := hb1.size; simpa using this
      have hne1 : w.heap.size + 1 ≠ w1.heap.size := by omega
      have hne2 : ¬ w1.heap.size = w.heap.size + 1 := by omega
      have c0' := K1.out.c 0 rfl
      have c1' := K1.out.c 1 rfl
      clear hb1
      have e0 := HR1.out.c 0 rfl
      have f0 := HR1.out.free 0
      have e1 := HR1.out.c 1 rfl
      have f1 := HR1.out.free 1
      have e2 := HR1.out.c 2 rfl
      have f2 := HR1.out.free 2
      go_wp2_with (go_at_call 103; refine (isArity _ true _ H2.out).mono ?_; rintro e w2 ⟨rfl, rfl⟩)
      try go_wp2
      refine bodyPost_ret (v := .tuple #[.agg #[.int .i64 0, .int .i64 0, .slice none 0 0], .int .i64 2]) (by simp [results, Try.results51, go_sem, e0, e1, e2]) rfl ⟨_, _, _, rfl, OwnOps.nil _ _ _ _ (Nat.le_refl _), ?_⟩
      exact (((K1.out.bel.setCell (by show w.heap.size ≤ w.heap.size + 2; omega) _).setCell (by show w.heap.size ≤ w.heap.size + 2; omega) _).setCell (by show w.heap.size ≤ w.heap.size + 2; omega) _)
    · have H2 := Lib.hid (Tells.no h3)
      go_enter Try.func51, Try.ntmps51
      go_wp2_with fail
      refine (implValidInstance _ _ _ _ _ _ _ _ _ _ true _ (K0.out.r 1 rfl :) (K0.out.r 0 rfl :) H1.out).mono ?_
      rintro e w1 ⟨rfl, hb1⟩
      have K1 := Lib.hid (K0.out.below hb1)
      have HR1 := Lib.hid (HRB.out.below hb1)
      have hz : w.heap.size + 3 ≤ w1.heap.size := by have := hb1.size; simpa using this
      have hne1 : w.heap.size + 1 ≠ w1.heap.size := by omega
      have hne2 : ¬ w1.heap.size = w.heap.size + 1 := by omega
      have c0' := K1.out.c 0 rfl
      have c1' := K1.out.c 1 rfl
      clear hb1
      have e0 := HR1.out.c 0 rfl
      have f0 := HR1.out.free 0
      have e1 := HR1.out.c 1 rfl
      have f1 := HR1.out.free 1
      have e2 := HR1.out.c 2 rfl
      have f2 := HR1.out.free 2
      go_wp2_with (go_at_call 103; refine (isArity _ false _ H2.out).mono ?_; rintro e w2 ⟨rfl, rfl⟩)
      try go_wp2
      refine bodyPost_ret (v := .tuple #[.agg #[.int .i64 0, .int .i64 0, .slice none 0 0], .int .i64 2]) (by simp [results, Try.results51, go_sem, e0, e1, e2]) rfl ⟨_, _, _, rfl, OwnOps.nil _ _ _ _ (Nat.le_refl _), ?_⟩
      exact (((K1.out.bel.setCell (by show w.heap.size ≤ w.heap.size + 2; omega) _).setCell (by show w.heap.size ≤ w.heap.size + 2; omega) _).setCell (by show w.heap.size ≤ w.heap.size + 2; omega) _)
  · skip
    have H1 := Lib.hid (Tells.no h1)
    clear h1
    go_enter Try.func51, Try.ntmps51
    go_wp2_with fail
    refine (implValidInstance _ _ _ _ _ _ _ _ _ _ false _ (K0.out.r 1 rfl :) (K0.out.r 0 rfl :) H1.out).mono ?_
    rintro e w1 ⟨rfl, hb1⟩
    have K1 := Lib.hid (K0.out.below hb1)
    have HR1 := Lib.hid (HRB.out.below hb1)
    have hz : w.heap.size + 3 ≤ w1.heap.size := by have := hb1.size; simpa using this
    have hne1 : w.heap.size + 1 ≠ w1.heap.size := by omega
    have hne2 : ¬ w1.heap.size = w.heap.size + 1 := by omega
    have c0' := K1.out.c 0 rfl
    have c1' := K1.out.c 1 rfl
    clear hb1
    have e0 := HR1.out.c 0 rfl
    have f0 := HR1.out.free 0
    have e1 := HR1.out.c 1 rfl
    have f1 := HR1.out.free 1
    have e2 := HR1.out.c 2 rfl
    have f2 := HR1.out.free 2
    try go_wp2
    refine bodyPost_ret (v := .tuple #[.agg #[.int .i64 0, .int .i64 0, .slice none 0 0], .int .i64 1]) (by simp [results, Try.results51, go_sem, e0, e1, e2]) rfl ⟨_, _, _, rfl, OwnOps.nil _ _ _ _ (Nat.le_refl _), ?_⟩
    exact (((K1.out.bel.setCell (by show w.heap.size ≤ w.heap.size + 2; omega) _).setCell (by show w.heap.size ≤ w.heap.size + 2; omega) _).setCell (by show w.heap.size ≤ w.heap.size + 2; omega) _)


set_option linter.unusedSimpArgs false in
set_option maxHeartbeats 2000000 in
set_option maxRecDepth 100000 in
theorem specInstanceFormula (sz : Int) (a1 : Option Addr) (n1 c1 : Nat) (rs : List (Int × List (List Int))) (va : Int) (a2 : Option Addr) (n2 c2 : Nat) (cs : List (Int × List Int)) (free x y : Int) (zs : List (Int × List Int)) (cd : Int) (w : World) (h1 : RelsAt w (.slice a1 n1 c1) rs) (h2 : OpsAt w (.slice a2 n2 c2) cs) (hi : InstanceFormulaIs sz rs va cs free x y zs cd) :
    Calls Try.prog 50 #[.agg #[.int .i64 sz, .slice a1 n1 c1], .agg #[.int .i64 va, .slice a2 n2 c2], .int .i64 free] w (MadeF w x y zs cd) := by
  obtain rfl : n2 = cs.length := by obtain ⟨_, _, hv, _⟩ := h2; simp only [Value.slice.injEq] at hv; exact hv.2.1
  have hcl : cs.length ≤ 9223372036854775807 := by obtain ⟨_, _, _, hn, _⟩ := h2; exact hn
  have HRB : Hid (Box 70 (((w.alloc (.cells #[.int .i64 sz, .slice a1 n1 c1] 33)).alloc (.cells #[.int .i64 va, .slice a2 cs.length c2] 37)).alloc (.cells #[.int .i64 0, .int .i64 0, .slice none 0 0] 70)) (w.heap.size + 2) #[.int .i64 0, .int .i64 0, .slice none 0 0]) := Lib.hid (by
    have h := Box.new 70 ((w.alloc (.cells #[.int .i64 sz, .slice a1 n1 c1] 33)).alloc (.cells #[.int .i64 va, .slice a2 cs.length c2] 37)) #[.int .i64 0, .int .i64 0, .slice none 0 0]
    simp only [World.size_alloc] at h
    exact h)
  have HTP : Hid (TplAt (((w.alloc (.cells #[.int .i64 sz, .slice a1 n1 c1] 33)).alloc (.cells #[.int .i64 va, .slice a2 cs.length c2] 37)).alloc (.cells #[.int .i64 0, .int .i64 0, .slice none 0 0] 70)) w.heap.size 0 sz rs) := Lib.hid (((TplAt.new w sz a1 n1 c1 rs 33 h1).below ((Below.refl _ _).alloc (Nat.le_refl _) (.cells #[.int .i64 va, .slice a2 cs.length c2] 37))).below ((Below.refl _ _).alloc (Nat.le_refl _) _))
  have HIP : Hid (InstAt (((w.alloc (.cells #[.int .i64 sz, .slice a1 n1 c1] 33)).alloc (.cells #[.int .i64 va, .slice a2 cs.length c2] 37)).alloc (.cells #[.int .i64 0, .int .i64 0, .slice none 0 0] 70)) (w.heap.size + 1) 0 va cs) := Lib.hid (by
    have h := (InstAt.new (w.alloc (.cells #[.int .i64 sz, .slice a1 n1 c1] 33)) va a2 cs.length c2 cs 37 (h2.below ((Below.refl _ _).alloc (Nat.le_refl _) _))).below ((Below.refl _ _).alloc (Nat.le_refl _) (.cells #[.int .i64 0, .int .i64 0, .slice none 0 0] 70))
    rwa [World.size_alloc] at h)
  have K0 := Lib.hid ((((((Kept.start w).read (lives_rels _ _) h1).read (lives_ops _ _) h2).box w.heap.size rfl (.int .i64 sz) (.slice a1 n1 c1) 33).box (w.heap.size + 1) (by simp) (.int .i64 va) (.slice a2 cs.length c2) 37).below ((Below.refl _ _).alloc (Nat.le_refl _) (.cells #[.int .i64 0, .int .i64 0, .slice none 0 0] 70)))
  clear h1 h2
  rcases hi with ⟨h1, h2, h3, hi2⟩ | ⟨h1, h2, rfl, rfl, rfl, rfl⟩ | ⟨h1, rfl, rfl, rfl, rfl⟩
  · skip
    have H1 := Lib.hid (Tells.yes h1)
    have HTX := Lib.hid h1.text
    have H2 := Lib.hid (Tells.yes h2)
    have h3' : ¬ va < free := by omega
    have hv10 := h1.2.1.2
    have hc24 := h1.2.2.1
    obtain ⟨i0, hi, hz0, hz1, hz2⟩ := info_parts info_Atom
    have HI2 := Lib.hid hi2
    clear h1 h2 hi2
    go_enter Try.func50, Try.ntmps50
    go_wp2_with fail
    refine (l05Ok _ _ _ rs _ _ _ cs true _ HTP.out HIP.out H1.out).mono ?_
    rintro e w1 ⟨rfl, hq1⟩
    have hb1 : Below _ _ w1 := hq1.bel
    have K1 := Lib.hid (K0.out.below hb1)
    have HR1 := Lib.hid (HRB.out.below hb1)
    have hz : w.heap.size + 3 ≤ w1.heap.size := by have := hb1.size; simpa using this
    have hne1 : w.heap.size + 1 ≠ w1.heap.size := by omega
    have hne2 : ¬ w1.heap.size = w.heap.size + 1 := by omega
    have c0' := K1.out.c 0 rfl
    have c1' := K1.out.c 1 rfl
    clear hb1 hq1
    have e0 := HR1.out.c 0 rfl
    have f0 := HR1.out.free 0
    have e1 := HR1.out.c 1 rfl
    have f1 := HR1.out.free 1
    have e2 := HR1.out.c 2 rfl
    have f2 := HR1.out.free 2
    go_wp2_with (go_at_call 101; refine (l01Arity _ true _ H2.out).mono ?_; rintro e w2 ⟨rfl, rfl⟩)
    clear c0' c1'
    clear e0 f0 e1 f1 e2 f2
    go_loopw [9] (fun i wr => ∃ (k : Nat) (a : Option Addr) (n c : Nat), k ≤ cs.length ∧ i = .int .i64 k ∧ Box 70 wr w1.heap.size #[.int .i64 free, .int .i64 va, .slice a n c] ∧ OwnOps 125 wr (w1.heap.size + 1) wr.heap.size (.slice a n c) (copyL cs k) ∧ Below w1.heap.size w1 wr ∧ w1.heap.size + 1 ≤ wr.heap.size) (fun i _ => cs.length - (intOf i).toNat)
    case atStart => exact ⟨0, none, 0, 0, Nat.zero_le _, rfl, Box.new _ _ _, OwnOps.nil _ _ _ _ (Nat.le_refl _), (Below.refl _ _).alloc (Nat.le_refl _) _, by simp⟩
    case round =>
      obtain ⟨k, a, n, c, hk, rfl, hbx, hg, hbr, hsz⟩ := hrel
      by_cases hlt : k < cs.length
      · have hlt' : (k : Int) < (cs.length : Int) := by omega
        have KR := Lib.hid (K1.out.below hbr)
        obtain ⟨ca, cc, hcv, hcn, hcc⟩ := (KR.out.r 0 rfl : OpsAt wr (.slice a2 cs.length c2) cs)
        simp only [Value.slice.injEq] at hcv
        obtain ⟨rfl, _, rfl⟩ := hcv
        obtain ⟨b1, off1, ha1, hcell1⟩ := hcc (by omega)
        subst ha1
        obtain ⟨z0, a4, n4, c4, z1, hr⟩ := hcell1 k hlt
        have hrl : 1 ≤ (rowO cs k).length ∧ (rowO cs k).length ≤ 4 := by
          have h1 := HTX.out.2.2 k hlt
          have h2 := h1.2.1.1
          have h3 := h1.2.1.2
          omega
        have hr0 : 0 < (rowO cs k).length := by omega
        have hr4 : (rowO cs k).length ≤ 1000 := by omega
        have hn4 : n4 = (rowO cs k).length := by obtain ⟨_, _, hv, _⟩ := hr; simp only [Value.slice.injEq] at hv; exact hv.2.1
        subst hn4
        have xc := KR.out.c 1 rfl
        have HLN : Hid ((copyL cs k).length = k) := Lib.hid (copyL_len _ _)
        have hkm : k ≤ 1000 := by omega
        clear hcell1 hcc hrl
        have HBX := Lib.hid hbx
        have HG := Lib.hid hg
        have HROW := Lib.hid hr
        have HBW := Lib.hid hbr
        have HSZ := Lib.hid hsz
        have y0 := z0
        have y1 := z1
        have g1 := HBX.out.c 2 rfl
        clear hbx hg hr hbr
        go_wp2
        refine wp_region_noPanic ?_
        refine wp_region_late (S := (fun w' => w'.cell? ⟨w1.heap.size, 2, none⟩ = some (.slice a n c) ∧ w'.cell? ⟨b1, off1 + k * 2, none⟩ = some (.int .i64 (arO cs k)) ∧ w'.cell? ⟨b1, off1 + k * 2 + 1, none⟩ = some (.slice a4 (rowO cs k).length c4) ∧ w'.cell? ⟨w.heap.size + 1, 1, none⟩ = some (.slice (some ⟨b1, off1, none⟩) cs.length c2) ∧ Below wr.heap.size wr w')) [17, 19] (by kernel_rfl) ?_ (fun hHeld => ?_)
        · exact ⟨g1, y0, y1, xc, (QW.refl _).drew.below _⟩
        refine wpAnyL_free (i := 0) (v := ?_) (some 34) rfl rfl (by kernel_rfl) (by kernel_rfl) (by kernel_rfl) (by decide) (fun _ _ _ h => h) (Or.inl ⟨by rfl, ?_⟩) (fun h0 => by assumption) ?_
        rotate_left
        · intro wS
          go_simp
          try with_reducible rfl
        try simp only [Act.put, List.setIfInBounds_toArray, List.set_cons_zero, List.set_cons_succ]
        refine wpAnyL_take (i := 1) (v := ?_) (some 35) rfl rfl (by kernel_rfl) (by kernel_rfl) (by kernel_rfl) (by kernel_rfl) (by kernel_rfl) (fun _ _ _ h => h) (Or.inl ⟨by rfl, ?_⟩) (by assumption) ?_
        rotate_left
        · intro wS hSw
          try dsimp only at hSw
          go_simp
          try with_reducible rfl
        try simp only [Act.put, List.setIfInBounds_toArray, List.set_cons_zero, List.set_cons_succ]
        refine wpAnyL_free (i := 2) (v := ?_) (some 36) rfl rfl (by kernel_rfl) (by kernel_rfl) (by kernel_rfl) (by decide) (fun _ _ _ h => h) (Or.inl ⟨by rfl, ?_⟩) (fun h0 => by assumption) ?_
        rotate_left
        · intro wS
          go_simp
          try with_reducible rfl
        try simp only [Act.put, List.setIfInBounds_toArray, List.set_cons_zero, List.set_cons_succ]
        refine wpAnyL_take (i := 3) (v := ?_) (some 37) rfl rfl (by kernel_rfl) (by kernel_rfl) (by kernel_rfl) (by kernel_rfl) (by kernel_rfl) (fun _ _ _ h => h) (Or.inl ⟨by rfl, ?_⟩) (by assumption) ?_
        rotate_left
        · intro wS hSw
          try dsimp only at hSw
          go_simp
          try with_reducible rfl
        try simp only [Act.put, List.setIfInBounds_toArray, List.set_cons_zero, List.set_cons_succ]
        refine wpAnyL_free (i := 4) (v := ?_) (some 38) rfl rfl (by kernel_rfl) (by kernel_rfl) (by kernel_rfl) (by decide) (fun _ _ _ h => h) (Or.inl ⟨by rfl, ?_⟩) (fun h0 => by assumption) ?_
        rotate_left
        · intro wS
          go_simp
          try with_reducible rfl
        try simp only [Act.put, List.setIfInBounds_toArray, List.set_cons_zero, List.set_cons_succ]
        refine wpAnyL_free (i := 5) (v := ?_) (some 39) rfl rfl (by kernel_rfl) (by kernel_rfl) (by kernel_rfl) (by decide) (fun _ _ _ h => h) (Or.inl ⟨by rfl, ?_⟩) (fun h0 => by assumption) ?_
        rotate_left
        · intro wS
          go_simp
          try with_reducible rfl
        try simp only [Act.put, List.setIfInBounds_toArray, List.set_cons_zero, List.set_cons_succ]
        refine wpAnyL_free (i := 6) (v := ?_) (some 40) rfl rfl (by kernel_rfl) (by kernel_rfl) (by kernel_rfl) (by decide) (fun _ _ _ h => h) (Or.inl ⟨by rfl, ?_⟩) (fun h0 => by assumption) ?_
        rotate_left
        · intro wS
          go_simp
          try with_reducible rfl
        try simp only [Act.put, List.setIfInBounds_toArray, List.set_cons_zero, List.set_cons_succ]
        refine wpAnyL_take (i := 7) (v := ?_) (some 41) rfl rfl (by kernel_rfl) (by kernel_rfl) (by kernel_rfl) (by kernel_rfl) (by kernel_rfl) (fun _ _ _ h => h) (Or.inl ⟨by rfl, ?_⟩) (by assumption) ?_
        rotate_left
        · intro wS hSw
          try dsimp only at hSw
          go_simp
          try with_reducible rfl
        try simp only [Act.put, List.setIfInBounds_toArray, List.set_cons_zero, List.set_cons_succ]
        refine wpAnyL_free (i := 8) (v := ?_) (some 42) rfl rfl (by kernel_rfl) (by kernel_rfl) (by kernel_rfl) (by decide) (fun _ _ _ h => h) (Or.inl ⟨by rfl, ?_⟩) (fun h0 => by assumption) ?_
        rotate_left
        · intro wS
          go_simp
          try with_reducible rfl
        try simp only [Act.put, List.setIfInBounds_toArray, List.set_cons_zero, List.set_cons_succ]
        refine wpAnyL_take (i := 9) (v := ?_) (some 43) rfl rfl (by kernel_rfl) (by kernel_rfl) (by kernel_rfl) (by kernel_rfl) (by kernel_rfl) (fun _ _ _ h => h) (Or.inl ⟨by rfl, ?_⟩) (by assumption) ?_
        rotate_left
        · intro wS hSw
          try dsimp only at hSw
          go_simp
          try with_reducible rfl
        try simp only [Act.put, List.setIfInBounds_toArray, List.set_cons_zero, List.set_cons_succ]
        refine wpAnyL_free (i := 10) (v := ?_) (some 44) rfl rfl (by kernel_rfl) (by kernel_rfl) (by kernel_rfl) (by decide) (fun _ _ _ h => h) (Or.inl ⟨by rfl, ?_⟩) (fun h0 => by assumption) ?_
        rotate_left
        · intro wS
          go_simp
          try with_reducible rfl
        try simp only [Act.put, List.setIfInBounds_toArray, List.set_cons_zero, List.set_cons_succ]
        refine wpAnyL_free (i := 11) (v := ?_) (some 45) rfl rfl (by kernel_rfl) (by kernel_rfl) (by kernel_rfl) (by decide) (fun _ _ _ h => h) (Or.inl ⟨by rfl, ?_⟩) (fun h0 => by assumption) ?_
        rotate_left
        · intro wS
          go_simp
          try with_reducible rfl
        try simp only [Act.put, List.setIfInBounds_toArray, List.set_cons_zero, List.set_cons_succ]
        refine wpAnyL_free (i := 12) (v := ?_) (some 46) rfl rfl (by kernel_rfl) (by kernel_rfl) (by kernel_rfl) (by decide) (fun _ _ _ h => h) (Or.inl ⟨by rfl, ?_⟩) (fun h0 => by assumption) ?_
        rotate_left
        · intro wS
          go_simp
          try with_reducible rfl
        try simp only [Act.put, List.setIfInBounds_toArray, List.set_cons_zero, List.set_cons_succ]
        refine wpAnyL_take (i := 13) (v := ?_) (some 47) rfl rfl (by kernel_rfl) (by kernel_rfl) (by kernel_rfl) (by kernel_rfl) (by kernel_rfl) (fun _ _ _ h => h) (Or.inl ⟨by rfl, ?_⟩) (by assumption) ?_
        rotate_left
        · intro wS hSw
          try dsimp only at hSw
          go_simp
          try with_reducible rfl
        try simp only [Act.put, List.setIfInBounds_toArray, List.set_cons_zero, List.set_cons_succ]
        refine wpAnyL_ready (rs := [14]) (by kernel_rfl) (by simp) ?_
        refine AllReadyL.cons rfl (fun K hK => ?_) AllReadyL.nil
        go_simp; go_at_call 96; refine (l00Own _ _ _ (rowO cs k) _ (HROW.out.below hHeld.2.2.2.2) hr0 (by omega)).mono ?_; rintro e w3 ⟨a3, c3, rfl, ho3, hb3⟩
        have HO3 := Lib.hid (ho3.mono (B' := wr.heap.size) hHeld.2.2.2.2.size)
        have HB3 := Lib.hid (hHeld.2.2.2.2.trans (hb3.mono hHeld.2.2.2.2.size))
        refine hK.out _ _ ?_ (fun hHeld => ?_)
        · exact ⟨below_cell hb3 hHeld.1, below_cell hb3 hHeld.2.1, below_cell hb3 hHeld.2.2.1, below_cell hb3 hHeld.2.2.2.1, hHeld.2.2.2.2.trans (hb3.mono hHeld.2.2.2.2.size)⟩
        clear hK K
        try simp only [Act.put, List.setIfInBounds_toArray, List.set_cons_zero, List.set_cons_succ]
        refine wpAnyL_free (i := 15) (v := ?_) (some 49) rfl rfl (by kernel_rfl) (by kernel_rfl) (by kernel_rfl) (by decide) (fun _ _ _ h => h) (Or.inl ⟨by rfl, ?_⟩) (fun h0 => by assumption) ?_
        rotate_left
        · intro wS
          go_simp
          try with_reducible rfl
        try simp only [Act.put, List.setIfInBounds_toArray, List.set_cons_zero, List.set_cons_succ]
        refine wpAnyL_ready (rs := [16]) (by kernel_rfl) (by simp) ?_
        refine AllReadyL.cons rfl (fun K hK => ?_) AllReadyL.nil
        go_simp
        refine hK.out _ _ ?_ (fun hHeld => ?_)
        · exact ⟨below_cell ((Below.refl _ _).alloc (Nat.le_refl _) _) hHeld.1, below_cell ((Below.refl _ _).alloc (Nat.le_refl _) _) hHeld.2.1, below_cell ((Below.refl _ _).alloc (Nat.le_refl _) _) hHeld.2.2.1, below_cell ((Below.refl _ _).alloc (Nat.le_refl _) _) hHeld.2.2.2.1, hHeld.2.2.2.2.trans (((Below.refl _ _).alloc (Nat.le_refl _) _).mono hHeld.2.2.2.2.size)⟩
        clear hK K
        try simp only [Act.put, List.setIfInBounds_toArray, List.set_cons_zero, List.set_cons_succ]
        refine wpAnyL_ready (rs := [17]) (by kernel_rfl) (by simp) ?_
        refine AllReadyL.last rfl (by kernel_rfl) (fun K hK => ?_) AllReadyL.nil
        obtain ⟨V, hV⟩ := HG.out
        have hV' := hV
        obtain ⟨xs, hxo, hxx⟩ := hV'.outer
        have HV := Lib.hid hV
        have HX := Lib.hid hxx
        have hxl := ownsRow_len hxo
        have HXL := Lib.hid hxl
        have hal := (Below.refl w3.heap.size w3).alloc (Nat.le_refl _) (.cells #[.int .i64 (arO cs k), .slice a3 (rowO cs k).length c3] 125)
        have HAL := Lib.hid hal
        clear hV hV' hxx hxl hal
        refine step_append_lies _ (by rfl) _ _ 68 (by rfl) (w1.heap.size + 1) 125 i0 (.agg #[.int .i64 0, .slice none 0 0]) 2 32 Try.underlying68 hi hz0 hz1 hz2 (by rfl) (by decide) (.slice a n c) (copyL cs k).length _ (by rfl) ((ownsRow_below hxo (HB3.out)).alloc _) _ 1 1 [.int .i64 (arO cs k), .slice a3 (rowO cs k).length c3] (by rfl) (by rfl) (fun j u hu => World.news_of_block (heap_alloc_new w3 _) j u (by simpa using hu)) (by simp [Value.oneCell']) (by omega) (by rw [HLN.out]; unfold maxLen; omega) (by rw [HLN.out]; omega) (by have := HB3.out.size; have := HSZ.out; simp; omega) _ rfl ?_; intro g5 cap5 w5 hown5 hgrow5 hat5 hlt5
        have HGM := Lib.hid (OwnOpsV.grow HV.out rfl HXL.out HX.out (HB3.out.trans (HAL.out.mono HB3.out.size)) (OwnRow.below HO3.out HAL.out) HSZ.out hown5 hgrow5 (fun g hg => by
          obtain rfl : g5 = g := by simpa [Value.ownBlock] using hg
          rcases hat5 with e | e
          · exact .inl e
          · exact .inr (by omega)))
        have HB5 := Lib.hid (((HB3.out.trans (HAL.out.mono HB3.out.size)).mono HSZ.out).grown hgrow5 (by have := HB3.out.size; have := HSZ.out; simp; omega) (fun q hq => (hxo.lt q hq).1))
        have hb5 := HBX.out.same (HB5.out.block w1.heap.size (Nat.lt_succ_self _))
        have k2 : w5.cell? ⟨w1.heap.size, 2, none⟩ = some (.slice a n c) := hb5.c 2 rfl
        have z2 := hb5.free 2
        have HB6 := Lib.hid (hb5.set 2 (.slice (some ⟨g5, 0, none⟩) ((copyL cs k).length + 1) cap5))
        have hG2 : OwnOps 125 w5 (w1.heap.size + 1) w5.heap.size (.slice (some ⟨g5, 0, none⟩) ((copyL cs k).length + 1) cap5) ((copyL cs k) ++ [(arO cs k, rowO cs k)]) := by
          have e : ((copyL cs k) ++ [(arO cs k, rowO cs k)]).length = (copyL cs k).length + 1 := by simp
          show ∃ V, OwnOpsV _ _ _ _ _ ((copyL cs k) ++ [(arO cs k, rowO cs k)]).length V _
          rw [e]
          exact ⟨_, HGM.out⟩
        have HG6 := Lib.hid ((hG2.stored (p := ⟨w1.heap.size, 2, none⟩) (Nat.lt_succ_self _) (.slice (some ⟨g5, 0, none⟩) ((copyL cs k).length + 1) cap5)).full)
        have HBE := Lib.hid ((HBW.out.trans (HB5.out.mono (Nat.le_succ _))).setCell (p := ⟨w1.heap.size, 2, none⟩) (Nat.le_refl _) (.slice (some ⟨g5, 0, none⟩) ((copyL cs k).length + 1) cap5))
        have HZ6 : Hid (w1.heap.size + 1 ≤ (w5.setCell ⟨w1.heap.size, 2, none⟩ (.slice (some ⟨g5, 0, none⟩) ((copyL cs k).length + 1) cap5)).heap.size) := Lib.hid (by have := HB5.out.size; have := HSZ.out; simp [World.setCell]; omega)
        clear hown5 hgrow5 hat5 hlt5 hxo hb5 hG2
        refine hK.out _ _ ?_
        clear hK K
        try simp only [Act.put, List.setIfInBounds_toArray, List.set_cons_zero, List.set_cons_succ]
        refine wpAnyL_free (i := 18) (v := ?_) (some 52) rfl rfl (by kernel_rfl) (by kernel_rfl) (by kernel_rfl) (by decide) (fun _ _ _ h => h) (Or.inl ⟨by rfl, ?_⟩) (fun h0 => absurd h0 (by decide)) ?_
        rotate_left
        · intro wS
          go_simp
          try with_reducible rfl
        try simp only [Act.put, List.setIfInBounds_toArray, List.set_cons_zero, List.set_cons_succ]
        refine wpAnyL_ready (rs := [19]) (by kernel_rfl) (by simp) ?_
        refine AllReadyL.last rfl (by kernel_rfl) (fun K hK => ?_) AllReadyL.nil
        go_simp
        refine hK.out _ _ ?_
        clear hK K
        try simp only [Act.put, List.setIfInBounds_toArray, List.set_cons_zero, List.set_cons_succ]
        refine wpAnyL_done (by kernel_rfl) ?_ _
        refine NoPanic.normal ?_
        go_wp2
        go_roundw
        case rel =>
          refine ⟨k + 1, _, _, _, by omega, by go_num, HB6.out, ?_, HBE.out, HZ6.out⟩
          rw [copyL_succ]
          have h := HG6.out
          exact h
        case measure => simp [intOf]; omega
      · obtain rfl : k = cs.length := by omega
        have KR := Lib.hid (K1.out.below hbr)
        have HRR := Lib.hid (HR1.out.same (hbr.block _ HR1.out.lt))
        have g0 := hbx.c 0 rfl
        have g1 := hbx.c 1 rfl
        have g2 := hbx.c 2 rfl
        have xc := KR.out.c 1 rfl
        have HG := Lib.hid hg
        have HNL : Hid (n = cs.length) := Lib.hid (by
          have hl := copyL_len cs cs.length
          obtain ⟨V, hV⟩ := hg
          obtain ⟨xs, h1, _⟩ := hV.outer
          rcases ownsRow2_parts h1 with ⟨e1, e2, _⟩ | ⟨g, cc, e1, _⟩
          · simp only [Value.slice.injEq] at e1; omega
          · simp only [Value.slice.injEq] at e1; omega)
        have hszr := hbr.size
        clear hbx hg hbr
        rcases HI2.out with ⟨h4, h5, rfl, rfl, rfl, rfl⟩ | ⟨h4, rfl, rfl, rfl, rfl⟩
        · skip
          go_wp2_with (go_at_call 102; refine (l03Told_ok free va a n c _ h4 (by have := HNL.out; omega)).mono ?_; rintro e w7 ⟨rfl, hb7⟩; have HRR := Lib.hid (HRR.out.below hb7); have e0 := HRR.out.c 0 rfl; have f0 := HRR.out.free 0; have e1 := HRR.out.c 1 rfl; have f1 := HRR.out.free 1; have e2 := HRR.out.c 2 rfl; have f2 := HRR.out.free 2; have HB7 := Lib.hid hb7; clear hb7)
          refine bodyPost_ret (v := .tuple #[.agg #[.int .i64 free, .int .i64 va, .slice a n c], .int .i64 0]) (by simp [results, Try.results50, go_sem, e0, e1, e2]) rfl ⟨_, _, _, rfl, ?_, ?_⟩
          · exact (((((HG.out.below HB7.out).stored (by show w.heap.size + 2 < w1.heap.size + 1; omega) _).stored (by show w.heap.size + 2 < w1.heap.size + 1; omega) _).stored (by show w.heap.size + 2 < w1.heap.size + 1; omega) _).mono (by omega)).full
          · exact ((((KR.out.bel.trans (HB7.out.mono KR.out.bel.size)).setCell (by show w.heap.size ≤ w.heap.size + 2; omega) _).setCell (by show w.heap.size ≤ w.heap.size + 2; omega) _).setCell (by show w.heap.size ≤ w.heap.size + 2; omega) _)
        · by_cases h5 : 8 < va
          · skip
            go_wp2_with (go_at_call 102; refine (l03Told_told1 free va a n c _ h5).mono ?_; rintro e w7 ⟨rfl, hb7⟩; have HRR := Lib.hid (HRR.out.below hb7); have e0 := HRR.out.c 0 rfl; have f0 := HRR.out.free 0; have e1 := HRR.out.c 1 rfl; have f1 := HRR.out.free 1; have e2 := HRR.out.c 2 rfl; have f2 := HRR.out.free 2; have HB7 := Lib.hid hb7; clear hb7)
            try go_wp2
            refine bodyPost_ret (v := .tuple #[.agg #[.int .i64 0, .int .i64 0, .slice none 0 0], .int .i64 3]) (by simp [results, Try.results50, go_sem, e0, e1, e2]) rfl ⟨_, _, _, rfl, OwnOps.nil _ _ _ _ (Nat.le_refl _), ?_⟩
            exact ((((KR.out.bel.trans (HB7.out.mono KR.out.bel.size)).setCell (by show w.heap.size ≤ w.heap.size + 2; omega) _).setCell (by show w.heap.size ≤ w.heap.size + 2; omega) _).setCell (by show w.heap.size ≤ w.heap.size + 2; omega) _)
          · have h6 : 16 < cs.length := Classical.byContradiction fun h => h4 ⟨by omega, by omega⟩
            have h5' : va ≤ 8 := by omega
            go_wp2_with (go_at_call 102; refine (l03Told_told2 free va a n c _ h5' (by have := HNL.out; omega)).mono ?_; rintro e w7 ⟨rfl, hb7⟩; have HRR := Lib.hid (HRR.out.below hb7); have e0 := HRR.out.c 0 rfl; have f0 := HRR.out.free 0; have e1 := HRR.out.c 1 rfl; have f1 := HRR.out.free 1; have e2 := HRR.out.c 2 rfl; have f2 := HRR.out.free 2; have HB7 := Lib.hid hb7; clear hb7)
            try go_wp2
            refine bodyPost_ret (v := .tuple #[.agg #[.int .i64 0, .int .i64 0, .slice none 0 0], .int .i64 3]) (by simp [results, Try.results50, go_sem, e0, e1, e2]) rfl ⟨_, _, _, rfl, OwnOps.nil _ _ _ _ (Nat.le_refl _), ?_⟩
            exact ((((KR.out.bel.trans (HB7.out.mono KR.out.bel.size)).setCell (by show w.heap.size ≤ w.heap.size + 2; omega) _).setCell (by show w.heap.size ≤ w.heap.size + 2; omega) _).setCell (by show w.heap.size ≤ w.heap.size + 2; omega) _)
  · skip
    have H1 := Lib.hid (Tells.yes h1)
    clear h1
    by_cases h3 : In14 free
    · have H2 := Lib.hid (Tells.yes h3)
      have h4 : va < free := Classical.byContradiction fun h => h2 ⟨h3, by omega⟩
      go_enter Try.func50, Try.ntmps50
      go_wp2_with fail
      refine (l05Ok _ _ _ rs _ _ _ cs true _ HTP.out HIP.out H1.out).mono ?_
      rintro e w1 ⟨rfl, hq1⟩
      have hb1 : Below _ _ w1 := hq1.bel
      have K1 := Lib.hid (K0.out.below hb1)
      have HR1 := Lib.hid (HRB.out.below hb1)
      have hz : w.heap.size + 3 ≤ w1.heap.size := by have := hb1.size; simpa using this
      have hne1 : w.heap.size + 1 ≠ w1.heap.size := by omega
      have hne2 : ¬ w1.heap.size = w.heap.size + 1 := by omega
      have c0' := K1.out.c 0 rfl
      have c1' := K1.out.c 1 rfl
      clear hb1 hq1
      have e0 := HR1.out.c 0 rfl
      have f0 := HR1.out.free 0
      have e1 := HR1.out.c 1 rfl
      have f1 := HR1.out.free 1
      have e2 := HR1.out.c 2 rfl
      have f2 := HR1.out.free 2
      go_wp2_with (go_at_call 101; refine (l01Arity _ true _ H2.out).mono ?_; rintro e w2 ⟨rfl, rfl⟩)
      try go_wp2
      refine bodyPost_ret (v := .tuple #[.agg #[.int .i64 0, .int .i64 0, .slice none 0 0], .int .i64 2]) (by simp [results, Try.results50, go_sem, e0, e1, e2]) rfl ⟨_, _, _, rfl, OwnOps.nil _ _ _ _ (Nat.le_refl _), ?_⟩
      exact (((K1.out.bel.setCell (by show w.heap.size ≤ w.heap.size + 2; omega) _).setCell (by show w.heap.size ≤ w.heap.size + 2; omega) _).setCell (by show w.heap.size ≤ w.heap.size + 2; omega) _)
    · have H2 := Lib.hid (Tells.no h3)
      go_enter Try.func50, Try.ntmps50
      go_wp2_with fail
      refine (l05Ok _ _ _ rs _ _ _ cs true _ HTP.out HIP.out H1.out).mono ?_
      rintro e w1 ⟨rfl, hq1⟩
      have hb1 : Below _ _ w1 := hq1.bel
      have K1 := Lib.hid (K0.out.below hb1)
      have HR1 := Lib.hid (HRB.out.below hb1)
      have hz : w.heap.size + 3 ≤ w1.heap.size := by have := hb1.size; simpa using this
      have hne1 : w.heap.size + 1 ≠ w1.heap.size := by omega
      have hne2 : ¬ w1.heap.size = w.heap.size + 1 := by omega
      have c0' := K1.out.c 0 rfl
      have c1' := K1.out.c 1 rfl
      clear hb1 hq1
      have e0 := HR1.out.c 0 rfl
      have f0 := HR1.out.free 0
      have e1 := HR1.out.c 1 rfl
      have f1 := HR1.out.free 1
      have e2 := HR1.out.c 2 rfl
      have f2 := HR1.out.free 2
      go_wp2_with (go_at_call 101; refine (l01Arity _ false _ H2.out).mono ?_; rintro e w2 ⟨rfl, rfl⟩)
      try go_wp2
      refine bodyPost_ret (v := .tuple #[.agg #[.int .i64 0, .int .i64 0, .slice none 0 0], .int .i64 2]) (by simp [results, Try.results50, go_sem, e0, e1, e2]) rfl ⟨_, _, _, rfl, OwnOps.nil _ _ _ _ (Nat.le_refl _), ?_⟩
      exact (((K1.out.bel.setCell (by show w.heap.size ≤ w.heap.size + 2; omega) _).setCell (by show w.heap.size ≤ w.heap.size + 2; omega) _).setCell (by show w.heap.size ≤ w.heap.size + 2; omega) _)
  · skip
    have H1 := Lib.hid (Tells.no h1)
    clear h1
    go_enter Try.func50, Try.ntmps50
    go_wp2_with fail
    refine (l05Ok _ _ _ rs _ _ _ cs false _ HTP.out HIP.out H1.out).mono ?_
    rintro e w1 ⟨rfl, hq1⟩
    have hb1 : Below _ _ w1 := hq1.bel
    have K1 := Lib.hid (K0.out.below hb1)
    have HR1 := Lib.hid (HRB.out.below hb1)
    have hz : w.heap.size + 3 ≤ w1.heap.size := by have := hb1.size; simpa using this
    have hne1 : w.heap.size + 1 ≠ w1.heap.size := by omega
    have hne2 : ¬ w1.heap.size = w.heap.size + 1 := by omega
    have c0' := K1.out.c 0 rfl
    have c1' := K1.out.c 1 rfl
    clear hb1 hq1
    have e0 := HR1.out.c 0 rfl
    have f0 := HR1.out.free 0
    have e1 := HR1.out.c 1 rfl
    have f1 := HR1.out.free 1
    have e2 := HR1.out.c 2 rfl
    have f2 := HR1.out.free 2
    try go_wp2
    refine bodyPost_ret (v := .tuple #[.agg #[.int .i64 0, .int .i64 0, .slice none 0 0], .int .i64 1]) (by simp [results, Try.results50, go_sem, e0, e1, e2]) rfl ⟨_, _, _, rfl, OwnOps.nil _ _ _ _ (Nat.le_refl _), ?_⟩
    exact (((K1.out.bel.setCell (by show w.heap.size ≤ w.heap.size + 2; omega) _).setCell (by show w.heap.size ≤ w.heap.size + 2; omega) _).setCell (by show w.heap.size ≤ w.heap.size + 2; omega) _)


end Go.Proofs.Ytiinohkkfjbfhaa
