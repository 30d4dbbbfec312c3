/-
  ConjoinFormulas of the model.
-/
import Derived.Test.YtnbgpeoceejolabConjF
import Derived.Test.YtnbgpeoceejolabOpsCat
import Derived.Test.YtnbgpeoceejolabTold
import Derived.Test.YtnbgpeoceejolabGrowAt
namespace Go.Proofs.Ytnbgpeoceejolab
open Go.RowKit

set_option maxHeartbeats 1000000 in
set_option maxRecDepth 100000 in
theorem l03Two (tb tq pb po qb qo : Nat) (sz : Int) (rs : List (Int × List (List Int))) (fr va : Int) (fs : List (Int × List Int)) (fr2 vg : Int) (gs : List (Int × List Int)) (cd : Int) (w : World) (ht : TplAt w tb tq sz rs) (h : FormAt w pb po fr va fs) (h' : FormAt w qb qo fr2 vg gs) (hi : FormCode sz rs fr va fs fr2 vg gs cd) :
    Calls Try.prog 26 #[.pointer (some ⟨tb, tq, none⟩), .pointer (some ⟨pb, po, none⟩), .pointer (some ⟨qb, qo, none⟩)] w fun e w' => e = .returned (.int .i64 cd) ∧ QW w w' := by
  have HT := Lib.hid ht
  have HF := Lib.hid h
  have HG := Lib.hid h'
  clear ht h h'
  rcases hi with ⟨hf, hg, rfl, rfl⟩ | ⟨hf, hg, hne, rfl⟩ | ⟨hno, rfl⟩
  · have HV := Lib.hid (Tells.yes hf)
    have HW := Lib.hid (Tells.yes hg)
    have heq : (fr == fr) = true := beq_iff_eq.2 rfl
    have hne2 : (fr != fr) = false := by simp
    clear hf hg
    go_enter Try.func26, Try.ntmps26
    go_wp2_with fail
    refine (l03Ok _ _ _ rs _ _ _ _ fs true _ HT.out HF.out HV.out).mono ?_
    rintro e w1 ⟨rfl, hq⟩
    have HQ1 := Lib.hid hq
    clear hq
    go_wp2_with fail
    refine (l03Ok _ _ _ rs _ _ _ _ gs true _ (HT.out.below HQ1.out.bel) (HG.out.below HQ1.out.bel) HW.out).mono ?_
    rintro e w2 ⟨rfl, hq⟩
    have HQ2 := Lib.hid (HQ1.out.trans hq)
    clear hq
    have x0 := HQ2.out.cell HF.out.free
    have y0 := HQ2.out.cell HG.out.free
    go_wp2
    go_quiet (fail)
    go_wp2
    go_ret
    exact ⟨rfl, HQ2.out.drewN _⟩
  · have HV := Lib.hid (Tells.yes hf)
    have HW := Lib.hid (Tells.yes hg)
    have hne1 : (fr == fr2) = false := beq_eq_false_iff_ne.2 hne
    have hne2 : (fr != fr2) = true := bne_iff_ne.2 hne
    clear hf hg hne
    go_enter Try.func26, Try.ntmps26
    go_wp2_with fail
    refine (l03Ok _ _ _ rs _ _ _ _ fs true _ HT.out HF.out HV.out).mono ?_
    rintro e w1 ⟨rfl, hq⟩
    have HQ1 := Lib.hid hq
    clear hq
    go_wp2_with fail
    refine (l03Ok _ _ _ rs _ _ _ _ gs true _ (HT.out.below HQ1.out.bel) (HG.out.below HQ1.out.bel) HW.out).mono ?_
    rintro e w2 ⟨rfl, hq⟩
    have HQ2 := Lib.hid (HQ1.out.trans hq)
    clear hq
    have x0 := HQ2.out.cell HF.out.free
    have y0 := HQ2.out.cell HG.out.free
    go_wp2
    go_quiet (fail)
    go_wp2
    go_ret
    exact ⟨rfl, HQ2.out.drewN _⟩
  · by_cases hf : FormOk sz rs fr va fs
    · have HV := Lib.hid (Tells.yes hf)
      have HW := Lib.hid (Tells.no fun hg => hno ⟨hf, hg⟩)
      clear hf hno
      go_enter Try.func26, Try.ntmps26
      go_wp2_with fail
      refine (l03Ok _ _ _ rs _ _ _ _ fs true _ HT.out HF.out HV.out).mono ?_
      rintro e w1 ⟨rfl, hq⟩
      have HQ1 := Lib.hid hq
      clear hq
      go_wp2_with fail
      refine (l03Ok _ _ _ rs _ _ _ _ gs false _ (HT.out.below HQ1.out.bel) (HG.out.below HQ1.out.bel) HW.out).mono ?_
      rintro e w2 ⟨rfl, hq⟩
      have HQ2 := Lib.hid (HQ1.out.trans hq)
      clear hq
      go_wp2
      go_ret
      exact ⟨rfl, HQ2.out⟩
    · have HV := Lib.hid (Tells.no hf)
      clear hf hno
      go_enter Try.func26, Try.ntmps26
      go_wp2_with fail
      refine (l03Ok _ _ _ rs _ _ _ _ fs false _ HT.out HF.out HV.out).mono ?_
      rintro e w1 ⟨rfl, hq⟩
      have HQ1 := Lib.hid hq
      clear hq
      go_wp2
      go_ret
      exact ⟨rfl, HQ1.out⟩

set_option linter.unusedSimpArgs false in
set_option maxHeartbeats 1000000 in
set_option maxRecDepth 100000 in
theorem l03Own (pb po : Nat) (fr : Int) (v : Nat) (fs : List (Int × List Int)) (w : World) (h : FormAt w pb po fr v fs) (hv : v ≤ 1000) (hfl : ∀ k, k < fs.length → (rowO fs k).length ≤ 4) (hfr : ∀ k, k < fs.length → ∀ i, i < (rowO fs k).length → 0 ≤ intN (rowO fs k) i ∧ intN (rowO fs k) i < v) (hm : fs.length ≤ 1000) :
    Calls Try.prog 28 #[.pointer (some ⟨pb, po, none⟩)] w fun e w' => ∃ g c, e = .returned (.slice (some ⟨g, 0, none⟩) fs.length c) ∧ OwnOps 83 w' w.heap.size w'.heap.size (.slice (some ⟨g, 0, none⟩) fs.length c) (movedL fs (cnts v)) ∧ Below w.heap.size w w' := by
  obtain ⟨x0, x1, a2, n2, c2, x2, hf⟩ := h
  have HF := Lib.hid hf
  have HFR : Hid (∀ k, k < fs.length → ∀ i, i < (rowO fs k).length → 0 ≤ intN (rowO fs k) i ∧ intN (rowO fs k) i < (cnts v).length) := Lib.hid (fun k hk i hi => by rw [cnts_len]; exact hfr k hk i hi)
  clear hf hfr
  go_enter Try.func28, Try.ntmps28
  go_wp2
  refine wp_region_noPanic ?_
  refine wp_region_late (S := (fun w' => w'.cell? ⟨pb, po + 2, none⟩ = some (.slice a2 n2 c2) ∧ w'.cell? ⟨pb, po + 1, none⟩ = some (.int .i64 (v : Int)) ∧ Below w.heap.size w w')) [] (by kernel_rfl) ?_ (fun hHeld => ?_)
  · exact ⟨x2, x1, (QW.refl _).drew.below _⟩
  refine wpAnyL_free (i := 0) (v := ?_) (some 3) rfl rfl (by kernel_rfl) (by kernel_rfl) (by kernel_rfl) (by decide) (fun _ _ _ h => h) (Or.inl ⟨by rfl, ?_⟩) (fun h0 => by assumption) ?_
  rotate_left
  · intro wS
    go_simp
    try with_reducible rfl
  try simp only [Act.put, List.setIfInBounds_toArray, List.set_cons_zero, List.set_cons_succ]
  refine wpAnyL_free (i := 1) (v := ?_) (some 4) rfl rfl (by kernel_rfl) (by kernel_rfl) (by kernel_rfl) (by decide) (fun _ _ _ h => h) (Or.inl ⟨by rfl, ?_⟩) (fun h0 => by assumption) ?_
  rotate_left
  · intro wS
    go_simp
    try with_reducible rfl
  try simp only [Act.put, List.setIfInBounds_toArray, List.set_cons_zero, List.set_cons_succ]
  refine wpAnyL_free (i := 2) (v := ?_) (some 5) rfl rfl (by kernel_rfl) (by kernel_rfl) (by kernel_rfl) (by decide) (fun _ _ _ h => h) (Or.inl ⟨by rfl, ?_⟩) (fun h0 => by assumption) ?_
  rotate_left
  · intro wS
    go_simp
    try with_reducible rfl
  try simp only [Act.put, List.setIfInBounds_toArray, List.set_cons_zero, List.set_cons_succ]
  refine wpAnyL_take (i := 3) (v := ?_) (some 6) rfl rfl (by kernel_rfl) (by kernel_rfl) (by kernel_rfl) (by kernel_rfl) (by kernel_rfl) (fun _ _ _ h => h) (Or.inl ⟨by rfl, ?_⟩) (by assumption) ?_
  rotate_left
  · intro wS hSw
    try dsimp only at hSw
    go_simp
    try with_reducible rfl
  try simp only [Act.put, List.setIfInBounds_toArray, List.set_cons_zero, List.set_cons_succ]
  refine wpAnyL_free (i := 4) (v := ?_) (some 7) rfl rfl (by kernel_rfl) (by kernel_rfl) (by kernel_rfl) (by decide) (fun _ _ _ h => h) (Or.inl ⟨by rfl, ?_⟩) (fun h0 => by assumption) ?_
  rotate_left
  · intro wS
    go_simp
    try with_reducible rfl
  try simp only [Act.put, List.setIfInBounds_toArray, List.set_cons_zero, List.set_cons_succ]
  refine wpAnyL_free (i := 5) (v := ?_) (some 8) rfl rfl (by kernel_rfl) (by kernel_rfl) (by kernel_rfl) (by decide) (fun _ _ _ h => h) (Or.inl ⟨by rfl, ?_⟩) (fun h0 => by assumption) ?_
  rotate_left
  · intro wS
    go_simp
    try with_reducible rfl
  try simp only [Act.put, List.setIfInBounds_toArray, List.set_cons_zero, List.set_cons_succ]
  refine wpAnyL_free (i := 6) (v := ?_) (some 9) rfl rfl (by kernel_rfl) (by kernel_rfl) (by kernel_rfl) (by decide) (fun _ _ _ h => h) (Or.inl ⟨by rfl, ?_⟩) (fun h0 => by assumption) ?_
  rotate_left
  · intro wS
    go_simp
    try with_reducible rfl
  try simp only [Act.put, List.setIfInBounds_toArray, List.set_cons_zero, List.set_cons_succ]
  refine wpAnyL_take (i := 7) (v := ?_) (some 10) rfl rfl (by kernel_rfl) (by kernel_rfl) (by kernel_rfl) (by kernel_rfl) (by kernel_rfl) (fun _ _ _ h => h) (Or.inl ⟨by rfl, ?_⟩) (by assumption) ?_
  rotate_left
  · intro wS hSw
    try dsimp only at hSw
    go_simp
    try with_reducible rfl
  try simp only [Act.put, List.setIfInBounds_toArray, List.set_cons_zero, List.set_cons_succ]
  refine wpAnyL_ready (rs := [8]) (by kernel_rfl) (by simp) ?_
  refine AllReadyL.cons rfl (fun K hK => ?_) AllReadyL.nil
  go_simp; go_at_call 27; refine (l03Count v hv _).mono ?_; rintro e w5 ⟨a5, c5, rfl, ho5, hb5⟩
  have HC5 := Lib.hid ho5.rowAt
  have HB5 := Lib.hid (hHeld.2.2.trans (hb5.mono hHeld.2.2.size))
  refine hK.out _ _ ?_ (fun hHeld => ?_)
  · exact ⟨below_cell hb5 hHeld.1, below_cell hb5 hHeld.2.1, hHeld.2.2.trans (hb5.mono hHeld.2.2.size)⟩
  clear hK K
  try simp only [Act.put, List.setIfInBounds_toArray, List.set_cons_zero, List.set_cons_succ]
  refine wpAnyL_ready (rs := [9]) (by kernel_rfl) (by simp) ?_
  refine AllReadyL.cons rfl (fun K hK => ?_) AllReadyL.nil
  go_simp; go_at_call 29; refine (l03MovedS _ _ fs (cnts v) _ (HF.out.below hHeld.2.2) HC5.out hfl HFR.out hm).mono ?_; rintro e w6 ⟨g6, c6, rfl, ho6, hb6⟩
  have HO6 := Lib.hid (OwnOps.mono ho6 (B' := w.heap.size) hHeld.2.2.size)
  have HB6 := Lib.hid (hHeld.2.2.trans (hb6.mono hHeld.2.2.size))
  refine hK.out _ _ ?_ (fun hHeld => ?_)
  · exact ⟨below_cell hb6 hHeld.1, below_cell hb6 hHeld.2.1, hHeld.2.2.trans (hb6.mono hHeld.2.2.size)⟩
  clear hK K
  try simp only [Act.put, List.setIfInBounds_toArray, List.set_cons_zero, List.set_cons_succ]
  refine wpAnyL_free (i := 10) (v := ?_) (some 2) rfl rfl (by kernel_rfl) (by kernel_rfl) (by kernel_rfl) (by decide) (fun _ _ _ h => h) (Or.inl ⟨by rfl, ?_⟩) (fun h0 => by assumption) ?_
  rotate_left
  · intro wS
    go_simp
    try with_reducible rfl
  try simp only [Act.put, List.setIfInBounds_toArray, List.set_cons_zero, List.set_cons_succ]
  refine wpAnyL_done (by kernel_rfl) ?_ _
  refine NoPanic.normal ?_
  go_wp2
  go_ret
  exact ⟨_, _, rfl, HO6.out, HB6.out⟩

theorem partO_mulC (rs : List (Int × List Int)) (m n : Nat) (h : ∀ k, k < n → (rowO rs k).length ≤ m) : partO rs n ≤ n * m := by
  induction n with
  | zero => simp [partO]
  | succ n ih =>
    have h1 := ih fun k hk => h k (by omega)
    have h2 := h n (by omega)
    rw [partO_succ, Nat.succ_mul]
    omega
theorem sayL_cnts (fr m : Nat) : sayL (cnts fr) fr m = cnts (fr + m) := by
  unfold sayL cnts
  rw [List.range_add, List.map_append, List.map_map]
  rfl

set_option linter.unusedSimpArgs false in
set_option maxHeartbeats 4000000 in
set_option maxRecDepth 100000 in
theorem specConjoinFormulas (sz : Int) (a1 : Option Addr) (n1 c1 : Nat) (rs : List (Int × List (List Int))) (fr va : Int) (a2 : Option Addr) (n2 c2 : Nat) (fs : List (Int × List Int)) (fr2 vg : Int) (a3 : Option Addr) (n3 c3 : Nat) (gs : List (Int × List Int)) (x y : Int) (zs : List (Int × List Int)) (cd : Int) (w : World) (h1 : RelsAt w (.slice a1 n1 c1) rs) (h2 : OpsAt w (.slice a2 n2 c2) fs) (h3 : OpsAt w (.slice a3 n3 c3) gs) (hi : ConjoinFormulasIs sz rs fr va fs fr2 vg gs x y zs cd) :
    Calls Try.prog 8 #[.agg #[.int .i64 sz, .slice a1 n1 c1], .agg #[.int .i64 fr, .int .i64 va, .slice a2 n2 c2], .agg #[.int .i64 fr2, .int .i64 vg, .slice a3 n3 c3]] w (MadeF w x y zs cd) := by
  have HR0 : Hid (Box 32 ((((w.alloc (.cells #[.int .i64 sz, .slice a1 n1 c1] 37)).alloc (.cells #[.int .i64 fr, .int .i64 va, .slice a2 n2 c2] 32)).alloc (.cells #[.int .i64 fr2, .int .i64 vg, .slice a3 n3 c3] 32)).alloc (.cells #[.int .i64 0, .int .i64 0, .slice none 0 0] 32)) (w.heap.size + 3) #[.int .i64 0, .int .i64 0, .slice none 0 0]) := Lib.hid (by
    have h := Box.new 32 (((w.alloc (.cells #[.int .i64 sz, .slice a1 n1 c1] 37)).alloc (.cells #[.int .i64 fr, .int .i64 va, .slice a2 n2 c2] 32)).alloc (.cells #[.int .i64 fr2, .int .i64 vg, .slice a3 n3 c3] 32)) #[.int .i64 0, .int .i64 0, .slice none 0 0]
    simp only [World.size_alloc] at h
    exact h)
  have HTP : ∀ wx, Below ((((w.alloc (.cells #[.int .i64 sz, .slice a1 n1 c1] 37)).alloc (.cells #[.int .i64 fr, .int .i64 va, .slice a2 n2 c2] 32)).alloc (.cells #[.int .i64 fr2, .int .i64 vg, .slice a3 n3 c3] 32)).alloc (.cells #[.int .i64 0, .int .i64 0, .slice none 0 0] 32)).heap.size ((((w.alloc (.cells #[.int .i64 sz, .slice a1 n1 c1] 37)).alloc (.cells #[.int .i64 fr, .int .i64 va, .slice a2 n2 c2] 32)).alloc (.cells #[.int .i64 fr2, .int .i64 vg, .slice a3 n3 c3] 32)).alloc (.cells #[.int .i64 0, .int .i64 0, .slice none 0 0] 32)) wx → TplAt wx w.heap.size 0 sz rs := fun wx hb => ((((TplAt.new w sz a1 n1 c1 rs 37 h1).below ((Below.refl _ _).alloc (Nat.le_refl _) _)).below ((Below.refl _ _).alloc (Nat.le_refl _) _)).below ((Below.refl _ _).alloc (Nat.le_refl _) _)).below hb
  have HFP : ∀ wx, Below ((((w.alloc (.cells #[.int .i64 sz, .slice a1 n1 c1] 37)).alloc (.cells #[.int .i64 fr, .int .i64 va, .slice a2 n2 c2] 32)).alloc (.cells #[.int .i64 fr2, .int .i64 vg, .slice a3 n3 c3] 32)).alloc (.cells #[.int .i64 0, .int .i64 0, .slice none 0 0] 32)).heap.size ((((w.alloc (.cells #[.int .i64 sz, .slice a1 n1 c1] 37)).alloc (.cells #[.int .i64 fr, .int .i64 va, .slice a2 n2 c2] 32)).alloc (.cells #[.int .i64 fr2, .int .i64 vg, .slice a3 n3 c3] 32)).alloc (.cells #[.int .i64 0, .int .i64 0, .slice none 0 0] 32)) wx → FormAt wx (w.heap.size + 1) 0 fr va fs := fun wx hb => by
    have h := (((FormAt.new (w.alloc (.cells #[.int .i64 sz, .slice a1 n1 c1] 37)) fr va a2 n2 c2 fs 32 (h2.below ((Below.refl _ _).alloc (Nat.le_refl _) _))).below ((Below.refl _ _).alloc (Nat.le_refl _) (.cells #[.int .i64 fr2, .int .i64 vg, .slice a3 n3 c3] 32))).below ((Below.refl _ _).alloc (Nat.le_refl _) (.cells #[.int .i64 0, .int .i64 0, .slice none 0 0] 32))).below hb
    rwa [World.size_alloc] at h
  have HGP : ∀ wx, Below ((((w.alloc (.cells #[.int .i64 sz, .slice a1 n1 c1] 37)).alloc (.cells #[.int .i64 fr, .int .i64 va, .slice a2 n2 c2] 32)).alloc (.cells #[.int .i64 fr2, .int .i64 vg, .slice a3 n3 c3] 32)).alloc (.cells #[.int .i64 0, .int .i64 0, .slice none 0 0] 32)).heap.size ((((w.alloc (.cells #[.int .i64 sz, .slice a1 n1 c1] 37)).alloc (.cells #[.int .i64 fr, .int .i64 va, .slice a2 n2 c2] 32)).alloc (.cells #[.int .i64 fr2, .int .i64 vg, .slice a3 n3 c3] 32)).alloc (.cells #[.int .i64 0, .int .i64 0, .slice none 0 0] 32)) wx → FormAt wx (w.heap.size + 2) 0 fr2 vg gs := fun wx hb => by
    have h := ((FormAt.new ((w.alloc (.cells #[.int .i64 sz, .slice a1 n1 c1] 37)).alloc (.cells #[.int .i64 fr, .int .i64 va, .slice a2 n2 c2] 32)) fr2 vg a3 n3 c3 gs 32 (h3.below (((Below.refl _ _).alloc (Nat.le_refl _) _).alloc (by simp) _))).below ((Below.refl _ _).alloc (Nat.le_refl _) (.cells #[.int .i64 0, .int .i64 0, .slice none 0 0] 32))).below hb
    rwa [World.size_alloc, World.size_alloc] at h
  have K0 := Lib.hid (((((((((Kept.start w).read (lives_rels _ _) h1).read (lives_ops _ _) h2).read (lives_ops _ _) h3).box w.heap.size rfl (.int .i64 sz) (.slice a1 n1 c1) 37).box3 (w.heap.size + 1) (by simp) (.int .i64 fr) (.int .i64 va) (.slice a2 n2 c2) 32).box3 (w.heap.size + 2) (by simp) (.int .i64 fr2) (.int .i64 vg) (.slice a3 n3 c3) 32)).below ((Below.refl _ _).alloc (Nat.le_refl _) (.cells #[.int .i64 0, .int .i64 0, .slice none 0 0] 32)))
  clear h1 h2 h3
  rcases hi with ⟨hf, hg, rfl, hi2⟩ | ⟨hf, hg, hne, rfl, rfl, rfl, rfl⟩ | ⟨hno, rfl, rfl, rfl, rfl⟩
  · have HCD : Hid (FormCode sz rs fr va fs fr vg gs 0) := Lib.hid (.inl ⟨hf, hg, rfl, rfl⟩)
    have HI2 := Lib.hid hi2
    obtain ⟨fr, rfl⟩ : ∃ q : Nat, fr = q := ⟨fr.toNat, by have := hf.2.1.1.1; omega⟩
    obtain ⟨vn, rfl⟩ : ∃ q : Nat, va = q := ⟨va.toNat, by have := hf.2.1.2.1.1; omega⟩
    have hfr0 : 0 < fr := by have := hf.2.1.1.1; omega
    have hfr4 : fr ≤ 4 := by have := hf.2.1.1.2; omega
    have hfv : fr ≤ vn := by have := hf.2.1.2.1.1; omega
    have hvn8 : vn ≤ 8 := by have := hf.2.1.2.1.2; omega
    obtain ⟨m2, hm2'⟩ : ∃ m : Nat, (vg - (fr : Int)) = m := ⟨(vg - (fr : Int)).toNat, by have := hg.2.1.2.1.1; omega⟩
    have HVG : Hid (vg = fr + m2) := Lib.hid (by omega)
    have hvg8 : vg ≤ 8 := hg.2.1.2.1.2
    have hvg0 : 0 ≤ vg := by omega
    have hm2 : m2 ≤ 8 := by omega
    have hl1 : fs.length ≤ 16 := hf.2.1.2.2
    have hl2 : gs.length ≤ 16 := hg.2.1.2.2
    obtain ⟨yy, hyy⟩ : ∃ yy : Int, yy = (vn : Int) + vg - (fr : Int) := ⟨_, rfl⟩
    have HYY := Lib.hid hyy
    have HFL : Hid (∀ k, k < fs.length → (rowO fs k).length ≤ 4) := Lib.hid (fun k hk => by have := (hf.text.2 k hk).2.1.2; omega)
    have HFR : Hid (∀ k, k < fs.length → ∀ i, i < (rowO fs k).length → 0 ≤ intN (rowO fs k) i ∧ intN (rowO fs k) i < (vn : Int)) := Lib.hid (fun k hk i hi => (hf.text.2 k hk).2.2.2 i hi)
    have HGL : Hid (∀ k, k < gs.length → (rowO gs k).length ≤ 4) := Lib.hid (fun k hk => by have := (hg.text.2 k hk).2.1.2; omega)
    have HGR : Hid (∀ k, k < gs.length → ∀ i, i < (rowO gs k).length → 0 ≤ intN (rowO gs k) i ∧ intN (rowO gs k) i < ((sayL (cnts fr) vn m2).length : Int)) := Lib.hid (fun k hk i hi => by
      have h := (hg.text.2 k hk).2.2.2 i hi
      rw [sayL_len, cnts_len]
      omega)
    obtain ⟨i0, hi, hz0, hz1, hz2⟩ := info_parts info_Atom
    obtain ⟨j0, hj, hy0, hy1, hy2⟩ := info_parts info_int3
    clear hf hg hm2' hyy hi2
    go_enter Try.func8, Try.ntmps8
    go_wp2_with fail
    refine (l03Two _ _ _ _ _ _ _ rs _ _ fs _ _ gs 0 _ (HTP _ (Below.refl _ _)) (HFP _ (Below.refl _ _)) (HGP _ (Below.refl _ _)) HCD.out).mono ?_
    rintro e w1 ⟨rfl, hq1⟩
    have hb1 : Below _ _ w1 := hq1.bel
    have K1 := Lib.hid (K0.out.below hb1)
    have HR1 := Lib.hid (HR0.out.below hb1)
    have hz : w.heap.size + 4 ≤ w1.heap.size := by have := hb1.size; simpa using this
    have HBW1 := Lib.hid hb1
    clear hb1 hq1
    have e0 := HR1.out.c 0 rfl
    have f0 := HR1.out.free 0
    have e1 := HR1.out.c 1 rfl
    have f1 := HR1.out.free 1
    have e2 := HR1.out.c 2 rfl
    have f2 := HR1.out.free 2
    clear e0 f0 e1 f1 e2 f2
    have cc0 := K1.out.c 0 rfl
    go_wp2_with fail
    refine (l03Count fr (by omega) _).mono ?_
    rintro e w2 ⟨a7, c7, rfl, ho7, hb7⟩
    have HO7 := Lib.hid ho7
    have HB7 := Lib.hid hb7
    have kk0 := (K1.out.below hb7).c 0 rfl
    clear ho7 hb7 cc0
    go_wp2
    clear kk0
    go_loopw [9, 10] (fun tv v wr => ∃ (k : Nat) (v0 : Int) (a : Option Addr) (n c : Nat), k ≤ m2 ∧ v0 = ((fr + k : Nat) : Int) ∧ v = .int .i64 v0 ∧ tv = .slice a n c ∧ OwnRow wr w1.heap.size (.slice a n c) (sayL (cnts fr) vn k) ∧ Below w1.heap.size w1 wr) (fun _ v _ => vg.toNat - (intOf v).toNat)
    case atStart => exact ⟨0, (fr : Int), a7, fr, c7, Nat.zero_le _, by simp, rfl, rfl, by rw [sayL_zero]; exact HO7.out, HB7.out⟩
    case round =>
      obtain ⟨k, v0, a, n, c, hk, hv0, rfl, rfl, hown, hbel⟩ := hrel
      obtain ⟨wo, rfl⟩ : ∃ wo : World, wo = wr := ⟨_, rfl⟩
      have HO := Lib.hid hown
      have HW := Lib.hid hbel
      have KR := Lib.hid (K1.out.below hbel)
      have g0 := KR.out.c 0 rfl
      have g1 := KR.out.c 1 rfl
      have g4 := KR.out.c 4 rfl
      have hv0' : 0 ≤ v0 := by omega
      clear hown hbel
      by_cases hlt : k < m2
      · have hlt' : v0 < vg := by have := HVG.out; omega
        obtain ⟨z, hz⟩ : ∃ z : Int, z = ((vn + k : Nat) : Int) := ⟨_, rfl⟩
        have hw1 : IntKind.i64.wrap ((vn : Int) + v0) = (vn : Int) + v0 := IntWalk.i64_in _ (by omega)
        have hw2 : IntKind.i64.wrap ((vn : Int) + v0 - (fr : Int)) = z := by rw [IntWalk.i64_in _ (by omega)]; omega
        have hw3 : IntKind.i64.wrap (v0 + 1) = v0 + 1 := IntWalk.i64_in _ (by omega)
        have HZ := Lib.hid hz
        have HV0 := Lib.hid hv0
        have hc1 := cell_one_new wo (.int .i64 z) 2
        have HC1 := Lib.hid hc1
        clear hc1 hz hv0
        go_wp2_with (at_builtin; refine wpList_append_own _ rfl _ _ 45 rfl w1.heap.size 2 j0 (.int .i64 0) 1 8 Try.underlying45 hj hy0 hy1 hy2 rfl (by decide) (.slice a n c) (sayL (cnts fr) vn k).length _ rfl ((show World.ownsRow _ _ _ _ _ _ _ from HO.out).alloc _) ⟨wo.heap.size, 0, none⟩ 1 1 [.int .i64 z] rfl rfl HC1.out (by simp [Value.oneCell']) (by rw [sayL_len, cnts_len]; unfold maxLen; omega) (by rw [sayL_len, cnts_len]; omega) (by have := HW.out.size; simp; omega) ?_; intro v' w3 hown' hgrow _; obtain ⟨g', c', rfl⟩ := ownsRow_succ hown'; have HG3 := Lib.hid hown'; have HR3 := Lib.hid hgrow; clear hown' hgrow)
        go_roundw
        case rel =>
          refine ⟨k + 1, v0 + 1, _, _, _, by omega, by rw [HV0.out]; omega, rfl, rfl, ?_, ((HW.out.alloc HW.out.size _).grown HR3.out (by have := HW.out.size; simp; omega) (fun q hq => (HO.out.lt q hq).1))⟩
          have e : (sayL (cnts fr) vn (k + 1)).length = (sayL (cnts fr) vn k).length + 1 := by rw [sayL_len, sayL_len]; omega
          unfold OwnRow
          rw [e, sayL_succ, List.map_append, ← HZ.out]
          exact HG3.out
        case measure => simp [intOf]; omega
      · have hkm : k = m2 := by omega
        subst hkm
        have hv1 : ¬ v0 < vg := by have := HVG.out; omega
        have HTO := Lib.hid ((OwnRow.rowAt HO.out).below ((Below.refl _ _).alloc (Nat.le_refl _) (.cells #[.int .i64 (fr : Int), .int .i64 yy, .slice none 0 0] 32)))
        have HRW := Lib.hid (HR1.out.below HW.out)
        have hszr : w.heap.size + 4 ≤ wo.heap.size := by have := HW.out.size; omega
        have hal := (Below.refl wo.heap.size wo).alloc (Nat.le_refl _) (.cells #[.int .i64 (fr : Int), .int .i64 yy, .slice none 0 0] 32)
        have HBS := Lib.hid (HBW1.out.trans ((HW.out.trans (hal.mono HW.out.size)).mono HBW1.out.size))
        have HGO : Hid (OpsAt (wo.alloc (.cells #[.int .i64 (fr : Int), .int .i64 yy, .slice none 0 0] 32)) (.slice a3 n3 c3) gs) := Lib.hid ((KR.out.r 0 rfl : OpsAt wo (.slice a3 n3 c3) gs).below hal)
        have HBX := Lib.hid (Box.new 32 wo #[.int .i64 (fr : Int), .int .i64 yy, .slice none 0 0])
        have g3 := KR.out.c 3 rfl
        have g2 := below_cell hal (KR.out.c 2 rfl)
        have hwa : IntKind.i64.wrap ((vn : Int) + vg) = (vn : Int) + vg := IntWalk.i64_in _ (by omega)
        have hwb : IntKind.i64.wrap ((vn : Int) + vg - (fr : Int)) = yy := by rw [IntWalk.i64_in _ (by omega)]; exact HYY.out.symm
        have HV0 := Lib.hid hv0
        clear hv0 hlt hk hal
        go_wp2
        refine wp_region_noPanic ?_
        refine wp_region_late (S := (fun w' => w'.cell? ⟨w.heap.size + 2, 2, none⟩ = some (.slice a3 n3 c3) ∧ Below (wo.alloc (.cells #[.int .i64 (fr : Int), .int .i64 yy, .slice none 0 0] 32)).heap.size (wo.alloc (.cells #[.int .i64 (fr : Int), .int .i64 yy, .slice none 0 0] 32)) w')) [5, 7] (by kernel_rfl) ?_ (fun hHeld => ?_)
        · exact ⟨g2, (QW.refl _).drew.below _⟩
        refine wpAnyL_free (i := 1) (v := ?_) (some 50) rfl rfl (by kernel_rfl) (by kernel_rfl) (by kernel_rfl) (by decide) (fun _ _ _ h => h) (Or.inl ⟨by rfl, ?_⟩) (fun h0 => by assumption) ?_
        rotate_left
        · intro wS
          go_simp
          try with_reducible rfl
        try simp only [Act.put, List.setIfInBounds_toArray, List.set_cons_zero, List.set_cons_succ]
        refine wpAnyL_take (i := 2) (v := ?_) (some 51) rfl rfl (by kernel_rfl) (by kernel_rfl) (by kernel_rfl) (by kernel_rfl) (by kernel_rfl) (fun _ _ _ h => h) (Or.inl ⟨by rfl, ?_⟩) (by assumption) ?_
        rotate_left
        · intro wS hSw
          try dsimp only at hSw
          go_simp
          try with_reducible rfl
        try simp only [Act.put, List.setIfInBounds_toArray, List.set_cons_zero, List.set_cons_succ]
        refine wpAnyL_free (i := 3) (v := ?_) (some 52) rfl rfl (by kernel_rfl) (by kernel_rfl) (by kernel_rfl) (by decide) (fun _ _ _ h => h) (Or.inl ⟨by rfl, ?_⟩) (fun h0 => by assumption) ?_
        rotate_left
        · intro wS
          go_simp
          try with_reducible rfl
        try simp only [Act.put, List.setIfInBounds_toArray, List.set_cons_zero, List.set_cons_succ]
        refine wpAnyL_ready (rs := [0]) (by kernel_rfl) (by simp) ?_
        refine AllReadyL.cons rfl (fun K hK => ?_) AllReadyL.nil
        go_simp; go_at_call 28; refine (l03Own _ _ _ vn fs _ (HFP _ (HBS.out.trans (hHeld.2.mono HBS.out.size))) (by omega) HFL.out HFR.out (by omega)).mono ?_; rintro e w5 ⟨g5, c5, rfl, ho5, hb5⟩
        have HO5 := Lib.hid (OwnOps.mono ho5 (B' := wo.heap.size + 1) (by have h1 := hHeld.2.size; simp at h1; (first | omega | (simp <;> omega))))
        have HB5 := Lib.hid (hHeld.2.trans (hb5.mono hHeld.2.size))
        clear ho5
        refine hK.out _ _ ?_ (fun hHeld => ?_)
        · exact ⟨below_cell hb5 hHeld.1, hHeld.2.trans (hb5.mono hHeld.2.size)⟩
        clear hK K
        try simp only [Act.put, List.setIfInBounds_toArray, List.set_cons_zero, List.set_cons_succ]
        refine wpAnyL_ready (rs := [4]) (by kernel_rfl) (by simp) ?_
        refine AllReadyL.cons rfl (fun K hK => ?_) AllReadyL.nil
        go_simp; go_at_call 29; refine (l03MovedS _ _ gs (sayL (cnts fr) vn k) _ (HGO.out.below hHeld.2) (HTO.out.below hHeld.2) HGL.out HGR.out (by omega)).mono ?_; rintro e w6 ⟨g6, c6, rfl, ho6, hb6⟩
        have HO6 := Lib.hid ho6
        have HB56 := Lib.hid hb6
        have HB6 := Lib.hid (HB5.out.trans (hb6.mono HB5.out.size))
        clear ho6
        refine hK.out _ _ ?_ (fun hHeld => ?_)
        · exact ⟨below_cell hb6 hHeld.1, hHeld.2.trans (hb6.mono hHeld.2.size)⟩
        clear hK K
        try simp only [Act.put, List.setIfInBounds_toArray, List.set_cons_zero, List.set_cons_succ]
        refine wpAnyL_ready (rs := [5]) (by kernel_rfl) (by simp) ?_
        refine AllReadyL.last rfl (by kernel_rfl) (fun K hK => ?_) AllReadyL.nil
        obtain ⟨V5, hV5⟩ := HO5.out
        obtain ⟨xs5, ho5, hx5, hl5, h15⟩ := hV5.cellsOne
        obtain ⟨V6, hV6⟩ := HO6.out
        obtain ⟨xs6, ho6, hx6, hl6, h16⟩ := hV6.cellsOne
        have hm5 := movedL_len fs (cnts vn)
        have hm6 := movedL_len gs (sayL (cnts fr) vn k)
        rw [hm5] at hV5 ho5 hx5 hl5
        rw [hm6] at hV6 ho6 hx6 hl6
        refine step_append_block _ (by rfl) _ _ 30 (by rfl) (wo.heap.size + 1) 83 i0 (.agg #[.int .i64 0, .slice none 0 0]) 2 32 Try.underlying30 hi hz0 hz1 hz2 (by rfl) (by decide) (.slice (some ⟨g5, 0, none⟩) fs.length c5) fs.length xs5 (by rfl) (ownsRow_below ho5 HB56.out) (by simp [Value.ownBlock]) ⟨g6, 0, none⟩ gs.length c6 xs6 (by rfl) hl6 (news_of_own ho6 hl6) h16 (by unfold maxLen; omega) (by omega) (by have := HB6.out.size; simp at this; omega) _ rfl ?_; intro g7 c7 w7 hown7 hgrow7 hat7
        have HB5E : Hid (Below w5.heap.size w5 w6) := HB56
        have hG7 := OwnOpsV.cat (B := wo.heap.size + 1) hV5 hm5 hl5 hx5 HB56.out hV6 hm6 hl6 hx6 (by have := HB5.out.size; simp at this; omega) hown7 hgrow7 (fun g hg => by
          obtain rfl : g7 = g := by simpa [Value.ownBlock] using hg
          rcases hat7 with e | e
          · exact .inl e
          · exact .inr (by omega))
        have HB7 := Lib.hid ((HB6.out.mono (show wo.heap.size + 1 ≤ (wo.alloc (.cells #[.int .i64 (fr : Int), .int .i64 yy, .slice none 0 0] 32)).heap.size by simp)).grown hgrow7 (by have := HB6.out.size; simp at this; omega) (fun q hq => (ho5.lt q hq).1))
        have hbx7 := HBX.out.same (HB7.out.block wo.heap.size (Nat.lt_succ_self _))
        have k2 : w7.cell? ⟨wo.heap.size, 2, none⟩ = some (.slice none 0 0) := hbx7.c 2 rfl
        have z2 := hbx7.free 2
        have HX8 := Lib.hid (hbx7.set 2 (.slice (some ⟨g7, 0, none⟩) (fs.length + gs.length) c7))
        have hG8 : OwnOps 83 w7 (wo.heap.size + 1) w7.heap.size (.slice (some ⟨g7, 0, none⟩) (fs.length + gs.length) c7) (movedL fs (cnts vn) ++ movedL gs (sayL (cnts fr) vn k)) := by
          have e : (movedL fs (cnts vn) ++ movedL gs (sayL (cnts fr) vn k)).length = fs.length + gs.length := by rw [List.length_append, hm5, hm6]
          show ∃ V, OwnOpsV _ _ _ _ _ (movedL fs (cnts vn) ++ movedL gs (sayL (cnts fr) vn k)).length V _
          rw [e]
          exact ⟨_, hG7⟩
        have HG8 := Lib.hid ((hG8.stored (p := ⟨wo.heap.size, 2, none⟩) (Nat.lt_succ_self _) (.slice (some ⟨g7, 0, none⟩) (fs.length + gs.length) c7)).full)
        have HBW8 : Hid (Below wo.heap.size wo (w7.setCell ⟨wo.heap.size, 2, none⟩ (.slice (some ⟨g7, 0, none⟩) (fs.length + gs.length) c7))) := Lib.hid ((((Below.refl wo.heap.size wo).alloc (Nat.le_refl _) (.cells #[.int .i64 (fr : Int), .int .i64 yy, .slice none 0 0] 32)).trans (HB7.out.mono (Nat.le_succ _))).setCell (Nat.le_refl _) _)
        clear hown7 hgrow7 hat7 ho5 ho6 hV5 hV6 hx5 hx6 hG7 hG8 hbx7 h15 h16
        refine hK.out _ _ ?_
        clear hK K
        try simp only [Act.put, List.setIfInBounds_toArray, List.set_cons_zero, List.set_cons_succ]
        refine wpAnyL_free (i := 6) (v := ?_) (some 55) rfl rfl (by kernel_rfl) (by kernel_rfl) (by kernel_rfl) (by decide) (fun _ _ _ h => h) (Or.inl ⟨by rfl, ?_⟩) (fun h0 => absurd h0 (by decide)) ?_
        rotate_left
        · intro wS
          go_simp
          try with_reducible rfl
        try simp only [Act.put, List.setIfInBounds_toArray, List.set_cons_zero, List.set_cons_succ]
        refine wpAnyL_ready (rs := [7]) (by kernel_rfl) (by simp) ?_
        refine AllReadyL.last rfl (by kernel_rfl) (fun K hK => ?_) AllReadyL.nil
        go_simp
        refine hK.out _ _ ?_
        clear hK K
        try simp only [Act.put, List.setIfInBounds_toArray, List.set_cons_zero, List.set_cons_succ]
        refine wpAnyL_done (by kernel_rfl) ?_ _
        refine NoPanic.normal ?_
        have b0 := HX8.out.c 0 rfl
        have b1 := HX8.out.c 1 rfl
        have b2 := HX8.out.c 2 rfl
        rcases HI2.out with ⟨⟨hy, hlen⟩, rfl, rfl, rfl, rfl⟩ | ⟨hbig, rfl, rfl, rfl, rfl⟩
        · have hy8 : yy ≤ 8 := by have := HYY.out; omega
          go_wp2_with (go_at_call 30; refine (l03Told_ok (fr : Int) yy (some ⟨g7, 0, none⟩) (fs.length + gs.length) c7 _ hy8 hlen).mono ?_; rintro e w9 ⟨rfl, hb9⟩; have HB9 := Lib.hid (HBW8.out.trans (hb9.mono HBW8.out.size)); have HBL := Lib.hid hb9; have HR9 := Lib.hid (HRW.out.below HB9.out); have e0 := HR9.out.c 0 rfl; have f0 := HR9.out.free 0; have e1 := HR9.out.c 1 rfl; have f1 := HR9.out.free 1; have e2 := HR9.out.c 2 rfl; have f2 := HR9.out.free 2; clear hb9)
          refine bodyPost_ret (v := .tuple #[.agg #[.int .i64 (fr : Int), .int .i64 yy, .slice (some ⟨g7, 0, none⟩) (fs.length + gs.length) c7], .int .i64 0]) (by simp [results, Try.results8, go_sem, e0, e1, e2]) rfl ⟨_, _, _, by rw [show (vn : Int) + (vg - (fr : Int)) = yy from by have := HYY.out; omega], ?_, ?_⟩
          · have hzz : movedL fs (sayL (cnts (fr : Int).toNat) (fr : Int).toNat ((vn : Int) - fr).toNat) ++ movedL gs (sayL (cnts (fr : Int).toNat) (vn : Int).toNat (vg - fr).toNat) = (movedL fs (cnts vn) ++ movedL gs (sayL (cnts fr) vn k)) := by
              have q1 : (fr : Int).toNat = fr := Int.toNat_natCast _
              have q2 : (vn : Int).toNat = vn := Int.toNat_natCast _
              have q3 : (vg - (fr : Int)).toNat = k := by have := HVG.out; omega
              have q4 : ((vn : Int) - (fr : Int)).toNat = vn - fr := by omega
              have q5 : fr + (vn - fr) = vn := by omega
              rw [q1, q2, q3, q4, sayL_cnts, q5]
            rw [hzz]
            exact (((((HG8.out.below HBL.out).stored (by show w.heap.size + 3 < wo.heap.size + 1; omega) _).stored (by show w.heap.size + 3 < wo.heap.size + 1; omega) _).stored (by show w.heap.size + 3 < wo.heap.size + 1; omega) _).mono (by omega)).full
          · exact ((((KR.out.bel.trans (HB9.out.mono KR.out.bel.size)).setCell (by show w.heap.size ≤ w.heap.size + 3; omega) _).setCell (by show w.heap.size ≤ w.heap.size + 3; omega) _).setCell (by show w.heap.size ≤ w.heap.size + 3; omega) _)
        · by_cases hy8 : 8 < yy
          · go_wp2_with (go_at_call 30; refine (l03Told_told1 (fr : Int) yy (some ⟨g7, 0, none⟩) (fs.length + gs.length) c7 _ hy8).mono ?_; rintro e w9 ⟨rfl, hb9⟩; have HB9 := Lib.hid (HBW8.out.trans (hb9.mono HBW8.out.size)); have HBL := Lib.hid hb9; have HR9 := Lib.hid (HRW.out.below HB9.out); have e0 := HR9.out.c 0 rfl; have f0 := HR9.out.free 0; have e1 := HR9.out.c 1 rfl; have f1 := HR9.out.free 1; have e2 := HR9.out.c 2 rfl; have f2 := HR9.out.free 2; clear hb9)
            try go_wp2
            refine bodyPost_ret (v := .tuple #[.agg #[.int .i64 0, .int .i64 0, .slice none 0 0], .int .i64 3]) (by simp [results, Try.results8, go_sem, e0, e1, e2]) rfl ⟨_, _, _, rfl, OwnOps.nil _ _ _ _ (Nat.le_refl _), ?_⟩
            exact ((((KR.out.bel.trans (HB9.out.mono KR.out.bel.size)).setCell (by show w.heap.size ≤ w.heap.size + 3; omega) _).setCell (by show w.heap.size ≤ w.heap.size + 3; omega) _).setCell (by show w.heap.size ≤ w.heap.size + 3; omega) _)
          · have hl16 : 16 < fs.length + gs.length := Classical.byContradiction fun h => hbig ⟨by have := HYY.out; omega, by omega⟩
            go_wp2_with (go_at_call 30; refine (l03Told_told2 (fr : Int) yy (some ⟨g7, 0, none⟩) (fs.length + gs.length) c7 _ (by omega) hl16).mono ?_; rintro e w9 ⟨rfl, hb9⟩; have HB9 := Lib.hid (HBW8.out.trans (hb9.mono HBW8.out.size)); have HBL := Lib.hid hb9; have HR9 := Lib.hid (HRW.out.below HB9.out); have e0 := HR9.out.c 0 rfl; have f0 := HR9.out.free 0; have e1 := HR9.out.c 1 rfl; have f1 := HR9.out.free 1; have e2 := HR9.out.c 2 rfl; have f2 := HR9.out.free 2; clear hb9)
            try go_wp2
            refine bodyPost_ret (v := .tuple #[.agg #[.int .i64 0, .int .i64 0, .slice none 0 0], .int .i64 3]) (by simp [results, Try.results8, go_sem, e0, e1, e2]) rfl ⟨_, _, _, rfl, OwnOps.nil _ _ _ _ (Nat.le_refl _), ?_⟩
            exact ((((KR.out.bel.trans (HB9.out.mono KR.out.bel.size)).setCell (by show w.heap.size ≤ w.heap.size + 3; omega) _).setCell (by show w.heap.size ≤ w.heap.size + 3; omega) _).setCell (by show w.heap.size ≤ w.heap.size + 3; omega) _)
  · have HCD : Hid (FormCode sz rs fr va fs fr2 vg gs 4) := Lib.hid (.inr (.inl ⟨hf, hg, hne, rfl⟩))
    clear hf hg hne
    go_enter Try.func8, Try.ntmps8
    go_wp2_with fail
    refine (l03Two _ _ _ _ _ _ _ rs _ _ fs _ _ gs 4 _ (HTP _ (Below.refl _ _)) (HFP _ (Below.refl _ _)) (HGP _ (Below.refl _ _)) HCD.out).mono ?_
    rintro e w1 ⟨rfl, hq1⟩
    have hb1 : Below _ _ w1 := hq1.bel
    have K1 := Lib.hid (K0.out.below hb1)
    have HR1 := Lib.hid (HR0.out.below hb1)
    have hz : w.heap.size + 4 ≤ w1.heap.size := by have := hb1.size; simpa using this
    have HBW1 := Lib.hid hb1
    clear hb1 hq1
    have e0 := HR1.out.c 0 rfl
    have f0 := HR1.out.free 0
    have e1 := HR1.out.c 1 rfl
    have f1 := HR1.out.free 1
    have e2 := HR1.out.c 2 rfl
    have f2 := HR1.out.free 2
    try go_wp2
    refine bodyPost_ret (v := .tuple #[.agg #[.int .i64 0, .int .i64 0, .slice none 0 0], .int .i64 4]) (by simp [results, Try.results8, go_sem, e0, e1, e2]) rfl ⟨_, _, _, rfl, OwnOps.nil _ _ _ _ (Nat.le_refl _), ?_⟩
    exact (((K1.out.bel.setCell (by show w.heap.size ≤ w.heap.size + 3; omega) _).setCell (by show w.heap.size ≤ w.heap.size + 3; omega) _).setCell (by show w.heap.size ≤ w.heap.size + 3; omega) _)
  · have HCD : Hid (FormCode sz rs fr va fs fr2 vg gs 1) := Lib.hid (.inr (.inr ⟨hno, rfl⟩))
    clear hno
    go_enter Try.func8, Try.ntmps8
    go_wp2_with fail
    refine (l03Two _ _ _ _ _ _ _ rs _ _ fs _ _ gs 1 _ (HTP _ (Below.refl _ _)) (HFP _ (Below.refl _ _)) (HGP _ (Below.refl _ _)) HCD.out).mono ?_
    rintro e w1 ⟨rfl, hq1⟩
    have hb1 : Below _ _ w1 := hq1.bel
    have K1 := Lib.hid (K0.out.below hb1)
    have HR1 := Lib.hid (HR0.out.below hb1)
    have hz : w.heap.size + 4 ≤ w1.heap.size := by have := hb1.size; simpa using this
    have HBW1 := Lib.hid hb1
    clear hb1 hq1
    have e0 := HR1.out.c 0 rfl
    have f0 := HR1.out.free 0
    have e1 := HR1.out.c 1 rfl
    have f1 := HR1.out.free 1
    have e2 := HR1.out.c 2 rfl
    have f2 := HR1.out.free 2
    try go_wp2
    refine bodyPost_ret (v := .tuple #[.agg #[.int .i64 0, .int .i64 0, .slice none 0 0], .int .i64 1]) (by simp [results, Try.results8, go_sem, e0, e1, e2]) rfl ⟨_, _, _, rfl, OwnOps.nil _ _ _ _ (Nat.le_refl _), ?_⟩
    exact (((K1.out.bel.setCell (by show w.heap.size ≤ w.heap.size + 3; omega) _).setCell (by show w.heap.size ≤ w.heap.size + 3; omega) _).setCell (by show w.heap.size ≤ w.heap.size + 3; omega) _)

theorem ConjoinFormulasIs.small {sz : Int} {rs : List (Int × List (List Int))} {fr va : Int} {fs : List (Int × List Int)} {fr2 vg : Int} {gs : List (Int × List Int)} {x y : Int} {zs : List (Int × List Int)} {cd : Int} (h : ConjoinFormulasIs sz rs fr va fs fr2 vg gs x y zs cd) : opsSize zs ≤ 1048576 := by
  rcases h with ⟨hf, hg, -, ⟨-, -, -, rfl, -⟩ | ⟨-, -, -, rfl, -⟩⟩ | ⟨-, -, -, -, -, rfl, -⟩ | ⟨-, -, -, rfl, -⟩
  · have hc := hf.2.1.2.2
    have hc2 := hg.2.1.2.2
    have key : ∀ (q r : List Int), opsSize (movedL fs q ++ movedL gs r) ≤ 1048576 := fun q r => by
      have hl : (movedL fs q ++ movedL gs r).length = fs.length + gs.length := by rw [List.length_append, movedL_len, movedL_len]
      have h1 := partO_mulC (movedL fs q ++ movedL gs r) 4 (fs.length + gs.length) fun k hk => by
        rw [rowO_cat, movedL_len]
        by_cases hkf : k < fs.length
        · rw [if_pos hkf]
          have e : rowO (movedL fs q) k = mapped q (rowO fs k) := by simp [rowO, movedL, List.getD, hkf]
          rw [e, mapped_len]
          have := (hf.text.2 k hkf).2.1.2
          omega
        · rw [if_neg hkf]
          have hkg : k - fs.length < gs.length := by omega
          have e : rowO (movedL gs r) (k - fs.length) = mapped r (rowO gs (k - fs.length)) := by simp [rowO, movedL, List.getD, hkg]
          rw [e, mapped_len]
          have := (hg.text.2 (k - fs.length) hkg).2.1.2
          omega
      unfold opsSize
      rw [hl]
      omega
    exact key _ _
  · simp [opsSize, partO]
  · simp [opsSize, partO]
  · simp [opsSize, partO]

end Go.Proofs.Ytnbgpeoceejolab
