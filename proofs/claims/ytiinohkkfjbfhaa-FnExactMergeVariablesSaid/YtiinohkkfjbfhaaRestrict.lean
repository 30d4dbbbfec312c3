/-
  RestrictInstance of the model and of the program.
-/
import Derived.Test.YtiinohkkfjbfhaaInstOk2
import Derived.Test.YtiinohkkfjbfhaaRises
import Derived.Test.YtiinohkkfjbfhaaGrowAt
import Derived.Test.YtiinohkkfjbfhaaTab
import Derived.Test.YtiinohkkfjbfhaaOpsGrow
import Derived.Test.YtiinohkkfjbfhaaClone
import Derived.Deep.AppendLies
namespace Go.Proofs.Ytiinohkkfjbfhaa
open Go.RowKit

/-- An instance of its own, and a code. -/
def MadeI (w : World) (x : Int) (zs : List (Int × List Int)) (cd : Int) (e : Ending) (w' : World) : Prop :=
  ∃ a n c, e = .returned (.tuple #[.agg #[.int .i64 x, .slice a n c], .int .i64 cd]) ∧ OwnOps 95 w' w.heap.size w'.heap.size (.slice a n c) zs ∧ Below w.heap.size w w'
def pickL (cs : List (Int × List Int)) (ks : List Int) (k : Nat) : List (Int × List Int) := (List.range k).map fun i => (arO cs (intN ks i).toNat, rowO cs (intN ks i).toNat)
theorem pickL_len (cs : List (Int × List Int)) (ks : List Int) (k : Nat) : (pickL cs ks k).length = k := by simp [pickL]
theorem pickL_succ (cs : List (Int × List Int)) (ks : List Int) (k : Nat) : pickL cs ks (k + 1) = pickL cs ks k ++ [(arO cs (intN ks k).toNat, rowO cs (intN ks k).toNat)] := by simp [pickL, List.range_succ]
theorem rises_at {ks : List Int} {n : Nat} (h : RisesP ks n) : ∀ k, k < ks.length → (k : Int) ≤ intN ks k := by
  intro k
  induction k with
  | zero => exact fun hk => (h 0 hk).1.1
  | succ k ih =>
    intro hk
    have h1 := ih (by omega)
    have h2 := (h (k + 1) hk).2 (Nat.succ_pos _)
    simp only [Nat.add_sub_cancel] at h2
    omega
theorem rises_len {ks : List Int} {n : Nat} (h : RisesP ks n) : ks.length ≤ n := by
  by_cases h0 : ks.length = 0
  · omega
  · have h1 := rises_at h (ks.length - 1) (by omega)
    have h2 := (h (ks.length - 1) (by omega)).1.2
    omega
theorem partO_mulI (rs : List (Int × List Int)) (m n : Nat) (h : ∀ k, k < n → (rowO rs k).length ≤ m) : partO rs n ≤ n * m := by
  induction n with
  | zero => simp [partO]
  | succ n ih =>
    have h1 := ih fun k hk => h k (by omega)
    have h2 := h n (by omega)
    rw [partO_succ, Nat.succ_mul]
    omega

def RestrictInstanceIs (sz : Int) (rs : List (Int × List (List Int))) (va : Int) (cs : List (Int × List Int)) (ks : List Int) (x : Int) (zs : List (Int × List Int)) (cd : Int) : Prop :=
  (InstOk sz rs va cs ∧ RisesP ks cs.length ∧ va = x ∧ zs = pickL cs ks ks.length ∧ cd = 0) ∨ (InstOk sz rs va cs ∧ ¬ RisesP ks cs.length ∧ x = 0 ∧ zs = [] ∧ cd = 2) ∨ (¬ InstOk sz rs va cs ∧ x = 0 ∧ zs = [] ∧ cd = 1)
theorem RestrictInstanceIs.exists (sz : Int) (rs : List (Int × List (List Int))) (va : Int) (cs : List (Int × List Int)) (ks : List Int) : ∃ x zs cd, RestrictInstanceIs sz rs va cs ks x zs cd := by
  by_cases h : InstOk sz rs va cs
  · by_cases h2 : RisesP ks cs.length
    · exact ⟨_, _, _, .inl ⟨h, h2, rfl, rfl, rfl⟩⟩
    · exact ⟨_, _, _, .inr (.inl ⟨h, h2, rfl, rfl, rfl⟩)⟩
  · exact ⟨_, _, _, .inr (.inr ⟨h, rfl, rfl, rfl⟩)⟩
theorem RestrictInstanceIs.small {sz : Int} {rs : List (Int × List (List Int))} {va : Int} {cs : List (Int × List Int)} {ks : List Int} {x : Int} {zs : List (Int × List Int)} {cd : Int} (h : RestrictInstanceIs sz rs va cs ks x zs cd) : opsSize zs ≤ 1048576 := by
  rcases h with ⟨h, h2, -, rfl, -⟩ | ⟨-, -, -, rfl, -⟩ | ⟨-, -, rfl, -⟩
  · have hl := Nat.le_trans (rises_len h2) h.2.2.1
    have h1 := partO_mulI (pickL cs ks ks.length) 4 ks.length fun k hk => by
      have e : rowO (pickL cs ks ks.length) k = rowO cs (intN ks k).toNat := by simp [pickL, rowO, List.getD, hk]
      rw [e]
      have hb := (h2 k hk).1
      have := (h.text.2.2 (intN ks k).toNat (by omega)).2.1.2
      omega
    unfold opsSize
    rw [pickL_len]
    omega
  · simp [opsSize, partO]
  · simp [opsSize, partO]

set_option linter.unusedSimpArgs false in
set_option maxHeartbeats 2000000 in
set_option maxRecDepth 100000 in
theorem implRestrictInstance (sz : Int) (a1 : Option Addr) (n1 c1 : Nat) (rs : List (Int × List (List Int))) (va : Int) (a2 : Option Addr) (n2 c2 : Nat) (cs : List (Int × List Int)) (v3 : Value) (ks : List Int) (x : Int) (zs : List (Int × List Int)) (cd : Int) (w : World) (h1 : RelsAt w (.slice a1 n1 c1) rs) (h2 : OpsAt w (.slice a2 n2 c2) cs) (h3 : RowAt w v3 ks) (hi : RestrictInstanceIs sz rs va cs ks x zs cd) :
    Calls Try.prog 45 #[.agg #[.int .i64 sz, .slice a1 n1 c1], .agg #[.int .i64 va, .slice a2 n2 c2], v3] w (MadeI w x zs cd) := by
  have HRB : Hid (Box 37 (((w.alloc (.cells #[.int .i64 sz, .slice a1 n1 c1] 33)).alloc (.cells #[.int .i64 va, .slice a2 n2 c2] 37)).alloc (.cells #[.int .i64 0, .slice none 0 0] 37)) (w.heap.size + 2) #[.int .i64 0, .slice none 0 0]) := Lib.hid (by
    have h := Box.new 37 ((w.alloc (.cells #[.int .i64 sz, .slice a1 n1 c1] 33)).alloc (.cells #[.int .i64 va, .slice a2 n2 c2] 37)) #[.int .i64 0, .slice none 0 0]
    simp only [World.size_alloc] at h
    exact h)
  obtain rfl : n2 = cs.length := by obtain ⟨_, _, hv, _⟩ := h2; simp only [Value.slice.injEq] at hv; exact hv.2.1
  have hcl : cs.length ≤ 9223372036854775807 := by obtain ⟨_, _, _, hn, _⟩ := h2; exact hn
  obtain ⟨a3, c3, rfl, hkl⟩ : ∃ a3 c3, v3 = .slice a3 ks.length c3 ∧ ks.length ≤ 9223372036854775807 := by obtain ⟨a, c, hv, hn, _⟩ := h3; exact ⟨a, c, hv, hn⟩
  have K0 := Lib.hid (((((((Kept.start w).read (lives_rels _ _) h1).read (lives_ops _ _) h2).read (lives_row _ _) h3).box w.heap.size rfl (.int .i64 sz) (.slice a1 n1 c1) 33).box (w.heap.size + 1) (by simp) (.int .i64 va) (.slice a2 cs.length c2) 37).below ((Below.refl _ _).alloc (Nat.le_refl _) (.cells #[.int .i64 0, .slice none 0 0] 37)))
  clear h1 h2 h3
  rcases hi with ⟨h1, h2, rfl, rfl, rfl⟩ | ⟨h1, h2, rfl, rfl, rfl⟩ | ⟨h1, rfl, rfl, rfl⟩
  · have H1 := Lib.hid (Tells.yes h1)
    have HOK := Lib.hid h1
    have HTX := Lib.hid h1.text
    have H2 := Lib.hid (Tells.yes h2)
    have HRI := Lib.hid h2
    have hk24 : ks.length ≤ 24 := Nat.le_trans (rises_len h2) h1.2.2.1
    obtain ⟨i0, hi, hz0, hz1, hz2⟩ := info_parts info_Con
    clear h1 h2
    go_enter Try.func45, Try.ntmps45
    go_wp2_with fail
    refine (implValidInstance _ _ _ _ _ _ _ _ _ _ true _ (K0.out.r 2 rfl :) (K0.out.r 1 rfl :) H1.out).mono ?_
    rintro e w1 ⟨rfl, hb1⟩
    have K1 := Lib.hid (K0.out.below hb1)
    have HR1 := Lib.hid (HRB.out.below hb1)
    have hz : w.heap.size + 3 ≤ w1.heap.size := by have := hb1.size; simpa using this
    have c0' := K1.out.c 0 rfl
    have c1' := K1.out.c 1 rfl
    have e0 := HR1.out.c 0 rfl
    have e1 := HR1.out.c 1 rfl
    have f0 := HR1.out.free 0
    have f1 := HR1.out.free 1
    clear hb1
    go_wp2_with (go_at_call 89; refine (isAscendingBelow _ _ _ true _ (K1.out.r 0 rfl :) H2.out).mono ?_; rintro e w2 ⟨rfl, rfl⟩)
    clear c0' c1' e0 e1 f0 f1
    go_loopw [29] (fun i wr => ∃ (k : Nat) (a : Option Addr) (n c : Nat), k ≤ ks.length ∧ i = .int .i64 k ∧ Box 37 wr w1.heap.size #[.int .i64 va, .slice a n c] ∧ OwnOps 95 wr (w1.heap.size + 1) wr.heap.size (.slice a n c) (pickL cs ks k) ∧ Below w1.heap.size w1 wr ∧ w1.heap.size + 1 ≤ wr.heap.size) (fun i _ => ks.length - (intOf i).toNat)
    case atStart => exact ⟨0, none, 0, 0, Nat.zero_le _, rfl, Box.new _ _ _, OwnOps.nil _ _ _ _ (Nat.le_refl _), (Below.refl _ _).alloc (Nat.le_refl _) _, by simp⟩
    case round =>
      obtain ⟨k, a, n, c, hk, rfl, hbx, hg, hbr, hsz⟩ := hrel
      by_cases hlt : k < ks.length
      · have hlt' : (k : Int) < (ks.length : Int) := by omega
        obtain ⟨⟨hq0, hq1⟩, -⟩ := HRI.out k hlt
        obtain ⟨q, hq⟩ : ∃ q : Nat, intN ks k = q := ⟨(intN ks k).toNat, by omega⟩
        have hqn : q < cs.length := by omega
        have hqn' : (q : Int) < (cs.length : Int) := by omega
        have KR := Lib.hid (K1.out.below hbr)
        obtain ⟨ka, kc, hkv, hkn, hkc⟩ := (KR.out.r 0 rfl : RowAt wr (.slice a3 ks.length c3) ks)
        simp only [Value.slice.injEq] at hkv
        obtain ⟨rfl, _, rfl⟩ := hkv
        obtain ⟨kb, koff, hka, hkcell⟩ := hkc (by omega)
        subst hka
        have x0 : wr.cell? ⟨kb, koff + k, none⟩ = some (.int .i64 (intN ks k)) := hkcell k hlt
        rw [hq] at x0
        obtain ⟨ca, cc, hcv, hcn, hcc⟩ := (KR.out.r 1 rfl : OpsAt wr (.slice a2 cs.length c2) cs)
        simp only [Value.slice.injEq] at hcv
        obtain ⟨rfl, _, rfl⟩ := hcv
        obtain ⟨b1, off1, ha1, hcell1⟩ := hcc (by omega)
        subst ha1
        obtain ⟨z0, a4, n4, c4, z1, hr⟩ := hcell1 q hqn
        have hro := HOK.out.2.2.2 q hqn
        have hrl : 1 ≤ (rowO cs q).length ∧ (rowO cs q).length ≤ 4 := by
          have h1 := HTX.out.2.2 q hqn
          have h2 := h1.2.1.1
          have h3 := h1.2.1.2
          omega
        have hr0 : 0 < (rowO cs q).length := by omega
        have hr4 : (rowO cs q).length ≤ 1000 := by omega
        have hn4 : n4 = (rowO cs q).length := by obtain ⟨_, _, hv, _⟩ := hr; simp only [Value.slice.injEq] at hv; exact hv.2.1
        subst hn4
        have HQ := Lib.hid hq
        have xc := KR.out.c 1 rfl
        have HLN : Hid ((pickL cs ks k).length = k) := Lib.hid (pickL_len _ _ _)
        have hkm : k ≤ 1000 := by omega
        clear hkcell hkc hcell1 hcc hro hrl hq
        have HBX := Lib.hid (hbx.below ((Below.refl _ _).alloc (Nat.le_refl _) (.cells #[.int .i64 (arO cs q), .slice a4 (rowO cs q).length c4] 95)))
        have HG := Lib.hid ((hg.below ((Below.refl _ _).alloc (Nat.le_refl _) (.cells #[.int .i64 (arO cs q), .slice a4 (rowO cs q).length c4] 95))).full)
        have HROW := Lib.hid (hr.below ((Below.refl _ _).alloc (Nat.le_refl _) (.cells #[.int .i64 (arO cs q), .slice a4 (rowO cs q).length c4] 95)))
        have HBW : Hid (Below w1.heap.size w1 (wr.alloc (.cells #[.int .i64 (arO cs q), .slice a4 (rowO cs q).length c4] 95))) := Lib.hid (hbr.alloc hbr.size _)
        have HSZ : Hid (w1.heap.size + 1 ≤ (wr.alloc (.cells #[.int .i64 (arO cs q), .slice a4 (rowO cs q).length c4] 95)).heap.size) := Lib.hid (by simp; omega)
        have BC := Box.new 95 wr #[.int .i64 (arO cs q), .slice a4 (rowO cs q).length c4]
        have y0 := BC.c 0 rfl
        have y1 := BC.c 1 rfl
        have g1 := HBX.out.c 1 rfl
        clear hbx hg hr hbr BC
        go_wp2
        refine wp_region_noPanic ?_
        refine wp_region_late (S := (fun w' => w'.cell? ⟨w1.heap.size, 1, none⟩ = some (.slice a n c) ∧ w'.cell? ⟨wr.heap.size, 0, none⟩ = some (.int .i64 (arO cs q)) ∧ w'.cell? ⟨wr.heap.size, 1, none⟩ = some (.slice a4 (rowO cs q).length c4) ∧ Below (wr.alloc (.cells #[.int .i64 (arO cs q), .slice a4 (rowO cs q).length c4] 95)).heap.size (wr.alloc (.cells #[.int .i64 (arO cs q), .slice a4 (rowO cs q).length c4] 95)) w')) [9, 11] (by kernel_rfl) ?_ (fun hHeld => ?_)
        · exact ⟨g1, y0, y1, (QW.refl _).drew.below _⟩
        refine wpAnyL_free (i := 0) (v := ?_) (some 38) rfl rfl (by kernel_rfl) (by kernel_rfl) (by kernel_rfl) (by decide) (fun _ _ _ h => h) (Or.inl ⟨by rfl, ?_⟩) (fun h0 => by assumption) ?_
        rotate_left
        · intro wS
          go_simp
          try with_reducible rfl
        try simp only [Act.put, List.setIfInBounds_toArray, List.set_cons_zero, List.set_cons_succ]
        refine wpAnyL_take (i := 1) (v := ?_) (some 39) rfl rfl (by kernel_rfl) (by kernel_rfl) (by kernel_rfl) (by kernel_rfl) (by kernel_rfl) (fun _ _ _ h => h) (Or.inl ⟨by rfl, ?_⟩) (by assumption) ?_
        rotate_left
        · intro wS hSw
          try dsimp only at hSw
          go_simp
          try with_reducible rfl
        try simp only [Act.put, List.setIfInBounds_toArray, List.set_cons_zero, List.set_cons_succ]
        refine wpAnyL_free (i := 2) (v := ?_) (some 40) rfl rfl (by kernel_rfl) (by kernel_rfl) (by kernel_rfl) (by decide) (fun _ _ _ h => h) (Or.inl ⟨by rfl, ?_⟩) (fun h0 => by assumption) ?_
        rotate_left
        · intro wS
          go_simp
          try with_reducible rfl
        try simp only [Act.put, List.setIfInBounds_toArray, List.set_cons_zero, List.set_cons_succ]
        refine wpAnyL_take (i := 3) (v := ?_) (some 41) rfl rfl (by kernel_rfl) (by kernel_rfl) (by kernel_rfl) (by kernel_rfl) (by kernel_rfl) (fun _ _ _ h => h) (Or.inl ⟨by rfl, ?_⟩) (by assumption) ?_
        rotate_left
        · intro wS hSw
          try dsimp only at hSw
          go_simp
          try with_reducible rfl
        try simp only [Act.put, List.setIfInBounds_toArray, List.set_cons_zero, List.set_cons_succ]
        refine wpAnyL_free (i := 4) (v := ?_) (some 42) rfl rfl (by kernel_rfl) (by kernel_rfl) (by kernel_rfl) (by decide) (fun _ _ _ h => h) (Or.inl ⟨by rfl, ?_⟩) (fun h0 => by assumption) ?_
        rotate_left
        · intro wS
          go_simp
          try with_reducible rfl
        try simp only [Act.put, List.setIfInBounds_toArray, List.set_cons_zero, List.set_cons_succ]
        refine wpAnyL_take (i := 5) (v := ?_) (some 43) rfl rfl (by kernel_rfl) (by kernel_rfl) (by kernel_rfl) (by kernel_rfl) (by kernel_rfl) (fun _ _ _ h => h) (Or.inl ⟨by rfl, ?_⟩) (by assumption) ?_
        rotate_left
        · intro wS hSw
          try dsimp only at hSw
          go_simp
          try with_reducible rfl
        try simp only [Act.put, List.setIfInBounds_toArray, List.set_cons_zero, List.set_cons_succ]
        refine wpAnyL_ready (rs := [6]) (by kernel_rfl) (by simp) ?_
        refine AllReadyL.cons rfl (fun K hK => ?_) AllReadyL.nil
        go_simp; go_at_call 97; refine (cloneInts _ (rowO cs q) _ (HROW.out.below hHeld.2.2.2) hr0 hr4).mono ?_; rintro e w3 ⟨g3, c3, rfl, ho3, hb3⟩
        have HO3 := Lib.hid (ho3.mono (B' := (wr.alloc (.cells #[.int .i64 (arO cs q), .slice a4 (rowO cs q).length c4] 95)).heap.size) hHeld.2.2.2.size)
        have HB3 := Lib.hid (hHeld.2.2.2.trans (hb3.mono hHeld.2.2.2.size))
        refine hK.out _ _ ?_ (fun hHeld => ?_)
        · exact ⟨below_cell hb3 hHeld.1, below_cell hb3 hHeld.2.1, below_cell hb3 hHeld.2.2.1, hHeld.2.2.2.trans (hb3.mono hHeld.2.2.2.size)⟩
        clear hK K
        try simp only [Act.put, List.setIfInBounds_toArray, List.set_cons_zero, List.set_cons_succ]
        refine wpAnyL_free (i := 7) (v := ?_) (some 45) rfl rfl (by kernel_rfl) (by kernel_rfl) (by kernel_rfl) (by decide) (fun _ _ _ h => h) (Or.inl ⟨by rfl, ?_⟩) (fun h0 => by assumption) ?_
        rotate_left
        · intro wS
          go_simp
          try with_reducible rfl
        try simp only [Act.put, List.setIfInBounds_toArray, List.set_cons_zero, List.set_cons_succ]
        refine wpAnyL_ready (rs := [8]) (by kernel_rfl) (by simp) ?_
        refine AllReadyL.cons rfl (fun K hK => ?_) AllReadyL.nil
        go_simp
        refine hK.out _ _ ?_ (fun hHeld => ?_)
        · exact ⟨below_cell ((Below.refl _ _).alloc (Nat.le_refl _) _) hHeld.1, below_cell ((Below.refl _ _).alloc (Nat.le_refl _) _) hHeld.2.1, below_cell ((Below.refl _ _).alloc (Nat.le_refl _) _) hHeld.2.2.1, hHeld.2.2.2.trans (((Below.refl _ _).alloc (Nat.le_refl _) _).mono hHeld.2.2.2.size)⟩
        clear hK K
        try simp only [Act.put, List.setIfInBounds_toArray, List.set_cons_zero, List.set_cons_succ]
        refine wpAnyL_ready (rs := [9]) (by kernel_rfl) (by simp) ?_
        refine AllReadyL.last rfl (by kernel_rfl) (fun K hK => ?_) AllReadyL.nil
        obtain ⟨V, hV⟩ := HG.out
        have hV' := hV
        obtain ⟨xs, hxo, hxx⟩ := hV'.outer
        have HV := Lib.hid hV
        have HX := Lib.hid hxx
        have hxl := ownsRow_len hxo
        have HXL := Lib.hid hxl
        have hal := (Below.refl w3.heap.size w3).alloc (Nat.le_refl _) (.cells #[.int .i64 (arO cs q), .slice (some ⟨g3, 0, none⟩) (rowO cs q).length c3] 95)
        have HAL := Lib.hid hal
        clear hV hV' hxx hxl hal
        refine step_append_lies _ (by rfl) _ _ 35 (by rfl) (w1.heap.size + 1) 95 i0 (.agg #[.int .i64 0, .slice none 0 0]) 2 32 Try.underlying35 hi hz0 hz1 hz2 (by rfl) (by decide) (.slice a n c) (pickL cs ks k).length _ (by rfl) ((ownsRow_below hxo (HB3.out)).alloc _) _ 1 1 [.int .i64 (arO cs q), .slice (some ⟨g3, 0, none⟩) (rowO cs q).length c3] (by rfl) (by rfl) (fun j u hu => World.news_of_block (heap_alloc_new w3 _) j u (by simpa using hu)) (by simp [Value.oneCell']) (by omega) (by rw [HLN.out]; unfold maxLen; omega) (by rw [HLN.out]; omega) (by have := HB3.out.size; have := HSZ.out; simp; omega) _ rfl ?_; intro g5 cap5 w5 hown5 hgrow5 hat5 hlt5
        have HGM := Lib.hid (OwnOpsV.grow HV.out rfl HXL.out HX.out (HB3.out.trans (HAL.out.mono HB3.out.size)) (OwnRow.below HO3.out HAL.out) HSZ.out hown5 hgrow5 (fun g hg => by
          obtain rfl : g5 = g := by simpa [Value.ownBlock] using hg
          rcases hat5 with e | e
          · exact .inl e
          · exact .inr (by omega)))
        have HB5 := Lib.hid (((HB3.out.trans (HAL.out.mono HB3.out.size)).mono HSZ.out).grown hgrow5 (by have := HB3.out.size; have := HSZ.out; simp; omega) (fun q hq => (hxo.lt q hq).1))
        have hb5 := HBX.out.same (HB5.out.block w1.heap.size (Nat.lt_succ_self _))
        have k2 : w5.cell? ⟨w1.heap.size, 1, none⟩ = some (.slice a n c) := hb5.c 1 rfl
        have z2 := hb5.free 1
        have HB6 := Lib.hid (hb5.set 1 (.slice (some ⟨g5, 0, none⟩) ((pickL cs ks k).length + 1) cap5))
        have hG2 : OwnOps 95 w5 (w1.heap.size + 1) w5.heap.size (.slice (some ⟨g5, 0, none⟩) ((pickL cs ks k).length + 1) cap5) ((pickL cs ks k) ++ [(arO cs q, rowO cs q)]) := by
          have e : ((pickL cs ks k) ++ [(arO cs q, rowO cs q)]).length = (pickL cs ks k).length + 1 := by simp
          show ∃ V, OwnOpsV _ _ _ _ _ ((pickL cs ks k) ++ [(arO cs q, rowO cs q)]).length V _
          rw [e]
          exact ⟨_, HGM.out⟩
        have HG6 := Lib.hid ((hG2.stored (p := ⟨w1.heap.size, 1, none⟩) (Nat.lt_succ_self _) (.slice (some ⟨g5, 0, none⟩) ((pickL cs ks k).length + 1) cap5)).full)
        have HBE := Lib.hid ((HBW.out.trans (HB5.out.mono (Nat.le_succ _))).setCell (p := ⟨w1.heap.size, 1, none⟩) (Nat.le_refl _) (.slice (some ⟨g5, 0, none⟩) ((pickL cs ks k).length + 1) cap5))
        have HZ6 : Hid (w1.heap.size + 1 ≤ (w5.setCell ⟨w1.heap.size, 1, none⟩ (.slice (some ⟨g5, 0, none⟩) ((pickL cs ks k).length + 1) cap5)).heap.size) := Lib.hid (by have := HB5.out.size; have := HSZ.out; simp [World.setCell]; omega)
        clear hown5 hgrow5 hat5 hlt5 hxo hb5 hG2
        refine hK.out _ _ ?_
        clear hK K
        try simp only [Act.put, List.setIfInBounds_toArray, List.set_cons_zero, List.set_cons_succ]
        refine wpAnyL_free (i := 10) (v := ?_) (some 48) rfl rfl (by kernel_rfl) (by kernel_rfl) (by kernel_rfl) (by decide) (fun _ _ _ h => h) (Or.inl ⟨by rfl, ?_⟩) (fun h0 => absurd h0 (by decide)) ?_
        rotate_left
        · intro wS
          go_simp
          try with_reducible rfl
        try simp only [Act.put, List.setIfInBounds_toArray, List.set_cons_zero, List.set_cons_succ]
        refine wpAnyL_ready (rs := [11]) (by kernel_rfl) (by simp) ?_
        refine AllReadyL.last rfl (by kernel_rfl) (fun K hK => ?_) AllReadyL.nil
        go_simp
        refine hK.out _ _ ?_
        clear hK K
        try simp only [Act.put, List.setIfInBounds_toArray, List.set_cons_zero, List.set_cons_succ]
        refine wpAnyL_done (by kernel_rfl) ?_ _
        refine NoPanic.normal ?_
        go_wp2
        go_roundw
        case rel =>
          refine ⟨k + 1, _, _, _, by omega, by go_num, HB6.out, ?_, HBE.out, HZ6.out⟩
          rw [pickL_succ, HQ.out, Int.toNat_natCast]
          have h := HG6.out
          exact h
        case measure => simp [intOf]; omega
      · obtain rfl : k = ks.length := by omega
        have KR := Lib.hid (K1.out.below hbr)
        have HRR := Lib.hid (HR1.out.same (hbr.block _ HR1.out.lt))
        have g0 := hbx.c 0 rfl
        have g1 := hbx.c 1 rfl
        have HG := Lib.hid hg
        clear hbx hg hbr
        have e0 := HRR.out.c 0 rfl
        have e1 := HRR.out.c 1 rfl
        have f0 := HRR.out.free 0
        have f1 := HRR.out.free 1
        go_wp2
        refine bodyPost_ret (v := .tuple #[.agg #[.int .i64 (va), .slice a n c], .int .i64 0]) (by simp [results, Try.results45, go_sem, e0, e1]) rfl ⟨_, _, _, rfl, ?_, ?_⟩
        · exact (((HG.out.stored (by show w.heap.size + 2 < w1.heap.size + 1; omega) _).stored (by show w.heap.size + 2 < w1.heap.size + 1; omega) _).mono (by omega)).full
        · exact (KR.out.bel.setCell (by show w.heap.size ≤ w.heap.size + 2; omega) _).setCell (by show w.heap.size ≤ w.heap.size + 2; omega) _
  · have H1 := Lib.hid (Tells.yes h1)
    have H2 := Lib.hid (Tells.no h2)
    clear h1 h2
    go_enter Try.func45, Try.ntmps45
    go_wp2_with fail
    refine (implValidInstance _ _ _ _ _ _ _ _ _ _ true _ (K0.out.r 2 rfl :) (K0.out.r 1 rfl :) H1.out).mono ?_
    rintro e w1 ⟨rfl, hb1⟩
    have K1 := Lib.hid (K0.out.below hb1)
    have HR1 := Lib.hid (HRB.out.below hb1)
    have hz : w.heap.size + 3 ≤ w1.heap.size := by have := hb1.size; simpa using this
    have c0' := K1.out.c 0 rfl
    have c1' := K1.out.c 1 rfl
    have e0 := HR1.out.c 0 rfl
    have e1 := HR1.out.c 1 rfl
    have f0 := HR1.out.free 0
    have f1 := HR1.out.free 1
    clear hb1
    go_wp2_with (go_at_call 89; refine (isAscendingBelow _ _ _ false _ (K1.out.r 0 rfl :) H2.out).mono ?_; rintro e w2 ⟨rfl, rfl⟩)

    try go_wp2
    refine bodyPost_ret (v := .tuple #[.agg #[.int .i64 0, .slice none 0 0], .int .i64 2]) (by simp [results, Try.results45, go_sem, e0, e1]) rfl ⟨_, _, _, rfl, OwnOps.nil _ _ _ _ (Nat.le_refl _), ?_⟩
    exact (K1.out.bel.setCell (by show w.heap.size ≤ w.heap.size + 2; omega) _).setCell (by show w.heap.size ≤ w.heap.size + 2; omega) _
  · have H1 := Lib.hid (Tells.no h1)
    clear h1
    go_enter Try.func45, Try.ntmps45
    go_wp2_with fail
    refine (implValidInstance _ _ _ _ _ _ _ _ _ _ false _ (K0.out.r 2 rfl :) (K0.out.r 1 rfl :) H1.out).mono ?_
    rintro e w1 ⟨rfl, hb1⟩
    have K1 := Lib.hid (K0.out.below hb1)
    have HR1 := Lib.hid (HRB.out.below hb1)
    have hz : w.heap.size + 3 ≤ w1.heap.size := by have := hb1.size; simpa using this
    have c0' := K1.out.c 0 rfl
    have c1' := K1.out.c 1 rfl
    have e0 := HR1.out.c 0 rfl
    have e1 := HR1.out.c 1 rfl
    have f0 := HR1.out.free 0
    have f1 := HR1.out.free 1
    clear hb1
    clear c0' c1'

    try go_wp2
    refine bodyPost_ret (v := .tuple #[.agg #[.int .i64 0, .slice none 0 0], .int .i64 1]) (by simp [results, Try.results45, go_sem, e0, e1]) rfl ⟨_, _, _, rfl, OwnOps.nil _ _ _ _ (Nat.le_refl _), ?_⟩
    exact (K1.out.bel.setCell (by show w.heap.size ≤ w.heap.size + 2; omega) _).setCell (by show w.heap.size ≤ w.heap.size + 2; omega) _


set_option linter.unusedSimpArgs false in
set_option maxHeartbeats 2000000 in
set_option maxRecDepth 100000 in
theorem specRestrictInstance (sz : Int) (a1 : Option Addr) (n1 c1 : Nat) (rs : List (Int × List (List Int))) (va : Int) (a2 : Option Addr) (n2 c2 : Nat) (cs : List (Int × List Int)) (v3 : Value) (ks : List Int) (x : Int) (zs : List (Int × List Int)) (cd : Int) (w : World) (h1 : RelsAt w (.slice a1 n1 c1) rs) (h2 : OpsAt w (.slice a2 n2 c2) cs) (h3 : RowAt w v3 ks) (hi : RestrictInstanceIs sz rs va cs ks x zs cd) :
    Calls Try.prog 44 #[.agg #[.int .i64 sz, .slice a1 n1 c1], .agg #[.int .i64 va, .slice a2 n2 c2], v3] w (MadeI w x zs cd) := by
  have HRB : Hid (Box 37 (((w.alloc (.cells #[.int .i64 sz, .slice a1 n1 c1] 33)).alloc (.cells #[.int .i64 va, .slice a2 n2 c2] 37)).alloc (.cells #[.int .i64 0, .slice none 0 0] 37)) (w.heap.size + 2) #[.int .i64 0, .slice none 0 0]) := Lib.hid (by
    have h := Box.new 37 ((w.alloc (.cells #[.int .i64 sz, .slice a1 n1 c1] 33)).alloc (.cells #[.int .i64 va, .slice a2 n2 c2] 37)) #[.int .i64 0, .slice none 0 0]
    simp only [World.size_alloc] at h
    exact h)
  obtain rfl : n2 = cs.length := by obtain ⟨_, _, hv, _⟩ := h2; simp only [Value.slice.injEq] at hv; exact hv.2.1
  have hcl : cs.length ≤ 9223372036854775807 := by obtain ⟨_, _, _, hn, _⟩ := h2; exact hn
  obtain ⟨a3, c3, rfl, hkl⟩ : ∃ a3 c3, v3 = .slice a3 ks.length c3 ∧ ks.length ≤ 9223372036854775807 := by obtain ⟨a, c, hv, hn, _⟩ := h3; exact ⟨a, c, hv, hn⟩
  have HTP : Hid (TplAt (((w.alloc (.cells #[.int .i64 sz, .slice a1 n1 c1] 33)).alloc (.cells #[.int .i64 va, .slice a2 cs.length c2] 37)).alloc (.cells #[.int .i64 0, .slice none 0 0] 37)) w.heap.size 0 sz rs) := Lib.hid (((TplAt.new w sz a1 n1 c1 rs 33 h1).below ((Below.refl _ _).alloc (Nat.le_refl _) (.cells #[.int .i64 va, .slice a2 cs.length c2] 37))).below ((Below.refl _ _).alloc (Nat.le_refl _) _))
  have HIP : Hid (InstAt (((w.alloc (.cells #[.int .i64 sz, .slice a1 n1 c1] 33)).alloc (.cells #[.int .i64 va, .slice a2 cs.length c2] 37)).alloc (.cells #[.int .i64 0, .slice none 0 0] 37)) (w.heap.size + 1) 0 va cs) := Lib.hid (by
    have h := (InstAt.new (w.alloc (.cells #[.int .i64 sz, .slice a1 n1 c1] 33)) va a2 cs.length c2 cs 37 (h2.below ((Below.refl _ _).alloc (Nat.le_refl _) _))).below ((Below.refl _ _).alloc (Nat.le_refl _) (.cells #[.int .i64 0, .slice none 0 0] 37))
    rwa [World.size_alloc] at h)
  have K0 := Lib.hid (((((((Kept.start w).read (lives_rels _ _) h1).read (lives_ops _ _) h2).read (lives_row _ _) h3).box w.heap.size rfl (.int .i64 sz) (.slice a1 n1 c1) 33).box (w.heap.size + 1) (by simp) (.int .i64 va) (.slice a2 cs.length c2) 37).below ((Below.refl _ _).alloc (Nat.le_refl _) (.cells #[.int .i64 0, .slice none 0 0] 37)))
  clear h1 h2 h3
  rcases hi with ⟨h1, h2, rfl, rfl, rfl⟩ | ⟨h1, h2, rfl, rfl, rfl⟩ | ⟨h1, rfl, rfl, rfl⟩
  · have H1 := Lib.hid (Tells.yes h1)
    have HOK := Lib.hid h1
    have HTX := Lib.hid h1.text
    have H2 := Lib.hid (Tells.yes h2)
    have HRI := Lib.hid h2
    have hk24 : ks.length ≤ 24 := Nat.le_trans (rises_len h2) h1.2.2.1
    obtain ⟨i0, hi, hz0, hz1, hz2⟩ := info_parts info_Con
    clear h1 h2
    go_enter Try.func44, Try.ntmps44
    go_wp2_with fail
    refine (l05Ok _ _ _ rs _ _ _ cs true _ HTP.out HIP.out H1.out).mono ?_
    rintro e w0 ⟨rfl, hq1⟩
    have hb1 : Below _ _ w0 := hq1.bel
    have KA := Lib.hid (K0.out.below hb1)
    have HRA := Lib.hid (HRB.out.below hb1)
    have hz : w.heap.size + 3 ≤ w0.heap.size := by have := hb1.size; simpa using this
    have c0' := KA.out.c 0 rfl
    have c1' := KA.out.c 1 rfl
    have e0 := HRA.out.c 0 rfl
    have e1 := HRA.out.c 1 rfl
    have f0 := HRA.out.free 0
    have f1 := HRA.out.free 1
    clear hb1 hq1
    go_wp2_with fail
    refine (l00Rises _ _ cs.length _ true _ (KA.out.r 0 rfl :) (by first | rfl | omega) H2.out).mono ?_
    rintro e w1 ⟨rfl, hq2⟩
    have hb2 : Below _ _ w1 := hq2.bel
    have hz0w := hz
    clear c0' c1' e0 e1 f0 f1 hz
    have K1 := Lib.hid (KA.out.below hb2)
    have HR1 := Lib.hid (HRA.out.below hb2)
    have hz : w.heap.size + 3 ≤ w1.heap.size := by have h1 := hb2.size; have h2 := hz0w; omega
    have c0' := K1.out.c 0 rfl
    have c1' := K1.out.c 1 rfl
    have e0 := HR1.out.c 0 rfl
    have e1 := HR1.out.c 1 rfl
    have f0 := HR1.out.free 0
    have f1 := HR1.out.free 1
    clear hb2 hq2 KA HRA hz0w
    go_wp2
    clear c0' c1' e0 e1 f0 f1
    go_loopw [9] (fun i wr => ∃ (k : Nat) (a : Option Addr) (n c : Nat), k ≤ ks.length ∧ i = .int .i64 k ∧ Box 37 wr w1.heap.size #[.int .i64 va, .slice a n c] ∧ OwnOps 95 wr (w1.heap.size + 1) wr.heap.size (.slice a n c) (pickL cs ks k) ∧ Below w1.heap.size w1 wr ∧ w1.heap.size + 1 ≤ wr.heap.size) (fun i _ => ks.length - (intOf i).toNat)
    case atStart => exact ⟨0, none, 0, 0, Nat.zero_le _, rfl, Box.new _ _ _, OwnOps.nil _ _ _ _ (Nat.le_refl _), (Below.refl _ _).alloc (Nat.le_refl _) _, by simp⟩
    case round =>
      obtain ⟨k, a, n, c, hk, rfl, hbx, hg, hbr, hsz⟩ := hrel
      by_cases hlt : k < ks.length
      · have hlt' : (k : Int) < (ks.length : Int) := by omega
        obtain ⟨⟨hq0, hq1⟩, -⟩ := HRI.out k hlt
        obtain ⟨q, hq⟩ : ∃ q : Nat, intN ks k = q := ⟨(intN ks k).toNat, by omega⟩
        have hqn : q < cs.length := by omega
        have hqn' : (q : Int) < (cs.length : Int) := by omega
        have KR := Lib.hid (K1.out.below hbr)
        obtain ⟨ka, kc, hkv, hkn, hkc⟩ := (KR.out.r 0 rfl : RowAt wr (.slice a3 ks.length c3) ks)
        simp only [Value.slice.injEq] at hkv
        obtain ⟨rfl, _, rfl⟩ := hkv
        obtain ⟨kb, koff, hka, hkcell⟩ := hkc (by omega)
        subst hka
        have x0 : wr.cell? ⟨kb, koff + k, none⟩ = some (.int .i64 (intN ks k)) := hkcell k hlt
        rw [hq] at x0
        obtain ⟨ca, cc, hcv, hcn, hcc⟩ := (KR.out.r 1 rfl : OpsAt wr (.slice a2 cs.length c2) cs)
        simp only [Value.slice.injEq] at hcv
        obtain ⟨rfl, _, rfl⟩ := hcv
        obtain ⟨b1, off1, ha1, hcell1⟩ := hcc (by omega)
        subst ha1
        obtain ⟨z0, a4, n4, c4, z1, hr⟩ := hcell1 q hqn
        have hro := HOK.out.2.2.2 q hqn
        have hrl : 1 ≤ (rowO cs q).length ∧ (rowO cs q).length ≤ 4 := by
          have h1 := HTX.out.2.2 q hqn
          have h2 := h1.2.1.1
          have h3 := h1.2.1.2
          omega
        have hr0 : 0 < (rowO cs q).length := by omega
        have hr4 : (rowO cs q).length ≤ 1000 := by omega
        have hn4 : n4 = (rowO cs q).length := by obtain ⟨_, _, hv, _⟩ := hr; simp only [Value.slice.injEq] at hv; exact hv.2.1
        subst hn4
        have HQ := Lib.hid hq
        have xc := KR.out.c 1 rfl
        have HLN : Hid ((pickL cs ks k).length = k) := Lib.hid (pickL_len _ _ _)
        have hkm : k ≤ 1000 := by omega
        clear hkcell hkc hcell1 hcc hro hrl hq
        have HBX := Lib.hid hbx
        have HG := Lib.hid hg
        have HROW := Lib.hid hr
        have HBW := Lib.hid hbr
        have HSZ := Lib.hid hsz
        have y0 := z0
        have y1 := z1
        have g1 := HBX.out.c 1 rfl
        clear hbx hg hr hbr
        go_wp2
        go_quiet (fail)
        go_wp2
        refine wp_region_noPanic ?_
        refine wp_region_late (S := (fun w' => w'.cell? ⟨w1.heap.size, 1, none⟩ = some (.slice a n c) ∧ w'.cell? ⟨b1, off1 + q * 2, none⟩ = some (.int .i64 (arO cs q)) ∧ w'.cell? ⟨b1, off1 + q * 2 + 1, none⟩ = some (.slice a4 (rowO cs q).length c4) ∧ Below wr.heap.size wr w')) [13, 15] (by kernel_rfl) ?_ (fun hHeld => ?_)
        · exact ⟨g1, y0, y1, ((QW.refl _).drewN _).drew.below _⟩
        refine wpAnyL_free (i := 0) (v := ?_) (some 38) rfl rfl (by kernel_rfl) (by kernel_rfl) (by kernel_rfl) (by decide) (fun _ _ _ h => h) (Or.inl ⟨by rfl, ?_⟩) (fun h0 => by assumption) ?_
        rotate_left
        · intro wS
          go_simp
          try with_reducible rfl
        try simp only [Act.put, List.setIfInBounds_toArray, List.set_cons_zero, List.set_cons_succ]
        refine wpAnyL_take (i := 1) (v := ?_) (some 39) rfl rfl (by kernel_rfl) (by kernel_rfl) (by kernel_rfl) (by kernel_rfl) (by kernel_rfl) (fun _ _ _ h => h) (Or.inl ⟨by rfl, ?_⟩) (by assumption) ?_
        rotate_left
        · intro wS hSw
          try dsimp only at hSw
          go_simp
          try with_reducible rfl
        try simp only [Act.put, List.setIfInBounds_toArray, List.set_cons_zero, List.set_cons_succ]
        refine wpAnyL_free (i := 2) (v := ?_) (some 40) rfl rfl (by kernel_rfl) (by kernel_rfl) (by kernel_rfl) (by decide) (fun _ _ _ h => h) (Or.inl ⟨by rfl, ?_⟩) (fun h0 => by assumption) ?_
        rotate_left
        · intro wS
          go_simp
          try with_reducible rfl
        try simp only [Act.put, List.setIfInBounds_toArray, List.set_cons_zero, List.set_cons_succ]
        refine wpAnyL_free (i := 3) (v := ?_) (some 41) rfl rfl (by kernel_rfl) (by kernel_rfl) (by kernel_rfl) (by decide) (fun _ _ _ h => h) (Or.inl ⟨by rfl, ?_⟩) (fun h0 => by assumption) ?_
        rotate_left
        · intro wS
          go_simp
          try with_reducible rfl
        try simp only [Act.put, List.setIfInBounds_toArray, List.set_cons_zero, List.set_cons_succ]
        refine wpAnyL_free (i := 4) (v := ?_) (some 42) rfl rfl (by kernel_rfl) (by kernel_rfl) (by kernel_rfl) (by decide) (fun _ _ _ h => h) (Or.inl ⟨by rfl, ?_⟩) (fun h0 => by assumption) ?_
        rotate_left
        · intro wS
          go_simp
          try with_reducible rfl
        try simp only [Act.put, List.setIfInBounds_toArray, List.set_cons_zero, List.set_cons_succ]
        refine wpAnyL_take (i := 5) (v := ?_) (some 43) rfl rfl (by kernel_rfl) (by kernel_rfl) (by kernel_rfl) (by kernel_rfl) (by kernel_rfl) (fun _ _ _ h => h) (Or.inl ⟨by rfl, ?_⟩) (by assumption) ?_
        rotate_left
        · intro wS hSw
          try dsimp only at hSw
          go_simp
          try with_reducible rfl
        try simp only [Act.put, List.setIfInBounds_toArray, List.set_cons_zero, List.set_cons_succ]
        refine wpAnyL_free (i := 6) (v := ?_) (some 44) rfl rfl (by kernel_rfl) (by kernel_rfl) (by kernel_rfl) (by decide) (fun _ _ _ h => h) (Or.inl ⟨by rfl, ?_⟩) (fun h0 => by assumption) ?_
        rotate_left
        · intro wS
          go_simp
          try with_reducible rfl
        try simp only [Act.put, List.setIfInBounds_toArray, List.set_cons_zero, List.set_cons_succ]
        refine wpAnyL_free (i := 7) (v := ?_) (some 45) rfl rfl (by kernel_rfl) (by kernel_rfl) (by kernel_rfl) (by decide) (fun _ _ _ h => h) (Or.inl ⟨by rfl, ?_⟩) (fun h0 => by assumption) ?_
        rotate_left
        · intro wS
          go_simp
          try with_reducible rfl
        try simp only [Act.put, List.setIfInBounds_toArray, List.set_cons_zero, List.set_cons_succ]
        refine wpAnyL_free (i := 8) (v := ?_) (some 46) rfl rfl (by kernel_rfl) (by kernel_rfl) (by kernel_rfl) (by decide) (fun _ _ _ h => h) (Or.inl ⟨by rfl, ?_⟩) (fun h0 => by assumption) ?_
        rotate_left
        · intro wS
          go_simp
          try with_reducible rfl
        try simp only [Act.put, List.setIfInBounds_toArray, List.set_cons_zero, List.set_cons_succ]
        refine wpAnyL_take (i := 9) (v := ?_) (some 47) rfl rfl (by kernel_rfl) (by kernel_rfl) (by kernel_rfl) (by kernel_rfl) (by kernel_rfl) (fun _ _ _ h => h) (Or.inl ⟨by rfl, ?_⟩) (by assumption) ?_
        rotate_left
        · intro wS hSw
          try dsimp only at hSw
          go_simp
          try with_reducible rfl
        try simp only [Act.put, List.setIfInBounds_toArray, List.set_cons_zero, List.set_cons_succ]
        refine wpAnyL_ready (rs := [10]) (by kernel_rfl) (by simp) ?_
        refine AllReadyL.cons rfl (fun K hK => ?_) AllReadyL.nil
        go_simp; go_at_call 96; refine (l00Own _ _ _ (rowO cs q) _ (HROW.out.below hHeld.2.2.2) hr0 (by omega)).mono ?_; rintro e w3 ⟨a3, c3, rfl, ho3, hb3⟩
        have HO3 := Lib.hid (ho3.mono (B' := wr.heap.size) hHeld.2.2.2.size)
        have HB3 := Lib.hid (hHeld.2.2.2.trans (hb3.mono hHeld.2.2.2.size))
        refine hK.out _ _ ?_ (fun hHeld => ?_)
        · exact ⟨below_cell hb3 hHeld.1, below_cell hb3 hHeld.2.1, below_cell hb3 hHeld.2.2.1, hHeld.2.2.2.trans (hb3.mono hHeld.2.2.2.size)⟩
        clear hK K
        try simp only [Act.put, List.setIfInBounds_toArray, List.set_cons_zero, List.set_cons_succ]
        refine wpAnyL_free (i := 11) (v := ?_) (some 49) rfl rfl (by kernel_rfl) (by kernel_rfl) (by kernel_rfl) (by decide) (fun _ _ _ h => h) (Or.inl ⟨by rfl, ?_⟩) (fun h0 => by assumption) ?_
        rotate_left
        · intro wS
          go_simp
          try with_reducible rfl
        try simp only [Act.put, List.setIfInBounds_toArray, List.set_cons_zero, List.set_cons_succ]
        refine wpAnyL_ready (rs := [12]) (by kernel_rfl) (by simp) ?_
        refine AllReadyL.cons rfl (fun K hK => ?_) AllReadyL.nil
        go_simp
        refine hK.out _ _ ?_ (fun hHeld => ?_)
        · exact ⟨below_cell ((Below.refl _ _).alloc (Nat.le_refl _) _) hHeld.1, below_cell ((Below.refl _ _).alloc (Nat.le_refl _) _) hHeld.2.1, below_cell ((Below.refl _ _).alloc (Nat.le_refl _) _) hHeld.2.2.1, hHeld.2.2.2.trans (((Below.refl _ _).alloc (Nat.le_refl _) _).mono hHeld.2.2.2.size)⟩
        clear hK K
        try simp only [Act.put, List.setIfInBounds_toArray, List.set_cons_zero, List.set_cons_succ]
        refine wpAnyL_ready (rs := [13]) (by kernel_rfl) (by simp) ?_
        refine AllReadyL.last rfl (by kernel_rfl) (fun K hK => ?_) AllReadyL.nil
        obtain ⟨V, hV⟩ := HG.out
        have hV' := hV
        obtain ⟨xs, hxo, hxx⟩ := hV'.outer
        have HV := Lib.hid hV
        have HX := Lib.hid hxx
        have hxl := ownsRow_len hxo
        have HXL := Lib.hid hxl
        have hal := (Below.refl w3.heap.size w3).alloc (Nat.le_refl _) (.cells #[.int .i64 (arO cs q), .slice a3 (rowO cs q).length c3] 95)
        have HAL := Lib.hid hal
        clear hV hV' hxx hxl hal
        refine step_append_lies _ (by rfl) _ _ 35 (by rfl) (w1.heap.size + 1) 95 i0 (.agg #[.int .i64 0, .slice none 0 0]) 2 32 Try.underlying35 hi hz0 hz1 hz2 (by rfl) (by decide) (.slice a n c) (pickL cs ks k).length _ (by rfl) ((ownsRow_below hxo (HB3.out)).alloc _) _ 1 1 [.int .i64 (arO cs q), .slice a3 (rowO cs q).length c3] (by rfl) (by rfl) (fun j u hu => World.news_of_block (heap_alloc_new w3 _) j u (by simpa using hu)) (by simp [Value.oneCell']) (by omega) (by rw [HLN.out]; unfold maxLen; omega) (by rw [HLN.out]; omega) (by have := HB3.out.size; have := HSZ.out; simp; omega) _ rfl ?_; intro g5 cap5 w5 hown5 hgrow5 hat5 hlt5
        have HGM := Lib.hid (OwnOpsV.grow HV.out rfl HXL.out HX.out (HB3.out.trans (HAL.out.mono HB3.out.size)) (OwnRow.below HO3.out HAL.out) HSZ.out hown5 hgrow5 (fun g hg => by
          obtain rfl : g5 = g := by simpa [Value.ownBlock] using hg
          rcases hat5 with e | e
          · exact .inl e
          · exact .inr (by omega)))
        have HB5 := Lib.hid (((HB3.out.trans (HAL.out.mono HB3.out.size)).mono HSZ.out).grown hgrow5 (by have := HB3.out.size; have := HSZ.out; simp; omega) (fun q hq => (hxo.lt q hq).1))
        have hb5 := HBX.out.same (HB5.out.block w1.heap.size (Nat.lt_succ_self _))
        have k2 : w5.cell? ⟨w1.heap.size, 1, none⟩ = some (.slice a n c) := hb5.c 1 rfl
        have z2 := hb5.free 1
        have HB6 := Lib.hid (hb5.set 1 (.slice (some ⟨g5, 0, none⟩) ((pickL cs ks k).length + 1) cap5))
        have hG2 : OwnOps 95 w5 (w1.heap.size + 1) w5.heap.size (.slice (some ⟨g5, 0, none⟩) ((pickL cs ks k).length + 1) cap5) ((pickL cs ks k) ++ [(arO cs q, rowO cs q)]) := by
          have e : ((pickL cs ks k) ++ [(arO cs q, rowO cs q)]).length = (pickL cs ks k).length + 1 := by simp
          show ∃ V, OwnOpsV _ _ _ _ _ ((pickL cs ks k) ++ [(arO cs q, rowO cs q)]).length V _
          rw [e]
          exact ⟨_, HGM.out⟩
        have HG6 := Lib.hid ((hG2.stored (p := ⟨w1.heap.size, 1, none⟩) (Nat.lt_succ_self _) (.slice (some ⟨g5, 0, none⟩) ((pickL cs ks k).length + 1) cap5)).full)
        have HBE := Lib.hid ((HBW.out.trans (HB5.out.mono (Nat.le_succ _))).setCell (p := ⟨w1.heap.size, 1, none⟩) (Nat.le_refl _) (.slice (some ⟨g5, 0, none⟩) ((pickL cs ks k).length + 1) cap5))
        have HZ6 : Hid (w1.heap.size + 1 ≤ (w5.setCell ⟨w1.heap.size, 1, none⟩ (.slice (some ⟨g5, 0, none⟩) ((pickL cs ks k).length + 1) cap5)).heap.size) := Lib.hid (by have := HB5.out.size; have := HSZ.out; simp [World.setCell]; omega)
        clear hown5 hgrow5 hat5 hlt5 hxo hb5 hG2
        refine hK.out _ _ ?_
        clear hK K
        try simp only [Act.put, List.setIfInBounds_toArray, List.set_cons_zero, List.set_cons_succ]
        refine wpAnyL_free (i := 14) (v := ?_) (some 52) rfl rfl (by kernel_rfl) (by kernel_rfl) (by kernel_rfl) (by decide) (fun _ _ _ h => h) (Or.inl ⟨by rfl, ?_⟩) (fun h0 => absurd h0 (by decide)) ?_
        rotate_left
        · intro wS
          go_simp
          try with_reducible rfl
        try simp only [Act.put, List.setIfInBounds_toArray, List.set_cons_zero, List.set_cons_succ]
        refine wpAnyL_ready (rs := [15]) (by kernel_rfl) (by simp) ?_
        refine AllReadyL.last rfl (by kernel_rfl) (fun K hK => ?_) AllReadyL.nil
        go_simp
        refine hK.out _ _ ?_
        clear hK K
        try simp only [Act.put, List.setIfInBounds_toArray, List.set_cons_zero, List.set_cons_succ]
        refine wpAnyL_done (by kernel_rfl) ?_ _
        refine NoPanic.normal ?_
        go_wp2
        go_roundw
        case rel =>
          refine ⟨k + 1, _, _, _, by omega, by go_num, HB6.out, ?_, HBE.out, HZ6.out⟩
          rw [pickL_succ, HQ.out, Int.toNat_natCast]
          have h := HG6.out
          exact h
        case measure => simp [intOf]; omega
      · obtain rfl : k = ks.length := by omega
        have KR := Lib.hid (K1.out.below hbr)
        have HRR := Lib.hid (HR1.out.same (hbr.block _ HR1.out.lt))
        have g0 := hbx.c 0 rfl
        have g1 := hbx.c 1 rfl
        have HG := Lib.hid hg
        clear hbx hg hbr
        have e0 := HRR.out.c 0 rfl
        have e1 := HRR.out.c 1 rfl
        have f0 := HRR.out.free 0
        have f1 := HRR.out.free 1
        go_wp2
        refine bodyPost_ret (v := .tuple #[.agg #[.int .i64 (va), .slice a n c], .int .i64 0]) (by simp [results, Try.results44, go_sem, e0, e1]) rfl ⟨_, _, _, rfl, ?_, ?_⟩
        · exact (((HG.out.stored (by show w.heap.size + 2 < w1.heap.size + 1; omega) _).stored (by show w.heap.size + 2 < w1.heap.size + 1; omega) _).mono (by omega)).full
        · exact (KR.out.bel.setCell (by show w.heap.size ≤ w.heap.size + 2; omega) _).setCell (by show w.heap.size ≤ w.heap.size + 2; omega) _
  · have H1 := Lib.hid (Tells.yes h1)
    have H2 := Lib.hid (Tells.no h2)
    clear h1 h2
    go_enter Try.func44, Try.ntmps44
    go_wp2_with fail
    refine (l05Ok _ _ _ rs _ _ _ cs true _ HTP.out HIP.out H1.out).mono ?_
    rintro e w0 ⟨rfl, hq1⟩
    have hb1 : Below _ _ w0 := hq1.bel
    have KA := Lib.hid (K0.out.below hb1)
    have HRA := Lib.hid (HRB.out.below hb1)
    have hz : w.heap.size + 3 ≤ w0.heap.size := by have := hb1.size; simpa using this
    have c0' := KA.out.c 0 rfl
    have c1' := KA.out.c 1 rfl
    have e0 := HRA.out.c 0 rfl
    have e1 := HRA.out.c 1 rfl
    have f0 := HRA.out.free 0
    have f1 := HRA.out.free 1
    clear hb1 hq1
    go_wp2_with fail
    refine (l00Rises _ _ cs.length _ false _ (KA.out.r 0 rfl :) (by first | rfl | omega) H2.out).mono ?_
    rintro e w1 ⟨rfl, hq2⟩
    have hb2 : Below _ _ w1 := hq2.bel
    have hz0w := hz
    clear c0' c1' e0 e1 f0 f1 hz
    have K1 := Lib.hid (KA.out.below hb2)
    have HR1 := Lib.hid (HRA.out.below hb2)
    have hz : w.heap.size + 3 ≤ w1.heap.size := by have h1 := hb2.size; have h2 := hz0w; omega
    have c0' := K1.out.c 0 rfl
    have c1' := K1.out.c 1 rfl
    have e0 := HR1.out.c 0 rfl
    have e1 := HR1.out.c 1 rfl
    have f0 := HR1.out.free 0
    have f1 := HR1.out.free 1
    clear hb2 hq2 KA HRA hz0w
    go_wp2

    try go_wp2
    refine bodyPost_ret (v := .tuple #[.agg #[.int .i64 0, .slice none 0 0], .int .i64 2]) (by simp [results, Try.results44, go_sem, e0, e1]) rfl ⟨_, _, _, rfl, OwnOps.nil _ _ _ _ (Nat.le_refl _), ?_⟩
    exact (K1.out.bel.setCell (by show w.heap.size ≤ w.heap.size + 2; omega) _).setCell (by show w.heap.size ≤ w.heap.size + 2; omega) _
  · have H1 := Lib.hid (Tells.no h1)
    clear h1
    go_enter Try.func44, Try.ntmps44
    go_wp2_with fail
    refine (l05Ok _ _ _ rs _ _ _ cs false _ HTP.out HIP.out H1.out).mono ?_
    rintro e w1 ⟨rfl, hq1⟩
    have hb1 : Below _ _ w1 := hq1.bel
    have K1 := Lib.hid (K0.out.below hb1)
    have HR1 := Lib.hid (HRB.out.below hb1)
    have hz : w.heap.size + 3 ≤ w1.heap.size := by have := hb1.size; simpa using this
    have c0' := K1.out.c 0 rfl
    have c1' := K1.out.c 1 rfl
    have e0 := HR1.out.c 0 rfl
    have e1 := HR1.out.c 1 rfl
    have f0 := HR1.out.free 0
    have f1 := HR1.out.free 1
    clear hb1 hq1
    clear c0' c1'

    try go_wp2
    refine bodyPost_ret (v := .tuple #[.agg #[.int .i64 0, .slice none 0 0], .int .i64 1]) (by simp [results, Try.results44, go_sem, e0, e1]) rfl ⟨_, _, _, rfl, OwnOps.nil _ _ _ _ (Nat.le_refl _), ?_⟩
    exact (K1.out.bel.setCell (by show w.heap.size ≤ w.heap.size + 2; omega) _).setCell (by show w.heap.size ≤ w.heap.size + 2; omega) _


end Go.Proofs.Ytiinohkkfjbfhaa
