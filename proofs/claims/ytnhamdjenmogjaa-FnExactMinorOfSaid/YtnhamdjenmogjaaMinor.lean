/-
  MinorOf of the model and of the program.
-/
import Derived.Test.YtnhamdjenmogjaaProjOp
import Derived.Test.YtnhamdjenmogjaaAtP
import Derived.Test.YtnhamdjenmogjaaDepends
namespace Go.Proofs.Ytnhamdjenmogjaa
open Go.RowKit

/-- The value of a list with a number at some places. -/
def minR (s m : Nat) (tab ps : List Int) (i : Nat) : Int := intN tab (codeN s (mapped (digs s m i) ps))

theorem minR_in {s r m : Nat} {tab ps : List Int} (ho : OpOk s r tab) (hps : TupP m r ps) (i : Nat) : 0 ≤ minR s m tab ps i ∧ minR s m tab ps i < s := by
  have h1 : 1 ≤ s := by have := ho.1.1; omega
  have ht : TupP s (ps.length : Int) (mapped (digs s m i) ps) := mapped_place (digs_tup s m i h1) hps.2
  have hlt := codeN_pow (size := s) (ar := ps.length) h1 ht
  have hpr : ps.length = r := by have := hps.1; omega
  have hlen : tab.length = s ^ r := by have := ho.2.2.1; simp only [Int.toNat_natCast] at this; omega
  exact ho.2.2.2 _ (by rw [hlen, ← hpr]; exact hlt)
theorem numberAtN (v1 v2 : Value) (t ps : List Int) (ar size : Int) (c : Nat) (w : World) (g1 : RowAt w v1 t) (g2 : RowAt w v2 ps) (hs : In14 size) (har : In14 ar) (hl : (ps.length : Int) = ar) (ht : TupP size ar (mapped t ps)) (hp : PlP ps t.length) (hc : codeN size (mapped t ps) = c) :
    Calls Try.prog 96 #[.int .i64 size, v1, v2] w fun e w' => e = .returned (.int .i64 (c : Int)) ∧ w = w' := hc ▸ numberAt v1 v2 t ps ar size w g1 g2 hs har hl ht hp
theorem l02ValueM (size ar : Int) (pb po : Nat) (tab : List Int) (v : Value) (xs : List Int) (x : Int) (w : World) (h : OpAt w pb po ar tab) (hv : RowAt w v xs) (ho : OpOk size ar tab) (ht : TupP size ar xs) (hm : intN tab (codeN size xs) = x) :
    Calls Try.prog 94 #[.int .i64 size, .pointer (some ⟨pb, po, none⟩), v] w fun e w' => e = .returned (.int .i64 x) ∧ QW w w' := hm ▸ l02Value size ar pb po tab v xs w h hv ho ht

set_option linter.unusedSimpArgs false in
set_option maxHeartbeats 2000000 in
set_option maxRecDepth 100000 in
theorem tableOf (s r : Nat) (a : Option Addr) (n c : Nat) (tab : List Int) (w : World) (h : RowAt w (.slice a n c) tab) (ho : OpOk s r tab) :
    Calls Try.prog 61 #[.int .i64 s, .agg #[.int .i64 r, .slice a n c]] w (MadeTab w s r tab.length (intN tab)) := by
  obtain ⟨hs, har, htab⟩ := ho
  have h1 : 1 ≤ s := by have := hs.1; omega
  have h2 : s ≤ 4 := by have := hs.2; omega
  have hr1 : 1 ≤ r := by have := har.1; omega
  have hr3 : r ≤ 3 := by have := har.2; omega
  have hlen : tab.length = s ^ r := by have := htab.1; simp only [Int.toNat_natCast] at this; omega
  have h64 : tab.length ≤ 64 := by rw [hlen]; exact (pow_le3 h1 h2 hr3).1
  have hpos : 0 < tab.length := by rw [hlen]; exact (pow_le3 h1 h2 hr3).2
  obtain ⟨b9, off, rfl, rfl, hc0⟩ := SlAt.some_of h 0 hpos
  have HLEN := Lib.hid hlen.symm
  have HTB : Hid (∀ k, k < tab.length → 0 ≤ intN tab k ∧ intN tab k < s) := Lib.hid htab.2
  have HR0 : Hid (Box 84 _ (w.heap.size + 1) #[.int .i64 0, .int .i64 0, .slice none 0 0]) := Lib.hid (by
    have h := Box.new 84 (w.alloc (.cells #[.int .i64 r, .slice (some ⟨b9, off, none⟩) tab.length c] 24)) #[.int .i64 0, .int .i64 0, .slice none 0 0]
    rwa [World.size_alloc] at h)
  have K0 := Lib.hid ((((Kept.start w).read (lives_row _ _) h).box w.heap.size rfl (.int .i64 r) (.slice (some ⟨b9, off, none⟩) tab.length c) 24).below ((Below.refl _ _).alloc (Nat.le_refl _) (.cells #[.int .i64 0, .int .i64 0, .slice none 0 0] 84)))
  have HRW0 := Lib.hid h
  clear hs har htab hlen hc0 h hpos
  have cd0 := K0.out.c 0 rfl
  go_enter Try.func61, Try.ntmps61
  go_wp2_with fail
  refine (newTable s r tab.length h1 h2 hr3 HLEN.out _).mono ?_
  rintro e w2 ⟨b, F0, rfl, hT, -, hb0, hb2⟩
  have hb1 : w.heap.size + 1 < b := by have := hb0; simp at this; omega
  have hb3 : b < w2.heap.size := hT.lt
  have HT0 := Lib.hid hT
  have HR2 := Lib.hid (HR0.out.below hb2)
  have K2 := Lib.hid (K0.out.below hb2)
  have HBX0 := Lib.hid (Box.new 84 w2 #[.int .i64 s, .int .i64 r, .slice (some ⟨b, 0, none⟩) tab.length tab.length])
  have cd1 := K2.out.c 1 rfl
  have cd1a := below_cell ((Below.refl w2.heap.size w2).alloc (Nat.le_refl _) (.cells #[.int .i64 s, .int .i64 r, .slice (some ⟨b, 0, none⟩) tab.length tab.length] 84)) cd1
  clear hT hb0 hb2 cd0 cd1
  go_wp2
  clear cd1a
  go_loopw [15] (fun i wr => ∃ (k : Nat) (G : Nat → Int), k ≤ tab.length ∧ i = .int .i64 k ∧ TabAt wr b G ∧ (∀ j, j < k → G j = intN tab j) ∧ Box 84 wr w2.heap.size #[.int .i64 s, .int .i64 r, .slice (some ⟨b, 0, none⟩) tab.length tab.length] ∧ Box 84 wr (w.heap.size + 1) #[.int .i64 0, .int .i64 0, .slice none 0 0] ∧ Below w.heap.size w wr) (fun i _ => tab.length - (intOf i).toNat)
  case atStart =>
    have hal := (Below.refl w2.heap.size w2).alloc (Nat.le_refl _) (.cells #[.int .i64 s, .int .i64 r, .slice (some ⟨b, 0, none⟩) tab.length tab.length] 84)
    exact ⟨0, F0, Nat.zero_le _, rfl, HT0.out.below hal, fun j hj => absurd hj (by omega), HBX0.out, HR2.out.below hal, (K2.out.below hal).bel⟩
  case round =>
    obtain ⟨k, G, hk, rfl, hT, hG, hbx, hb0, hbel⟩ := hrel
    have HT := Lib.hid hT
    have HFF := Lib.hid hG
    have HBX := Lib.hid hbx
    have HB0 := Lib.hid hb0
    have HW := Lib.hid hbel
    clear hT hG hbx hb0 hbel
    by_cases hlt : k < tab.length
    · have hlt' : (k : Int) < (tab.length : Int) := by omega
      have c0 := HBX.out.c 2 rfl
      have hx := SlAt.cell_of (HRW0.out.below HW.out) k hlt
      have ct := HT.out.c k (by omega)
      have ft := HT.out.free k
      obtain ⟨hd0, hd1⟩ := HTB.out k hlt
      have hwr : IntKind.u8.wrap (intN tab k) = intN tab k := wrap8_in hd0 (by omega)
      have HBX' := Lib.hid (HBX.out.other (a := ⟨b, k, none⟩) (show w2.heap.size ≠ b by omega) (.int .u8 (intN tab k)))
      have HB0' := Lib.hid (HB0.out.other (a := ⟨b, k, none⟩) (show w.heap.size + 1 ≠ b by omega) (.int .u8 (intN tab k)))
      have HW' := Lib.hid (HW.out.setCell (p := ⟨b, k, none⟩) (by show w.heap.size ≤ b; omega) (.int .u8 (intN tab k)))
      have HTS := Lib.hid (HT.out.set k (intN tab k))
      go_wp2
      go_roundw
      case rel => exact ⟨k + 1, _, by omega, by go_num, HTS.out, fun j hj => by
        by_cases hjk : j = k
        · subst hjk; simp
        · simp only [hjk, if_false]; exact HFF.out j (by omega), HBX'.out, HB0'.out, HW'.out⟩
      case measure => simp [intOf]; omega
    · obtain rfl : k = tab.length := by omega
      have d0 := HBX.out.c 0 rfl
      have d1 := HBX.out.c 1 rfl
      have d2 := HBX.out.c 2 rfl
      have e0 := HB0.out.c 0 rfl
      have e1 := HB0.out.c 1 rfl
      have e2 := HB0.out.c 2 rfl
      have f0 := HB0.out.free 0
      have f1 := HB0.out.free 1
      have f2 := HB0.out.free 2
      go_wp2
      refine bodyPost_ret (v := .agg #[.int .i64 s, .int .i64 r, .slice (some ⟨b, 0, none⟩) tab.length tab.length]) (by simp [results, Try.results61, go_sem, e0, e1, e2]) rfl ⟨b, G, rfl, ?_, HFF.out, by omega, ?_⟩
      · exact ((HT.out.stored (by show b ≠ w.heap.size + 1; omega) _).stored (by show b ≠ w.heap.size + 1; omega) _).stored (by show b ≠ w.heap.size + 1; omega) _
      · exact ((HW.out.setCell (by show w.heap.size ≤ w.heap.size + 1; omega) _).setCell (by show w.heap.size ≤ w.heap.size + 1; omega) _).setCell (by show w.heap.size ≤ w.heap.size + 1; omega) _


set_option linter.unusedSimpArgs false in
set_option maxHeartbeats 4000000 in
set_option maxRecDepth 100000 in
theorem tabMinor (s r m q q0 b0 : Nat) (G0 : Nat → Int) (tab ps : List Int) (vp : Value) (w : World) (ho : OpOk s r tab) (hl0 : tab.length = q0) (hm : In13 m) (hps : TupP m r ps) (hq : s ^ m = q) (hT0 : TabAt w b0 G0) (hG0 : ∀ i, i < q0 → G0 i = intN tab i) (hP : RowAt w vp ps) :
    Calls Try.prog 62 #[.agg #[.int .i64 s, .int .i64 r, .slice (some ⟨b0, 0, none⟩) q0 q0], .int .i64 m, vp] w (MadeTab w s m q (minR s m tab ps)) := by
  obtain ⟨hs, har, htab⟩ := ho
  have h1 : 1 ≤ s := by have := hs.1; omega
  have h2 : s ≤ 4 := by have := hs.2; omega
  have hr1 : 1 ≤ r := by have := har.1; omega
  have hr3 : r ≤ 3 := by have := har.2; omega
  have hm1 : 1 ≤ m := by have := hm.1; omega
  have hm3 : m ≤ 3 := by have := hm.2; omega
  have hm4 : m ≤ 4 := by omega
  have hlen : tab.length = s ^ r := by have := htab.1; simp only [Int.toNat_natCast] at this; omega
  have h640 : q0 ≤ 64 := by rw [← hl0, hlen]; exact (pow_le3 h1 h2 hr3).1
  have h64 : q ≤ 64 := by rw [← hq]; exact (pow_le3 h1 h2 hm3).1
  have hpr : ps.length = r := by have := hps.1; omega
  have hp14 : In14 (ps.length : Int) := ⟨by omega, by omega⟩
  have hs14 : In14 (s : Int) := hs
  have HTBP : Hid (∀ k : Nat, TupP s (ps.length : Int) (mapped (digs s m k) ps) ∧ codeN s (mapped (digs s m k) ps) < q0) := Lib.hid (fun k => by
    have ht : TupP s (ps.length : Int) (mapped (digs s m k) ps) := mapped_place (digs_tup s m k h1) hps.2
    refine ⟨ht, ?_⟩
    have := codeN_pow (size := s) (ar := ps.length) h1 ht
    rw [hpr, ← hlen, hl0] at this
    exact this)
  have HPL : Hid (∀ k : Nat, PlP ps (digs s m k).length) := Lib.hid (fun k => by rw [digs_len]; exact hps.2)
  have HQ := Lib.hid hq
  have HG0 := Lib.hid hT0
  have HGE := Lib.hid hG0
  have HPS := Lib.hid hP
  have hbw0 := hT0.lt
  have HBP := Lib.hid (Box.new 84 w #[.int .i64 s, .int .i64 r, .slice (some ⟨b0, 0, none⟩) q0 q0])
  have HR0 : Hid (Box 84 _ (w.heap.size + 1) #[.int .i64 0, .int .i64 0, .slice none 0 0]) := Lib.hid (by
    have h := Box.new 84 (w.alloc (.cells #[.int .i64 s, .int .i64 r, .slice (some ⟨b0, 0, none⟩) q0 q0] 84)) #[.int .i64 0, .int .i64 0, .slice none 0 0]
    rwa [World.size_alloc] at h)
  have HW00 := Lib.hid (((Below.refl w.heap.size w).alloc (Nat.le_refl _) (.cells #[.int .i64 s, .int .i64 r, .slice (some ⟨b0, 0, none⟩) q0 q0] 84)).alloc (by simp) (.cells #[.int .i64 0, .int .i64 0, .slice none 0 0] 84))
  have HBP1 := Lib.hid (HBP.out.below ((Below.refl _ _).alloc (Nat.le_refl _) (.cells #[.int .i64 0, .int .i64 0, .slice none 0 0] 84)))
  clear hs har htab hlen hl0 hps hq hT0 hG0 hP hpr hm
  have cd0 := HBP1.out.c 0 rfl
  go_enter Try.func62, Try.ntmps62
  go_wp2_with fail
  refine (newTable s m q h1 h2 hm3 HQ.out _).mono ?_
  rintro e w2 ⟨b, F0, rfl, hT, -, hb0, hb2⟩
  have hb1 : w.heap.size + 1 < b := by have := hb0; simp at this; omega
  have hb3 : b < w2.heap.size := hT.lt
  have HT0 := Lib.hid hT
  have HR2 := Lib.hid (HR0.out.below hb2)
  have HBP2 := Lib.hid (HBP1.out.below hb2)
  have HW2 := Lib.hid (HW00.out.trans (hb2.mono (by simp; omega)))
  have HBX0 := Lib.hid (Box.new 84 w2 #[.int .i64 s, .int .i64 m, .slice (some ⟨b, 0, none⟩) q q])
  have d2 := HBX0.out.c 2 rfl
  clear hT hb0 hb2 cd0
  go_wp2
  clear d2
  go_loopw [17] (fun i wr => ∃ (k : Nat) (G : Nat → Int), k ≤ q ∧ i = .int .i64 k ∧ TabAt wr b G ∧ (∀ j, j < k → G j = minR s m tab ps j) ∧ Box 84 wr w2.heap.size #[.int .i64 s, .int .i64 m, .slice (some ⟨b, 0, none⟩) q q] ∧ Box 84 wr (w.heap.size + 1) #[.int .i64 0, .int .i64 0, .slice none 0 0] ∧ Box 84 wr w.heap.size #[.int .i64 s, .int .i64 r, .slice (some ⟨b0, 0, none⟩) q0 q0] ∧ TabAt wr b0 G0 ∧ Below w.heap.size w wr) (fun i _ => q - (intOf i).toNat)
  case atStart =>
    have hal := (Below.refl w2.heap.size w2).alloc (Nat.le_refl _) (.cells #[.int .i64 s, .int .i64 m, .slice (some ⟨b, 0, none⟩) q q] 84)
    exact ⟨0, F0, Nat.zero_le _, rfl, HT0.out.below hal, fun j hj => absurd hj (by omega), HBX0.out, HR2.out.below hal, HBP2.out.below hal, (HG0.out.below HW2.out).below hal, HW2.out.trans (hal.mono (by omega))⟩
  case round =>
    obtain ⟨k, G, hk, rfl, hT, hG, hbx, hb0, hba, hg0, hbel⟩ := hrel
    have HT := Lib.hid hT
    have HFF := Lib.hid hG
    have HBX := Lib.hid hbx
    have HB0 := Lib.hid hb0
    have HBA := Lib.hid hba
    have HG := Lib.hid hg0
    have HW := Lib.hid hbel
    clear hT hG hbx hb0 hba hg0 hbel
    by_cases hlt : k < q
    · have hlt' : (k : Int) < (q : Int) := by omega
      have ca := HBA.out.c 0 rfl
      obtain ⟨cN, hcN⟩ : ∃ cN, codeN s (mapped (digs s m k) ps) = cN := ⟨_, rfl⟩
      obtain ⟨htm, hcNq⟩ := HTBP.out k
      rw [hcN] at hcNq
      have hcN64 : cN < 64 := by omega
      have hcNI : (cN : Int) < (q0 : Int) := by omega
      have hpl := HPL.out k
      have HCN := Lib.hid hcN
      clear hcN
      go_wp2_with fail
      refine (tupleOf s m k h1 h2 hm1 hm4 (by omega) _).mono ?_
      rintro e w3 ⟨a3, n3, c3, rfl, ho3, hb3'⟩
      have HD3 := Lib.hid ho3.rowAt
      have HPS3 := Lib.hid (HPS.out.below (HW.out.trans (hb3'.mono HW.out.size)))
      have HT3 := Lib.hid (HT.out.below hb3')
      have HBX3 := Lib.hid (HBX.out.below hb3')
      have HB03 := Lib.hid (HB0.out.below hb3')
      have HBA3 := Lib.hid (HBA.out.below hb3')
      have HG3 := Lib.hid (HG.out.below hb3')
      have HW3 := Lib.hid (HW.out.trans (hb3'.mono HW.out.size))
      have c0 := HBX3.out.c 2 rfl
      have c1 := HBA3.out.c 2 rfl
      have c2 := HBA3.out.c 0 rfl
      clear ho3 hb3' ca
      have hcN := HCN.out
      go_wp2
      refine wp_region_noPanic ?_
      refine wp_region_late (S := (fun w' => w'.cell? ⟨w2.heap.size, 2, none⟩ = some (.slice (some ⟨b, 0, none⟩) q q) ∧ w'.cell? ⟨w.heap.size, 2, none⟩ = some (.slice (some ⟨b0, 0, none⟩) q0 q0) ∧ w'.cell? ⟨w.heap.size, 0, none⟩ = some (.int .i64 s))) [13] (by kernel_rfl) ?_ (fun hHeld => ?_)
      · exact ⟨c0, c1, c2⟩
      refine wpAnyL_free (i := 0) (v := ?_) (some 25) rfl rfl (by kernel_rfl) (by kernel_rfl) (by kernel_rfl) (by decide) (fun _ _ _ h => h) (Or.inl ⟨by rfl, ?_⟩) (fun h0 => by assumption) ?_
      rotate_left
      · intro wS
        go_simp
        try with_reducible rfl
      try simp only [Act.put, List.setIfInBounds_toArray, List.set_cons_zero, List.set_cons_succ]
      refine wpAnyL_take (i := 1) (v := ?_) (some 26) rfl rfl (by kernel_rfl) (by kernel_rfl) (by kernel_rfl) (by kernel_rfl) (by kernel_rfl) (fun _ _ _ h => h) (Or.inl ⟨by rfl, ?_⟩) (by assumption) ?_
      rotate_left
      · intro wS hSw
        try dsimp only at hSw
        go_simp
        try with_reducible rfl
      try simp only [Act.put, List.setIfInBounds_toArray, List.set_cons_zero, List.set_cons_succ]
      refine wpAnyL_free (i := 2) (v := ?_) (some 27) rfl rfl (by kernel_rfl) (by kernel_rfl) (by kernel_rfl) (by decide) (fun _ _ _ h => h) (Or.inl ⟨by rfl, ?_⟩) (fun h0 => by assumption) ?_
      rotate_left
      · intro wS
        go_simp
        try with_reducible rfl
      try simp only [Act.put, List.setIfInBounds_toArray, List.set_cons_zero, List.set_cons_succ]
      refine wpAnyL_free (i := 3) (v := ?_) (some 28) rfl rfl (by kernel_rfl) (by kernel_rfl) (by kernel_rfl) (by decide) (fun _ _ _ h => h) (Or.inl ⟨by rfl, ?_⟩) (fun h0 => by assumption) ?_
      rotate_left
      · intro wS
        go_simp
        try with_reducible rfl
      try simp only [Act.put, List.setIfInBounds_toArray, List.set_cons_zero, List.set_cons_succ]
      refine wpAnyL_take (i := 4) (v := ?_) (some 29) rfl rfl (by kernel_rfl) (by kernel_rfl) (by kernel_rfl) (by kernel_rfl) (by kernel_rfl) (fun _ _ _ h => h) (Or.inl ⟨by rfl, ?_⟩) (by assumption) ?_
      rotate_left
      · intro wS hSw
        try dsimp only at hSw
        go_simp
        try with_reducible rfl
      try simp only [Act.put, List.setIfInBounds_toArray, List.set_cons_zero, List.set_cons_succ]
      refine wpAnyL_free (i := 5) (v := ?_) (some 30) rfl rfl (by kernel_rfl) (by kernel_rfl) (by kernel_rfl) (by decide) (fun _ _ _ h => h) (Or.inl ⟨by rfl, ?_⟩) (fun h0 => by assumption) ?_
      rotate_left
      · intro wS
        go_simp
        try with_reducible rfl
      try simp only [Act.put, List.setIfInBounds_toArray, List.set_cons_zero, List.set_cons_succ]
      refine wpAnyL_take (i := 6) (v := ?_) (some 31) rfl rfl (by kernel_rfl) (by kernel_rfl) (by kernel_rfl) (by kernel_rfl) (by kernel_rfl) (fun _ _ _ h => h) (Or.inl ⟨by rfl, ?_⟩) (by assumption) ?_
      rotate_left
      · intro wS hSw
        try dsimp only at hSw
        go_simp
        try with_reducible rfl
      try simp only [Act.put, List.setIfInBounds_toArray, List.set_cons_zero, List.set_cons_succ]
      refine wpAnyL_free (i := 7) (v := ?_) (some 32) rfl rfl (by kernel_rfl) (by kernel_rfl) (by kernel_rfl) (by decide) (fun _ _ _ h => h) (Or.inl ⟨by rfl, ?_⟩) (fun h0 => by assumption) ?_
      rotate_left
      · intro wS
        go_simp
        try with_reducible rfl
      try simp only [Act.put, List.setIfInBounds_toArray, List.set_cons_zero, List.set_cons_succ]
      refine wpAnyL_free (i := 8) (v := ?_) (some 33) rfl rfl (by kernel_rfl) (by kernel_rfl) (by kernel_rfl) (by decide) (fun _ _ _ h => h) (Or.inl ⟨by rfl, ?_⟩) (fun h0 => by assumption) ?_
      rotate_left
      · intro wS
        go_simp
        try with_reducible rfl
      try simp only [Act.put, List.setIfInBounds_toArray, List.set_cons_zero, List.set_cons_succ]
      refine wpAnyL_ready (rs := [9]) (by kernel_rfl) (by simp) ?_
      refine AllReadyL.cons rfl (fun K hK => ?_) AllReadyL.nil
      go_simp; go_at_call 96; refine (numberAtN _ _ (digs s m k) ps (ps.length : Int) s cN _ (HD3.out.below ((QW.refl _).drew.below _)) (HPS3.out.below ((QW.refl _).drew.below _)) hs14 hp14 rfl htm hpl hcN).mono ?_; rintro e w4 ⟨rfl, rfl⟩
      have cG := (HG3.out.below ((QW.refl w3).drew.below _)).c cN hcN64
      have cT := (HT3.out.below ((QW.refl w3).drew.below _)).c k (by omega)
      have fT := (HT3.out.below ((QW.refl w3).drew.below _)).free k
      refine hK.out _ _ ?_ (fun hHeld => ?_)
      · exact hHeld
      clear hK K
      try simp only [Act.put, List.setIfInBounds_toArray, List.set_cons_zero, List.set_cons_succ]
      refine wpAnyL_free (i := 10) (v := ?_) (some 35) rfl rfl (by kernel_rfl) (by kernel_rfl) (by kernel_rfl) (by decide) (fun _ _ _ h => h) (Or.inl ⟨by rfl, ?_⟩) (fun h0 => by assumption) ?_
      rotate_left
      · intro wS
        go_simp
        try with_reducible rfl
      try simp only [Act.put, List.setIfInBounds_toArray, List.set_cons_zero, List.set_cons_succ]
      refine wpAnyL_ready (rs := [11]) (by kernel_rfl) (by simp) ?_
      refine AllReadyL.cons rfl (fun K hK => ?_) AllReadyL.nil
      go_simp
      refine hK.out _ _ ?_ (fun hHeld => ?_)
      · exact hHeld
      clear hK K
      try simp only [Act.put, List.setIfInBounds_toArray, List.set_cons_zero, List.set_cons_succ]
      refine wpAnyL_free (i := 12) (v := ?_) (some 37) rfl rfl (by kernel_rfl) (by kernel_rfl) (by kernel_rfl) (by decide) (fun _ _ _ h => h) (Or.inl ⟨by rfl, ?_⟩) (fun h0 => by assumption) ?_
      rotate_left
      · intro wS
        go_simp
        try with_reducible rfl
      try simp only [Act.put, List.setIfInBounds_toArray, List.set_cons_zero, List.set_cons_succ]
      refine wpAnyL_ready (rs := [13]) (by kernel_rfl) (by simp) ?_
      refine AllReadyL.last rfl (by kernel_rfl) (fun K hK => ?_) AllReadyL.nil
      go_simp
      refine hK.out _ _ ?_
      clear hK K
      try simp only [Act.put, List.setIfInBounds_toArray, List.set_cons_zero, List.set_cons_succ]
      refine wpAnyL_done (by kernel_rfl) ?_ _
      refine NoPanic.normal ?_
      have HBX' := Lib.hid (((HBX3.out.below ((QW.refl _).drew.below _))).other (a := ⟨b, k, none⟩) (show w2.heap.size ≠ b by omega) (.int .u8 (G0 cN)))
      have HB0' := Lib.hid (((HB03.out.below ((QW.refl _).drew.below _))).other (a := ⟨b, k, none⟩) (show w.heap.size + 1 ≠ b by omega) (.int .u8 (G0 cN)))
      have HBA' := Lib.hid (((HBA3.out.below ((QW.refl _).drew.below _))).other (a := ⟨b, k, none⟩) (show w.heap.size ≠ b by omega) (.int .u8 (G0 cN)))
      have HG' := Lib.hid (((HG3.out.below ((QW.refl _).drew.below _))).stored (a := ⟨b, k, none⟩) (show b0 ≠ b by omega) (.int .u8 (G0 cN)))
      have HW' := Lib.hid ((HW3.out.trans (((QW.refl w3).drew.below _).mono HW3.out.size)).setCell (p := ⟨b, k, none⟩) (by show w.heap.size ≤ b; omega) (.int .u8 (G0 cN)))
      have HTS := Lib.hid ((HT3.out.below ((QW.refl w3).drew.below _)).set k (G0 cN))
      have HEQ : Hid (G0 cN = minR s m tab ps k) := Lib.hid (by rw [HGE.out cN hcNq]; show intN tab cN = _; unfold minR; rw [hcN])
      go_wp2
      go_roundw
      case rel => exact ⟨k + 1, _, by omega, by go_num, HTS.out, fun j hj => by
        by_cases hjk : j = k
        · subst hjk; simp only [if_true]; exact HEQ.out
        · simp only [hjk, if_false]; exact HFF.out j (by omega), HBX'.out, HB0'.out, HBA'.out, HG'.out, HW'.out⟩
      case measure => simp [intOf]; omega

    · obtain rfl : k = q := by omega
      have d0 := HBX.out.c 0 rfl
      have d1 := HBX.out.c 1 rfl
      have d2 := HBX.out.c 2 rfl
      have e0 := HB0.out.c 0 rfl
      have e1 := HB0.out.c 1 rfl
      have e2 := HB0.out.c 2 rfl
      have f0 := HB0.out.free 0
      have f1 := HB0.out.free 1
      have f2 := HB0.out.free 2
      go_wp2
      refine bodyPost_ret (v := .agg #[.int .i64 s, .int .i64 m, .slice (some ⟨b, 0, none⟩) k k]) (by simp [results, Try.results62, go_sem, e0, e1, e2]) rfl ⟨b, G, rfl, ?_, HFF.out, by omega, ?_⟩
      · exact ((HT.out.stored (by show b ≠ w.heap.size + 1; omega) _).stored (by show b ≠ w.heap.size + 1; omega) _).stored (by show b ≠ w.heap.size + 1; omega) _
      · exact ((HW.out.setCell (by show w.heap.size ≤ w.heap.size + 1; omega) _).setCell (by show w.heap.size ≤ w.heap.size + 1; omega) _).setCell (by show w.heap.size ≤ w.heap.size + 1; omega) _

set_option linter.unusedSimpArgs false in
set_option maxHeartbeats 4000000 in
set_option maxRecDepth 100000 in
theorem l02Minor (s r m q pb po : Nat) (tab ps : List Int) (vp : Value) (w : World) (hop : OpAt w pb po r tab) (ho : OpOk s r tab) (hm : In13 m) (hps : TupP m r ps) (hq : s ^ m = q) (hP : RowAt w vp ps) :
    Calls Try.prog 58 #[.int .i64 s, .pointer (some ⟨pb, po, none⟩), .int .i64 m, vp] w (MadeOp w m (rowF (minR s m tab ps) q)) := by
  obtain ⟨i0, hi, hz0, hz1, hz2⟩ := info_parts info_intT
  have HOO := Lib.hid ho
  obtain ⟨hs, har, htab⟩ := ho
  have h1 : 1 ≤ s := by have := hs.1; omega
  have h2 : s ≤ 4 := by have := hs.2; omega
  have hr1 : 1 ≤ r := by have := har.1; omega
  have hr3 : r ≤ 3 := by have := har.2; omega
  have hm1 : 1 ≤ m := by have := hm.1; omega
  have hm3 : m ≤ 3 := by have := hm.2; omega
  have hm4 : m ≤ 4 := by omega
  have h64 : q ≤ 64 := by rw [← hq]; exact (pow_le3 h1 h2 hm3).1
  have hpr : ps.length = r := by have := hps.1; omega
  have hps4 : ps.length ≤ 4 := by omega
  have HTBP : Hid (∀ k : Nat, TupP s (r : Int) (mapped (digs s m k) ps)) := Lib.hid (fun k => by
    have ht : TupP s (ps.length : Int) (mapped (digs s m k) ps) := mapped_place (digs_tup s m k h1) hps.2
    rwa [hpr] at ht)
  have HPL : Hid (∀ k : Nat, ∀ i, i < ps.length → 0 ≤ intN ps i ∧ intN ps i < ((digs s m k).length : Int)) := Lib.hid (fun k => by rw [digs_len]; exact hps.2)
  have HQ := Lib.hid hq
  have HPS0 := Lib.hid hP
  have HOP0 := Lib.hid hop
  have HR0 := Lib.hid (Box.new 24 w #[.int .i64 0, .slice none 0 0])
  have hB := Box.new 24 (w.alloc (.cells #[.int .i64 0, .slice none 0 0] 24)) #[.int .i64 m, .slice none 0 0]
  rw [World.size_alloc] at hB
  have HBX0 := Lib.hid hB
  clear hq hB hs har htab hps hP hop hpr hm
  go_enter Try.func58, Try.ntmps58
  go_wp2
  go_loopw [10] (fun i wr => ∃ (k : Nat) (a : Option Addr) (n c : Nat), k ≤ q ∧ i = .int .i64 k ∧ Box 24 wr (w.heap.size + 1) #[.int .i64 m, .slice a n c] ∧ Box 24 wr w.heap.size #[.int .i64 0, .slice none 0 0] ∧ wr.ownsRow (w.heap.size + 2) 2 1 (.slice a n c) k ((rowF (minR s m tab ps) k).map (Value.int .i64)) ∧ Below w.heap.size w wr ∧ w.heap.size + 2 ≤ wr.heap.size) (fun i _ => q - (intOf i).toNat)
  case atStart =>
    exact ⟨0, none, 0, 0, Nat.zero_le _, rfl, HBX0.out, HR0.out.below ((Below.refl _ _).alloc (Nat.le_refl _) _), World.ownsRow_nil _ _ _ 1, ((Below.refl _ _).alloc (Nat.le_refl _) _).alloc (by simp) _, by simp⟩
  case round =>
    obtain ⟨k, a, n, c, hk, rfl, hbx, hb0, hown, hbel, hsz⟩ := hrel
    have HBX := Lib.hid hbx
    have HB0 := Lib.hid hb0
    have HO := Lib.hid hown
    have HW := Lib.hid hbel
    clear hbx hb0 hown hbel
    by_cases hlt : k < q
    · have hlt' : (k : Int) < (q : Int) := by omega
      have c0 := HBX.out.c 1 rfl
      have HPS := Lib.hid (HPS0.out.below HW.out)
      have HOP := Lib.hid (HOP0.out.below HW.out)
      have htm := HTBP.out k
      have hplN := HPL.out k
      go_wp2_with fail
      refine (l01Power' s m q h1 h2 hm4 HQ.out _).mono ?_
      rintro e w2 ⟨rfl, rfl⟩
      go_wp2
      refine wp_region_noPanic ?_
      refine wp_region_late (S := (fun w' => w'.cell? ⟨w.heap.size + 1, 1, none⟩ = some (.slice a n c) ∧ Below w.heap.size w w')) [12, 14] (by kernel_rfl) ?_ (fun hHeld => ?_)
      · exact ⟨c0, HW.out.trans ((QW.refl wr).drew.below _)⟩
      refine wpAnyL_free (i := 0) (v := ?_) (some 20) rfl rfl (by kernel_rfl) (by kernel_rfl) (by kernel_rfl) (by decide) (fun _ _ _ h => h) (Or.inl ⟨by rfl, ?_⟩) (fun h0 => by assumption) ?_
      rotate_left
      · intro wS
        go_simp
        try with_reducible rfl
      try simp only [Act.put, List.setIfInBounds_toArray, List.set_cons_zero, List.set_cons_succ]
      refine wpAnyL_take (i := 1) (v := ?_) (some 21) rfl rfl (by kernel_rfl) (by kernel_rfl) (by kernel_rfl) (by kernel_rfl) (by kernel_rfl) (fun _ _ _ h => h) (Or.inl ⟨by rfl, ?_⟩) (by assumption) ?_
      rotate_left
      · intro wS hSw
        try dsimp only at hSw
        go_simp
        try with_reducible rfl
      try simp only [Act.put, List.setIfInBounds_toArray, List.set_cons_zero, List.set_cons_succ]
      refine wpAnyL_free (i := 2) (v := ?_) (some 22) rfl rfl (by kernel_rfl) (by kernel_rfl) (by kernel_rfl) (by decide) (fun _ _ _ h => h) (Or.inl ⟨by rfl, ?_⟩) (fun h0 => by assumption) ?_
      rotate_left
      · intro wS
        go_simp
        try with_reducible rfl
      try simp only [Act.put, List.setIfInBounds_toArray, List.set_cons_zero, List.set_cons_succ]
      refine wpAnyL_free (i := 3) (v := ?_) (some 23) rfl rfl (by kernel_rfl) (by kernel_rfl) (by kernel_rfl) (by decide) (fun _ _ _ h => h) (Or.inl ⟨by rfl, ?_⟩) (fun h0 => by assumption) ?_
      rotate_left
      · intro wS
        go_simp
        try with_reducible rfl
      try simp only [Act.put, List.setIfInBounds_toArray, List.set_cons_zero, List.set_cons_succ]
      refine wpAnyL_free (i := 4) (v := ?_) (some 24) rfl rfl (by kernel_rfl) (by kernel_rfl) (by kernel_rfl) (by decide) (fun _ _ _ h => h) (Or.inl ⟨by rfl, ?_⟩) (fun h0 => by assumption) ?_
      rotate_left
      · intro wS
        go_simp
        try with_reducible rfl
      try simp only [Act.put, List.setIfInBounds_toArray, List.set_cons_zero, List.set_cons_succ]
      refine wpAnyL_free (i := 5) (v := ?_) (some 25) rfl rfl (by kernel_rfl) (by kernel_rfl) (by kernel_rfl) (by decide) (fun _ _ _ h => h) (Or.inl ⟨by rfl, ?_⟩) (fun h0 => by assumption) ?_
      rotate_left
      · intro wS
        go_simp
        try with_reducible rfl
      try simp only [Act.put, List.setIfInBounds_toArray, List.set_cons_zero, List.set_cons_succ]
      refine wpAnyL_free (i := 6) (v := ?_) (some 26) rfl rfl (by kernel_rfl) (by kernel_rfl) (by kernel_rfl) (by decide) (fun _ _ _ h => h) (Or.inl ⟨by rfl, ?_⟩) (fun h0 => by assumption) ?_
      rotate_left
      · intro wS
        go_simp
        try with_reducible rfl
      try simp only [Act.put, List.setIfInBounds_toArray, List.set_cons_zero, List.set_cons_succ]
      refine wpAnyL_free (i := 8) (v := ?_) (some 28) rfl rfl (by kernel_rfl) (by kernel_rfl) (by kernel_rfl) (by decide) (fun _ _ _ h => h) (Or.inl ⟨by rfl, ?_⟩) (fun h0 => by assumption) ?_
      rotate_left
      · intro wS
        go_simp
        try with_reducible rfl
      try simp only [Act.put, List.setIfInBounds_toArray, List.set_cons_zero, List.set_cons_succ]
      refine wpAnyL_ready (rs := [7]) (by kernel_rfl) (by simp) ?_
      refine AllReadyL.cons rfl (fun K hK => ?_) AllReadyL.nil
      go_simp; go_at_call 91; refine (l01Digits s m k h1 (by omega) hm4 (by omega) _).mono ?_; rintro e w3 ⟨a3, c3, rfl, ho3, hb3⟩
      have HB3 := Lib.hid (((QW.refl wr).drew.below wr.heap.size).trans hb3)
      have HD3 := Lib.hid ho3.rowAt
      refine hK.out _ _ ?_ (fun hHeld => ?_)
      · exact ⟨below_cell hb3 hHeld.1, hHeld.2.trans (hb3.mono hHeld.2.size)⟩
      clear hK K
      try simp only [Act.put, List.setIfInBounds_toArray, List.set_cons_zero, List.set_cons_succ]
      refine wpAnyL_ready (rs := [9]) (by kernel_rfl) (by simp) ?_
      refine AllReadyL.cons rfl (fun K hK => ?_) AllReadyL.nil
      go_simp; go_at_call 95; refine (l01At _ _ ps (digs s m k) _ (HPS.out.below (HB3.out.mono (Nat.le_refl _))) HD3.out hps4 hplN).mono ?_; rintro e w4 ⟨a4, n4, c4, rfl, hr4, hb4⟩
      have HB4 := Lib.hid (HB3.out.trans (hb4.mono HB3.out.size))
      have HR4 := Lib.hid hr4
      refine hK.out _ _ ?_ (fun hHeld => ?_)
      · exact ⟨below_cell hb4 hHeld.1, hHeld.2.trans (hb4.mono hHeld.2.size)⟩
      clear hK K
      try simp only [Act.put, List.setIfInBounds_toArray, List.set_cons_zero, List.set_cons_succ]
      refine wpAnyL_ready (rs := [10]) (by kernel_rfl) (by simp) ?_
      refine AllReadyL.cons rfl (fun K hK => ?_) AllReadyL.nil
      go_simp; go_at_call 94; refine (l02ValueM s r pb po tab _ _ (minR s m tab ps k) _ (HOP.out.below HB4.out) HR4.out HOO.out htm rfl).mono ?_; rintro e w5 ⟨rfl, hq5⟩
      have HB5 := Lib.hid (HB4.out.trans ((hq5.below _).mono HB4.out.size))
      have hal := (Below.refl w5.heap.size w5).alloc (Nat.le_refl _) (.cells #[.int .i64 (minR s m tab ps k)] 2)
      have HAL := Lib.hid (HB5.out.trans (hal.mono HB5.out.size))
      clear hal
      refine hK.out _ _ ?_ (fun hHeld => ?_)
      · exact ⟨below_cell (hq5.below _) hHeld.1, hHeld.2.trans ((hq5.below _).mono hHeld.2.size)⟩
      clear hK K
      try simp only [Act.put, List.setIfInBounds_toArray, List.set_cons_zero, List.set_cons_succ]
      refine wpAnyL_ready (rs := [11]) (by kernel_rfl) (by simp) ?_
      refine AllReadyL.cons rfl (fun K hK => ?_) AllReadyL.nil
      go_simp
      refine hK.out _ _ ?_ (fun hHeld => ?_)
      · exact ⟨below_cell ((Below.refl _ _).alloc (Nat.le_refl _) _) hHeld.1, hHeld.2.trans (((Below.refl _ _).alloc (Nat.le_refl _) _).mono hHeld.2.size)⟩
      clear hK K
      try simp only [Act.put, List.setIfInBounds_toArray, List.set_cons_zero, List.set_cons_succ]
      refine wpAnyL_ready (rs := [12]) (by kernel_rfl) (by simp) ?_
      refine AllReadyL.last rfl (by kernel_rfl) (fun K hK => ?_) AllReadyL.nil
      refine step_append_lies _ (by rfl) _ _ 22 (by rfl) (w.heap.size + 2) 2 i0 (.int .i64 0) 1 8 Try.underlying22 hi hz0 hz1 hz2 (by rfl) (by decide) (.slice a n c) k _ (by rfl) (ownsRow_below HO.out HAL.out) _ 1 1 [.int .i64 (minR s m tab ps k)] (by rfl) (by rfl) (fun j u hu => World.news_of_block (heap_alloc_new w5 _) j u (by simpa using hu)) (by simp [Value.oneCell']) (by omega) (by unfold maxLen; omega) (by omega) (by have := HAL.out.size; omega) _ rfl ?_; intro g5 cap5 w6 hown5 hgrow5 hat5 hlt5
      have HBX5 := Lib.hid ((HBX.out.below HAL.out).grown hgrow5 (own_away HO.out (w.heap.size + 1) (by omega)))
      have HB05 := Lib.hid ((HB0.out.below HAL.out).grown hgrow5 (own_away HO.out w.heap.size (by omega)))
      have HW5 := Lib.hid ((HW.out.trans (HAL.out.mono HW.out.size)).grown hgrow5 (by have := HAL.out.size; omega) (fun g hg => by have := (HO.out.lt g hg).1; omega))
      have HO5 := Lib.hid hown5
      have HS5 := Lib.hid (Nat.le_trans HAL.out.size hgrow5.size)
      have k1 := HBX5.out.c 1 rfl
      have kf := HBX5.out.free 1
      clear hown5 hgrow5 hat5 hlt5 HAL HB3 HB4 HB5
      refine hK.out _ _ ?_
      clear hK K
      try simp only [Act.put, List.setIfInBounds_toArray, List.set_cons_zero, List.set_cons_succ]
      refine wpAnyL_free (i := 13) (v := ?_) (some 33) rfl rfl (by kernel_rfl) (by kernel_rfl) (by kernel_rfl) (by decide) (fun _ _ _ h => h) (Or.inl ⟨by rfl, ?_⟩) (fun h0 => absurd h0 (by decide)) ?_
      rotate_left
      · intro wS
        go_simp
        try with_reducible rfl
      try simp only [Act.put, List.setIfInBounds_toArray, List.set_cons_zero, List.set_cons_succ]
      refine wpAnyL_ready (rs := [14]) (by kernel_rfl) (by simp) ?_
      refine AllReadyL.last rfl (by kernel_rfl) (fun K hK => ?_) AllReadyL.nil
      go_simp
      refine hK.out _ _ ?_
      clear hK K
      try simp only [Act.put, List.setIfInBounds_toArray, List.set_cons_zero, List.set_cons_succ]
      refine wpAnyL_done (by kernel_rfl) ?_ _
      refine NoPanic.normal ?_
      go_wp2
      go_roundw
      case rel =>
        refine ⟨k + 1, _, _, _, by omega, by go_num, HBX5.out.set 1 _, HB05.out.other (show w.heap.size ≠ w.heap.size + 1 by omega) _, ?_, HW5.out.setCell (p := ⟨w.heap.size + 1, 1, none⟩) (by show w.heap.size ≤ w.heap.size + 1; omega) _, by have := HS5.out; simp [World.setCell]; omega⟩
        rw [rowF_succ]
        exact ownsRow_same HO5.out fun g hg => Below.heap_setCell _ _ _ _ (by have := (HO5.out.lt g hg).1; show g ≠ w.heap.size + 1; omega)
      case measure => simp [intOf]; omega

    · obtain rfl : k = q := by omega
      go_wp2_with fail
      refine (l01Power' s m k h1 h2 hm4 HQ.out _).mono ?_
      rintro e w2 ⟨rfl, rfl⟩
      have hm : n = k := by
        rcases ownsRow_parts HO.out with ⟨hv, h0, _⟩ | ⟨_, _, hv, _⟩ <;> simp only [Value.slice.injEq] at hv <;> omega
      subst hm
      have HE : Hid (OwnRow wr (w.heap.size + 2) (.slice a n c) (rowF (minR s m tab ps) n)) := by
        show World.ownsRow _ _ _ _ _ _ _
        rw [rowF_len]
        exact HO.out
      have d0 := HBX.out.c 0 rfl
      have d1 := HBX.out.c 1 rfl
      have e0 := HB0.out.c 0 rfl
      have e1 := HB0.out.c 1 rfl
      have f0 := HB0.out.free 0
      have f1 := HB0.out.free 1
      go_wp2
      refine bodyPost_ret (v := .agg #[.int .i64 m, .slice a n c]) (by simp [results, Try.results58, go_sem, e0, e1]) rfl ⟨_, _, _, rfl, ?_, ?_⟩
      · exact (((HE.out.stored (by show w.heap.size < w.heap.size + 2; omega) _).stored (by show w.heap.size < w.heap.size + 2; omega) _).mono (by omega)).full
      · exact (HW.out.setCell (Nat.le_refl _) _).setCell (Nat.le_refl _) _

/-- What MinorOf answers. -/
def MinorOfIs (size ar : Int) (tab : List Int) (arity : Int) (ps : List Int) (x : Int) (t : List Int) (cd : Int) : Prop := OpAns (OpOk size ar tab) (In13 arity ∧ TupP arity ar ps) arity (rowF (minR size.toNat arity.toNat tab ps) (size.toNat ^ arity.toNat)) x t cd
theorem MinorOfIs.exists (size ar : Int) (tab : List Int) (arity : Int) (ps : List Int) : ∃ x t cd, MinorOfIs size ar tab arity ps x t cd := OpAns.exists _ _ _ _
theorem MinorOfIs.small {size ar : Int} {tab : List Int} {arity : Int} {ps : List Int} {x : Int} {t : List Int} {cd : Int} (h : MinorOfIs size ar tab arity ps x t cd) : t.length ≤ 1048576 :=
  OpAns.small h fun h1 h2 => by
    have a := h1.1.1; have b := h1.1.2; have c := h2.1.2
    have := (pow_le3 (s := size.toNat) (r := arity.toNat) (by omega) (by omega) (by omega)).1
    rw [rowF_len]; omega


set_option linter.unusedSimpArgs false in
set_option maxHeartbeats 4000000 in
set_option maxRecDepth 100000 in
theorem specMinorOf (size ar : Int) (a : Option Addr) (n c : Nat) (tab : List Int) (arity : Int) (vp : Value) (ps : List Int) (x : Int) (t : List Int) (cd : Int) (w : World) (h1 : RowAt w (.slice a n c) tab) (h2 : RowAt w vp ps) (hi : MinorOfIs size ar tab arity ps x t cd) :
    Calls Try.prog 15 #[.int .i64 size, .agg #[.int .i64 ar, .slice a n c], .int .i64 arity, vp] w (MadeOp2 w x t cd) := by
  obtain rfl : n = tab.length := by obtain ⟨_, _, hv, _⟩ := h1; simp only [Value.slice.injEq] at hv; exact hv.2.1
  obtain ⟨ap, np, cp, rfl, h2⟩ : ∃ a n c, vp = .slice a n c ∧ RowAt w (.slice a n c) ps := by obtain ⟨a0, c0, rfl, h⟩ := h2; exact ⟨a0, _, c0, rfl, a0, c0, rfl, h⟩
  obtain rfl : np = ps.length := by obtain ⟨_, _, hv, _⟩ := h2; simp only [Value.slice.injEq] at hv; exact hv.2.1
  have hnp : ps.length ≤ 9223372036854775807 := by obtain ⟨_, _, _, hn, _⟩ := h2; exact hn
  have HR0 : Hid (Box 24 _ (w.heap.size + 1) #[.int .i64 0, .slice none 0 0]) := Lib.hid (by
    have h := Box.new 24 (w.alloc (.cells #[.int .i64 ar, .slice a tab.length c] 24)) #[.int .i64 0, .slice none 0 0]
    rwa [World.size_alloc] at h)
  have HP := Lib.hid ((OpAt.new w ar a tab.length c tab 24 h1).below ((Below.refl _ _).alloc (Nat.le_refl _) (.cells #[.int .i64 0, .slice none 0 0] 24)))
  have K0 := Lib.hid ((((((Kept.start w).read (lives_row _ _) h1).read (lives_row _ _) h2).box w.heap.size rfl (.int .i64 ar) (.slice a tab.length c) 24)).below ((Below.refl _ _).alloc (Nat.le_refl _) (.cells #[.int .i64 0, .slice none 0 0] 24)))
  have ck0 := K0.out.c 0 rfl
  have ck1 := K0.out.c 1 rfl
  clear h1 h2
  rcases hi with ⟨ho, ⟨hm, hpt⟩, rfl, rfl, rfl⟩ | ⟨ho, hno, rfl, rfl, rfl⟩ | ⟨ho, rfl, rfl, rfl⟩
  · have HO := Lib.hid (Tells.yes ho)
    have HA := Lib.hid (Tells.yes hm)
    have HL := Lib.hid (Tells.yes hpt)
    have HPL : Hid (Tells true (PlP ps x)) := Lib.hid (Tells.yes hpt.2)
    obtain ⟨s, rfl⟩ : ∃ s : Nat, size = s := ⟨size.toNat, by have := ho.1.1; omega⟩
    obtain ⟨r, rfl⟩ : ∃ r : Nat, ar = r := ⟨ar.toNat, by have := ho.2.1.1; omega⟩
    obtain ⟨m, rfl⟩ : ∃ m : Nat, x = m := ⟨x.toNat, by have := hm.1; omega⟩
    simp only [Int.toNat_natCast]
    have hs1 : 1 ≤ s := by have := ho.1.1; omega
    have hs2 : s ≤ 4 := by have := ho.1.2; omega
    have hm1 : (1 : Int) ≤ m := hm.1
    have hm3 : (m : Int) ≤ 3 := hm.2
    obtain ⟨q, hq⟩ : ∃ q, s ^ m = q := ⟨_, rfl⟩
    have h64 : q ≤ 64 := by rw [← hq]; exact (pow_le3 hs1 hs2 (by omega)).1
    have HQ := Lib.hid hq
    have HOO := Lib.hid ho
    have HMM := Lib.hid hm
    have HPT := Lib.hid hpt
    have HMR : Hid (∀ i, 0 ≤ minR s m tab ps i ∧ minR s m tab ps i < s) := Lib.hid (fun i => minR_in ho hpt i)
    rw [hq]
    clear ho hm hpt hq
    
    go_enter Try.func15, Try.ntmps15
    go_wp2_with fail
    refine (l02Ok _ _ _ _ _ true _ HP.out HO.out).mono ?_
    rintro e w1 ⟨rfl, hq1⟩
    have hb1 : Below _ _ w1 := hq1.bel
    have hsz1 : w.heap.size + 2 ≤ w1.heap.size := by have := hb1.size; simpa using this
    have K1 := Lib.hid (K0.out.below hb1)
    have HR1 := Lib.hid (HR0.out.below hb1)
    have HP1 := Lib.hid (HP.out.below hb1)
    have cc0 := K1.out.c 0 rfl
    have cc1 := K1.out.c 1 rfl
    clear hq1 hb1
    go_wp2_with fail
    refine (l02Arity _ true _ HA.out).mono ?_
    rintro e w2 ⟨rfl, rfl⟩
    have hln : ((ps.length : Int) != (r : Int)) = false := by have := HPT.out.1; simp; omega
    go_wp2_with fail
    refine (l01Places _ ps m true _ (K1.out.r 0 rfl :) hm1 (by omega) HPL.out).mono ?_
    rintro e w3 ⟨rfl, rfl⟩
    go_wp2_with fail
    refine (l02Minor s r m q _ _ tab ps _ _ HP1.out HOO.out HMM.out HPT.out HQ.out (K1.out.r 0 rfl :)).mono ?_
    rintro e w6 ⟨a6, n6, c6, rfl, ho6, hb6⟩
    have K6 := Lib.hid (K1.out.below hb6)
    have HR6 := Lib.hid (HR1.out.below hb6)
    have hlo : w.heap.size + 2 ≤ w1.heap.size := hsz1
    have HO6 := Lib.hid ho6
    clear ho6 hb6
    have d0 := HR6.out.c 0 rfl
    have d1 := HR6.out.c 1 rfl
    have f0 := HR6.out.free 0
    have f1 := HR6.out.free 1
    go_wp2
    refine bodyPost_ret (v := .tuple #[.agg #[.int .i64 m, .slice a6 n6 c6], .int .i64 0]) (by simp [results, Try.results15, go_sem, d0, d1]) rfl ⟨_, _, _, rfl, ?_, ?_⟩
    · have hrow := HO6.out.row.mono hlo
      exact (((hrow.stored (by show w.heap.size + 1 < w.heap.size + 2; omega) _).stored (by show w.heap.size + 1 < w.heap.size + 2; omega) _).mono (by omega)).full
    · exact (K6.out.bel.setCell (by show w.heap.size ≤ w.heap.size + 1; omega) _).setCell (by show w.heap.size ≤ w.heap.size + 1; omega) _
  · have HO := Lib.hid (Tells.yes ho)
    by_cases hm : In13 arity
    · have HA := Lib.hid (Tells.yes hm)
      have hnt : ¬ TupP arity ar ps := fun h => hno ⟨hm, h⟩
      have HL := Lib.hid (Tells.no hnt)
      have hm1 := hm.1
      have hm3 := hm.2
      clear hm hno ho
      go_enter Try.func15, Try.ntmps15
      go_wp2_with fail
      refine (l02Ok _ _ _ _ _ true _ HP.out HO.out).mono ?_
      rintro e w1 ⟨rfl, hq1⟩
      have hb1 : Below _ _ w1 := hq1.bel
      have hsz1 : w.heap.size + 2 ≤ w1.heap.size := by have := hb1.size; simpa using this
      have K1 := Lib.hid (K0.out.below hb1)
      have HR1 := Lib.hid (HR0.out.below hb1)
      have HP1 := Lib.hid (HP.out.below hb1)
      have cc0 := K1.out.c 0 rfl
      have cc1 := K1.out.c 1 rfl
      clear hq1 hb1
      go_wp2_with fail
      refine (l02Arity _ true _ HA.out).mono ?_
      rintro e w2 ⟨rfl, rfl⟩
      by_cases hl : (ps.length : Int) = ar
      · have hln : ((ps.length : Int) != ar) = false := by simp; exact hl
        have HPL : Hid (Tells false (PlP ps arity)) := Lib.hid (Tells.no fun h => hnt ⟨hl, h⟩)
        clear hl hnt
        go_wp2_with fail
        refine (l01Places _ ps arity false _ (K1.out.r 0 rfl :) hm1 (by omega) HPL.out).mono ?_
        rintro e w3 ⟨rfl, rfl⟩
        have d0 := HR1.out.c 0 rfl
        have d1 := HR1.out.c 1 rfl
        have f0 := HR1.out.free 0
        have f1 := HR1.out.free 1
        go_wp2
        refine bodyPost_ret (v := .tuple #[.agg #[.int .i64 0, .slice none 0 0], .int .i64 2]) (by simp [results, Try.results15, go_sem, d0, d1]) rfl ⟨_, _, _, rfl, ?_, ?_⟩
        · exact OwnRowE.nil _ _ _ (Nat.le_refl _)
        · exact (K1.out.bel.setCell (by show w.heap.size ≤ w.heap.size + 1; omega) _).setCell (by show w.heap.size ≤ w.heap.size + 1; omega) _
      · have hln : ((ps.length : Int) != ar) = true := by simp; exact hl
        clear hl hnt
        have d0 := HR1.out.c 0 rfl
        have d1 := HR1.out.c 1 rfl
        have f0 := HR1.out.free 0
        have f1 := HR1.out.free 1
        go_wp2
        refine bodyPost_ret (v := .tuple #[.agg #[.int .i64 0, .slice none 0 0], .int .i64 2]) (by simp [results, Try.results15, go_sem, d0, d1]) rfl ⟨_, _, _, rfl, ?_, ?_⟩
        · exact OwnRowE.nil _ _ _ (Nat.le_refl _)
        · exact (K1.out.bel.setCell (by show w.heap.size ≤ w.heap.size + 1; omega) _).setCell (by show w.heap.size ≤ w.heap.size + 1; omega) _
    · have HA := Lib.hid (Tells.no hm)
      clear hm hno ho
      go_enter Try.func15, Try.ntmps15
      go_wp2_with fail
      refine (l02Ok _ _ _ _ _ true _ HP.out HO.out).mono ?_
      rintro e w1 ⟨rfl, hq1⟩
      have hb1 : Below _ _ w1 := hq1.bel
      have hsz1 : w.heap.size + 2 ≤ w1.heap.size := by have := hb1.size; simpa using this
      have K1 := Lib.hid (K0.out.below hb1)
      have HR1 := Lib.hid (HR0.out.below hb1)
      have HP1 := Lib.hid (HP.out.below hb1)
      have cc0 := K1.out.c 0 rfl
      have cc1 := K1.out.c 1 rfl
      clear hq1 hb1
      go_wp2_with fail
      refine (l02Arity _ false _ HA.out).mono ?_
      rintro e w2 ⟨rfl, rfl⟩
      have d0 := HR1.out.c 0 rfl
      have d1 := HR1.out.c 1 rfl
      have f0 := HR1.out.free 0
      have f1 := HR1.out.free 1
      go_wp2
      refine bodyPost_ret (v := .tuple #[.agg #[.int .i64 0, .slice none 0 0], .int .i64 2]) (by simp [results, Try.results15, go_sem, d0, d1]) rfl ⟨_, _, _, rfl, ?_, ?_⟩
      · exact OwnRowE.nil _ _ _ (Nat.le_refl _)
      · exact (K1.out.bel.setCell (by show w.heap.size ≤ w.heap.size + 1; omega) _).setCell (by show w.heap.size ≤ w.heap.size + 1; omega) _
  · have HO := Lib.hid (Tells.no ho)
    clear ho
    go_enter Try.func15, Try.ntmps15
    go_wp2_with fail
    refine (l02Ok _ _ _ _ _ false _ HP.out HO.out).mono ?_
    rintro e w1 ⟨rfl, hq1⟩
    have hb1 : Below _ _ w1 := hq1.bel
    have hsz1 : w.heap.size + 2 ≤ w1.heap.size := by have := hb1.size; simpa using this
    have K1 := Lib.hid (K0.out.below hb1)
    have HR1 := Lib.hid (HR0.out.below hb1)
    have HP1 := Lib.hid (HP.out.below hb1)
    have cc0 := K1.out.c 0 rfl
    have cc1 := K1.out.c 1 rfl
    clear hq1 hb1
    have d0 := HR1.out.c 0 rfl
    have d1 := HR1.out.c 1 rfl
    have f0 := HR1.out.free 0
    have f1 := HR1.out.free 1
    go_wp2
    refine bodyPost_ret (v := .tuple #[.agg #[.int .i64 0, .slice none 0 0], .int .i64 1]) (by simp [results, Try.results15, go_sem, d0, d1]) rfl ⟨_, _, _, rfl, ?_, ?_⟩
    · exact OwnRowE.nil _ _ _ (Nat.le_refl _)
    · exact (K1.out.bel.setCell (by show w.heap.size ≤ w.heap.size + 1; omega) _).setCell (by show w.heap.size ≤ w.heap.size + 1; omega) _


set_option linter.unusedSimpArgs false in
set_option maxHeartbeats 4000000 in
set_option maxRecDepth 100000 in
theorem implMinorOf (size ar : Int) (a : Option Addr) (n c : Nat) (tab : List Int) (arity : Int) (vp : Value) (ps : List Int) (x : Int) (t : List Int) (cd : Int) (w : World) (h1 : RowAt w (.slice a n c) tab) (h2 : RowAt w vp ps) (hi : MinorOfIs size ar tab arity ps x t cd) :
    Calls Try.prog 18 #[.int .i64 size, .agg #[.int .i64 ar, .slice a n c], .int .i64 arity, vp] w (MadeOp2 w x t cd) := by
  obtain rfl : n = tab.length := by obtain ⟨_, _, hv, _⟩ := h1; simp only [Value.slice.injEq] at hv; exact hv.2.1
  obtain ⟨ap, np, cp, rfl, h2⟩ : ∃ a n c, vp = .slice a n c ∧ RowAt w (.slice a n c) ps := by obtain ⟨a0, c0, rfl, h⟩ := h2; exact ⟨a0, _, c0, rfl, a0, c0, rfl, h⟩
  obtain rfl : np = ps.length := by obtain ⟨_, _, hv, _⟩ := h2; simp only [Value.slice.injEq] at hv; exact hv.2.1
  have hnp : ps.length ≤ 9223372036854775807 := by obtain ⟨_, _, _, hn, _⟩ := h2; exact hn
  have HR0 : Hid (Box 24 _ (w.heap.size + 1) #[.int .i64 0, .slice none 0 0]) := Lib.hid (by
    have h := Box.new 24 (w.alloc (.cells #[.int .i64 ar, .slice a tab.length c] 24)) #[.int .i64 0, .slice none 0 0]
    rwa [World.size_alloc] at h)
  have HP := Lib.hid ((OpAt.new w ar a tab.length c tab 24 h1).below ((Below.refl _ _).alloc (Nat.le_refl _) (.cells #[.int .i64 0, .slice none 0 0] 24)))
  have K0 := Lib.hid ((((((Kept.start w).read (lives_row _ _) h1).read (lives_row _ _) h2).box w.heap.size rfl (.int .i64 ar) (.slice a tab.length c) 24)).below ((Below.refl _ _).alloc (Nat.le_refl _) (.cells #[.int .i64 0, .slice none 0 0] 24)))
  have ck0 := K0.out.c 0 rfl
  have ck1 := K0.out.c 1 rfl
  clear h1 h2
  rcases hi with ⟨ho, ⟨hm, hpt⟩, rfl, rfl, rfl⟩ | ⟨ho, hno, rfl, rfl, rfl⟩ | ⟨ho, rfl, rfl, rfl⟩
  · have HO := Lib.hid (Tells.yes ho)
    have HA := Lib.hid (Tells.yes hm)
    have HL := Lib.hid (Tells.yes hpt)
    have HPL : Hid (Tells true (PlP ps x)) := Lib.hid (Tells.yes hpt.2)
    obtain ⟨s, rfl⟩ : ∃ s : Nat, size = s := ⟨size.toNat, by have := ho.1.1; omega⟩
    obtain ⟨r, rfl⟩ : ∃ r : Nat, ar = r := ⟨ar.toNat, by have := ho.2.1.1; omega⟩
    obtain ⟨m, rfl⟩ : ∃ m : Nat, x = m := ⟨x.toNat, by have := hm.1; omega⟩
    simp only [Int.toNat_natCast]
    have hs1 : 1 ≤ s := by have := ho.1.1; omega
    have hs2 : s ≤ 4 := by have := ho.1.2; omega
    have hm1 : (1 : Int) ≤ m := hm.1
    have hm3 : (m : Int) ≤ 3 := hm.2
    obtain ⟨q, hq⟩ : ∃ q, s ^ m = q := ⟨_, rfl⟩
    have h64 : q ≤ 64 := by rw [← hq]; exact (pow_le3 hs1 hs2 (by omega)).1
    have HQ := Lib.hid hq
    have HOO := Lib.hid ho
    have HMM := Lib.hid hm
    have HPT := Lib.hid hpt
    have HMR : Hid (∀ i, 0 ≤ minR s m tab ps i ∧ minR s m tab ps i < s) := Lib.hid (fun i => minR_in ho hpt i)
    rw [hq]
    clear ho hm hpt hq
    have hfl := fieldTab
    go_enter Try.func18, Try.ntmps18
    go_wp2_with fail
    refine (implValidOp _ _ _ _ _ _ true _ (K0.out.r 1 rfl :) HO.out).mono ?_
    rintro e w1 ⟨rfl, hq1⟩
    have hb1 : Below _ _ w1 := hq1
    have hsz1 : w.heap.size + 2 ≤ w1.heap.size := by have := hb1.size; simpa using this
    have K1 := Lib.hid (K0.out.below hb1)
    have HR1 := Lib.hid (HR0.out.below hb1)

    have cc0 := K1.out.c 0 rfl
    have cc1 := K1.out.c 1 rfl
    clear hq1 hb1
    go_wp2_with fail
    refine (isOpArity _ true _ HA.out).mono ?_
    rintro e w2 ⟨rfl, rfl⟩
    go_wp2_with fail
    refine (isListBelow _ _ _ _ true _ (K1.out.r 0 rfl :) HL.out).mono ?_
    rintro e w3 ⟨rfl, rfl⟩
    go_wp2_with fail
    refine (tableOf s r a tab.length c tab _ (K1.out.r 1 rfl :) HOO.out).mono ?_
    rintro e w4 ⟨b4, G4, rfl, hT4, hG4, hb4, hbel4⟩
    have K4 := Lib.hid (K1.out.below hbel4)
    have HR4 := Lib.hid (HR1.out.below hbel4)
    have HT4 := Lib.hid hT4
    have HG4 := Lib.hid hG4
    have hsz4 : w1.heap.size ≤ w4.heap.size := hbel4.size
    clear hT4 hG4 hb4 hbel4
    go_wp2_with fail
    refine (tabMinor s r m q tab.length b4 G4 tab ps _ _ HOO.out rfl HMM.out HPT.out HQ.out HT4.out HG4.out (K4.out.r 0 rfl :)).mono ?_
    rintro e w5 ⟨b5, G5, rfl, hT5, hG5, hb5, hbel5⟩
    have K5 := Lib.hid (K4.out.below hbel5)
    have HR5 := Lib.hid (HR4.out.below hbel5)
    have HT5 := Lib.hid hT5
    have HG5 := Lib.hid hG5
    have hsz5 : w4.heap.size ≤ w5.heap.size := hbel5.size
    have HFB : Hid (∀ i, i < q → 0 ≤ G5 i ∧ G5 i < 256) := Lib.hid (fun i hi => by
      rw [HG5.out i hi]
      have h := HMR.out i
      exact ⟨h.1, by have := h.2; omega⟩)
    clear hT5 hG5 hb5 hbel5
    go_wp2_with fail
    refine (opOf m q b5 G5 h64 HFB.out _ HT5.out).mono ?_
    rw [rowF_congr HG5.out]
    rintro e w6 ⟨a6, n6, c6, rfl, ho6, hb6⟩
    have K6 := Lib.hid (K5.out.below hb6)
    have HR6 := Lib.hid (HR5.out.below hb6)
    have hlo : w.heap.size + 2 ≤ w5.heap.size := by omega
    have HO6 := Lib.hid ho6
    clear ho6 hb6
    have d0 := HR6.out.c 0 rfl
    have d1 := HR6.out.c 1 rfl
    have f0 := HR6.out.free 0
    have f1 := HR6.out.free 1
    go_wp2
    refine bodyPost_ret (v := .tuple #[.agg #[.int .i64 m, .slice a6 n6 c6], .int .i64 0]) (by simp [results, Try.results18, go_sem, d0, d1]) rfl ⟨_, _, _, rfl, ?_, ?_⟩
    · have hrow := HO6.out.row.mono hlo
      exact (((hrow.stored (by show w.heap.size + 1 < w.heap.size + 2; omega) _).stored (by show w.heap.size + 1 < w.heap.size + 2; omega) _).mono (by omega)).full
    · exact (K6.out.bel.setCell (by show w.heap.size ≤ w.heap.size + 1; omega) _).setCell (by show w.heap.size ≤ w.heap.size + 1; omega) _
  · have HO := Lib.hid (Tells.yes ho)
    by_cases hm : In13 arity
    · have HA := Lib.hid (Tells.yes hm)
      have hnt : ¬ TupP arity ar ps := fun h => hno ⟨hm, h⟩
      have HL := Lib.hid (Tells.no hnt)
      have hm1 := hm.1
      have hm3 := hm.2
      clear hm hno ho
      go_enter Try.func18, Try.ntmps18
      go_wp2_with fail
      refine (implValidOp _ _ _ _ _ _ true _ (K0.out.r 1 rfl :) HO.out).mono ?_
      rintro e w1 ⟨rfl, hq1⟩
      have hb1 : Below _ _ w1 := hq1
      have hsz1 : w.heap.size + 2 ≤ w1.heap.size := by have := hb1.size; simpa using this
      have K1 := Lib.hid (K0.out.below hb1)
      have HR1 := Lib.hid (HR0.out.below hb1)

      have cc0 := K1.out.c 0 rfl
      have cc1 := K1.out.c 1 rfl
      clear hq1 hb1
      go_wp2_with fail
      refine (isOpArity _ true _ HA.out).mono ?_
      rintro e w2 ⟨rfl, rfl⟩
      go_wp2_with fail
      refine (isListBelow _ _ _ _ false _ (K1.out.r 0 rfl :) HL.out).mono ?_
      rintro e w3 ⟨rfl, rfl⟩
      have d0 := HR1.out.c 0 rfl
      have d1 := HR1.out.c 1 rfl
      have f0 := HR1.out.free 0
      have f1 := HR1.out.free 1
      go_wp2
      refine bodyPost_ret (v := .tuple #[.agg #[.int .i64 0, .slice none 0 0], .int .i64 2]) (by simp [results, Try.results18, go_sem, d0, d1]) rfl ⟨_, _, _, rfl, ?_, ?_⟩
      · exact OwnRowE.nil _ _ _ (Nat.le_refl _)
      · exact (K1.out.bel.setCell (by show w.heap.size ≤ w.heap.size + 1; omega) _).setCell (by show w.heap.size ≤ w.heap.size + 1; omega) _
    · have HA := Lib.hid (Tells.no hm)
      clear hm hno ho
      go_enter Try.func18, Try.ntmps18
      go_wp2_with fail
      refine (implValidOp _ _ _ _ _ _ true _ (K0.out.r 1 rfl :) HO.out).mono ?_
      rintro e w1 ⟨rfl, hq1⟩
      have hb1 : Below _ _ w1 := hq1
      have hsz1 : w.heap.size + 2 ≤ w1.heap.size := by have := hb1.size; simpa using this
      have K1 := Lib.hid (K0.out.below hb1)
      have HR1 := Lib.hid (HR0.out.below hb1)

      have cc0 := K1.out.c 0 rfl
      have cc1 := K1.out.c 1 rfl
      clear hq1 hb1
      go_wp2_with fail
      refine (isOpArity _ false _ HA.out).mono ?_
      rintro e w2 ⟨rfl, rfl⟩
      have d0 := HR1.out.c 0 rfl
      have d1 := HR1.out.c 1 rfl
      have f0 := HR1.out.free 0
      have f1 := HR1.out.free 1
      go_wp2
      refine bodyPost_ret (v := .tuple #[.agg #[.int .i64 0, .slice none 0 0], .int .i64 2]) (by simp [results, Try.results18, go_sem, d0, d1]) rfl ⟨_, _, _, rfl, ?_, ?_⟩
      · exact OwnRowE.nil _ _ _ (Nat.le_refl _)
      · exact (K1.out.bel.setCell (by show w.heap.size ≤ w.heap.size + 1; omega) _).setCell (by show w.heap.size ≤ w.heap.size + 1; omega) _
  · have HO := Lib.hid (Tells.no ho)
    clear ho
    go_enter Try.func18, Try.ntmps18
    go_wp2_with fail
    refine (implValidOp _ _ _ _ _ _ false _ (K0.out.r 1 rfl :) HO.out).mono ?_
    rintro e w1 ⟨rfl, hq1⟩
    have hb1 : Below _ _ w1 := hq1
    have hsz1 : w.heap.size + 2 ≤ w1.heap.size := by have := hb1.size; simpa using this
    have K1 := Lib.hid (K0.out.below hb1)
    have HR1 := Lib.hid (HR0.out.below hb1)

    have cc0 := K1.out.c 0 rfl
    have cc1 := K1.out.c 1 rfl
    clear hq1 hb1
    have d0 := HR1.out.c 0 rfl
    have d1 := HR1.out.c 1 rfl
    have f0 := HR1.out.free 0
    have f1 := HR1.out.free 1
    go_wp2
    refine bodyPost_ret (v := .tuple #[.agg #[.int .i64 0, .slice none 0 0], .int .i64 1]) (by simp [results, Try.results18, go_sem, d0, d1]) rfl ⟨_, _, _, rfl, ?_, ?_⟩
    · exact OwnRowE.nil _ _ _ (Nat.le_refl _)
    · exact (K1.out.bel.setCell (by show w.heap.size ≤ w.heap.size + 1; omega) _).setCell (by show w.heap.size ≤ w.heap.size + 1; omega) _


end Go.Proofs.Ytnhamdjenmogjaa
