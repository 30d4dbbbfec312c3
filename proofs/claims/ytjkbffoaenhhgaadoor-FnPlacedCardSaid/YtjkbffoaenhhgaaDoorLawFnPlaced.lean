/-
  FnPlaced: the walk over the law.
-/
import Derived.Test.YtjkbffoaenhhgaaDoorDrawn
import Derived.Test.YtjkbffoaenhhgaaDoorSameB
import Derived.Test.YtjkbffoaenhhgaaDoorGBase
import Derived.Laws.AppendOwnNone
import Derived.Deep.CutRange
import Derived.Deep.Cut
import Derived.Deep.RegionHeld3
namespace Go.Proofs.YtjkbffoaenhhgaaDoor
open Go.RowKit

theorem p6RelI (a : Option Addr) (n c : Nat) (bs : List Int) (s r : Nat) (x : Int) (w : World) (h : BytesAt w (.slice a n c) bs) (h1 : 1 ≤ s) (h2 : s ≤ 4) (h3 : 1 ≤ r) (h4 : r ≤ 4) (hx : (r : Int) = x) :
    Calls Tryd.prog 6 #[.slice a n c, .int .i64 s, .int .i64 x] w fun e w' => ∃ a' n' c' R, e = .returned (.agg #[.int .i64 x, .slice a' n' c']) ∧ RelOk s r R ∧ OwnGrid w' w.heap.size w'.heap.size (.slice a' n' c') R ∧ Below w.heap.size w w' := by
  subst hx
  exact p6Rel a n c bs s r w h h1 h2 h3 h4
theorem OwnGrid.len {w : World} {B E : Nat} {a : Option Addr} {n c : Nat} {xss : List (List Int)} (h : OwnGrid w B E (.slice a n c) xss) : n = xss.length := by
  obtain ⟨V, hV⟩ := h
  rcases ownsRow_parts hV.outer with ⟨hv, hn, _⟩ | ⟨g, c', hv, _⟩
  · simp only [Value.slice.injEq] at hv; omega
  · simp only [Value.slice.injEq] at hv; exact hv.2.1
theorem specSameT (x : Int) (a1 : Option Addr) (n1 c1 : Nat) (xs : List (List Int)) (y : Int) (a2 : Option Addr) (n2 c2 : Nat) (ys : List (List Int)) (w : World) (h1 : GridAt w (.slice a1 n1 c1) xs) (h2 : GridAt w (.slice a2 n2 c2) ys) (he : eqR x xs y ys = true) :
    Calls Tryd.prog 15 #[.agg #[.int .i64 x, .slice a1 n1 c1], .agg #[.int .i64 y, .slice a2 n2 c2]] w fun e w' => e = .returned (.bool true) ∧ Below w.heap.size w w' := by
  have h := specSameRel x a1 n1 c1 xs y a2 n2 c2 ys w h1 h2
  rw [he] at h
  exact h
theorem info_byteD : (Tryd.prog.info? 5).map (fun i => (i.zero, i.size, i.bytes)) = some (some (.int .u8 0), 1, 1) := by kernel_rfl
theorem litB (w : World) : (w.alloc (.cells #[.int .u8 4] 5)).ownsRow w.heap.size 5 1 (.slice (some ⟨w.heap.size, 0, none⟩) 1 1) 1 [.int .u8 4] := by
  have := World.ownsRow_lit (e := 5) (size := 1) (base := w.heap.size) w #[.int .u8 4] 1 (Nat.le_refl _) (by unfold maxLen; omega) (by simp)
  simpa using this
theorem bytes_news {w : World} {ad : Addr} {n c : Nat} {bs : List Int} (h : BytesAt w (.slice (some ad) n c) bs) : ∀ j u, (bs.map (Value.int .u8))[j]? = some u → w.cell? (ad.add j) = some u := fun j u hu => by
  have hj : j < bs.length := by have := (List.getElem?_eq_some_iff.1 hu).1; simpa using this
  obtain ⟨b, off, he, hc⟩ := h.some_of j hj
  obtain rfl : ad = ⟨b, off, none⟩ := by simpa using he
  rw [List.getElem?_map, List.getElem?_eq_getElem hj] at hu
  rw [Addr.add_lit, hc, intN_at _ _ hj]
  simpa using hu
def invL (tv : List Int) (s k : Nat) : List Int := (List.range k).foldl (fun l v => l.set (intN tv v).toNat (v : Int)) (List.replicate s 0)
theorem invL_succ (tv : List Int) (s k : Nat) : invL tv s (k + 1) = (invL tv s k).set (intN tv k).toNat (k : Int) := by simp [invL, List.range_succ]
theorem invL_len (tv : List Int) (s : Nat) : ∀ k, (invL tv s k).length = s
  | 0 => by simp [invL]
  | k + 1 => by rw [invL_succ, List.length_set]; exact invL_len tv s k
theorem mulW (x y z : Nat) (h : z = x * y) (hx : x ≤ 256) (hy : y ≤ 256) : IntKind.i64.wrap ((x : Int) * (y : Int)) = (z : Int) := by
  have := Nat.mul_le_mul hx hy
  rw [← Int.natCast_mul, ← h]
  exact IntWalk.i64_in _ (by omega)


set_option linter.unusedSimpArgs false in
set_option maxHeartbeats 40000000 in
set_option maxRecDepth 100000 in
theorem lawFnPlaced (a0 : Option Addr) (n0 c0 : Nat) (b0 : List Int) (a1 : Option Addr) (n1 c1 : Nat) (b1 : List Int) (w : World) (hT : TzTab w) (h0 : BytesAt w (.slice a0 n0 c0) b0) (h1 : BytesAt w (.slice a1 n1 c1) b1) :
    Calls Tryd.prog 3 #[.slice a0 n0 c0, .slice a1 n1 c1] w fun e w' => e = .returned (.bool true) ∧ Below w.heap.size w w' := by

  have K0 := Lib.hid ((((Kept.start w).read lives_tz hT).read (lives_bytes _ _) h0).read (lives_bytes _ _) h1)
  obtain rfl := h0.len
  obtain rfl := h1.len
  clear h0 h1 hT
  by_cases hg0 : (4096 : Int) < b0.length
  · go_enter Tryd.func3, Tryd.ntmps3
    go_wp2_with fail
    refine (f6big _ _ _ true _ (by simpa using hg0)).mono ?_
    rintro e w' ⟨rfl, rfl⟩
    go_wp2
    go_ret
    exact ⟨rfl, K0.out.bel⟩
  by_cases hg1 : (4096 : Int) < b1.length
  · go_enter Tryd.func3, Tryd.ntmps3
    go_wp2_with fail
    refine (f6big _ _ _ false _ (by simpa using hg0)).mono ?_
    rintro e w' ⟨rfl, rfl⟩
    go_wp2_with fail
    refine (f6big _ _ _ true _ (by simpa using hg1)).mono ?_
    rintro e w' ⟨rfl, rfl⟩
    go_wp2
    go_ret
    exact ⟨rfl, K0.out.bel⟩
  go_enter Tryd.func3, Tryd.ntmps3
  go_wp2_with fail
  refine (f6big _ _ _ false _ (by simpa using hg0)).mono ?_
  rintro e w' ⟨rfl, rfl⟩
  go_wp2_with fail
  refine (f6big _ _ _ false _ (by simpa using hg1)).mono ?_
  rintro e w' ⟨rfl, rfl⟩
  go_wp2_with fail
  refine (p6Pick a0 b0.length c0 b0 2 _ (K0.out.r 1 rfl :) (by omega) (by omega)).mono ?_
  rintro e w1 ⟨v, rfl, hv, hb⟩
  have K1 := Lib.hid (K0.out.below hb)
  clear hb
  obtain ⟨s, hs⟩ : ∃ s : Nat, s = 2 + v := ⟨_, rfl⟩
  have hs1 : 1 ≤ s := by omega
  have hs4 : s ≤ 4 := by omega
  have hs2 : 2 ≤ s := by omega
  have hs3 : s ≤ 3 := by omega
  have hsI : IntKind.i64.wrap ((2 : Int) + (v : Int)) = (s : Int) := by rw [IntWalk.i64_in _ (by omega)]; omega
  clear hs hv
  go_wp2_with fail
  clear hsI
  refine (p6Pick a0 b0.length c0 b0 2 _ (K1.out.r 1 rfl :) (by omega) (by omega)).mono ?_
  rintro e w2 ⟨y, rfl, hy, hb⟩
  have K2 := Lib.hid (K1.out.below hb)
  clear hb
  obtain ⟨r, hr⟩ : ∃ r : Nat, r = 1 + y := ⟨_, rfl⟩
  have hr1 : 1 ≤ r := by omega
  have hr2 : r ≤ 2 := by omega
  have hr4 : r ≤ 4 := by omega
  have hrI : IntKind.i64.wrap ((1 : Int) + (y : Int)) = (r : Int) := by rw [IntWalk.i64_in _ (by omega)]; omega
  clear hr hy
  go_wp2_with fail
  clear hrI
  refine (p6RelI a0 b0.length c0 b0 s r (r) _ (K2.out.r 1 rfl :) hs1 hs4 (by omega) (by omega) (by simp)).mono ?_
  rintro e w3 ⟨a3, n3, c3, R, rfl, hokR, ho, hb⟩
  obtain rfl := ho.len
  have HOKR := Lib.hid hokR
  clear hokR
  have K3 := Lib.hid (((K2.out.below hb).read (lives_grid _ _) (OwnGrid.gridAt ho)).box w3.heap.size rfl (.int .i64 (r)) (.slice a3 R.length c3) 27)
  clear ho hb
  have cc0 := K3.out.c 0 rfl
  have cc1 := K3.out.c 1 rfl
  go_wp2_with fail
  refine (p6Places a1 b1.length c1 b1 3 r _ (K3.out.r 1 rfl :) (by omega) (by omega) (by omega)).mono ?_
  rintro e w4 ⟨a4, n4, c4, ps, rfl, ht, hrow, hb⟩
  have K4 := Lib.hid ((K3.out.below hb).read (lives_row _ _) hrow)
  have HPS := Lib.hid ht
  clear ht hrow hb
  clear cc0 cc1
  go_wp2_with fail
  refine (p6Tuple a1 b1.length c1 b1 s 3 _ (K4.out.r 2 rfl :) (by omega) (by omega) (by omega)).mono ?_
  rintro e w5 ⟨a5, n5, c5, u, rfl, ht, hrow, hb⟩
  obtain ⟨bu, offu, rfl, rfl, hu1⟩ := SlAt.some_of hrow 1 (by have := ht.1; omega)
  have K5 := Lib.hid ((K4.out.below hb).read (lives_row _ _) hrow)
  have K5c := Lib.hid (K5.out.cell hu1)
  have HU := Lib.hid (show TupP s (3 : Nat) u from ht)
  clear ht hrow hb hu1
  obtain ⟨P, hP⟩ : ∃ P, P = placedL s 3 ps R := ⟨_, rfl⟩
  have HOKP : Hid (RelOk s 3 P) := Lib.hid (by rw [hP]; exact placed_ok (t := 3) hs1 hs4 (by omega) (by omega) ps R)
  have HIP : Hid (PlaceRelIs s r R 3 ps 3 P 0) := Lib.hid (.inl ⟨HOKR.out, ⟨⟨by omega, by omega⟩, HPS.out⟩, rfl, hP, rfl⟩)
  have HMEM : Hid (u ∈ P ↔ mapped u ps ∈ R) := Lib.hid (by rw [hP]; exact mem_placed (t := 3) hs1 hs4 (by omega) (by omega) ps R u HU.out)
  clear hP
  have cc0 := K5c.out.c 1 rfl
  have cc1 := K5c.out.c 2 rfl
  go_wp2_with fail
  refine (implPlaceRel s r a3 R.length c3 R 3 _ ps 3 P 0 _ (K5c.out.r 2 rfl :) (K5c.out.r 1 rfl :) (K5c.out.r 5 rfl :) HIP.out).mono ?_
  rintro e w6 ⟨a6, n6, c6, rfl, ho, hb⟩
  obtain rfl := ho.len
  have K6 := Lib.hid (((K5c.out.below hb).read (lives_grid _ _) (OwnGrid.gridAt ho)).box w6.heap.size rfl (.int .i64 3) (.slice a6 P.length c6) 27)
  clear ho hb
  clear cc0 cc1
  obtain ⟨bh, hbh⟩ := Tells.exists (HasP P u)
  have HH1 : Hid (HasIs s 3 P u bh 0) := Lib.hid (.inl ⟨HOKP.out, hbh, rfl⟩)
  have HH2 : Hid (HasIs s r R (mapped u ps) bh 0) := Lib.hid (.inl ⟨HOKR.out, ⟨fun e => mem_rowN.1 (HMEM.out.1 (mem_rowN.2 (hbh.1 e))), fun k => hbh.2 (mem_rowN.1 (HMEM.out.2 (mem_rowN.2 k)))⟩, rfl⟩)
  have HPL : Hid (∀ i, i < ps.length → 0 ≤ intN ps i ∧ intN ps i < u.length) := Lib.hid fun i hi => by have h1 := HPS.out.2 i hi; have h2 := HU.out.1; omega
  have HPN : Hid (ps.length ≤ 4) := Lib.hid (by have := HPS.out.1; omega)
  clear hbh HMEM
  have cc0 := K6.out.c 0 rfl
  have cc1 := K6.out.c 1 rfl
  go_wp2_with fail
  refine (implHasTuple s 3 a6 P.length c6 P _ u bh 0 _ (K6.out.r 0 rfl :) (K6.out.r 1 rfl :) HH1.out).mono ?_
  rintro e w7 ⟨rfl, hb⟩
  have K7 := Lib.hid (K6.out.below hb)
  clear hb
  clear cc0 cc1
  go_wp2_with fail
  refine wp_region_noPanic ?_
  refine wp_region_late (S := (fun w' => w'.cell? ⟨w3.heap.size, 0, none⟩ = some (.int .i64 (r)) ∧ w'.cell? ⟨w3.heap.size, 1, none⟩ = some (.slice a3 R.length c3) ∧ Kept w [(⟨w6.heap.size, 0, none⟩, .int .i64 3), (⟨w6.heap.size, 1, none⟩, .slice a6 P.length c6), (⟨bu, offu + 1, none⟩, .int .i64 (intN u 1)), (⟨w3.heap.size, 0, none⟩, .int .i64 (r)), (⟨w3.heap.size, 1, none⟩, .slice a3 R.length c3)] [fun w => GridAt w (.slice a6 P.length c6) P, fun w => RowAt w (.slice (some ⟨bu, offu, none⟩) u.length c5) u, fun w => RowAt w (.slice a4 n4 c4) ps, fun w => GridAt w (.slice a3 R.length c3) R, fun w => BytesAt w (.slice a1 b1.length c1) b1, fun w => BytesAt w (.slice a0 b0.length c0) b0, TzTab] w')) [] (by kernel_rfl) ?_ (fun hHeld => ?_)
  · exact ⟨K7.out.drew.c 3 rfl, K7.out.drew.c 4 rfl, K7.out.drew⟩
  refine wpAnyL_free (i := 0) (v := ?_) (some 82) rfl rfl (by kernel_rfl) (by kernel_rfl) (by kernel_rfl) (by decide) (fun _ _ _ h => h) (Or.inl ⟨by rfl, ?_⟩) (fun h0 => by assumption) ?_
  rotate_left
  · intro wS
    go_simp
    try with_reducible rfl
  try simp only [Act.put, List.setIfInBounds_toArray, List.set_cons_zero, List.set_cons_succ]
  refine wpAnyL_take (i := 1) (v := ?_) (some 83) rfl rfl (by kernel_rfl) (by kernel_rfl) (by kernel_rfl) (by kernel_rfl) (by kernel_rfl) (fun _ _ _ h => h) (Or.inl ⟨by rfl, ?_⟩) (by assumption) ?_
  rotate_left
  · intro wS hSw
    try dsimp only at hSw
    go_simp
    try with_reducible rfl
  try simp only [Act.put, List.setIfInBounds_toArray, List.set_cons_zero, List.set_cons_succ]
  refine wpAnyL_free (i := 2) (v := ?_) (some 84) rfl rfl (by kernel_rfl) (by kernel_rfl) (by kernel_rfl) (by decide) (fun _ _ _ h => h) (Or.inl ⟨by rfl, ?_⟩) (fun h0 => by assumption) ?_
  rotate_left
  · intro wS
    go_simp
    try with_reducible rfl
  try simp only [Act.put, List.setIfInBounds_toArray, List.set_cons_zero, List.set_cons_succ]
  refine wpAnyL_free (i := 3) (v := ?_) (some 85) rfl rfl (by kernel_rfl) (by kernel_rfl) (by kernel_rfl) (by decide) (fun _ _ _ h => h) (Or.inl ⟨by rfl, ?_⟩) (fun h0 => by assumption) ?_
  rotate_left
  · intro wS
    go_simp
    try with_reducible rfl
  try simp only [Act.put, List.setIfInBounds_toArray, List.set_cons_zero, List.set_cons_succ]
  refine wpAnyL_ready (rs := [4]) (by kernel_rfl) (by simp) ?_
  refine AllReadyL.cons rfl (fun K hK => ?_) AllReadyL.nil
  go_simp; go_at_call 12; refine (valuesAt _ _ ps u _ (hHeld.2.2.r 2 rfl :) (hHeld.2.2.r 1 rfl :) HPN.out HPL.out).mono ?_; rintro e w8 ⟨a8, n8, c8, rfl, hrV, hbV⟩
  have HRV := Lib.hid hrV
  clear hrV
  refine hK.out _ _ ?_ (fun hHeld => ?_)
  · exact ⟨below_cell hbV hHeld.1, below_cell hbV hHeld.2.1, hHeld.2.2.below hbV⟩
  clear hK K
  try simp only [Act.put, List.setIfInBounds_toArray, List.set_cons_zero, List.set_cons_succ]
  refine wpAnyL_ready (rs := [5]) (by kernel_rfl) (by simp) ?_
  refine AllReadyL.cons rfl (fun K hK => ?_) AllReadyL.nil
  go_simp; go_at_call 11; refine (specHasTuple s r a3 R.length c3 R _ (mapped u ps) bh 0 _ (hHeld.2.2.r 3 rfl :) HRV.out HH2.out).mono ?_; rintro e w9 ⟨rfl, hbH⟩
  refine hK.out _ _ ?_ (fun hHeld => ?_)
  · exact ⟨below_cell hbH hHeld.1, below_cell hbH hHeld.2.1, hHeld.2.2.below hbH⟩
  clear hK K
  try simp only [Act.put, List.setIfInBounds_toArray, List.set_cons_zero, List.set_cons_succ]
  refine wpAnyL_free (i := 6) (v := ?_) (some 81) rfl rfl (by kernel_rfl) (by kernel_rfl) (by kernel_rfl) (by decide) (fun _ _ _ h => h) (Or.inl ⟨by rfl, ?_⟩) (fun h0 => by assumption) ?_
  rotate_left
  · intro wS
    go_simp
    try with_reducible rfl
  try simp only [Act.put, List.setIfInBounds_toArray, List.set_cons_zero, List.set_cons_succ]
  refine wpAnyL_free (i := 7) (v := ?_) (some 88) rfl rfl (by kernel_rfl) (by kernel_rfl) (by kernel_rfl) (by decide) (fun _ _ _ h => h) (Or.inl ⟨by rfl, ?_⟩) (fun h0 => by assumption) ?_
  rotate_left
  · intro wS
    go_simp
    try with_reducible rfl
  try simp only [Act.put, List.setIfInBounds_toArray, List.set_cons_zero, List.set_cons_succ]
  refine wpAnyL_free (i := 8) (v := ?_) (some 89) rfl rfl (by kernel_rfl) (by kernel_rfl) (by kernel_rfl) (by decide) (fun _ _ _ h => h) (Or.inl ⟨by rfl, ?_⟩) (fun h0 => by assumption) ?_
  rotate_left
  · intro wS
    go_simp
    try with_reducible rfl
  try simp only [Act.put, List.setIfInBounds_toArray, List.set_cons_zero, List.set_cons_succ]
  refine wpAnyL_free (i := 9) (v := ?_) (some 13) rfl rfl (by kernel_rfl) (by kernel_rfl) (by kernel_rfl) (by decide) (fun _ _ _ h => h) (Or.inl ⟨by rfl, ?_⟩) (fun h0 => by assumption) ?_
  rotate_left
  · intro wS
    go_simp
    try with_reducible rfl
  try simp only [Act.put, List.setIfInBounds_toArray, List.set_cons_zero, List.set_cons_succ]
  refine wpAnyL_free (i := 10) (v := ?_) (some 14) rfl rfl (by kernel_rfl) (by kernel_rfl) (by kernel_rfl) (by decide) (fun _ _ _ h => h) (Or.inl ⟨by rfl, ?_⟩) (fun h0 => by assumption) ?_
  rotate_left
  · intro wS
    go_simp
    try with_reducible rfl
  try simp only [Act.put, List.setIfInBounds_toArray, List.set_cons_zero, List.set_cons_succ]
  refine wpAnyL_done (by kernel_rfl) ?_ _
  refine NoPanic.normal ?_
  have K9 := Lib.hid (hHeld.2.2 : Kept w _ _ w9)
  clear hHeld HRV hbV hbH
  go_wp2_with fail
  refine (p6RelI a1 b1.length c1 b1 s 1 (1) _ (K9.out.r 4 rfl :) hs1 hs4 (by omega) (by omega) (by simp)).mono ?_
  rintro e w10 ⟨a10, n10, c10, S1, rfl, hokS1, ho, hb⟩
  obtain rfl := ho.len
  have HOKS1 := Lib.hid hokS1
  clear hokS1
  have K10 := Lib.hid (((K9.out.below hb).read (lives_grid _ _) (OwnGrid.gridAt ho)).box w10.heap.size rfl (.int .i64 (1)) (.slice a10 S1.length c10) 27)
  clear ho hb
  obtain ⟨B, hB⟩ : ∃ B, B = pairL S1 R := ⟨_, rfl⟩
  have HOKB : Hid (RelOk s (1 + (r : Int)) B) := Lib.hid (by rw [hB]; have h := pair_ok (s := s) (r := 1) (q := r) (by omega) HOKS1.out HOKR.out; rw [Int.natCast_add] at h; exact h)
  have HIB : Hid (PairRelsIs s 1 S1 r R (1 + (r : Int)) B 0) := Lib.hid (.inl ⟨⟨HOKS1.out, HOKR.out⟩, by omega, rfl, hB, rfl⟩)
  have HBL : Hid (IntKind.i64.wrap ((S1.length : Int) * (R.length : Int)) = (B.length : Int)) := Lib.hid (mulW _ _ _ (by rw [hB]; exact pairL_len S1 R) HOKS1.out.few HOKR.out.few)
  obtain ⟨Z, hZ⟩ : ∃ Z, Z = rowsS s 1 (setOf s (atL [0] (pairL S1 R))) 256 := ⟨_, rfl⟩
  have HIZ : Hid (ProjectRelIs s (1 + (r : Int)) B [0] 1 Z 0) := Lib.hid (.inl ⟨HOKB.out, ⟨⟨by simp, by simp⟩, fun k hk => by
    obtain rfl : k = 0 := by simp at hk; omega
    simp only [intN, List.getD_cons_zero]
    omega⟩, rfl, by rw [hZ, hB]; rfl, rfl⟩)
  have HZS : Hid (0 < R.length → Z = S1) := Lib.hid fun h => by rw [hZ]; exact project_back (r := 1) rfl (by omega) HOKS1.out HOKR.out h
  clear hB hZ
  have cc0 := K10.out.c 0 rfl
  have cc1 := K10.out.c 1 rfl
  have cc2 := K10.out.c 5 rfl
  have cc3 := K10.out.c 6 rfl
  go_wp2_with fail
  refine (implPairRels s 1 a10 S1.length c10 S1 r a3 R.length c3 R (1 + (r : Int)) B 0 _ (K10.out.r 0 rfl :) (K10.out.r 4 rfl :) (K10.out.r 7 rfl :) HIB.out).mono ?_
  rintro e w11 ⟨a11, n11, c11, rfl, ho, hb⟩
  obtain rfl := ho.len
  have K11 := Lib.hid (((K10.out.below hb).read (lives_grid _ _) (OwnGrid.gridAt ho)).box w11.heap.size rfl (.int .i64 (1 + (r : Int))) (.slice a11 B.length c11) 27)
  clear ho hb
  clear cc0 cc1 cc2 cc3
  have hlit := OwnRow.rowAt (ownRow_lit (w11.alloc (.cells #[.int .i64 (1 + (r : Int)), .slice a11 B.length c11] 27)) (w11.alloc (.cells #[.int .i64 (1 + (r : Int)), .slice a11 B.length c11] 27)).heap.size [0] (Nat.le_refl _) (by simp))
  rw [World.size_alloc] at hlit
  have KL := Lib.hid ((K11.out.below ((Below.refl _ _).alloc (Nat.le_refl _) (.cells #[.int .i64 0] 2))).read (lives_row _ _) hlit)
  clear hlit
  have hc0 := below_cell ((Below.refl _ _).alloc (Nat.le_refl _) (.cells #[.int .i64 0] 2)) (K11.out.c 0 rfl)
  have hc1 := below_cell ((Below.refl _ _).alloc (Nat.le_refl _) (.cells #[.int .i64 0] 2)) (K11.out.c 1 rfl)
  have hd0 := K11.out.c 0 rfl
  have hd1 := K11.out.c 1 rfl
  go_wp2_with fail
  refine (implProjectRel s (1 + (r : Int)) a11 B.length c11 B _ [0] 1 Z 0 _ (KL.out.r 1 rfl :) (KL.out.r 0 rfl :) (KL.out.r 9 rfl :) HIZ.out).mono ?_
  rintro e w12 ⟨a12, n12, c12, rfl, ho, hb⟩
  obtain rfl := ho.len
  have K12 := Lib.hid (((KL.out.below hb).read (lives_grid _ _) (OwnGrid.gridAt ho)).box w12.heap.size rfl (.int .i64 1) (.slice a12 Z.length c12) 27)
  clear ho hb
  clear hc0 hc1 hd0 hd1
  go_upto_region 15 with fail
  go_cut [152] from 122 (fun v152 wz => v152 = .bool false ∧ Kept w [(⟨w12.heap.size, 0, none⟩, .int .i64 1), (⟨w12.heap.size, 1, none⟩, .slice a12 Z.length c12), (⟨w11.heap.size, 0, none⟩, .int .i64 (1 + (r : Int))), (⟨w11.heap.size, 1, none⟩, .slice a11 B.length c11), (⟨w10.heap.size, 0, none⟩, .int .i64 (1)), (⟨w10.heap.size, 1, none⟩, .slice a10 S1.length c10), (⟨w6.heap.size, 0, none⟩, .int .i64 3), (⟨w6.heap.size, 1, none⟩, .slice a6 P.length c6), (⟨bu, offu + 1, none⟩, .int .i64 (intN u 1)), (⟨w3.heap.size, 0, none⟩, .int .i64 (r)), (⟨w3.heap.size, 1, none⟩, .slice a3 R.length c3)] [fun w => GridAt w (.slice a12 Z.length c12) Z, fun w => RowAt w (.slice (some ⟨w11.heap.size + 1, 0, none⟩) 1 1) [0], fun w => GridAt w (.slice a11 B.length c11) B, fun w => GridAt w (.slice a10 S1.length c10) S1, fun w => GridAt w (.slice a6 P.length c6) P, fun w => RowAt w (.slice (some ⟨bu, offu, none⟩) u.length c5) u, fun w => RowAt w (.slice a4 n4 c4) ps, fun w => GridAt w (.slice a3 R.length c3) R, fun w => BytesAt w (.slice a1 b1.length c1) b1, fun w => BytesAt w (.slice a0 b0.length c0) b0, TzTab] wz)
  case first =>
    as_aux_lemma =>
      have cc0 := K12.out.c 2 rfl
      have cc1 := K12.out.c 3 rfl
      have cc2 := K12.out.c 4 rfl
      have cc3 := K12.out.c 5 rfl
      have cc4 := K12.out.c 9 rfl
      have cc5 := K12.out.c 10 rfl
      have cc6 := K12.out.c 0 rfl
      have cc7 := K12.out.c 1 rfl
      have hmul := HBL.out
      by_cases hR0 : 0 < R.length
      · have hR0I : (0 : Int) < (R.length : Int) := by omega
        have HEQ : Hid (eqR 1 Z 1 S1 = true) := Lib.hid (by rw [HZS.out hR0]; exact eqR_same _ _)
        go_wp2_with fail
        refine (specSameT 1 a12 Z.length c12 Z 1 a10 S1.length c10 S1 _ (K12.out.r 0 rfl :) (K12.out.r 3 rfl :) HEQ.out).mono ?_
        rintro e wq ⟨rfl, hbq⟩
        have KQ := Lib.hid (K12.out.below hbq)
        clear hbq
        go_wp2_with fail
        go_meet
        exact ⟨rfl, KQ.out⟩
      · have hR0I : ¬ ((0 : Int) < (R.length : Int)) := by omega
        go_wp2_with fail
        go_meet
        exact ⟨rfl, K12.out⟩
  case rest =>
    as_aux_lemma =>
      obtain ⟨rfl, hk⟩ := hcut
      obtain ⟨w13, hwd⟩ : ∃ y, y = wc := ⟨_, rfl⟩
      subst hwd
      have K13 := Lib.hid hk
      clear hk
      go_wp2_with fail
      obtain ⟨Q, hQ⟩ : ∃ Q, Q = fixL 1 (intN u 1) P := ⟨_, rfl⟩
      have HIQ : Hid (FixPlaceIs s 3 P 1 (intN u 1) 3 Q 0) := Lib.hid (.inl ⟨HOKP.out, ⟨⟨by omega, by omega⟩, by have := HU.out.2 1 (by have := HU.out.1; omega); exact ⟨by omega, by omega⟩⟩, rfl, hQ, rfl⟩)
      have HQR : Hid (∀ i, i < Q.length → (rowN Q i).length = 3 ∧ intN (rowN Q i) 1 = intN u 1) := Lib.hid fun i hi => by subst hQ; exact fix_rows (r := 3) HOKP.out i hi
      have HQL : Hid (Q.length ≤ 256) := Lib.hid (by rw [hQ]; exact Nat.le_trans (fixL_len _ _ _) HOKP.out.few)
      have hul : (1 : Int) < (u.length : Int) := by have := HU.out.1; omega
      clear hQ
      go_cut [20, 21] from 153 (fun v20 v21 wz => TwoMade w [(⟨w12.heap.size, 0, none⟩, .int .i64 1), (⟨w12.heap.size, 1, none⟩, .slice a12 Z.length c12), (⟨w11.heap.size, 0, none⟩, .int .i64 (1 + (r : Int))), (⟨w11.heap.size, 1, none⟩, .slice a11 B.length c11), (⟨w10.heap.size, 0, none⟩, .int .i64 (1)), (⟨w10.heap.size, 1, none⟩, .slice a10 S1.length c10), (⟨w6.heap.size, 0, none⟩, .int .i64 3), (⟨w6.heap.size, 1, none⟩, .slice a6 P.length c6), (⟨bu, offu + 1, none⟩, .int .i64 (intN u 1)), (⟨w3.heap.size, 0, none⟩, .int .i64 (r)), (⟨w3.heap.size, 1, none⟩, .slice a3 R.length c3)] [fun w => GridAt w (.slice a12 Z.length c12) Z, fun w => RowAt w (.slice (some ⟨w11.heap.size + 1, 0, none⟩) 1 1) [0], fun w => GridAt w (.slice a11 B.length c11) B, fun w => GridAt w (.slice a10 S1.length c10) S1, fun w => GridAt w (.slice a6 P.length c6) P, fun w => RowAt w (.slice (some ⟨bu, offu, none⟩) u.length c5) u, fun w => RowAt w (.slice a4 n4 c4) ps, fun w => GridAt w (.slice a3 R.length c3) R, fun w => BytesAt w (.slice a1 b1.length c1) b1, fun w => BytesAt w (.slice a0 b0.length c0) b0, TzTab] 0 3 Q 0 v20 v21 wz)
      case first =>
        as_aux_lemma =>
          refine wp_region_noPanic ?_
          refine wp_region_late (S := (fun w' => w'.cell? ⟨w6.heap.size, 0, none⟩ = some (.int .i64 3) ∧ w'.cell? ⟨w6.heap.size, 1, none⟩ = some (.slice a6 P.length c6) ∧ w'.cell? ⟨bu, offu + 1, none⟩ = some (.int .i64 (intN u 1)) ∧ Kept w [(⟨w12.heap.size, 0, none⟩, .int .i64 1), (⟨w12.heap.size, 1, none⟩, .slice a12 Z.length c12), (⟨w11.heap.size, 0, none⟩, .int .i64 (1 + (r : Int))), (⟨w11.heap.size, 1, none⟩, .slice a11 B.length c11), (⟨w10.heap.size, 0, none⟩, .int .i64 (1)), (⟨w10.heap.size, 1, none⟩, .slice a10 S1.length c10), (⟨w6.heap.size, 0, none⟩, .int .i64 3), (⟨w6.heap.size, 1, none⟩, .slice a6 P.length c6), (⟨bu, offu + 1, none⟩, .int .i64 (intN u 1)), (⟨w3.heap.size, 0, none⟩, .int .i64 (r)), (⟨w3.heap.size, 1, none⟩, .slice a3 R.length c3)] [fun w => GridAt w (.slice a12 Z.length c12) Z, fun w => RowAt w (.slice (some ⟨w11.heap.size + 1, 0, none⟩) 1 1) [0], fun w => GridAt w (.slice a11 B.length c11) B, fun w => GridAt w (.slice a10 S1.length c10) S1, fun w => GridAt w (.slice a6 P.length c6) P, fun w => RowAt w (.slice (some ⟨bu, offu, none⟩) u.length c5) u, fun w => RowAt w (.slice a4 n4 c4) ps, fun w => GridAt w (.slice a3 R.length c3) R, fun w => BytesAt w (.slice a1 b1.length c1) b1, fun w => BytesAt w (.slice a0 b0.length c0) b0, TzTab] w')) [5, 10] (by kernel_rfl) ?_ (fun hHeld => ?_)
          · exact ⟨K13.out.drew.c 6 rfl, K13.out.drew.c 7 rfl, K13.out.drew.c 8 rfl, K13.out.drew⟩
          refine wpAnyL_free (i := 0) (v := ?_) (some 154) rfl rfl (by kernel_rfl) (by kernel_rfl) (by kernel_rfl) (by decide) (fun _ _ _ h => h) (Or.inl ⟨by rfl, ?_⟩) (fun h0 => by assumption) ?_
          rotate_left
          · intro wS
            go_simp
            try with_reducible rfl
          try simp only [Act.put, List.setIfInBounds_toArray, List.set_cons_zero, List.set_cons_succ]
          refine wpAnyL_take (i := 1) (v := ?_) (some 155) rfl rfl (by kernel_rfl) (by kernel_rfl) (by kernel_rfl) (by kernel_rfl) (by kernel_rfl) (fun _ _ _ h => h) (Or.inl ⟨by rfl, ?_⟩) (by assumption) ?_
          rotate_left
          · intro wS hSw
            try dsimp only at hSw
            go_simp
            try with_reducible rfl
          try simp only [Act.put, List.setIfInBounds_toArray, List.set_cons_zero, List.set_cons_succ]
          refine wpAnyL_free (i := 2) (v := ?_) (some 156) rfl rfl (by kernel_rfl) (by kernel_rfl) (by kernel_rfl) (by decide) (fun _ _ _ h => h) (Or.inl ⟨by rfl, ?_⟩) (fun h0 => by assumption) ?_
          rotate_left
          · intro wS
            go_simp
            try with_reducible rfl
          try simp only [Act.put, List.setIfInBounds_toArray, List.set_cons_zero, List.set_cons_succ]
          refine wpAnyL_free (i := 3) (v := ?_) (some 157) rfl rfl (by kernel_rfl) (by kernel_rfl) (by kernel_rfl) (by decide) (fun _ _ _ h => h) (Or.inl ⟨by rfl, ?_⟩) (fun h0 => by assumption) ?_
          rotate_left
          · intro wS
            go_simp
            try with_reducible rfl
          try simp only [Act.put, List.setIfInBounds_toArray, List.set_cons_zero, List.set_cons_succ]
          refine wpAnyL_take (i := 4) (v := ?_) (some 158) rfl rfl (by kernel_rfl) (by kernel_rfl) (by kernel_rfl) (by kernel_rfl) (by kernel_rfl) (fun _ _ _ h => h) (Or.inl ⟨by rfl, ?_⟩) (by assumption) ?_
          rotate_left
          · intro wS hSw
            try dsimp only at hSw
            go_simp
            try with_reducible rfl
          try simp only [Act.put, List.setIfInBounds_toArray, List.set_cons_zero, List.set_cons_succ]
          refine wpAnyL_ready (rs := [5, 9]) (by kernel_rfl) (by simp) ?_
          refine AllReadyL.last rfl (by kernel_rfl) (fun K hK => ?_) ?_
          · as_aux_lemma =>
              have KB := Lib.hid (hHeld.2.2.2)
              go_simp; go_at_call 16; refine (implFixPlace s 3 a6 P.length c6 P 1 (intN u 1) 3 Q 0 _ (hHeld.2.2.2.r 4 rfl :) (hHeld.2.2.2.r 10 rfl :) HIQ.out).mono ?_; rintro e w14 ⟨a14, n14, c14, rfl, ho14, hb14⟩
              have KM := Lib.hid (KB.out.below hb14)
              refine hK.out _ _ ?_
              clear hK K
              try simp only [Act.put, List.setIfInBounds_toArray, List.set_cons_zero, List.set_cons_succ]
              refine wpAnyL_free (i := 6) (v := ?_) (some 153) rfl rfl (by kernel_rfl) (by kernel_rfl) (by kernel_rfl) (by decide) (fun _ _ _ h => h) (Or.inl ⟨by rfl, ?_⟩) (fun h0 => absurd h0 (by decide)) ?_
              rotate_left
              · intro wS
                go_simp
                try with_reducible rfl
              try simp only [Act.put, List.setIfInBounds_toArray, List.set_cons_zero, List.set_cons_succ]
              refine wpAnyL_free (i := 7) (v := ?_) (some 160) rfl rfl (by kernel_rfl) (by kernel_rfl) (by kernel_rfl) (by decide) (fun _ _ _ h => h) (Or.inl ⟨by rfl, ?_⟩) (fun h0 => absurd h0 (by decide)) ?_
              rotate_left
              · intro wS
                go_simp
                try with_reducible rfl
              try simp only [Act.put, List.setIfInBounds_toArray, List.set_cons_zero, List.set_cons_succ]
              refine wpAnyL_free (i := 8) (v := ?_) (some 161) rfl rfl (by kernel_rfl) (by kernel_rfl) (by kernel_rfl) (by decide) (fun _ _ _ h => h) (Or.inl ⟨by rfl, ?_⟩) (fun h0 => absurd h0 (by decide)) ?_
              rotate_left
              · intro wS
                go_simp
                try with_reducible rfl
              try simp only [Act.put, List.setIfInBounds_toArray, List.set_cons_zero, List.set_cons_succ]
              refine wpAnyL_ready (rs := [9]) (by kernel_rfl) (by simp) ?_
              refine AllReadyL.last rfl (by kernel_rfl) (fun K hK => ?_) AllReadyL.nil
              go_simp
              refine hK.out _ _ ?_
              clear hK K
              try simp only [Act.put, List.setIfInBounds_toArray, List.set_cons_zero, List.set_cons_succ]
              refine wpAnyL_ready (rs := [10]) (by kernel_rfl) (by simp) ?_
              refine AllReadyL.last rfl (by kernel_rfl) (fun K hK => ?_) AllReadyL.nil
              go_simp
              refine hK.out _ _ ?_
              clear hK K
              try simp only [Act.put, List.setIfInBounds_toArray, List.set_cons_zero, List.set_cons_succ]
              refine wpAnyL_free (i := 11) (v := ?_) (some 21) rfl rfl (by kernel_rfl) (by kernel_rfl) (by kernel_rfl) (by decide) (fun _ _ _ h => h) (Or.inl ⟨by rfl, ?_⟩) (fun h0 => absurd h0 (by decide)) ?_
              rotate_left
              · intro wS
                go_simp
                try with_reducible rfl
              try simp only [Act.put, List.setIfInBounds_toArray, List.set_cons_zero, List.set_cons_succ]
              refine wpAnyL_done (by kernel_rfl) ?_ _
              refine NoPanic.normal ?_
              go_wp2_with fail
              go_meet
              exact TwoMade.late KM.out ho14 (Nat.zero_le _) hb14.size
          refine AllReadyL.cons rfl (fun K hK => ?_) AllReadyL.nil
          have KX := Lib.hid (hHeld.2.2.2 : Kept w _ _ w13.drew)
          have HBOX := Lib.hid (show RelBox _ w13.heap.size _ _ from RelBox.new w13.drew (.int .i64 0) (.slice none 0 0))
          have HX := Lib.hid ((Below.refl w13.drew.heap.size w13.drew).alloc (Nat.le_refl _) (.cells #[.int .i64 0, .slice none 0 0] 27))
          go_simp
          refine hK.out _ _ ?_ (fun hHeld => ?_)
          · exact ⟨below_cell ((Below.refl _ _).alloc (Nat.le_refl _) _) hHeld.1, below_cell ((Below.refl _ _).alloc (Nat.le_refl _) _) hHeld.2.1, below_cell ((Below.refl _ _).alloc (Nat.le_refl _) _) hHeld.2.2.1, hHeld.2.2.2.below ((Below.refl _ _).alloc (Nat.le_refl _) _)⟩
          clear hK K
          try simp only [Act.put, List.setIfInBounds_toArray, List.set_cons_zero, List.set_cons_succ]
          refine wpAnyL_ready (rs := [5]) (by kernel_rfl) (by simp) ?_
          refine AllReadyL.last rfl (by kernel_rfl) (fun K hK => ?_) AllReadyL.nil
          have KB := Lib.hid (hHeld.2.2.2)
          have HLT := Lib.hid HBOX.out.lt
          go_simp; go_at_call 16; refine (implFixPlace s 3 a6 P.length c6 P 1 (intN u 1) 3 Q 0 _ (hHeld.2.2.2.r 4 rfl :) (hHeld.2.2.2.r 10 rfl :) HIQ.out).mono ?_; rintro e w14 ⟨a14, n14, c14, rfl, ho14, hb14⟩
          have HX := Lib.hid (HX.out.trans (hb14.mono HX.out.size))
          have HBOX := Lib.hid (HBOX.out.below hb14)
          refine hK.out _ _ ?_
          clear hK K
          try simp only [Act.put, List.setIfInBounds_toArray, List.set_cons_zero, List.set_cons_succ]
          refine wpAnyL_free (i := 6) (v := ?_) (some 153) rfl rfl (by kernel_rfl) (by kernel_rfl) (by kernel_rfl) (by decide) (fun _ _ _ h => h) (Or.inl ⟨by rfl, ?_⟩) (fun h0 => absurd h0 (by decide)) ?_
          rotate_left
          · intro wS
            go_simp
            try with_reducible rfl
          try simp only [Act.put, List.setIfInBounds_toArray, List.set_cons_zero, List.set_cons_succ]
          refine wpAnyL_free (i := 7) (v := ?_) (some 160) rfl rfl (by kernel_rfl) (by kernel_rfl) (by kernel_rfl) (by decide) (fun _ _ _ h => h) (Or.inl ⟨by rfl, ?_⟩) (fun h0 => absurd h0 (by decide)) ?_
          rotate_left
          · intro wS
            go_simp
            try with_reducible rfl
          try simp only [Act.put, List.setIfInBounds_toArray, List.set_cons_zero, List.set_cons_succ]
          refine wpAnyL_free (i := 8) (v := ?_) (some 161) rfl rfl (by kernel_rfl) (by kernel_rfl) (by kernel_rfl) (by decide) (fun _ _ _ h => h) (Or.inl ⟨by rfl, ?_⟩) (fun h0 => absurd h0 (by decide)) ?_
          rotate_left
          · intro wS
            go_simp
            try with_reducible rfl
          try simp only [Act.put, List.setIfInBounds_toArray, List.set_cons_zero, List.set_cons_succ]
          refine wpAnyL_ready (rs := [10]) (by kernel_rfl) (by simp) ?_
          refine AllReadyL.last rfl (by kernel_rfl) (fun K hK => ?_) AllReadyL.nil
          have d0 := HBOX.out.c0
          have d1 := HBOX.out.c1
          have f0 := HBOX.out.free 0
          have f1 := HBOX.out.free 1
          go_simp
          refine hK.out _ _ ?_
          clear hK K
          try simp only [Act.put, List.setIfInBounds_toArray, List.set_cons_zero, List.set_cons_succ]
          refine wpAnyL_free (i := 11) (v := ?_) (some 21) rfl rfl (by kernel_rfl) (by kernel_rfl) (by kernel_rfl) (by decide) (fun _ _ _ h => h) (Or.inl ⟨by rfl, ?_⟩) (fun h0 => absurd h0 (by decide)) ?_
          rotate_left
          · intro wS
            go_simp
            try with_reducible rfl
          try simp only [Act.put, List.setIfInBounds_toArray, List.set_cons_zero, List.set_cons_succ]
          refine wpAnyL_done (by kernel_rfl) ?_ _
          refine NoPanic.normal ?_
          go_wp2_with fail
          go_meet
          exact TwoMade.early (X := w13.drew) KX.out HX.out HBOX.out ho14 (Nat.zero_le _) HLT.out
      case rest =>
        as_aux_lemma =>
          obtain ⟨bk, f14, e14, a14, n14, c14, rfl, rfl, hk, hx, ho, -, -, -⟩ := hcut
          obtain rfl := ho.len
          obtain ⟨w14, hwd⟩ : ∃ y, y = wc := ⟨_, rfl⟩
          subst hwd
          have K14 := Lib.hid (((hk.read (lives_grid _ _) (OwnGrid.gridAt ho)).cell hx.c1).cell hx.c0)
          clear hk hx ho
          go_wp2
          go_loopw [22] (fun i wr => ∃ k : Nat, k ≤ Q.length ∧ i = .int .i64 k ∧ QW w14 wr) (fun i _ => Q.length - (intOf i).toNat)
          case atStart => exact ⟨0, Nat.zero_le _, rfl, QW.refl _⟩
          case round =>
            obtain ⟨k, hk, rfl, hq⟩ := hrel
            have KW := Lib.hid (K14.out.below (hq.below _))
            have hq1 := KW.out.c 1 rfl
            by_cases hlt : k < Q.length
            · obtain ⟨V, ⟨a', c', hv, hn, hc⟩, hV⟩ : GridAt wr (.slice a14 Q.length c14) Q := (KW.out.r 0 rfl :)
              simp only [Value.slice.injEq] at hv
              obtain ⟨rfl, _, rfl⟩ := hv
              obtain ⟨b2, off2, ha1, hcell1⟩ := hc (by omega)
              subst ha1
              obtain ⟨a4, c4, hv4, hn4, hc4⟩ := hV k hlt
              have hx1 := hcell1 k hlt
              rw [hv4] at hx1
              obtain ⟨hrl, hre⟩ := HQR.out k hlt
              rw [hrl] at hx1 hc4
              obtain ⟨b3, off3, rfl, hc3⟩ := hc4 (by omega)
              have hx3 := hc3 1 (by omega)
              dsimp only at hx3
              rw [hre] at hx3
              have hx4 := KW.out.c 10 rfl
              have hlt' : (k : Int) < (Q.length : Int) := by omega
              have HQ := Lib.hid hq
              clear hc3 hc4 hcell1 hV hc hv4 hrl hre hq
              go_wp2
              go_region
              go_wp2
              go_roundw
              case rel => exact ⟨k + 1, by omega, by go_num, HQ.out.drew⟩
              case measure => simp [intOf]; omega
            · obtain rfl : k = Q.length := by omega
              clear hlt hq
              have hnot : ¬ ((Q.length : Int) < (Q.length : Int)) := by omega
              go_wp2_with fail
              clear hq1 hnot
              obtain ⟨wq, hwq⟩ : ∃ y, y = wr := ⟨_, rfl⟩
              subst hwq
              refine (p6RelI a0 b0.length c0 b0 s 2 (2) _ (KW.out.r 10 rfl :) hs1 hs4 (by omega) (by omega) (by simp)).mono ?_
              rintro e w15 ⟨a15, n15, c15, A1, rfl, hokA1, ho, hb⟩
              obtain rfl := ho.len
              have HOKA1 := Lib.hid hokA1
              clear hokA1
              have K15 := Lib.hid (((KW.out.below hb).read (lives_grid _ _) (OwnGrid.gridAt ho)).box w15.heap.size rfl (.int .i64 (2)) (.slice a15 A1.length c15) 27)
              clear ho hb
              go_wp2_with fail
              refine (p6RelI a1 b1.length c1 b1 s 2 (2) _ (K15.out.r 10 rfl :) hs1 hs4 (by omega) (by omega) (by simp)).mono ?_
              rintro e w16 ⟨a16, n16, c16, B1, rfl, hokB1, ho, hb⟩
              obtain rfl := ho.len
              have HOKB1 := Lib.hid hokB1
              clear hokB1
              have K16 := Lib.hid (((K15.out.below hb).read (lives_grid _ _) (OwnGrid.gridAt ho)).box w16.heap.size rfl (.int .i64 (2)) (.slice a16 B1.length c16) 27)
              clear ho hb
              go_upto_region 27 with fail
              go_cut [25] from 197 (fun v25 wz => ∃ (bk2 : Nat) (a : Option Addr) (c : Nat) (C1 : List (List Int)), v25 = .pointer (some ⟨bk2, 0, none⟩) ∧ RelOk s (2 : Nat) C1 ∧ GridAt wz (.slice a C1.length c) C1 ∧ RelBox wz bk2 (.int .i64 2) (.slice a C1.length c) ∧ Kept w [(⟨w16.heap.size, 0, none⟩, .int .i64 (2)), (⟨w16.heap.size, 1, none⟩, .slice a16 B1.length c16), (⟨w15.heap.size, 0, none⟩, .int .i64 (2)), (⟨w15.heap.size, 1, none⟩, .slice a15 A1.length c15), (⟨bk, 0, none⟩, .int .i64 3), (⟨bk, 1, none⟩, .slice a14 Q.length c14), (⟨w12.heap.size, 0, none⟩, .int .i64 1), (⟨w12.heap.size, 1, none⟩, .slice a12 Z.length c12), (⟨w11.heap.size, 0, none⟩, .int .i64 (1 + (r : Int))), (⟨w11.heap.size, 1, none⟩, .slice a11 B.length c11), (⟨w10.heap.size, 0, none⟩, .int .i64 (1)), (⟨w10.heap.size, 1, none⟩, .slice a10 S1.length c10), (⟨w6.heap.size, 0, none⟩, .int .i64 3), (⟨w6.heap.size, 1, none⟩, .slice a6 P.length c6), (⟨bu, offu + 1, none⟩, .int .i64 (intN u 1)), (⟨w3.heap.size, 0, none⟩, .int .i64 (r)), (⟨w3.heap.size, 1, none⟩, .slice a3 R.length c3)] [fun w => GridAt w (.slice a16 B1.length c16) B1, fun w => GridAt w (.slice a15 A1.length c15) A1, fun w => GridAt w (.slice a14 Q.length c14) Q, fun w => GridAt w (.slice a12 Z.length c12) Z, fun w => RowAt w (.slice (some ⟨w11.heap.size + 1, 0, none⟩) 1 1) [0], fun w => GridAt w (.slice a11 B.length c11) B, fun w => GridAt w (.slice a10 S1.length c10) S1, fun w => GridAt w (.slice a6 P.length c6) P, fun w => RowAt w (.slice (some ⟨bu, offu, none⟩) u.length c5) u, fun w => RowAt w (.slice a4 n4 c4) ps, fun w => GridAt w (.slice a3 R.length c3) R, fun w => BytesAt w (.slice a1 b1.length c1) b1, fun w => BytesAt w (.slice a0 b0.length c0) b0, TzTab] wz)
              case first =>
                as_aux_lemma =>
                  have hlit := litB (w16.alloc (.cells #[.int .i64 (2), .slice a16 B1.length c16] 27))
                  rw [World.size_alloc] at hlit
                  have HLIT := Lib.hid hlit
                  have KL := Lib.hid (K16.out.below ((Below.refl _ _).alloc (Nat.le_refl _) (.cells #[.int .u8 4] 5)))
                  have HBY := Lib.hid (KL.out.r 12 rfl :)
                  obtain ⟨i0, hi, hz0, hz1, hz2⟩ := info_parts info_byteD
                  have hr4' : ∀ k, k < (4 :: b0).length → 0 ≤ intN (4 :: b0) k ∧ intN (4 :: b0) k < 256 := by
                    intro k hk
                    cases k with
                    | zero => simp [intN]
                    | succ k => have := HBY.out.2.1 k (by simp at hk; omega); simpa [intN] using this
                  have HR4 := Lib.hid hr4'
                  clear hlit hr4'
                  cases a0 with
                  | none =>
                    obtain rfl : c0 = 0 := HBY.out.2.2 _ _ rfl
                    obtain rfl : b0 = [] := by
                      obtain ⟨a', c', hv, hn, hc⟩ := HBY.out.1
                      by_cases h0 : 0 < b0.length
                      · obtain ⟨b, off, he, _⟩ := hc h0
                        subst he
                        simp at hv
                      · exact List.length_eq_zero_iff.1 (by omega)
                    go_wp2_with (at_builtin; refine wpList_append_own_none rfl _ _ 22 rfl (w16.heap.size + 1) 5 i0 1 Tryd.underlying22 hi (.slice (some ⟨w16.heap.size + 1, 0, none⟩) 1 1) 1 _ rfl HLIT.out rfl ?_)
                    go_wp2_with fail
                    obtain ⟨a7, c7, hv7, hby7⟩ := bytes_of_own (bs := [4]) HLIT.out HR4.out
                    have HB7 := Lib.hid hby7
                    clear hby7 hv7
                    refine (p6RelI _ _ _ [4] s 2 2 _ HB7.out hs1 hs4 (by omega) (by omega) (by simp)).mono ?_
                    rintro e w5 ⟨a5, n5, c5, C1, rfl, hok, ho, hb⟩
                    obtain rfl := ho.len
                    have KZ := Lib.hid (KL.out.below hb)
                    have HOK5 := Lib.hid hok
                    have HG5 := Lib.hid (OwnGrid.gridAt ho)
                    clear hok ho hb
                    go_wp2_with fail
                    go_meet
                    exact ⟨_, a5, c5, C1, rfl, HOK5.out, HG5.out.below ((Below.refl _ _).alloc (Nat.le_refl _) _), RelBox.new _ _ _, KZ.out.below ((Below.refl _ _).alloc (Nat.le_refl _) _)⟩
                  | some ad =>
                    have HNW := Lib.hid (bytes_news HBY.out)
                    go_wp2_with (at_builtin; refine wpList_append_own _ rfl _ _ 22 rfl (w16.heap.size + 1) 5 i0 (.int .u8 0) 1 1 Tryd.underlying22 hi hz0 hz1 hz2 rfl (by decide) (.slice (some ⟨w16.heap.size + 1, 0, none⟩) 1 1) 1 _ rfl HLIT.out ad b0.length c0 (b0.map (Value.int .u8)) rfl (by simp) HNW.out (by simp [Value.oneCell']) (by unfold maxLen; omega) (by omega) (by simp) ?_; intro v' w3 hown' hgrow _; have HOW := Lib.hid hown'; have HGR := Lib.hid hgrow; clear hown' hgrow; obtain ⟨a7, c7, rfl, hby7⟩ := bytes_of_own (bs := 4 :: b0) HOW.out HR4.out; have HB7 := Lib.hid hby7; clear hby7)
                    have KG := Lib.hid (K16.out.below (((Below.refl (w16.alloc (.cells #[.int .i64 (2), .slice a16 B1.length c16] 27)).heap.size (w16.alloc (.cells #[.int .i64 (2), .slice a16 B1.length c16] 27))).alloc (Nat.le_refl _) (.cells #[.int .u8 4] 5)).grown HGR.out (by simp) (fun q hq => by simp [Value.ownBlock] at hq; simp; omega)))
                    refine (p6RelI _ _ _ (4 :: b0) s 2 2 _ HB7.out hs1 hs4 (by omega) (by omega) (by simp)).mono ?_
                    rintro e w5 ⟨a5, n5, c5, C1, rfl, hok, ho, hb⟩
                    obtain rfl := ho.len
                    have KZ := Lib.hid (KG.out.below hb)
                    have HOK5 := Lib.hid hok
                    have HG5 := Lib.hid (OwnGrid.gridAt ho)
                    clear hok ho hb
                    go_wp2_with fail
                    go_meet
                    exact ⟨_, a5, c5, C1, rfl, HOK5.out, HG5.out.below ((Below.refl _ _).alloc (Nat.le_refl _) _), RelBox.new _ _ _, KZ.out.below ((Below.refl _ _).alloc (Nat.le_refl _) _)⟩
              case rest =>
                as_aux_lemma =>
                  obtain ⟨bk2, a17, c17, C1, rfl, hok, hgr, hx, hk⟩ := hcut
                  obtain ⟨w17, hwd⟩ : ∃ y, y = wc := ⟨_, rfl⟩
                  subst hwd
                  have HOKC1 := Lib.hid hok
                  have K17 := Lib.hid (((hk.read (lives_grid _ _) hgr).cell hx.c1).cell hx.c0)
                  clear hk hx hgr hok
                  go_wp2_with fail
                  refine (implEqualRel s hs1 hs4 _).mono ?_
                  rintro e w18 ⟨a18, n18, c18, rfl, ho, hb⟩
                  obtain rfl := ho.len
                  have K18 := Lib.hid (((K17.out.below hb).read (lives_grid _ _) (OwnGrid.gridAt ho)).box w18.heap.size rfl (.int .i64 2) (.slice a18 (eqRows s).length c18) 27)
                  clear ho hb
                  have HOKEQ : Hid (RelOk s 2 (eqRows s)) := Lib.hid (equal_ok hs1 hs4)
                  obtain ⟨AB, hAB⟩ : ∃ AB, AB = compR s A1 B1 := ⟨_, rfl⟩
                  have HOKAB : Hid (RelOk s 2 AB) := Lib.hid (by rw [hAB]; exact comp_ok HOKA1.out HOKB1.out)
                  have HIAB : Hid (ComposeRelsIs s 2 A1 2 B1 2 AB 0) := Lib.hid (.inl ⟨⟨HOKA1.out, HOKB1.out⟩, ⟨rfl, rfl⟩, rfl, hAB, rfl⟩)
                  have HEAB := Lib.hid hAB
                  clear hAB
                  have cc0 := K18.out.c 6 rfl
                  have cc1 := K18.out.c 7 rfl
                  have cc2 := K18.out.c 4 rfl
                  have cc3 := K18.out.c 5 rfl
                  go_wp2_with fail
                  refine (implComposeRels s 2 a15 A1.length c15 A1 2 a16 B1.length c16 B1 2 AB 0 _ (K18.out.r 3 rfl :) (K18.out.r 2 rfl :) (K18.out.r 15 rfl :) HIAB.out).mono ?_
                  rintro e w19 ⟨a19, n19, c19, rfl, ho, hb⟩
                  obtain rfl := ho.len
                  have K19 := Lib.hid (((K18.out.below hb).read (lives_grid _ _) (OwnGrid.gridAt ho)).box w19.heap.size rfl (.int .i64 2) (.slice a19 AB.length c19) 27)
                  clear ho hb
                  clear cc0 cc1 cc2 cc3
                  obtain ⟨BC, hBC⟩ : ∃ BC, BC = compR s B1 C1 := ⟨_, rfl⟩
                  have HOKBC : Hid (RelOk s 2 BC) := Lib.hid (by rw [hBC]; exact comp_ok HOKB1.out HOKC1.out)
                  have HIBC : Hid (ComposeRelsIs s 2 B1 2 C1 2 BC 0) := Lib.hid (.inl ⟨⟨HOKB1.out, HOKC1.out⟩, ⟨rfl, rfl⟩, rfl, hBC, rfl⟩)
                  have HEBC := Lib.hid hBC
                  clear hBC
                  have cc0 := K19.out.c 6 rfl
                  have cc1 := K19.out.c 7 rfl
                  have cc2 := K19.out.c 4 rfl
                  have cc3 := K19.out.c 5 rfl
                  go_wp2_with fail
                  refine (implComposeRels s 2 a16 B1.length c16 B1 2 a17 C1.length c17 C1 2 BC 0 _ (K19.out.r 3 rfl :) (K19.out.r 2 rfl :) (K19.out.r 16 rfl :) HIBC.out).mono ?_
                  rintro e w20 ⟨a20, n20, c20, rfl, ho, hb⟩
                  obtain rfl := ho.len
                  have K20 := Lib.hid (((K19.out.below hb).read (lives_grid _ _) (OwnGrid.gridAt ho)).box w20.heap.size rfl (.int .i64 2) (.slice a20 BC.length c20) 27)
                  clear ho hb
                  clear cc0 cc1 cc2 cc3
                  obtain ⟨LF, hLF⟩ : ∃ LF, LF = compR s AB C1 := ⟨_, rfl⟩
                  have HOKLF : Hid (RelOk s 2 LF) := Lib.hid (by rw [hLF]; exact comp_ok HOKAB.out HOKC1.out)
                  have HILF : Hid (ComposeRelsIs s 2 AB 2 C1 2 LF 0) := Lib.hid (.inl ⟨⟨HOKAB.out, HOKC1.out⟩, ⟨rfl, rfl⟩, rfl, hLF, rfl⟩)
                  have HELF := Lib.hid hLF
                  clear hLF
                  have cc0 := K20.out.c 2 rfl
                  have cc1 := K20.out.c 3 rfl
                  have cc2 := K20.out.c 6 rfl
                  have cc3 := K20.out.c 7 rfl
                  go_wp2_with fail
                  refine (implComposeRels s 2 a19 AB.length c19 AB 2 a17 C1.length c17 C1 2 LF 0 _ (K20.out.r 1 rfl :) (K20.out.r 3 rfl :) (K20.out.r 17 rfl :) HILF.out).mono ?_
                  rintro e w21 ⟨a21, n21, c21, rfl, ho, hb⟩
                  obtain rfl := ho.len
                  have K21 := Lib.hid (((K20.out.below hb).read (lives_grid _ _) (OwnGrid.gridAt ho)).box w21.heap.size rfl (.int .i64 2) (.slice a21 LF.length c21) 27)
                  clear ho hb
                  clear cc0 cc1 cc2 cc3
                  obtain ⟨RT, hRT⟩ : ∃ RT, RT = compR s A1 BC := ⟨_, rfl⟩
                  have HOKRT : Hid (RelOk s 2 RT) := Lib.hid (by rw [hRT]; exact comp_ok HOKA1.out HOKBC.out)
                  have HIRT : Hid (ComposeRelsIs s 2 A1 2 BC 2 RT 0) := Lib.hid (.inl ⟨⟨HOKA1.out, HOKBC.out⟩, ⟨rfl, rfl⟩, rfl, hRT, rfl⟩)
                  have HERT := Lib.hid hRT
                  clear hRT
                  have cc0 := K21.out.c 12 rfl
                  have cc1 := K21.out.c 13 rfl
                  have cc2 := K21.out.c 2 rfl
                  have cc3 := K21.out.c 3 rfl
                  go_wp2_with fail
                  refine (implComposeRels s 2 a15 A1.length c15 A1 2 a20 BC.length c20 BC 2 RT 0 _ (K21.out.r 6 rfl :) (K21.out.r 1 rfl :) (K21.out.r 18 rfl :) HIRT.out).mono ?_
                  rintro e w22 ⟨a22, n22, c22, rfl, ho, hb⟩
                  obtain rfl := ho.len
                  have K22 := Lib.hid (((K21.out.below hb).read (lives_grid _ _) (OwnGrid.gridAt ho)).box w22.heap.size rfl (.int .i64 2) (.slice a22 RT.length c22) 27)
                  clear ho hb
                  clear cc0 cc1 cc2 cc3
                  obtain ⟨SM, hSM⟩ : ∃ SM, SM = compR s A1 (eqRows s) := ⟨_, rfl⟩
                  have HOKSM : Hid (RelOk s 2 SM) := Lib.hid (by rw [hSM]; exact comp_ok HOKA1.out HOKEQ.out)
                  have HISM : Hid (ComposeRelsIs s 2 A1 2 (eqRows s) 2 SM 0) := Lib.hid (.inl ⟨⟨HOKA1.out, HOKEQ.out⟩, ⟨rfl, rfl⟩, rfl, hSM, rfl⟩)
                  have HESM := Lib.hid hSM
                  clear hSM
                  have cc0 := K22.out.c 14 rfl
                  have cc1 := K22.out.c 15 rfl
                  have cc2 := K22.out.c 8 rfl
                  have cc3 := K22.out.c 9 rfl
                  go_wp2_with fail
                  refine (implComposeRels s 2 a15 A1.length c15 A1 2 a18 (eqRows s).length c18 (eqRows s) 2 SM 0 _ (K22.out.r 7 rfl :) (K22.out.r 4 rfl :) (K22.out.r 19 rfl :) HISM.out).mono ?_
                  rintro e w23 ⟨a23, n23, c23, rfl, ho, hb⟩
                  obtain rfl := ho.len
                  have K23 := Lib.hid (((K22.out.below hb).read (lives_grid _ _) (OwnGrid.gridAt ho)).box w23.heap.size rfl (.int .i64 2) (.slice a23 SM.length c23) 27)
                  clear ho hb
                  clear cc0 cc1 cc2 cc3
                  have HQ1 : Hid (eqR 2 LF 2 RT = true) := Lib.hid (by rw [HELF.out, HERT.out, HEAB.out, HEBC.out, comp_assoc HOKA1.out HOKB1.out HOKC1.out]; exact eqR_same _ _)
                  have HQ2 : Hid (eqR 2 SM 2 A1 = true) := Lib.hid (by rw [HESM.out, comp_equal HOKA1.out]; exact eqR_same _ _)
                  have cc0 := K23.out.c 4 rfl
                  have cc1 := K23.out.c 5 rfl
                  have cc2 := K23.out.c 2 rfl
                  have cc3 := K23.out.c 3 rfl
                  go_wp2_with fail
                  refine (specSameT 2 a21 LF.length c21 LF 2 a22 RT.length c22 RT _ (K23.out.r 2 rfl :) (K23.out.r 1 rfl :) HQ1.out).mono ?_
                  rintro e w24 ⟨rfl, hb⟩
                  have K24 := Lib.hid (K23.out.below hb)
                  clear hb
                  clear cc0 cc1 cc2 cc3
                  have cc0 := K24.out.c 0 rfl
                  have cc1 := K24.out.c 1 rfl
                  have cc2 := K24.out.c 16 rfl
                  have cc3 := K24.out.c 17 rfl
                  go_wp2_with fail
                  refine (specSameT 2 a23 SM.length c23 SM 2 a15 A1.length c15 A1 _ (K24.out.r 0 rfl :) (K24.out.r 8 rfl :) HQ2.out).mono ?_
                  rintro e w25 ⟨rfl, hb⟩
                  have K25 := Lib.hid (K24.out.below hb)
                  clear hb
                  clear cc0 cc1 cc2 cc3
                  go_upto_region 36 with fail
                  obtain ⟨i0, hi, hz0, hz1, hz2⟩ := info_parts info_intD
                  have hcase : s = 2 ∨ s = 3 := by omega
                  rcases hcase with hse | hse
                  · as_aux_lemma =>
                      have hd : ¬ ((s : Int) = 3) := by omega
                      have hlit := OwnRow.rowAt (ownRow_lit w25 w25.heap.size [1, 0] (Nat.le_refl _) (by simp))
                      have KT := Lib.hid ((K25.out.below ((Below.refl _ _).alloc (Nat.le_refl _) (.cells #[.int .i64 1, .int .i64 0] 2))).read (lives_row _ _) hlit)
                      have HTO : Hid (∀ k : Nat, k < s → 0 ≤ intN [1, 0] k ∧ intN [1, 0] k < s) := Lib.hid fun k hk => by
                        subst hse
                        rcases (show k = 0 ∨ k = 1 by omega) with rfl | rfl <;> simp [intN]
                      have HTP : Hid (TupP s s [1, 0]) := Lib.hid ⟨by subst hse; rfl, fun k hk => HTO.out k (by subst hse; simpa using hk)⟩
                      have HINV : Hid (invL [1, 0] s s = [1, 0]) := Lib.hid (by subst hse; rfl)
                      have HIP2 : Hid (TupP s s [1, 0]) := Lib.hid ⟨by subst hse; rfl, fun k hk => by
                        subst hse
                        rcases (show k = 0 ∨ k = 1 by simp at hk; omega) with rfl | rfl <;> simp [intN]⟩
                      have HBK : Hid (∀ v : Nat, v < s → intN [1, 0] (intN [1, 0] v).toNat = v) := Lib.hid fun v hv => by
                        subst hse
                        rcases (show v = 0 ∨ v = 1 by omega) with rfl | rfl <;> simp [intN]
                      have HSE := Lib.hid hse
                      have hs0 : s ≤ 2 := by omega
                      clear hlit hse
                      go_wp2_with (at_make; refine wpList_make_full _ rfl _ _ 29 rfl (w25.heap.size + 1) 2 i0 (.int .i64 0) 1 Tryd.underlying29 hi hz0 hz1 .i64 .i64 _ _ s rfl rfl rfl rfl (by rw [hz2]; omega) (by unfold maxLen; omega) (by simp) ?_; intro wm hown hgrow; have HOW := Lib.hid hown; have HGR := Lib.hid hgrow; clear hown hgrow)
                      have hown0 : wm.ownsRow (w25.heap.size + 1) 2 1 (.slice (some ⟨w25.heap.size + 1, 0, none⟩) s s) s ((invL [1, 0] s 0).map (Value.int .i64)) := by
                        have hu : (invL [1, 0] s 0).map (Value.int .i64) = List.replicate s (.int .i64 0) := by simp [invL]
                        rw [hu, ← toList_madeCells_one]
                        simpa [Value.cells] using HOW.out
                      have HO0 := Lib.hid hown0
                      have HBM : Hid (Below (w25.alloc (.cells #[.int .i64 1, .int .i64 0] 2)).heap.size (w25.alloc (.cells #[.int .i64 1, .int .i64 0] 2)) wm) := Lib.hid ((Below.refl _ _).grown HGR.out (Nat.le_refl _) (fun q hq => by simp at hq))
                      clear hown0 HOW HGR
                      go_loopw [40] (fun i wr => ∃ k : Nat, k ≤ s ∧ i = .int .i64 k ∧ wr.ownsRow (w25.heap.size + 1) 2 1 (.slice (some ⟨w25.heap.size + 1, 0, none⟩) s s) s ((invL [1, 0] s k).map (Value.int .i64)) ∧ Below (w25.alloc (.cells #[.int .i64 1, .int .i64 0] 2)).heap.size (w25.alloc (.cells #[.int .i64 1, .int .i64 0] 2)) wr) (fun i _ => s - (intOf i).toNat)
                      case atStart => exact ⟨0, Nat.zero_le _, rfl, HO0.out, HBM.out⟩
                      case round =>
                        obtain ⟨k, hk, rfl, hown, hbel⟩ := hrel
                        clear HO0 HBM
                        have KR := Lib.hid (KT.out.below hbel)
                        by_cases hlt : k < s
                        · obtain ⟨t, ht⟩ : ∃ t : Nat, intN [1, 0] k = t := ⟨(intN [1, 0] k).toNat, by have := HTO.out k hlt; omega⟩
                          have ht2 : t < s := by have := HTO.out k hlt; omega
                          have hx := SlAt.cell_of (show RowAt wr (.slice (some ⟨w25.heap.size, 0, none⟩) 2 2) [1, 0] from (KR.out.r 0 rfl :)) k (by have := HSE.out; simp; omega)
                          rw [ht, Nat.zero_add] at hx
                          have hfr := hown.frozenAt t
                          have hat : wr.cell? ⟨w25.heap.size + 1, t, none⟩ = some (.int .i64 (intN (invL [1, 0] s k) t)) := by
                            have hl := invL_len [1, 0] s k
                            rw [hown.cellAt t (by omega), List.getElem?_map, List.getElem?_eq_getElem (by omega), intN_at _ _ (by omega)]
                            rfl
                          have hlt' : (k : Int) < (s : Int) := by omega
                          have ht' : (t : Int) < (s : Int) := by omega
                          have hkn : (k : Int) < 2 := by have := HSE.out; omega
                          have hown2 := (hown.stored t (.int .i64 k)).1
                          have he : ((invL [1, 0] s k).map (Value.int .i64)).set t (.int .i64 k) = (invL [1, 0] s (k + 1)).map (Value.int .i64) := by
                            rw [invL_succ, ht, Int.toNat_natCast, List.map_set]
                          rw [he] at hown2
                          have HO2 := Lib.hid hown2
                          have HB2 := Lib.hid (hbel.setCell (p := ⟨w25.heap.size + 1, t, none⟩) (by simp) (.int .i64 k))
                          clear hown hbel hown2 he ht
                          go_wp2
                          go_roundw
                          case rel => exact ⟨k + 1, by omega, by go_num, HO2.out, HB2.out⟩
                          case measure => simp [intOf]; omega
                        · obtain rfl : s = k := by omega
                          rw [HINV.out] at hown
                          have HIR : Hid (RowAt wr (.slice (some ⟨w25.heap.size + 1, 0, none⟩) s s) [1, 0]) := Lib.hid (OwnRow.rowAt (B := w25.heap.size + 1) (by
                            have e : s = ([1, 0] : List Int).length := HSE.out
                            unfold OwnRow
                            rw [← e]
                            exact hown))
                          have KI := Lib.hid (KR.out.read (lives_row _ _) HIR.out)
                          have hnot : ¬ ((s : Int) < (s : Int)) := by omega
                          clear hown hbel hlt
                          obtain ⟨MP, hMP⟩ : ∃ MP, MP = mapR s 2 [1, 0] A1 := ⟨_, rfl⟩
                          have HOKMP : Hid (RelOk s 2 MP) := Lib.hid (by rw [hMP]; exact map_ok (r := 2) hs1 hs4 HOKA1.out HTP.out)
                          have HIMP : Hid (MapRelIs s 2 A1 [1, 0] s 2 MP 0) := Lib.hid (.inl ⟨HOKA1.out, ⟨in14 hs1 hs4, HTP.out⟩, rfl, hMP, rfl⟩)
                          obtain ⟨AG, hAG⟩ : ∃ AG, AG = mapR s 2 [1, 0] MP := ⟨_, rfl⟩
                          have HIAG : Hid (MapRelIs s 2 MP [1, 0] s 2 AG 0) := Lib.hid (.inl ⟨HOKMP.out, ⟨in14 hs1 hs4, HIP2.out⟩, rfl, hAG, rfl⟩)
                          have HQ3 : Hid (eqR 2 AG 2 A1 = true) := Lib.hid (by rw [hAG, hMP, map_back (r := 2) HOKA1.out HTP.out HIP2.out HBK.out]; exact eqR_same _ _)
                          clear hMP hAG
                          have cc0 := KI.out.c 16 rfl
                          have cc1 := KI.out.c 17 rfl
                          go_wp2_with fail
                          refine (implMapRel s 2 a15 A1.length c15 A1 _ [1, 0] s 2 MP 0 _ (KI.out.r 10 rfl :) (KI.out.r 1 rfl :) (KI.out.r 22 rfl :) HIMP.out).mono ?_
                          rintro e w26 ⟨a26, n26, c26, rfl, ho, hb⟩
                          obtain rfl := ho.len
                          have K26 := Lib.hid (((KI.out.below hb).read (lives_grid _ _) (OwnGrid.gridAt ho)).box w26.heap.size rfl (.int .i64 2) (.slice a26 MP.length c26) 27)
                          clear ho hb
                          clear cc0 cc1
                          clear hnot
                          have cc0 := K26.out.c 0 rfl
                          have cc1 := K26.out.c 1 rfl
                          go_wp2_with fail
                          refine (implMapRel s 2 a26 MP.length c26 MP _ [1, 0] s 2 AG 0 _ (K26.out.r 0 rfl :) (K26.out.r 1 rfl :) (K26.out.r 23 rfl :) HIAG.out).mono ?_
                          rintro e w27 ⟨a27, n27, c27, rfl, ho, hb⟩
                          obtain rfl := ho.len
                          have K27 := Lib.hid (((K26.out.below hb).read (lives_grid _ _) (OwnGrid.gridAt ho)).box w27.heap.size rfl (.int .i64 2) (.slice a27 AG.length c27) 27)
                          clear ho hb
                          clear cc0 cc1
                          have cc0 := K27.out.c 0 rfl
                          have cc1 := K27.out.c 1 rfl
                          have cc2 := K27.out.c 20 rfl
                          have cc3 := K27.out.c 21 rfl
                          go_wp2_with fail
                          refine (specSameT 2 a27 AG.length c27 AG 2 a15 A1.length c15 A1 _ (K27.out.r 0 rfl :) (K27.out.r 12 rfl :) HQ3.out).mono ?_
                          rintro e w28 ⟨rfl, hb⟩
                          have K28 := Lib.hid (K27.out.below hb)
                          clear hb
                          clear cc0 cc1 cc2 cc3
                          go_wp2
                          go_ret
                          exact ⟨rfl, K28.out.bel⟩
                  · as_aux_lemma =>
                      have hd : ((s : Int) == 3) = true := beq_iff_eq.2 (by omega)
                      have hlit := OwnRow.rowAt (ownRow_lit (w25.alloc (.cells #[.int .i64 1, .int .i64 0] 2)) (w25.alloc (.cells #[.int .i64 1, .int .i64 0] 2)).heap.size [2, 0, 1] (Nat.le_refl _) (by simp))
                      rw [World.size_alloc] at hlit
                      have KT := Lib.hid ((K25.out.below (((Below.refl w25.heap.size w25).alloc (Nat.le_refl _) (.cells #[.int .i64 1, .int .i64 0] 2)).alloc (by simp) (.cells #[.int .i64 2, .int .i64 0, .int .i64 1] 2))).read (lives_row _ _) hlit)
                      have HTO : Hid (∀ k : Nat, k < s → 0 ≤ intN [2, 0, 1] k ∧ intN [2, 0, 1] k < s) := Lib.hid fun k hk => by
                        subst hse
                        rcases (show k = 0 ∨ k = 1 ∨ k = 2 by omega) with rfl | rfl | rfl <;> simp [intN]
                      have HTP : Hid (TupP s s [2, 0, 1]) := Lib.hid ⟨by subst hse; rfl, fun k hk => HTO.out k (by subst hse; simpa using hk)⟩
                      have HINV : Hid (invL [2, 0, 1] s s = [1, 2, 0]) := Lib.hid (by subst hse; rfl)
                      have HIP2 : Hid (TupP s s [1, 2, 0]) := Lib.hid ⟨by subst hse; rfl, fun k hk => by
                        subst hse
                        rcases (show k = 0 ∨ k = 1 ∨ k = 2 by simp at hk; omega) with rfl | rfl | rfl <;> simp [intN]⟩
                      have HBK : Hid (∀ v : Nat, v < s → intN [1, 2, 0] (intN [2, 0, 1] v).toNat = v) := Lib.hid fun v hv => by
                        subst hse
                        rcases (show v = 0 ∨ v = 1 ∨ v = 2 by omega) with rfl | rfl | rfl <;> simp [intN]
                      have HSE := Lib.hid hse
                      have hs0 : 3 ≤ s := by omega
                      clear hlit hse
                      go_wp2_with (at_make; refine wpList_make_full _ rfl _ _ 29 rfl (w25.heap.size + 1 + 1) 2 i0 (.int .i64 0) 1 Tryd.underlying29 hi hz0 hz1 .i64 .i64 _ _ s rfl rfl rfl rfl (by rw [hz2]; omega) (by unfold maxLen; omega) (by simp) ?_; intro wm hown hgrow; have HOW := Lib.hid hown; have HGR := Lib.hid hgrow; clear hown hgrow)
                      have hown0 : wm.ownsRow (w25.heap.size + 1 + 1) 2 1 (.slice (some ⟨w25.heap.size + 1 + 1, 0, none⟩) s s) s ((invL [2, 0, 1] s 0).map (Value.int .i64)) := by
                        have hu : (invL [2, 0, 1] s 0).map (Value.int .i64) = List.replicate s (.int .i64 0) := by simp [invL]
                        rw [hu, ← toList_madeCells_one]
                        simpa [Value.cells] using HOW.out
                      have HO0 := Lib.hid hown0
                      have HBM : Hid (Below ((w25.alloc (.cells #[.int .i64 1, .int .i64 0] 2)).alloc (.cells #[.int .i64 2, .int .i64 0, .int .i64 1] 2)).heap.size ((w25.alloc (.cells #[.int .i64 1, .int .i64 0] 2)).alloc (.cells #[.int .i64 2, .int .i64 0, .int .i64 1] 2)) wm) := Lib.hid ((Below.refl _ _).grown HGR.out (Nat.le_refl _) (fun q hq => by simp at hq))
                      clear hown0 HOW HGR
                      go_loopw [40] (fun i wr => ∃ k : Nat, k ≤ s ∧ i = .int .i64 k ∧ wr.ownsRow (w25.heap.size + 1 + 1) 2 1 (.slice (some ⟨w25.heap.size + 1 + 1, 0, none⟩) s s) s ((invL [2, 0, 1] s k).map (Value.int .i64)) ∧ Below ((w25.alloc (.cells #[.int .i64 1, .int .i64 0] 2)).alloc (.cells #[.int .i64 2, .int .i64 0, .int .i64 1] 2)).heap.size ((w25.alloc (.cells #[.int .i64 1, .int .i64 0] 2)).alloc (.cells #[.int .i64 2, .int .i64 0, .int .i64 1] 2)) wr) (fun i _ => s - (intOf i).toNat)
                      case atStart => exact ⟨0, Nat.zero_le _, rfl, HO0.out, HBM.out⟩
                      case round =>
                        obtain ⟨k, hk, rfl, hown, hbel⟩ := hrel
                        clear HO0 HBM
                        have KR := Lib.hid (KT.out.below hbel)
                        by_cases hlt : k < s
                        · obtain ⟨t, ht⟩ : ∃ t : Nat, intN [2, 0, 1] k = t := ⟨(intN [2, 0, 1] k).toNat, by have := HTO.out k hlt; omega⟩
                          have ht2 : t < s := by have := HTO.out k hlt; omega
                          have hx := SlAt.cell_of (show RowAt wr (.slice (some ⟨w25.heap.size + 1, 0, none⟩) 3 3) [2, 0, 1] from (KR.out.r 0 rfl :)) k (by have := HSE.out; simp; omega)
                          rw [ht, Nat.zero_add] at hx
                          have hfr := hown.frozenAt t
                          have hat : wr.cell? ⟨w25.heap.size + 1 + 1, t, none⟩ = some (.int .i64 (intN (invL [2, 0, 1] s k) t)) := by
                            have hl := invL_len [2, 0, 1] s k
                            rw [hown.cellAt t (by omega), List.getElem?_map, List.getElem?_eq_getElem (by omega), intN_at _ _ (by omega)]
                            rfl
                          have hlt' : (k : Int) < (s : Int) := by omega
                          have ht' : (t : Int) < (s : Int) := by omega
                          have hkn : (k : Int) < 3 := by have := HSE.out; omega
                          have hown2 := (hown.stored t (.int .i64 k)).1
                          have he : ((invL [2, 0, 1] s k).map (Value.int .i64)).set t (.int .i64 k) = (invL [2, 0, 1] s (k + 1)).map (Value.int .i64) := by
                            rw [invL_succ, ht, Int.toNat_natCast, List.map_set]
                          rw [he] at hown2
                          have HO2 := Lib.hid hown2
                          have HB2 := Lib.hid (hbel.setCell (p := ⟨w25.heap.size + 1 + 1, t, none⟩) (by simp) (.int .i64 k))
                          clear hown hbel hown2 he ht
                          go_wp2
                          go_roundw
                          case rel => exact ⟨k + 1, by omega, by go_num, HO2.out, HB2.out⟩
                          case measure => simp [intOf]; omega
                        · obtain rfl : s = k := by omega
                          rw [HINV.out] at hown
                          have HIR : Hid (RowAt wr (.slice (some ⟨w25.heap.size + 1 + 1, 0, none⟩) s s) [1, 2, 0]) := Lib.hid (OwnRow.rowAt (B := w25.heap.size + 1 + 1) (by
                            have e : s = ([1, 2, 0] : List Int).length := HSE.out
                            unfold OwnRow
                            rw [← e]
                            exact hown))
                          have KI := Lib.hid (KR.out.read (lives_row _ _) HIR.out)
                          have hnot : ¬ ((s : Int) < (s : Int)) := by omega
                          clear hown hbel hlt
                          obtain ⟨MP, hMP⟩ : ∃ MP, MP = mapR s 2 [2, 0, 1] A1 := ⟨_, rfl⟩
                          have HOKMP : Hid (RelOk s 2 MP) := Lib.hid (by rw [hMP]; exact map_ok (r := 2) hs1 hs4 HOKA1.out HTP.out)
                          have HIMP : Hid (MapRelIs s 2 A1 [2, 0, 1] s 2 MP 0) := Lib.hid (.inl ⟨HOKA1.out, ⟨in14 hs1 hs4, HTP.out⟩, rfl, hMP, rfl⟩)
                          obtain ⟨AG, hAG⟩ : ∃ AG, AG = mapR s 2 [1, 2, 0] MP := ⟨_, rfl⟩
                          have HIAG : Hid (MapRelIs s 2 MP [1, 2, 0] s 2 AG 0) := Lib.hid (.inl ⟨HOKMP.out, ⟨in14 hs1 hs4, HIP2.out⟩, rfl, hAG, rfl⟩)
                          have HQ3 : Hid (eqR 2 AG 2 A1 = true) := Lib.hid (by rw [hAG, hMP, map_back (r := 2) HOKA1.out HTP.out HIP2.out HBK.out]; exact eqR_same _ _)
                          clear hMP hAG
                          have cc0 := KI.out.c 16 rfl
                          have cc1 := KI.out.c 17 rfl
                          go_wp2_with fail
                          refine (implMapRel s 2 a15 A1.length c15 A1 _ [2, 0, 1] s 2 MP 0 _ (KI.out.r 10 rfl :) (KI.out.r 1 rfl :) (KI.out.r 22 rfl :) HIMP.out).mono ?_
                          rintro e w26 ⟨a26, n26, c26, rfl, ho, hb⟩
                          obtain rfl := ho.len
                          have K26 := Lib.hid (((KI.out.below hb).read (lives_grid _ _) (OwnGrid.gridAt ho)).box w26.heap.size rfl (.int .i64 2) (.slice a26 MP.length c26) 27)
                          clear ho hb
                          clear cc0 cc1
                          clear hnot
                          have cc0 := K26.out.c 0 rfl
                          have cc1 := K26.out.c 1 rfl
                          go_wp2_with fail
                          refine (implMapRel s 2 a26 MP.length c26 MP _ [1, 2, 0] s 2 AG 0 _ (K26.out.r 0 rfl :) (K26.out.r 1 rfl :) (K26.out.r 23 rfl :) HIAG.out).mono ?_
                          rintro e w27 ⟨a27, n27, c27, rfl, ho, hb⟩
                          obtain rfl := ho.len
                          have K27 := Lib.hid (((K26.out.below hb).read (lives_grid _ _) (OwnGrid.gridAt ho)).box w27.heap.size rfl (.int .i64 2) (.slice a27 AG.length c27) 27)
                          clear ho hb
                          clear cc0 cc1
                          have cc0 := K27.out.c 0 rfl
                          have cc1 := K27.out.c 1 rfl
                          have cc2 := K27.out.c 20 rfl
                          have cc3 := K27.out.c 21 rfl
                          go_wp2_with fail
                          refine (specSameT 2 a27 AG.length c27 AG 2 a15 A1.length c15 A1 _ (K27.out.r 0 rfl :) (K27.out.r 12 rfl :) HQ3.out).mono ?_
                          rintro e w28 ⟨rfl, hb⟩
                          have K28 := Lib.hid (K27.out.below hb)
                          clear hb
                          clear cc0 cc1 cc2 cc3
                          go_wp2
                          go_ret
                          exact ⟨rfl, K28.out.bel⟩

end Go.Proofs.YtjkbffoaenhhgaaDoor
