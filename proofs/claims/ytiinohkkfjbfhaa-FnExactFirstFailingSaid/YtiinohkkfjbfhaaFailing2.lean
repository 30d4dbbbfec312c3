/-
  Constraints that hold: FirstFailing and IsSolution of the program.
-/
import Derived.Test.YtiinohkkfjbfhaaFailing1
import Derived.Test.YtiinohkkfjbfhaaBox
import Derived.Deep.CutRange
namespace Go.Proofs.Ytiinohkkfjbfhaa
open Go.RowKit

theorem bitsOfW (size : Int) (ar : Int) (a : Option Addr) (n c : Nat) (xss : List (List Int)) (w : World) (h : GridAt w (.slice a n c) xss) (hr : RelOk size ar xss) :
    Calls Try.prog 136 #[.int .i64 size, .agg #[.int .i64 ar, .slice a n c]] w fun e w' => e = .returned (.agg #[.int .u64 (word (setOf size xss) 0), .int .u64 (word (setOf size xss) 1), .int .u64 (word (setOf size xss) 2), .int .u64 (word (setOf size xss) 3)]) ∧ Below w.heap.size w w' := bitsOf size ar a n c xss w h hr

theorem hasBitW (S : Nat → Bool) (n : Nat) (hn : n < 256) (w : World) :
    Calls Try.prog 137 #[.agg #[.int .u64 (word (S) 0), .int .u64 (word (S) 1), .int .u64 (word (S) 2), .int .u64 (word (S) 3)], .int .i64 n] w fun e w' => e = .returned (.bool (S n)) ∧ Below w.heap.size w w' := hasBit S n hn w

set_option linter.unusedSimpArgs false in
set_option maxHeartbeats 1000000 in
set_option maxRecDepth 100000 in
theorem relatedBy (sz : Int) (a1 : Option Addr) (n1 c1 : Nat) (rs : List (Int × List (List Int))) (m : Nat) (a3 : Option Addr) (n3 c3 : Nat) (w : World) (h1 : RelsAt w (.slice a1 n1 c1) rs) (hm : m < rs.length) (hro : RelOk sz (arN rs m) (gridN rs m)) :
    Calls Try.prog 93 #[.agg #[.int .i64 sz, .slice a1 n1 c1], .int .i64 m, .slice a3 n3 c3] w fun e w' => e = .returned (.agg #[.slice a3 n3 c3, .int .u64 (word (setOf sz (gridN rs m)) 0), .int .u64 (word (setOf sz (gridN rs m)) 1), .int .u64 (word (setOf sz (gridN rs m)) 2), .int .u64 (word (setOf sz (gridN rs m)) 3)]) ∧ Below w.heap.size w w' := by
  obtain ⟨a1', c1', hv, hn, hc⟩ := h1
  simp only [Value.slice.injEq] at hv
  obtain ⟨rfl, rfl, rfl⟩ := hv
  obtain ⟨b1, off1, ha1, hcell1⟩ := hc (by omega)
  subst ha1
  obtain ⟨y0, ga, gn, gc, y1, hg⟩ := hcell1 m hm
  have HG := Lib.hid hg
  have HRO := Lib.hid hro
  have hm' : (m : Int) < (rs.length : Int) := by omega
  have HW1 : Hid (Below w.heap.size w ((w.alloc (.cells #[.int .i64 sz, .slice (some ⟨b1, off1, none⟩) rs.length c1] 33)).alloc (.cells #[.slice none 0 0, .int .u64 0, .int .u64 0, .int .u64 0, .int .u64 0] 118))) := Lib.hid (((Below.refl _ _).alloc (Nat.le_refl _) _).alloc (by simp) _)
  have K0 := Lib.hid (((Kept.start w).box w.heap.size rfl (.int .i64 sz) (.slice (some ⟨b1, off1, none⟩) rs.length c1) 33).below ((Below.refl _ _).alloc (Nat.le_refl _) (.cells #[.slice none 0 0, .int .u64 0, .int .u64 0, .int .u64 0, .int .u64 0] 118)))
  have HR0 : Hid (Box 118 ((w.alloc (.cells #[.int .i64 sz, .slice (some ⟨b1, off1, none⟩) rs.length c1] 33)).alloc (.cells #[.slice none 0 0, .int .u64 0, .int .u64 0, .int .u64 0, .int .u64 0] 118)) (w.heap.size + 1) #[.slice none 0 0, .int .u64 0, .int .u64 0, .int .u64 0, .int .u64 0]) := Lib.hid (by
    have h := Box.new 118 (w.alloc (.cells #[.int .i64 sz, .slice (some ⟨b1, off1, none⟩) rs.length c1] 33)) #[.slice none 0 0, .int .u64 0, .int .u64 0, .int .u64 0, .int .u64 0]
    rwa [World.size_alloc] at h)
  have ck0 := K0.out.c 0 rfl
  have ck1 := K0.out.c 1 rfl
  have Y0 := Lib.hid (below_cell HW1.out y0)
  have Y1 := Lib.hid (below_cell HW1.out y1)
  clear hcell1 hc hg hro y0 y1
  go_enter Try.func93, Try.ntmps93
  go_upto_region 1 with fail
  refine wp_region_noPanic ?_
  refine wp_region_late (S := (fun w' => w'.cell? ⟨w.heap.size, 0, none⟩ = some (.int .i64 sz) ∧ w'.cell? ⟨w.heap.size, 1, none⟩ = some (.slice (some ⟨b1, off1, none⟩) rs.length c1) ∧ w'.cell? ⟨b1, off1 + m * 2, none⟩ = some (.int .i64 (arN rs m)) ∧ w'.cell? ⟨b1, off1 + m * 2 + 1, none⟩ = some (.slice ga gn gc) ∧ Below ((w.alloc (.cells #[.int .i64 sz, .slice (some ⟨b1, off1, none⟩) rs.length c1] 33)).alloc (.cells #[.slice none 0 0, .int .u64 0, .int .u64 0, .int .u64 0, .int .u64 0] 118)).heap.size ((w.alloc (.cells #[.int .i64 sz, .slice (some ⟨b1, off1, none⟩) rs.length c1] 33)).alloc (.cells #[.slice none 0 0, .int .u64 0, .int .u64 0, .int .u64 0, .int .u64 0] 118)) w')) [10] (by kernel_rfl) ?_ (fun hHeld => ?_)
  · exact ⟨ck0, ck1, Y0.out, Y1.out, (QW.refl _).drew.below _⟩
  refine wpAnyL_free (i := 0) (v := ?_) (some 7) rfl rfl (by kernel_rfl) (by kernel_rfl) (by kernel_rfl) (by decide) (fun _ _ _ h => h) (Or.inl ⟨by rfl, ?_⟩) (fun h0 => by assumption) ?_
  rotate_left
  · intro wS
    go_simp
    try with_reducible rfl
  try simp only [Act.put, List.setIfInBounds_toArray, List.set_cons_zero, List.set_cons_succ]
  refine wpAnyL_free (i := 1) (v := ?_) (some 8) rfl rfl (by kernel_rfl) (by kernel_rfl) (by kernel_rfl) (by decide) (fun _ _ _ h => h) (Or.inl ⟨by rfl, ?_⟩) (fun h0 => by assumption) ?_
  rotate_left
  · intro wS
    go_simp
    try with_reducible rfl
  try simp only [Act.put, List.setIfInBounds_toArray, List.set_cons_zero, List.set_cons_succ]
  refine wpAnyL_take (i := 2) (v := ?_) (some 9) rfl rfl (by kernel_rfl) (by kernel_rfl) (by kernel_rfl) (by kernel_rfl) (by kernel_rfl) (fun _ _ _ h => h) (Or.inl ⟨by rfl, ?_⟩) (by assumption) ?_
  rotate_left
  · intro wS hSw
    try dsimp only at hSw
    go_simp
    try with_reducible rfl
  try simp only [Act.put, List.setIfInBounds_toArray, List.set_cons_zero, List.set_cons_succ]
  refine wpAnyL_free (i := 3) (v := ?_) (some 10) rfl rfl (by kernel_rfl) (by kernel_rfl) (by kernel_rfl) (by decide) (fun _ _ _ h => h) (Or.inl ⟨by rfl, ?_⟩) (fun h0 => by assumption) ?_
  rotate_left
  · intro wS
    go_simp
    try with_reducible rfl
  try simp only [Act.put, List.setIfInBounds_toArray, List.set_cons_zero, List.set_cons_succ]
  refine wpAnyL_take (i := 4) (v := ?_) (some 11) rfl rfl (by kernel_rfl) (by kernel_rfl) (by kernel_rfl) (by kernel_rfl) (by kernel_rfl) (fun _ _ _ h => h) (Or.inl ⟨by rfl, ?_⟩) (by assumption) ?_
  rotate_left
  · intro wS hSw
    try dsimp only at hSw
    go_simp
    try with_reducible rfl
  try simp only [Act.put, List.setIfInBounds_toArray, List.set_cons_zero, List.set_cons_succ]
  refine wpAnyL_free (i := 5) (v := ?_) (some 12) rfl rfl (by kernel_rfl) (by kernel_rfl) (by kernel_rfl) (by decide) (fun _ _ _ h => h) (Or.inl ⟨by rfl, ?_⟩) (fun h0 => by assumption) ?_
  rotate_left
  · intro wS
    go_simp
    try with_reducible rfl
  try simp only [Act.put, List.setIfInBounds_toArray, List.set_cons_zero, List.set_cons_succ]
  refine wpAnyL_free (i := 6) (v := ?_) (some 13) rfl rfl (by kernel_rfl) (by kernel_rfl) (by kernel_rfl) (by decide) (fun _ _ _ h => h) (Or.inl ⟨by rfl, ?_⟩) (fun h0 => by assumption) ?_
  rotate_left
  · intro wS
    go_simp
    try with_reducible rfl
  try simp only [Act.put, List.setIfInBounds_toArray, List.set_cons_zero, List.set_cons_succ]
  refine wpAnyL_take (i := 7) (v := ?_) (some 14) rfl rfl (by kernel_rfl) (by kernel_rfl) (by kernel_rfl) (by kernel_rfl) (by kernel_rfl) (fun _ _ _ h => h) (Or.inl ⟨by rfl, ?_⟩) (by assumption) ?_
  rotate_left
  · intro wS hSw
    try dsimp only at hSw
    go_simp
    try with_reducible rfl
  try simp only [Act.put, List.setIfInBounds_toArray, List.set_cons_zero, List.set_cons_succ]
  refine wpAnyL_ready (rs := [8]) (by kernel_rfl) (by simp) ?_
  refine AllReadyL.cons rfl (fun K hK => ?_) AllReadyL.nil
  go_simp; go_at_call 136; refine (bitsOfW _ _ _ _ _ (gridN rs m) _ ((HG.out.below HW1.out).below hHeld.2.2.2.2) HRO.out).mono ?_; rintro e w5 ⟨rfl, hb5⟩
  have HB5 := Lib.hid (hHeld.2.2.2.2.trans (hb5.mono hHeld.2.2.2.2.size))
  have HR5 := Lib.hid (HR0.out.below HB5.out)
  have e0 := HR5.out.c 0 rfl
  have e1 := HR5.out.c 1 rfl
  have e2 := HR5.out.c 2 rfl
  have e3 := HR5.out.c 3 rfl
  have e4 := HR5.out.c 4 rfl
  have f0 := HR5.out.free 0
  have f1 := HR5.out.free 1
  have f2 := HR5.out.free 2
  have f3 := HR5.out.free 3
  have f4 := HR5.out.free 4
  refine hK.out _ _ ?_ (fun hHeld => ?_)
  · exact ⟨below_cell hb5 hHeld.1, below_cell hb5 hHeld.2.1, below_cell hb5 hHeld.2.2.1, below_cell hb5 hHeld.2.2.2.1, HB5.out⟩
  clear hK K
  try simp only [Act.put, List.setIfInBounds_toArray, List.set_cons_zero, List.set_cons_succ]
  refine wpAnyL_free (i := 9) (v := ?_) (some 16) rfl rfl (by kernel_rfl) (by kernel_rfl) (by kernel_rfl) (by decide) (fun _ _ _ h => h) (Or.inl ⟨by rfl, ?_⟩) (fun h0 => by assumption) ?_
  rotate_left
  · intro wS
    go_simp
    try with_reducible rfl
  try simp only [Act.put, List.setIfInBounds_toArray, List.set_cons_zero, List.set_cons_succ]
  refine wpAnyL_ready (rs := [10]) (by kernel_rfl) (by simp) ?_
  refine AllReadyL.last rfl (by kernel_rfl) (fun K hK => ?_) AllReadyL.nil
  go_simp
  refine hK.out _ _ ?_
  clear hK K
  try simp only [Act.put, List.setIfInBounds_toArray, List.set_cons_zero, List.set_cons_succ]
  refine wpAnyL_done (by kernel_rfl) ?_ _
  refine NoPanic.normal ?_
  go_wp2
  refine bodyPost_ret (v := .agg #[.slice a3 n3 c3, .int .u64 (word (setOf sz (gridN rs m)) 0), .int .u64 (word (setOf sz (gridN rs m)) 1), .int .u64 (word (setOf sz (gridN rs m)) 2), .int .u64 (word (setOf sz (gridN rs m)) 3)]) (by simp [results, Try.results93, go_sem, e0, e1, e2, e3, e4]) rfl ⟨rfl, ?_⟩
  exact (((((HW1.out.trans (HB5.out.mono HW1.out.size)).setCell (by show w.heap.size ≤ w.heap.size + 1; omega) _).setCell (by show w.heap.size ≤ w.heap.size + 1; omega) _).setCell (by show w.heap.size ≤ w.heap.size + 1; omega) _).setCell (by show w.heap.size ≤ w.heap.size + 1; omega) _).setCell (by show w.heap.size ≤ w.heap.size + 1; omega) _

set_option linter.unusedSimpArgs false in
set_option maxHeartbeats 1000000 in
set_option maxRecDepth 100000 in
theorem holdFor (S : Nat → Bool) (a : Option Addr) (n c : Nat) (args : List Int) (sz ar : Int) (v2 : Value) (vals : List Int) (b : Bool) (w : World) (h1 : RowAt w (.slice a n c) args) (h2 : RowAt w v2 vals) (hs : In14 sz) (har : In14 ar) (hl : (args.length : Int) = ar) (ht : TupP sz ar (mapped vals args)) (hp : PlP args vals.length) (hb : S (codeN sz (mapped vals args)) = b) :
    Calls Try.prog 94 #[.agg #[.slice a n c, .int .u64 (word (S) 0), .int .u64 (word (S) 1), .int .u64 (word (S) 2), .int .u64 (word (S) 3)], .int .i64 sz, v2] w fun e w' => e = .returned (.bool b) ∧ Below w.heap.size w w' := by
  have HW1 : Hid (Below w.heap.size w (w.alloc (.cells #[.slice a n c, .int .u64 (word (S) 0), .int .u64 (word (S) 1), .int .u64 (word (S) 2), .int .u64 (word (S) 3)] 118))) := Lib.hid ((Below.refl _ _).alloc (Nat.le_refl _) _)
  have H1 := Lib.hid (h1.below HW1.out)
  have H2 := Lib.hid (h2.below HW1.out)
  have HT := Lib.hid ht
  have HP := Lib.hid hp
  have HB := Lib.hid hb
  have HN := Lib.hid (codeN_lt ht hs har)
  have BX := Box.new 118 w #[.slice a n c, .int .u64 (word (S) 0), .int .u64 (word (S) 1), .int .u64 (word (S) 2), .int .u64 (word (S) 3)]
  have b0 := BX.c 0 rfl
  have b1 := BX.c 1 rfl
  have b2 := BX.c 2 rfl
  have b3 := BX.c 3 rfl
  have b4 := BX.c 4 rfl
  clear h1 h2 ht hp hb BX
  go_enter Try.func94, Try.ntmps94
  go_wp2
  refine wp_region_noPanic ?_
  refine wp_region_late (S := (fun w' => w'.cell? ⟨w.heap.size, 0, none⟩ = some (.slice a n c) ∧ w'.cell? ⟨w.heap.size, 1, none⟩ = some (.int .u64 (word (S) 0)) ∧ w'.cell? ⟨w.heap.size, 2, none⟩ = some (.int .u64 (word (S) 1)) ∧ w'.cell? ⟨w.heap.size, 3, none⟩ = some (.int .u64 (word (S) 2)) ∧ w'.cell? ⟨w.heap.size, 4, none⟩ = some (.int .u64 (word (S) 3)) ∧ Below (w.alloc (.cells #[.slice a n c, .int .u64 (word (S) 0), .int .u64 (word (S) 1), .int .u64 (word (S) 2), .int .u64 (word (S) 3)] 118)).heap.size (w.alloc (.cells #[.slice a n c, .int .u64 (word (S) 0), .int .u64 (word (S) 1), .int .u64 (word (S) 2), .int .u64 (word (S) 3)] 118)) w')) [] (by kernel_rfl) ?_ (fun hHeld => ?_)
  · exact ⟨b0, b1, b2, b3, b4, (QW.refl _).drew.below _⟩
  refine wpAnyL_free (i := 0) (v := ?_) (some 7) rfl rfl (by kernel_rfl) (by kernel_rfl) (by kernel_rfl) (by decide) (fun _ _ _ h => h) (Or.inl ⟨by rfl, ?_⟩) (fun h0 => by assumption) ?_
  rotate_left
  · intro wS
    go_simp
    try with_reducible rfl
  try simp only [Act.put, List.setIfInBounds_toArray, List.set_cons_zero, List.set_cons_succ]
  refine wpAnyL_take (i := 1) (v := ?_) (some 8) rfl rfl (by kernel_rfl) (by kernel_rfl) (by kernel_rfl) (by kernel_rfl) (by kernel_rfl) (fun _ _ _ h => h) (Or.inl ⟨by rfl, ?_⟩) (by assumption) ?_
  rotate_left
  · intro wS hSw
    try dsimp only at hSw
    go_simp
    try with_reducible rfl
  try simp only [Act.put, List.setIfInBounds_toArray, List.set_cons_zero, List.set_cons_succ]
  refine wpAnyL_free (i := 2) (v := ?_) (some 9) rfl rfl (by kernel_rfl) (by kernel_rfl) (by kernel_rfl) (by decide) (fun _ _ _ h => h) (Or.inl ⟨by rfl, ?_⟩) (fun h0 => by assumption) ?_
  rotate_left
  · intro wS
    go_simp
    try with_reducible rfl
  try simp only [Act.put, List.setIfInBounds_toArray, List.set_cons_zero, List.set_cons_succ]
  refine wpAnyL_free (i := 3) (v := ?_) (some 10) rfl rfl (by kernel_rfl) (by kernel_rfl) (by kernel_rfl) (by decide) (fun _ _ _ h => h) (Or.inl ⟨by rfl, ?_⟩) (fun h0 => by assumption) ?_
  rotate_left
  · intro wS
    go_simp
    try with_reducible rfl
  try simp only [Act.put, List.setIfInBounds_toArray, List.set_cons_zero, List.set_cons_succ]
  refine wpAnyL_free (i := 4) (v := ?_) (some 11) rfl rfl (by kernel_rfl) (by kernel_rfl) (by kernel_rfl) (by decide) (fun _ _ _ h => h) (Or.inl ⟨by rfl, ?_⟩) (fun h0 => by assumption) ?_
  rotate_left
  · intro wS
    go_simp
    try with_reducible rfl
  try simp only [Act.put, List.setIfInBounds_toArray, List.set_cons_zero, List.set_cons_succ]
  refine wpAnyL_take (i := 5) (v := ?_) (some 12) rfl rfl (by kernel_rfl) (by kernel_rfl) (by kernel_rfl) (by kernel_rfl) (by kernel_rfl) (fun _ _ _ h => h) (Or.inl ⟨by rfl, ?_⟩) (by assumption) ?_
  rotate_left
  · intro wS hSw
    try dsimp only at hSw
    go_simp
    try with_reducible rfl
  try simp only [Act.put, List.setIfInBounds_toArray, List.set_cons_zero, List.set_cons_succ]
  refine wpAnyL_ready (rs := [6]) (by kernel_rfl) (by simp) ?_
  refine AllReadyL.cons rfl (fun K hK => ?_) AllReadyL.nil
  go_simp; go_at_call 138; refine (numberAt _ _ vals args ar sz _ (H2.out.below hHeld.2.2.2.2.2) (H1.out.below hHeld.2.2.2.2.2) hs har hl HT.out HP.out).mono ?_; rintro e w5 ⟨rfl, rfl⟩
  refine hK.out _ _ ?_ (fun hHeld => ?_)
  · exact hHeld
  clear hK K
  try simp only [Act.put, List.setIfInBounds_toArray, List.set_cons_zero, List.set_cons_succ]
  refine wpAnyL_ready (rs := [7]) (by kernel_rfl) (by simp) ?_
  refine AllReadyL.cons rfl (fun K hK => ?_) AllReadyL.nil
  go_simp; go_at_call 137; refine (hasBitW S _ HN.out _).mono ?_; rintro e w6 ⟨rfl, hb6⟩
  refine hK.out _ _ ?_ (fun hHeld => ?_)
  · exact ⟨below_cell hb6 hHeld.1, below_cell hb6 hHeld.2.1, below_cell hb6 hHeld.2.2.1, below_cell hb6 hHeld.2.2.2.1, below_cell hb6 hHeld.2.2.2.2.1, hHeld.2.2.2.2.2.trans (hb6.mono hHeld.2.2.2.2.2.size)⟩
  clear hK K
  try simp only [Act.put, List.setIfInBounds_toArray, List.set_cons_zero, List.set_cons_succ]
  refine wpAnyL_free (i := 8) (v := ?_) (some 6) rfl rfl (by kernel_rfl) (by kernel_rfl) (by kernel_rfl) (by decide) (fun _ _ _ h => h) (Or.inl ⟨by rfl, ?_⟩) (fun h0 => by assumption) ?_
  rotate_left
  · intro wS
    go_simp
    try with_reducible rfl
  try simp only [Act.put, List.setIfInBounds_toArray, List.set_cons_zero, List.set_cons_succ]
  refine wpAnyL_done (by kernel_rfl) ?_ _
  refine NoPanic.normal ?_
  have HE := Lib.hid (HW1.out.trans (hHeld.2.2.2.2.2.mono HW1.out.size))
  go_wp2
  go_ret
  exact ⟨(by have hv := HB.out; subst hv; rfl), HE.out⟩

set_option linter.unusedSimpArgs false in
set_option maxHeartbeats 2000000 in
set_option maxRecDepth 100000 in
theorem implFirstFailing (sz : Int) (a1 : Option Addr) (n1 c1 : Nat) (rs : List (Int × List (List Int))) (va : Int) (a2 : Option Addr) (n2 c2 : Nat) (cs : List (Int × List Int)) (v3 : Value) (vals : List Int) (v cd : Int) (w : World) (h1 : RelsAt w (.slice a1 n1 c1) rs) (h2 : OpsAt w (.slice a2 n2 c2) cs) (h3 : RowAt w v3 vals) (hi : FirstFailingIs sz rs va cs vals v cd) :
    Calls Try.prog 40 #[.agg #[.int .i64 sz, .slice a1 n1 c1], .agg #[.int .i64 va, .slice a2 n2 c2], v3] w fun e w' => e = .returned (.tuple #[.int .i64 v, .int .i64 cd]) ∧ Below w.heap.size w w' := by
  obtain rfl : n1 = rs.length := by obtain ⟨_, _, hv, _⟩ := h1; simp only [Value.slice.injEq] at hv; exact hv.2.1
  obtain rfl : n2 = cs.length := by obtain ⟨_, _, hv, _⟩ := h2; simp only [Value.slice.injEq] at hv; exact hv.2.1
  have K0 := Lib.hid ((((((Kept.start w).read (lives_rels _ _) h1).read (lives_ops _ _) h2).read (lives_row _ _) h3).box w.heap.size rfl (.int .i64 sz) (.slice a1 rs.length c1) 33).box (w.heap.size + 1) (by simp) (.int .i64 va) (.slice a2 cs.length c2) 37)
  have hcl : cs.length ≤ 9223372036854775807 := by obtain ⟨_, _, _, hn, _⟩ := h2; exact hn
  clear h1 h2 h3
  rcases hi with ⟨h1, h2, hx, rfl⟩ | ⟨h1, h2, rfl, rfl⟩ | ⟨h1, rfl, rfl⟩
  · have H1 := Lib.hid (Tells.yes h1)
    have HOK := Lib.hid h1
    have H2 := Lib.hid (Tells.yes h2)
    have HTU := Lib.hid h2
    have HX := Lib.hid hx
    clear h1 h2 hx
    go_enter Try.func40, Try.ntmps40
    go_wp2_with fail
    refine (implValidInstance _ _ _ _ _ _ _ _ _ _ true _ (K0.out.r 2 rfl :) (K0.out.r 1 rfl :) H1.out).mono ?_
    rintro e w1 ⟨rfl, hb1⟩
    have K2 := Lib.hid (K0.out.below hb1)
    clear hb1
    have c0 := K2.out.c 0 rfl
    have c1' := K2.out.c 1 rfl
    have c2' := K2.out.c 2 rfl
    go_wp2_with (go_at_call 92; refine (isListBelow _ _ _ _ true _ (K2.out.r 0 rfl :) H2.out).mono ?_; rintro e w2 ⟨rfl, rfl⟩)
    clear c0 c1' c2'
    go_loopw [24] (fun i wr => ∃ k : Nat, k ≤ cs.length ∧ i = .int .i64 k ∧ (∀ j, j < k → HoldC rs vals (arO cs j) (rowO cs j)) ∧ Below w1.heap.size w1 wr) (fun i _ => cs.length - (intOf i).toNat)
    case atStart => exact ⟨0, Nat.zero_le _, rfl, fun j hj => absurd hj (Nat.not_lt_zero _), Below.refl _ _⟩
    case round =>
      obtain ⟨k, hk, rfl, hall, hbr⟩ := hrel
      have HAL := Lib.hid hall
      have KR := Lib.hid (K2.out.below hbr)
      have HBR := Lib.hid hbr
      clear hall hbr
      by_cases hlt : k < cs.length
      · obtain ⟨_, _, hv, -, hc⟩ := (KR.out.r 1 rfl : OpsAt wr (.slice a2 cs.length c2) cs)
        simp only [Value.slice.injEq] at hv
        obtain ⟨rfl, _, rfl⟩ := hv
        obtain ⟨b1, off1, ha1, hcell1⟩ := hc (by omega)
        subst ha1
        obtain ⟨y0, a4, n4, c4, y1, hr⟩ := hcell1 k hlt
        have hlt' : (k : Int) < (cs.length : Int) := by omega
        have hco := HOK.out.2.2.2 k hlt
        obtain ⟨m, hm⟩ : ∃ m : Nat, arO cs k = m := ⟨(arO cs k).toNat, by have := hco.1.1; omega⟩
        have hmr : m < rs.length := by have := hco.1.2; omega
        have hla : ((rowO cs k).length : Int) = arN rs m := by have h1 := hco.2.1; rw [hm, Int.toNat_natCast] at h1; exact h1
        have HRO := Lib.hid (HOK.out.1.2.2 m hmr)
        have HPL : Hid (PlP (rowO cs k) vals.length) := Lib.hid (by have h1 := hco.2.2; have h2 := HTU.out.1; rw [← h2] at h1; exact h1)
        have HTM : Hid (TupP sz (arN rs m) (mapped vals (rowO cs k))) := Lib.hid (by rw [← hla]; exact mapped_place (ar := vals.length) ⟨rfl, HTU.out.2⟩ HPL.out)
        have HHC : Hid (HoldC rs vals (arO cs k) (rowO cs k) ↔ HasP (gridN rs m) (mapped vals (rowO cs k))) := Lib.hid (by unfold HoldC; rw [hm, Int.toNat_natCast])
        rw [hm] at y0
        have KA := Lib.hid (KR.out.box wr.heap.size rfl (.int .i64 (m : Int)) (.slice a4 n4 c4) 95)
        have HROW := Lib.hid (hr.below ((Below.refl wr.heap.size wr).alloc (Nat.le_refl _) (.cells #[.int .i64 (m : Int), .slice a4 n4 c4] 95)))
        have HBA : Hid (Below w1.heap.size w1 (wr.alloc (.cells #[.int .i64 (m : Int), .slice a4 n4 c4] 95)).drew) := Lib.hid ((HBR.out.trans (((Below.refl wr.heap.size wr).alloc (Nat.le_refl _) _).mono HBR.out.size)).trans ((QW.refl _).drew.below _))
        clear hcell1 hc hr hco hm
        by_cases hh : HoldC rs vals (arO cs k) (rowO cs k)
        · have HHP := Lib.hid hh
          have HBB := Lib.hid (has_code HRO.out HTM.out (Tells.yes (HHC.out.1 hh)))
          clear hh
          go_wp2
          refine wp_region_noPanic ?_
          refine wp_region_late (S := (fun w' => w'.cell? ⟨wr.heap.size, 0, none⟩ = some (.int .i64 (m : Int)) ∧ w'.cell? ⟨wr.heap.size, 1, none⟩ = some (.slice a4 n4 c4) ∧ w'.cell? ⟨w.heap.size, 0, none⟩ = some (.int .i64 sz) ∧ w'.cell? ⟨w.heap.size, 1, none⟩ = some (.slice a1 rs.length c1) ∧ RelsAt w' (.slice a1 rs.length c1) rs ∧ RowAt w' v3 vals ∧ RowAt w' (.slice a4 n4 c4) (rowO cs k) ∧ Below w1.heap.size w1 w')) [] (by kernel_rfl) ?_ (fun hHeld => ?_)
          · exact ⟨KA.out.drew.c 0 rfl, KA.out.drew.c 1 rfl, KA.out.drew.c 4 rfl, KA.out.drew.c 5 rfl, (KA.out.drew.r 2 rfl :), (KA.out.drew.r 0 rfl :), HROW.out.below ((QW.refl _).drew.below _), HBA.out⟩
          refine wpAnyL_take (i := 0) (v := ?_) (some 29) rfl rfl (by kernel_rfl) (by kernel_rfl) (by kernel_rfl) (by kernel_rfl) (by kernel_rfl) (fun _ _ _ h => h) (Or.inl ⟨by rfl, ?_⟩) (by assumption) ?_
          rotate_left
          · intro wS hSw
            try dsimp only at hSw
            go_simp
            try with_reducible rfl
          try simp only [Act.put, List.setIfInBounds_toArray, List.set_cons_zero, List.set_cons_succ]
          refine wpAnyL_free (i := 1) (v := ?_) (some 30) rfl rfl (by kernel_rfl) (by kernel_rfl) (by kernel_rfl) (by decide) (fun _ _ _ h => h) (Or.inl ⟨by rfl, ?_⟩) (fun h0 => by assumption) ?_
          rotate_left
          · intro wS
            go_simp
            try with_reducible rfl
          try simp only [Act.put, List.setIfInBounds_toArray, List.set_cons_zero, List.set_cons_succ]
          refine wpAnyL_take (i := 2) (v := ?_) (some 31) rfl rfl (by kernel_rfl) (by kernel_rfl) (by kernel_rfl) (by kernel_rfl) (by kernel_rfl) (fun _ _ _ h => h) (Or.inl ⟨by rfl, ?_⟩) (by assumption) ?_
          rotate_left
          · intro wS hSw
            try dsimp only at hSw
            go_simp
            try with_reducible rfl
          try simp only [Act.put, List.setIfInBounds_toArray, List.set_cons_zero, List.set_cons_succ]
          refine wpAnyL_free (i := 3) (v := ?_) (some 32) rfl rfl (by kernel_rfl) (by kernel_rfl) (by kernel_rfl) (by decide) (fun _ _ _ h => h) (Or.inl ⟨by rfl, ?_⟩) (fun h0 => by assumption) ?_
          rotate_left
          · intro wS
            go_simp
            try with_reducible rfl
          try simp only [Act.put, List.setIfInBounds_toArray, List.set_cons_zero, List.set_cons_succ]
          refine wpAnyL_take (i := 4) (v := ?_) (some 33) rfl rfl (by kernel_rfl) (by kernel_rfl) (by kernel_rfl) (by kernel_rfl) (by kernel_rfl) (fun _ _ _ h => h) (Or.inl ⟨by rfl, ?_⟩) (by assumption) ?_
          rotate_left
          · intro wS hSw
            try dsimp only at hSw
            go_simp
            try with_reducible rfl
          try simp only [Act.put, List.setIfInBounds_toArray, List.set_cons_zero, List.set_cons_succ]
          refine wpAnyL_free (i := 6) (v := ?_) (some 35) rfl rfl (by kernel_rfl) (by kernel_rfl) (by kernel_rfl) (by decide) (fun _ _ _ h => h) (Or.inl ⟨by rfl, ?_⟩) (fun h0 => by assumption) ?_
          rotate_left
          · intro wS
            go_simp
            try with_reducible rfl
          try simp only [Act.put, List.setIfInBounds_toArray, List.set_cons_zero, List.set_cons_succ]
          refine wpAnyL_take (i := 7) (v := ?_) (some 36) rfl rfl (by kernel_rfl) (by kernel_rfl) (by kernel_rfl) (by kernel_rfl) (by kernel_rfl) (fun _ _ _ h => h) (Or.inl ⟨by rfl, ?_⟩) (by assumption) ?_
          rotate_left
          · intro wS hSw
            try dsimp only at hSw
            go_simp
            try with_reducible rfl
          try simp only [Act.put, List.setIfInBounds_toArray, List.set_cons_zero, List.set_cons_succ]
          refine wpAnyL_free (i := 8) (v := ?_) (some 37) rfl rfl (by kernel_rfl) (by kernel_rfl) (by kernel_rfl) (by decide) (fun _ _ _ h => h) (Or.inl ⟨by rfl, ?_⟩) (fun h0 => by assumption) ?_
          rotate_left
          · intro wS
            go_simp
            try with_reducible rfl
          try simp only [Act.put, List.setIfInBounds_toArray, List.set_cons_zero, List.set_cons_succ]
          refine wpAnyL_ready (rs := [5]) (by kernel_rfl) (by simp) ?_
          refine AllReadyL.cons rfl (fun K hK => ?_) AllReadyL.nil
          go_simp; go_at_call 93; refine (relatedBy _ _ _ _ rs m _ _ _ _ hHeld.2.2.2.2.1 hmr HRO.out).mono ?_; rintro e w5 ⟨rfl, hb5⟩
          refine hK.out _ _ ?_ (fun hHeld => ?_)
          · exact ⟨below_cell hb5 hHeld.1, below_cell hb5 hHeld.2.1, below_cell hb5 hHeld.2.2.1, below_cell hb5 hHeld.2.2.2.1, hHeld.2.2.2.2.1.below hb5, hHeld.2.2.2.2.2.1.below hb5, hHeld.2.2.2.2.2.2.1.below hb5, hHeld.2.2.2.2.2.2.2.trans (hb5.mono hHeld.2.2.2.2.2.2.2.size)⟩
          clear hK K
          try simp only [Act.put, List.setIfInBounds_toArray, List.set_cons_zero, List.set_cons_succ]
          refine wpAnyL_ready (rs := [9]) (by kernel_rfl) (by simp) ?_
          refine AllReadyL.cons rfl (fun K hK => ?_) AllReadyL.nil
          go_simp; go_at_call 94; refine (holdFor (setOf sz (gridN rs m)) _ _ _ (rowO cs k) sz (arN rs m) _ vals true _ hHeld.2.2.2.2.2.2.1 hHeld.2.2.2.2.2.1 HOK.out.1.1 HRO.out.2.1 hla HTM.out HPL.out HBB.out).mono ?_; rintro e w5 ⟨rfl, hb5⟩
          refine hK.out _ _ ?_ (fun hHeld => ?_)
          · exact ⟨below_cell hb5 hHeld.1, below_cell hb5 hHeld.2.1, below_cell hb5 hHeld.2.2.1, below_cell hb5 hHeld.2.2.2.1, hHeld.2.2.2.2.1.below hb5, hHeld.2.2.2.2.2.1.below hb5, hHeld.2.2.2.2.2.2.1.below hb5, hHeld.2.2.2.2.2.2.2.trans (hb5.mono hHeld.2.2.2.2.2.2.2.size)⟩
          clear hK K
          try simp only [Act.put, List.setIfInBounds_toArray, List.set_cons_zero, List.set_cons_succ]
          refine wpAnyL_free (i := 10) (v := ?_) (some 39) rfl rfl (by kernel_rfl) (by kernel_rfl) (by kernel_rfl) (by decide) (fun _ _ _ h => h) (Or.inl ⟨by rfl, ?_⟩) (fun h0 => by assumption) ?_
          rotate_left
          · intro wS
            go_simp
            try with_reducible rfl
          try simp only [Act.put, List.setIfInBounds_toArray, List.set_cons_zero, List.set_cons_succ]
          refine wpAnyL_done (by kernel_rfl) ?_ _
          refine NoPanic.normal ?_
          have HE := Lib.hid hHeld.2.2.2.2.2.2.2
          clear hHeld hb5
          go_wp2
          go_roundw
          case rel =>
            refine ⟨k + 1, by omega, by go_num, fun j hj => ?_, HE.out⟩
            by_cases hjk : j = k
            · subst hjk; exact HHP.out
            · exact HAL.out j (by omega)
          case measure => simp [intOf]; omega
        · have HF := Lib.hid (HX.out.num hlt HAL.out hh)
          have HBB := Lib.hid (has_code HRO.out HTM.out (Tells.no fun h => hh (HHC.out.2 h)))
          clear hh
          go_wp2
          refine wp_region_noPanic ?_
          refine wp_region_late (S := (fun w' => w'.cell? ⟨wr.heap.size, 0, none⟩ = some (.int .i64 (m : Int)) ∧ w'.cell? ⟨wr.heap.size, 1, none⟩ = some (.slice a4 n4 c4) ∧ w'.cell? ⟨w.heap.size, 0, none⟩ = some (.int .i64 sz) ∧ w'.cell? ⟨w.heap.size, 1, none⟩ = some (.slice a1 rs.length c1) ∧ RelsAt w' (.slice a1 rs.length c1) rs ∧ RowAt w' v3 vals ∧ RowAt w' (.slice a4 n4 c4) (rowO cs k) ∧ Below w1.heap.size w1 w')) [] (by kernel_rfl) ?_ (fun hHeld => ?_)
          · exact ⟨KA.out.drew.c 0 rfl, KA.out.drew.c 1 rfl, KA.out.drew.c 4 rfl, KA.out.drew.c 5 rfl, (KA.out.drew.r 2 rfl :), (KA.out.drew.r 0 rfl :), HROW.out.below ((QW.refl _).drew.below _), HBA.out⟩
          refine wpAnyL_take (i := 0) (v := ?_) (some 29) rfl rfl (by kernel_rfl) (by kernel_rfl) (by kernel_rfl) (by kernel_rfl) (by kernel_rfl) (fun _ _ _ h => h) (Or.inl ⟨by rfl, ?_⟩) (by assumption) ?_
          rotate_left
          · intro wS hSw
            try dsimp only at hSw
            go_simp
            try with_reducible rfl
          try simp only [Act.put, List.setIfInBounds_toArray, List.set_cons_zero, List.set_cons_succ]
          refine wpAnyL_free (i := 1) (v := ?_) (some 30) rfl rfl (by kernel_rfl) (by kernel_rfl) (by kernel_rfl) (by decide) (fun _ _ _ h => h) (Or.inl ⟨by rfl, ?_⟩) (fun h0 => by assumption) ?_
          rotate_left
          · intro wS
            go_simp
            try with_reducible rfl
          try simp only [Act.put, List.setIfInBounds_toArray, List.set_cons_zero, List.set_cons_succ]
          refine wpAnyL_take (i := 2) (v := ?_) (some 31) rfl rfl (by kernel_rfl) (by kernel_rfl) (by kernel_rfl) (by kernel_rfl) (by kernel_rfl) (fun _ _ _ h => h) (Or.inl ⟨by rfl, ?_⟩) (by assumption) ?_
          rotate_left
          · intro wS hSw
            try dsimp only at hSw
            go_simp
            try with_reducible rfl
          try simp only [Act.put, List.setIfInBounds_toArray, List.set_cons_zero, List.set_cons_succ]
          refine wpAnyL_free (i := 3) (v := ?_) (some 32) rfl rfl (by kernel_rfl) (by kernel_rfl) (by kernel_rfl) (by decide) (fun _ _ _ h => h) (Or.inl ⟨by rfl, ?_⟩) (fun h0 => by assumption) ?_
          rotate_left
          · intro wS
            go_simp
            try with_reducible rfl
          try simp only [Act.put, List.setIfInBounds_toArray, List.set_cons_zero, List.set_cons_succ]
          refine wpAnyL_take (i := 4) (v := ?_) (some 33) rfl rfl (by kernel_rfl) (by kernel_rfl) (by kernel_rfl) (by kernel_rfl) (by kernel_rfl) (fun _ _ _ h => h) (Or.inl ⟨by rfl, ?_⟩) (by assumption) ?_
          rotate_left
          · intro wS hSw
            try dsimp only at hSw
            go_simp
            try with_reducible rfl
          try simp only [Act.put, List.setIfInBounds_toArray, List.set_cons_zero, List.set_cons_succ]
          refine wpAnyL_free (i := 6) (v := ?_) (some 35) rfl rfl (by kernel_rfl) (by kernel_rfl) (by kernel_rfl) (by decide) (fun _ _ _ h => h) (Or.inl ⟨by rfl, ?_⟩) (fun h0 => by assumption) ?_
          rotate_left
          · intro wS
            go_simp
            try with_reducible rfl
          try simp only [Act.put, List.setIfInBounds_toArray, List.set_cons_zero, List.set_cons_succ]
          refine wpAnyL_take (i := 7) (v := ?_) (some 36) rfl rfl (by kernel_rfl) (by kernel_rfl) (by kernel_rfl) (by kernel_rfl) (by kernel_rfl) (fun _ _ _ h => h) (Or.inl ⟨by rfl, ?_⟩) (by assumption) ?_
          rotate_left
          · intro wS hSw
            try dsimp only at hSw
            go_simp
            try with_reducible rfl
          try simp only [Act.put, List.setIfInBounds_toArray, List.set_cons_zero, List.set_cons_succ]
          refine wpAnyL_free (i := 8) (v := ?_) (some 37) rfl rfl (by kernel_rfl) (by kernel_rfl) (by kernel_rfl) (by decide) (fun _ _ _ h => h) (Or.inl ⟨by rfl, ?_⟩) (fun h0 => by assumption) ?_
          rotate_left
          · intro wS
            go_simp
            try with_reducible rfl
          try simp only [Act.put, List.setIfInBounds_toArray, List.set_cons_zero, List.set_cons_succ]
          refine wpAnyL_ready (rs := [5]) (by kernel_rfl) (by simp) ?_
          refine AllReadyL.cons rfl (fun K hK => ?_) AllReadyL.nil
          go_simp; go_at_call 93; refine (relatedBy _ _ _ _ rs m _ _ _ _ hHeld.2.2.2.2.1 hmr HRO.out).mono ?_; rintro e w5 ⟨rfl, hb5⟩
          refine hK.out _ _ ?_ (fun hHeld => ?_)
          · exact ⟨below_cell hb5 hHeld.1, below_cell hb5 hHeld.2.1, below_cell hb5 hHeld.2.2.1, below_cell hb5 hHeld.2.2.2.1, hHeld.2.2.2.2.1.below hb5, hHeld.2.2.2.2.2.1.below hb5, hHeld.2.2.2.2.2.2.1.below hb5, hHeld.2.2.2.2.2.2.2.trans (hb5.mono hHeld.2.2.2.2.2.2.2.size)⟩
          clear hK K
          try simp only [Act.put, List.setIfInBounds_toArray, List.set_cons_zero, List.set_cons_succ]
          refine wpAnyL_ready (rs := [9]) (by kernel_rfl) (by simp) ?_
          refine AllReadyL.cons rfl (fun K hK => ?_) AllReadyL.nil
          go_simp; go_at_call 94; refine (holdFor (setOf sz (gridN rs m)) _ _ _ (rowO cs k) sz (arN rs m) _ vals false _ hHeld.2.2.2.2.2.2.1 hHeld.2.2.2.2.2.1 HOK.out.1.1 HRO.out.2.1 hla HTM.out HPL.out HBB.out).mono ?_; rintro e w5 ⟨rfl, hb5⟩
          refine hK.out _ _ ?_ (fun hHeld => ?_)
          · exact ⟨below_cell hb5 hHeld.1, below_cell hb5 hHeld.2.1, below_cell hb5 hHeld.2.2.1, below_cell hb5 hHeld.2.2.2.1, hHeld.2.2.2.2.1.below hb5, hHeld.2.2.2.2.2.1.below hb5, hHeld.2.2.2.2.2.2.1.below hb5, hHeld.2.2.2.2.2.2.2.trans (hb5.mono hHeld.2.2.2.2.2.2.2.size)⟩
          clear hK K
          try simp only [Act.put, List.setIfInBounds_toArray, List.set_cons_zero, List.set_cons_succ]
          refine wpAnyL_free (i := 10) (v := ?_) (some 39) rfl rfl (by kernel_rfl) (by kernel_rfl) (by kernel_rfl) (by decide) (fun _ _ _ h => h) (Or.inl ⟨by rfl, ?_⟩) (fun h0 => by assumption) ?_
          rotate_left
          · intro wS
            go_simp
            try with_reducible rfl
          try simp only [Act.put, List.setIfInBounds_toArray, List.set_cons_zero, List.set_cons_succ]
          refine wpAnyL_done (by kernel_rfl) ?_ _
          refine NoPanic.normal ?_
          have HE := Lib.hid hHeld.2.2.2.2.2.2.2
          clear hHeld hb5
          go_wp2
          go_ret2
          exact ⟨(by have hv := HF.out; subst hv; rfl), K2.out.bel.trans (HE.out.mono K2.out.bel.size)⟩
      · obtain rfl : k = cs.length := by omega
        have HF := Lib.hid (HX.out.none HAL.out)
        go_wp2
        go_ret2
        exact ⟨(by have hv := HF.out; subst hv; rfl), KR.out.bel⟩
  · have H1 := Lib.hid (Tells.yes h1)
    have H2 := Lib.hid (Tells.no h2)
    clear h1 h2
    go_enter Try.func40, Try.ntmps40
    go_wp2_with fail
    refine (implValidInstance _ _ _ _ _ _ _ _ _ _ true _ (K0.out.r 2 rfl :) (K0.out.r 1 rfl :) H1.out).mono ?_
    rintro e w1 ⟨rfl, hb1⟩
    have K2 := Lib.hid (K0.out.below hb1)
    clear hb1
    have c0 := K2.out.c 0 rfl
    have c1' := K2.out.c 1 rfl
    have c2' := K2.out.c 2 rfl
    go_wp2_with (go_at_call 92; refine (isListBelow _ _ _ _ false _ (K2.out.r 0 rfl :) H2.out).mono ?_; rintro e w2 ⟨rfl, rfl⟩)
    go_ret2
    exact ⟨rfl, K2.out.bel⟩
  · have H1 := Lib.hid (Tells.no h1)
    clear h1
    go_enter Try.func40, Try.ntmps40
    go_wp2_with fail
    refine (implValidInstance _ _ _ _ _ _ _ _ _ _ false _ (K0.out.r 2 rfl :) (K0.out.r 1 rfl :) H1.out).mono ?_
    rintro e w1 ⟨rfl, hb1⟩
    have K2 := Lib.hid (K0.out.below hb1)
    clear hb1
    go_wp2
    go_ret2
    exact ⟨rfl, K2.out.bel⟩

set_option maxHeartbeats 1000000 in
set_option maxRecDepth 100000 in
theorem implIsSolution (sz : Int) (a1 : Option Addr) (n1 c1 : Nat) (rs : List (Int × List (List Int))) (va : Int) (a2 : Option Addr) (n2 c2 : Nat) (cs : List (Int × List Int)) (v3 : Value) (vals : List Int) (b : Bool) (cd : Int) (w : World) (h1 : RelsAt w (.slice a1 n1 c1) rs) (h2 : OpsAt w (.slice a2 n2 c2) cs) (h3 : RowAt w v3 vals) (hi : IsSolutionIs sz rs va cs vals b cd) :
    Calls Try.prog 43 #[.agg #[.int .i64 sz, .slice a1 n1 c1], .agg #[.int .i64 va, .slice a2 n2 c2], v3] w fun e w' => e = .returned (.tuple #[.bool b, .int .i64 cd]) ∧ Below w.heap.size w w' := by
  obtain ⟨v, hi, hbv⟩ := hi
  have HI := Lib.hid hi
  have HBV := Lib.hid hbv
  have K0 := Lib.hid ((((((Kept.start w).read (lives_rels _ _) h1).read (lives_ops _ _) h2).read (lives_row _ _) h3).box w.heap.size rfl (.int .i64 sz) (.slice a1 n1 c1) 33).box (w.heap.size + 1) (by simp) (.int .i64 va) (.slice a2 n2 c2) 37)
  clear h1 h2 h3 hi hbv
  have hcases : (cd = 0 ∧ (cd == 0) = true) ∨ (cd ≠ 0 ∧ (cd == 0) = false) := by
    by_cases h : cd = 0
    · exact .inl ⟨h, beq_iff_eq.2 h⟩
    · exact .inr ⟨h, beq_eq_false_iff_ne.2 h⟩
  rcases hcases with ⟨hc, hcb⟩ | ⟨hc, hcb⟩
  · have HB : Hid ((v == -1) = b) := Lib.hid (by rw [HBV.out, hcb]; rfl)
    clear hc
    go_enter Try.func43, Try.ntmps43
    go_wp2_with fail
    refine (implFirstFailing _ _ _ _ _ _ _ _ _ _ _ _ _ _ _ (K0.out.r 2 rfl :) (K0.out.r 1 rfl :) (K0.out.r 0 rfl :) HI.out).mono ?_
    rintro e w1 ⟨rfl, hb1⟩
    have K2 := Lib.hid (K0.out.below hb1)
    clear hb1
    go_wp2
    go_ret2
    exact ⟨(by have hv := HB.out; subst hv; simp), K2.out.bel⟩
  · have HB : Hid (b = false) := Lib.hid (by rw [HBV.out, hcb]; rfl)
    clear hc
    go_enter Try.func43, Try.ntmps43
    go_wp2_with fail
    refine (implFirstFailing _ _ _ _ _ _ _ _ _ _ _ _ _ _ _ (K0.out.r 2 rfl :) (K0.out.r 1 rfl :) (K0.out.r 0 rfl :) HI.out).mono ?_
    rintro e w1 ⟨rfl, hb1⟩
    have K2 := Lib.hid (K0.out.below hb1)
    clear hb1
    go_wp2
    go_ret2
    exact ⟨(by have hv := HB.out; subst hv; simp), K2.out.bel⟩

end Go.Proofs.Ytiinohkkfjbfhaa
