/-
  A relation with other values: MapRel of the model and of the program.
-/
import Derived.Test.YtjkbffoaenhhgaaDoorGMaps
import Derived.Test.YtjkbffoaenhhgaaDoorMeet
import Derived.Test.YtjkbffoaenhhgaaDoorOpp
import Derived.Test.YtjkbffoaenhhgaaDoorGRel
namespace Go.Proofs.YtjkbffoaenhhgaaDoor
open Go.RowKit

theorem mapG_snoc (to : List Int) (xs : List (List Int)) (t : List Int) : mapG to (xs ++ [t]) = mapG to xs ++ [mapped to t] := by simp [mapG]
theorem mapG_tups {x y ar : Int} {to : List Int} {xs : List (List Int)} (ht : TupP y x to) (h : ∀ t, t ∈ xs → TupP x ar t) : ∀ t, t ∈ mapG to xs → TupP y ar t := fun t hm => by
  obtain ⟨u, hu, rfl⟩ := List.mem_map.1 hm
  exact mapped_tup ht (h u hu)
/-- What MapRel answers. -/
def MapRelIs (size x : Int) (xs : List (List Int)) (to : List Int) (next : Int) (ar : Int) (zs : List (List Int)) (cd : Int) : Prop :=
  RelAns (RelOk size x xs) (In14 next ∧ TupP next size to) x (rowsS next.toNat x.toNat (setOf next (mapG to xs)) 256) ar zs cd
theorem MapRelIs.exists (size x : Int) (xs : List (List Int)) (to : List Int) (next : Int) : ∃ ar zs cd, MapRelIs size x xs to next ar zs cd := RelAns.exists _ _ _ _
theorem MapRelIs.small {size x : Int} {xs : List (List Int)} {to : List Int} {next : Int} {ar : Int} {zs : List (List Int)} {cd : Int} (h : MapRelIs size x xs to next ar zs cd) : (zs.map List.length).sum ≤ 1048576 :=
  RelAns.small h fun h1 _ => rowsS_small _ _ _ (by have := h1.2.1.2; omega)

set_option linter.unusedVariables false in
set_option linter.unusedSimpArgs false in
set_option maxHeartbeats 8000000 in
set_option maxRecDepth 100000 in
theorem implMapRel_no (size x : Int) (a1 : Option Addr) (n1 c1 : Nat) (xs : List (List Int)) (v : Value) (to : List Int) (next : Int) (w : World) (g1 : GridAt w (.slice a1 n1 c1) xs) (g2 : RowAt w v to) (hc : ¬ RelOk size x xs) :
    Calls Tryd.prog 19 #[.int .i64 size, .agg #[.int .i64 x, .slice a1 n1 c1], v, .int .i64 next] w (MadeRel2 w 0 [] 1) := by
  obtain ⟨a2, c2, rfl, hn2⟩ : ∃ a c, v = .slice a to.length c ∧ to.length ≤ 9223372036854775807 := by obtain ⟨a, c, h, hn, _⟩ := g2; exact ⟨a, c, h, hn⟩
  have hR0 := RelBox.new (w.alloc (.cells #[.int .i64 x, .slice a1 n1 c1] 27)) (.int .i64 0) (.slice none 0 0)
  rw [World.size_alloc] at hR0
  have HR0 := Lib.hid hR0
  have K0 := Lib.hid (((((Kept.start w).read (lives_row _ _) g2).read (lives_grid _ _) g1).box w.heap.size rfl (.int .i64 x) (.slice a1 n1 c1) 27).below ((Below.refl _ _).alloc (Nat.le_refl _) (.cells #[.int .i64 0, .slice none 0 0] 27)))
  clear g1 hR0 g2
  have HC := Lib.hid (Tells.no hc)
  clear hc
  go_enter Tryd.func19, Tryd.ntmps19
  go_wp2_with fail
  refine (implValidRel _ _ _ _ _ _ false _ (K0.out.r 0 rfl :) HC.out).mono ?_
  rintro e w2 ⟨rfl, hq⟩
  have hb2 : Below _ _ w2 := hq
  have hsz2 : w.heap.size + 2 ≤ w2.heap.size := by have := hb2.size; simpa using this
  have K2 := Lib.hid (K0.out.below hb2)
  have HR2 := Lib.hid (HR0.out.below hb2)
  clear hq hb2
  have d0 := HR2.out.c0
  have d1 := HR2.out.c1
  have f0 := HR2.out.free 0
  have f1 := HR2.out.free 1
  go_wp2
  refine bodyPost_ret (v := .tuple #[.agg #[.int .i64 0, .slice none 0 0], .int .i64 1]) (by simp [results, Tryd.results19, go_sem, d0, d1]) rfl ⟨none, 0, 0, rfl, ?_, ?_⟩
  · exact OwnGrid.nil _ _ _ (Nat.le_refl _)
  · exact (K2.out.bel.setCell (by show w.heap.size ≤ w.heap.size + 1; omega) _).setCell (by show w.heap.size ≤ w.heap.size + 1; omega) _

set_option linter.unusedVariables false in
set_option linter.unusedSimpArgs false in
set_option maxHeartbeats 8000000 in
set_option maxRecDepth 100000 in
theorem implMapRel_no1 (size x : Int) (a1 : Option Addr) (n1 c1 : Nat) (xs : List (List Int)) (v : Value) (to : List Int) (next : Int) (w : World) (g1 : GridAt w (.slice a1 n1 c1) xs) (g2 : RowAt w v to) (hc : RelOk size x xs) (h1 : ¬ In14 next) :
    Calls Tryd.prog 19 #[.int .i64 size, .agg #[.int .i64 x, .slice a1 n1 c1], v, .int .i64 next] w (MadeRel2 w 0 [] 2) := by
  obtain ⟨a2, c2, rfl, hn2⟩ : ∃ a c, v = .slice a to.length c ∧ to.length ≤ 9223372036854775807 := by obtain ⟨a, c, h, hn, _⟩ := g2; exact ⟨a, c, h, hn⟩
  have hR0 := RelBox.new (w.alloc (.cells #[.int .i64 x, .slice a1 n1 c1] 27)) (.int .i64 0) (.slice none 0 0)
  rw [World.size_alloc] at hR0
  have HR0 := Lib.hid hR0
  have K0 := Lib.hid (((((Kept.start w).read (lives_row _ _) g2).read (lives_grid _ _) g1).box w.heap.size rfl (.int .i64 x) (.slice a1 n1 c1) 27).below ((Below.refl _ _).alloc (Nat.le_refl _) (.cells #[.int .i64 0, .slice none 0 0] 27)))
  clear g1 hR0 g2
  have HC := Lib.hid (Tells.yes hc)
  have HP := Lib.hid h1
  clear hc h1
  go_enter Tryd.func19, Tryd.ntmps19
  go_wp2_with fail
  refine (implValidRel _ _ _ _ _ _ true _ (K0.out.r 0 rfl :) HC.out).mono ?_
  rintro e w2 ⟨rfl, hq⟩
  have hb2 : Below _ _ w2 := hq
  have hsz2 : w.heap.size + 2 ≤ w2.heap.size := by have := hb2.size; simpa using this
  have K2 := Lib.hid (K0.out.below hb2)
  have HR2 := Lib.hid (HR0.out.below hb2)
  clear hq hb2
  go_wp2_with fail
  refine (isSize _ false _ (Tells.no HP.out)).mono ?_
  rintro e w' ⟨rfl, rfl⟩
  have d0 := HR2.out.c0
  have d1 := HR2.out.c1
  have f0 := HR2.out.free 0
  have f1 := HR2.out.free 1
  go_wp2
  refine bodyPost_ret (v := .tuple #[.agg #[.int .i64 0, .slice none 0 0], .int .i64 2]) (by simp [results, Tryd.results19, go_sem, d0, d1]) rfl ⟨none, 0, 0, rfl, ?_, ?_⟩
  · exact OwnGrid.nil _ _ _ (Nat.le_refl _)
  · exact (K2.out.bel.setCell (by show w.heap.size ≤ w.heap.size + 1; omega) _).setCell (by show w.heap.size ≤ w.heap.size + 1; omega) _

set_option linter.unusedVariables false in
set_option linter.unusedSimpArgs false in
set_option maxHeartbeats 8000000 in
set_option maxRecDepth 100000 in
theorem implMapRel_no2 (size x : Int) (a1 : Option Addr) (n1 c1 : Nat) (xs : List (List Int)) (v : Value) (to : List Int) (next : Int) (w : World) (g1 : GridAt w (.slice a1 n1 c1) xs) (g2 : RowAt w v to) (hc : RelOk size x xs) (h0 : In14 next) (h1 : ¬ TupP next size to) :
    Calls Tryd.prog 19 #[.int .i64 size, .agg #[.int .i64 x, .slice a1 n1 c1], v, .int .i64 next] w (MadeRel2 w 0 [] 2) := by
  obtain ⟨a2, c2, rfl, hn2⟩ : ∃ a c, v = .slice a to.length c ∧ to.length ≤ 9223372036854775807 := by obtain ⟨a, c, h, hn, _⟩ := g2; exact ⟨a, c, h, hn⟩
  have hR0 := RelBox.new (w.alloc (.cells #[.int .i64 x, .slice a1 n1 c1] 27)) (.int .i64 0) (.slice none 0 0)
  rw [World.size_alloc] at hR0
  have HR0 := Lib.hid hR0
  have K0 := Lib.hid (((((Kept.start w).read (lives_row _ _) g2).read (lives_grid _ _) g1).box w.heap.size rfl (.int .i64 x) (.slice a1 n1 c1) 27).below ((Below.refl _ _).alloc (Nat.le_refl _) (.cells #[.int .i64 0, .slice none 0 0] 27)))
  clear g1 hR0 g2
  have HC := Lib.hid (Tells.yes hc)
  have e5 := h0.1
  have e6 := h0.2
  have HP0 := Lib.hid h0
  have HP := Lib.hid h1
  clear hc h1 h0
  go_enter Tryd.func19, Tryd.ntmps19
  go_wp2_with fail
  refine (implValidRel _ _ _ _ _ _ true _ (K0.out.r 0 rfl :) HC.out).mono ?_
  rintro e w2 ⟨rfl, hq⟩
  have hb2 : Below _ _ w2 := hq
  have hsz2 : w.heap.size + 2 ≤ w2.heap.size := by have := hb2.size; simpa using this
  have K2 := Lib.hid (K0.out.below hb2)
  have HR2 := Lib.hid (HR0.out.below hb2)
  clear hq hb2
  go_wp2_with fail
  refine (isSize _ true _ (Tells.yes HP0.out)).mono ?_
  rintro e w' ⟨rfl, rfl⟩
  go_wp2_with fail
  refine (isListBelow _ _ size next false _ (K2.out.r 1 rfl :) (Tells.no HP.out)).mono ?_
  rintro e w' ⟨rfl, rfl⟩
  have d0 := HR2.out.c0
  have d1 := HR2.out.c1
  have f0 := HR2.out.free 0
  have f1 := HR2.out.free 1
  go_wp2
  refine bodyPost_ret (v := .tuple #[.agg #[.int .i64 0, .slice none 0 0], .int .i64 2]) (by simp [results, Tryd.results19, go_sem, d0, d1]) rfl ⟨none, 0, 0, rfl, ?_, ?_⟩
  · exact OwnGrid.nil _ _ _ (Nat.le_refl _)
  · exact (K2.out.bel.setCell (by show w.heap.size ≤ w.heap.size + 1; omega) _).setCell (by show w.heap.size ≤ w.heap.size + 1; omega) _

set_option linter.unusedVariables false in
set_option linter.unusedSimpArgs false in
set_option maxHeartbeats 8000000 in
set_option maxRecDepth 100000 in
theorem implMapRel_in (s r t : Nat) (h1 : 1 ≤ s) (h2 : s ≤ 4) (h3 : 1 ≤ r) (h4 : r ≤ 4) (h5 : 1 ≤ t) (h6 : t ≤ 4) (a1 : Option Addr) (n1 c1 : Nat) (xs : List (List Int)) (v : Value) (to : List Int) (w : World) (g1 : GridAt w (.slice a1 n1 c1) xs) (g2 : RowAt w v to) (hT : TzTab w) (hc : RelOk s r xs) (ht : TupP t s to) :
    Calls Tryd.prog 19 #[.int .i64 s, .agg #[.int .i64 r, .slice a1 n1 c1], v, .int .i64 t] w (MadeRel2 w r (rowsS t r (setOf t (mapG to xs)) 256) 0) := by
  obtain ⟨a2, c2, rfl, hn2⟩ : ∃ a c, v = .slice a to.length c ∧ to.length ≤ 9223372036854775807 := by obtain ⟨a, c, h, hn, _⟩ := g2; exact ⟨a, c, h, hn⟩
  have hR0 := RelBox.new (w.alloc (.cells #[.int .i64 r, .slice a1 n1 c1] 27)) (.int .i64 0) (.slice none 0 0)
  rw [World.size_alloc] at hR0
  have HR0 := Lib.hid hR0
  have K0 := Lib.hid ((((((Kept.start w).read lives_tz hT).read (lives_row _ _) g2).read (lives_grid _ _) g1).box w.heap.size rfl (.int .i64 r) (.slice a1 n1 c1) 27).below ((Below.refl _ _).alloc (Nat.le_refl _) (.cells #[.int .i64 0, .slice none 0 0] 27)))
  clear g1 hR0 hT g2
  have HC := Lib.hid (Tells.yes hc)
  have HRK := Lib.hid hc
  have HT := Lib.hid ht
  have HTT := Lib.hid (Tells.yes ht)
  have HN : Hid (In14 (t : Int)) := Lib.hid ⟨by omega, by omega⟩
  clear hc ht
  go_enter Tryd.func19, Tryd.ntmps19
  go_wp2_with fail
  refine (implValidRel _ _ _ _ _ _ true _ (K0.out.r 0 rfl :) HC.out).mono ?_
  rintro e w2 ⟨rfl, hq⟩
  have hb2 : Below _ _ w2 := hq
  have hsz2 : w.heap.size + 2 ≤ w2.heap.size := by have := hb2.size; simpa using this
  have K2 := Lib.hid (K0.out.below hb2)
  have HR2 := Lib.hid (HR0.out.below hb2)
  clear hq hb2
  go_wp2_with fail
  refine (isSize _ true _ (Tells.yes HN.out)).mono ?_
  rintro e w' ⟨rfl, rfl⟩
  go_wp2_with fail
  refine (isListBelow _ _ s t true _ (K2.out.r 1 rfl :) HTT.out).mono ?_
  rintro e w' ⟨rfl, rfl⟩
  have HB2 := Lib.hid HR2.out
  go_wp2_with fail
  refine wp_region_noPanic ?_
  refine wp_region_late (S := (fun w' => w'.cell? ⟨w.heap.size, 0, none⟩ = some (.int .i64 r) ∧ w'.cell? ⟨w.heap.size, 1, none⟩ = some (.slice a1 n1 c1) ∧ Kept w [(⟨w.heap.size, 0, none⟩, .int .i64 r), (⟨w.heap.size, 1, none⟩, .slice a1 n1 c1)] [fun w => GridAt w (.slice a1 n1 c1) xs, fun w => RowAt w (.slice a2 to.length c2) to, TzTab] w')) [8] (by kernel_rfl) ?_ (fun hHeld => ?_)
  · exact ⟨(K2.out.drew.c 0 rfl :), (K2.out.drew.c 1 rfl :), K2.out.drew⟩
  refine wpAnyL_free (i := 0) (v := ?_) (some 26) rfl rfl (by kernel_rfl) (by kernel_rfl) (by kernel_rfl) (by decide) (fun _ _ _ h => h) (Or.inl ⟨by rfl, ?_⟩) (fun h0 => by assumption) ?_
  rotate_left
  · intro wS
    go_simp
    try with_reducible rfl
  try simp only [Act.put, List.setIfInBounds_toArray, List.set_cons_zero, List.set_cons_succ]
  refine wpAnyL_free (i := 1) (v := ?_) (some 27) rfl rfl (by kernel_rfl) (by kernel_rfl) (by kernel_rfl) (by decide) (fun _ _ _ h => h) (Or.inl ⟨by rfl, ?_⟩) (fun h0 => by assumption) ?_
  rotate_left
  · intro wS
    go_simp
    try with_reducible rfl
  try simp only [Act.put, List.setIfInBounds_toArray, List.set_cons_zero, List.set_cons_succ]
  refine wpAnyL_take (i := 2) (v := ?_) (some 28) rfl rfl (by kernel_rfl) (by kernel_rfl) (by kernel_rfl) (by kernel_rfl) (by kernel_rfl) (fun _ _ _ h => h) (Or.inl ⟨by rfl, ?_⟩) (by assumption) ?_
  rotate_left
  · intro wS hSw
    try dsimp only at hSw
    go_simp
    try with_reducible rfl
  try simp only [Act.put, List.setIfInBounds_toArray, List.set_cons_zero, List.set_cons_succ]
  refine wpAnyL_take (i := 3) (v := ?_) (some 29) rfl rfl (by kernel_rfl) (by kernel_rfl) (by kernel_rfl) (by kernel_rfl) (by kernel_rfl) (fun _ _ _ h => h) (Or.inl ⟨by rfl, ?_⟩) (by assumption) ?_
  rotate_left
  · intro wS hSw
    try dsimp only at hSw
    go_simp
    try with_reducible rfl
  try simp only [Act.put, List.setIfInBounds_toArray, List.set_cons_zero, List.set_cons_succ]
  refine wpAnyL_free (i := 4) (v := ?_) (some 30) rfl rfl (by kernel_rfl) (by kernel_rfl) (by kernel_rfl) (by decide) (fun _ _ _ h => h) (Or.inl ⟨by rfl, ?_⟩) (fun h0 => by assumption) ?_
  rotate_left
  · intro wS
    go_simp
    try with_reducible rfl
  try simp only [Act.put, List.setIfInBounds_toArray, List.set_cons_zero, List.set_cons_succ]
  refine wpAnyL_free (i := 5) (v := ?_) (some 31) rfl rfl (by kernel_rfl) (by kernel_rfl) (by kernel_rfl) (by decide) (fun _ _ _ h => h) (Or.inl ⟨by rfl, ?_⟩) (fun h0 => by assumption) ?_
  rotate_left
  · intro wS
    go_simp
    try with_reducible rfl
  try simp only [Act.put, List.setIfInBounds_toArray, List.set_cons_zero, List.set_cons_succ]
  refine wpAnyL_ready (rs := [6]) (by kernel_rfl) (by simp) ?_
  refine AllReadyL.cons rfl (fun K hK => ?_) AllReadyL.nil
  go_simp; go_at_call 39; refine (mappedBits s t r _ _ _ xs _ to _ (hHeld.2.2.r 0 rfl :) (hHeld.2.2.r 1 rfl :) HRK.out HN.out HT.out).mono ?_; rintro e w7 ⟨rfl, hb7⟩
  refine hK.out _ _ ?_ (fun hHeld => ?_)
  · exact ⟨below_cell hb7 hHeld.1, below_cell hb7 hHeld.2.1, hHeld.2.2.below hb7⟩
  clear hK K
  try simp only [Act.put, List.setIfInBounds_toArray, List.set_cons_zero, List.set_cons_succ]
  refine wpAnyL_ready (rs := [7]) (by kernel_rfl) (by simp) ?_
  refine AllReadyL.cons rfl (fun K hK => ?_) AllReadyL.nil
  go_simp; go_at_call 32; refine (relOf t r h5 h6 h3 h4 _ _ (hHeld.2.2.r 2 rfl :)).mono ?_; rintro e w8 ⟨a8, n8, c8, rfl, ho8, hb8⟩
  have hr8 : RelBox w8 (w.heap.size + 1) (.int .i64 0) (.slice none 0 0) := ((HB2.out.below ((QW.refl _).drew.bel)).below hb7).below hb8
  have d0 := hr8.c0
  have d1 := hr8.c1
  have f0 := hr8.free 0
  have f1 := hr8.free 1
  have HO8 := Lib.hid ho8
  have HZ : Hid (w.heap.size + 1 < _) := Lib.hid (((HB2.out.below ((QW.refl _).drew.bel)).below hb7).lt)
  clear ho8 hr8
  refine hK.out _ _ ?_ (fun hHeld => ?_)
  · exact ⟨below_cell hb8 hHeld.1, below_cell hb8 hHeld.2.1, hHeld.2.2.below hb8⟩
  clear hK K
  try simp only [Act.put, List.setIfInBounds_toArray, List.set_cons_zero, List.set_cons_succ]
  refine wpAnyL_ready (rs := [8]) (by kernel_rfl) (by simp) ?_
  refine AllReadyL.last rfl (by kernel_rfl) (fun K hK => ?_) AllReadyL.nil
  go_simp
  refine hK.out _ _ ?_
  clear hK K
  try simp only [Act.put, List.setIfInBounds_toArray, List.set_cons_zero, List.set_cons_succ]
  refine wpAnyL_free (i := 9) (v := ?_) (some 9) rfl rfl (by kernel_rfl) (by kernel_rfl) (by kernel_rfl) (by decide) (fun _ _ _ h => h) (Or.inl ⟨by rfl, ?_⟩) (fun h0 => absurd h0 (by decide)) ?_
  rotate_left
  · intro wS
    go_simp
    try with_reducible rfl
  try simp only [Act.put, List.setIfInBounds_toArray, List.set_cons_zero, List.set_cons_succ]
  refine wpAnyL_done (by kernel_rfl) ?_ _
  refine NoPanic.normal ?_
  have K8 := Lib.hid hHeld.2.2
  clear hHeld hb7 hb8
  go_wp2
  refine bodyPost_ret (v := .tuple #[.agg #[.int .i64 r, .slice a8 n8 c8], .int .i64 0]) (by simp [results, Tryd.results19, go_sem, d0, d1]) rfl ⟨a8, n8, c8, rfl, ?_, ?_⟩
  · have e1 := HZ.out
    exact (((HO8.out.stored e1 _).stored e1 _).mono (by omega)).full
  · exact (K8.out.bel.setCell (by show w.heap.size ≤ w.heap.size + 1; omega) _).setCell (by show w.heap.size ≤ w.heap.size + 1; omega) _

theorem implMapRel (size x : Int) (a1 : Option Addr) (n1 c1 : Nat) (xs : List (List Int)) (v : Value) (to : List Int) (next : Int) (ar : Int) (zs : List (List Int)) (cd : Int) (w : World) (g1 : GridAt w (.slice a1 n1 c1) xs) (g2 : RowAt w v to) (hT : TzTab w) (hi : MapRelIs size x xs to next ar zs cd) :
    Calls Tryd.prog 19 #[.int .i64 size, .agg #[.int .i64 x, .slice a1 n1 c1], v, .int .i64 next] w (MadeRel2 w ar zs cd) := by
  rcases hi with ⟨hc, ⟨p1, p2⟩, rfl, rfl, rfl⟩ | ⟨hc, hn, rfl, rfl, rfl⟩ | ⟨hc, rfl, rfl, rfl⟩
  · have e1 := hc.1.1
    have e2 := hc.1.2
    have e3 := hc.2.1.1
    have e4 := hc.2.1.2
    have e5 := p1.1
    have e6 := p1.2
    obtain ⟨s, rfl⟩ : ∃ s : Nat, size = s := ⟨size.toNat, by omega⟩
    obtain ⟨r, rfl⟩ : ∃ r : Nat, ar = r := ⟨ar.toNat, by omega⟩
    obtain ⟨t, rfl⟩ : ∃ t : Nat, next = t := ⟨next.toNat, by omega⟩
    simp only [Int.toNat_natCast]
    exact implMapRel_in s r t (by omega) (by omega) (by omega) (by omega) (by omega) (by omega) a1 n1 c1 xs v to w g1 g2 hT hc p2
  · by_cases p1 : In14 next
    · exact implMapRel_no2 size x a1 n1 c1 xs v to next w g1 g2 hc p1 fun p2 => hn ⟨p1, p2⟩
    · exact implMapRel_no1 size x a1 n1 c1 xs v to next w g1 g2 hc p1
  · exact implMapRel_no size x a1 n1 c1 xs v to next w g1 g2 hc

end Go.Proofs.YtjkbffoaenhhgaaDoor
