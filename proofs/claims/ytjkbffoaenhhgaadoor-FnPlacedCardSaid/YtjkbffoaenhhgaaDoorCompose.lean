/-
  The composition of two relations: ComposeRels of the model and of the program.
-/
import Derived.Test.YtjkbffoaenhhgaaDoorMeet
import Derived.IntWalk
import Derived.Test.YtjkbffoaenhhgaaDoorOpp
import Derived.Test.YtjkbffoaenhhgaaDoorGRel
namespace Go.Proofs.YtjkbffoaenhhgaaDoor
open Go.RowKit

def compRow (a : List Int) (ys : List (List Int)) : List (List Int) := (ys.filter fun b => intN a 1 == intN b 0).map fun b => [intN a 0, intN b 1]
def compL (xs ys : List (List Int)) : List (List Int) := xs.flatMap fun a => compRow a ys
theorem compL_snoc (xs ys : List (List Int)) (a : List Int) : compL (xs ++ [a]) ys = compL xs ys ++ compRow a ys := by simp [compL]
theorem compRow_nil (a : List Int) : compRow a [] = [] := rfl
theorem compRow_in {a b : List Int} {ys : List (List Int)} (h : (intN a 1 == intN b 0) = true) : compRow a (ys ++ [b]) = compRow a ys ++ [[intN a 0, intN b 1]] := by simp [compRow, List.filter_append, h]
theorem compRow_out {a b : List Int} {ys : List (List Int)} (h : (intN a 1 == intN b 0) = false) : compRow a (ys ++ [b]) = compRow a ys := by simp [compRow, List.filter_append, h]
theorem pair_tup {s : Nat} {u t : Int} (hu : 0 ≤ u ∧ u < s) (ht : 0 ≤ t ∧ t < s) : TupP s 2 [u, t] := ⟨rfl, fun k hk => by
  have : k = 0 ∨ k = 1 := by simp at hk; omega
  rcases this with rfl | rfl
  · exact hu
  · exact ht⟩
theorem compL_tups {s : Nat} {xs ys : List (List Int)} (h1 : ∀ x, x ∈ xs → TupP s 2 x) (h2 : ∀ x, x ∈ ys → TupP s 2 x) : ∀ x, x ∈ compL xs ys → TupP s 2 x := fun x hx => by
  obtain ⟨a, ha, hx⟩ := List.mem_flatMap.1 hx
  obtain ⟨b, hb, rfl⟩ := List.mem_map.1 hx
  have hb := (List.mem_filter.1 hb).1
  have e1 := (h1 a ha).1
  have e2 := (h2 b hb).1
  exact pair_tup ((h1 a ha).2 0 (by omega)) ((h2 b hb).2 1 (by omega))
theorem pair_code (s u t : Nat) : codeN s [(u : Int), (t : Int)] = u * s + t := by
  show (codeK s [(u : Int), (t : Int)] 2).toNat = _
  show (((0 * (s : Int) + (u : Int)) * (s : Int) + (t : Int)) : Int).toNat = _
  rw [Int.zero_mul, Int.zero_add, ← Int.natCast_mul, ← Int.natCast_add, Int.toNat_natCast]
/-- What ComposeRels answers. -/
def ComposeRelsIs (size x : Int) (xs : List (List Int)) (y : Int) (ys : List (List Int)) (ar : Int) (zs : List (List Int)) (cd : Int) : Prop :=
  RelAns (RelOk size x xs ∧ RelOk size y ys) (x = 2 ∧ y = 2) 2 (rowsS size.toNat 2 (setOf size (compL xs ys)) 256) ar zs cd
theorem ComposeRelsIs.exists (size x : Int) (xs : List (List Int)) (y : Int) (ys : List (List Int)) : ∃ ar zs cd, ComposeRelsIs size x xs y ys ar zs cd := RelAns.exists _ _ _ _
theorem ComposeRelsIs.small {size x : Int} {xs : List (List Int)} {y : Int} {ys : List (List Int)} {ar : Int} {zs : List (List Int)} {cd : Int} (h : ComposeRelsIs size x xs y ys ar zs cd) : (zs.map List.length).sum ≤ 1048576 :=
  RelAns.small h fun _ _ => rowsS_small _ _ _ (by omega)

set_option linter.unusedVariables false in
set_option linter.unusedSimpArgs false in
set_option maxHeartbeats 8000000 in
set_option maxRecDepth 100000 in
theorem implComp_no1 (size x : Int) (a1 : Option Addr) (n1 c1 : Nat) (xs : List (List Int)) (y : Int) (a2 : Option Addr) (n2 c2 : Nat) (ys : List (List Int)) (w : World) (g1 : GridAt w (.slice a1 n1 c1) xs) (g2 : GridAt w (.slice a2 n2 c2) ys) (hc : ¬ RelOk size x xs) :
    Calls Tryd.prog 18 #[.int .i64 size, .agg #[.int .i64 x, .slice a1 n1 c1], .agg #[.int .i64 y, .slice a2 n2 c2]] w (MadeRel2 w 0 [] 1) := by
  have hR0 := RelBox.new ((w.alloc (.cells #[.int .i64 x, .slice a1 n1 c1] 27)).alloc (.cells #[.int .i64 y, .slice a2 n2 c2] 27)) (.int .i64 0) (.slice none 0 0)
  rw [World.size_alloc, World.size_alloc] at hR0
  have HR0 := Lib.hid hR0
  have K0 := Lib.hid ((((((Kept.start w).read (lives_grid _ _) g2).read (lives_grid _ _) g1).box w.heap.size rfl (.int .i64 x) (.slice a1 n1 c1) 27).box (w.heap.size + 1) (by simp) (.int .i64 y) (.slice a2 n2 c2) 27).below ((Below.refl _ _).alloc (Nat.le_refl _) (.cells #[.int .i64 0, .slice none 0 0] 27)))
  clear g1 hR0 g2
  have HC := Lib.hid (Tells.no hc)
  clear hc
  go_enter Tryd.func18, Tryd.ntmps18
  go_wp2_with fail
  refine (implValidRel _ _ _ _ _ _ false _ (K0.out.r 0 rfl :) HC.out).mono ?_
  rintro e w2 ⟨rfl, hq⟩
  have hb2 : Below _ _ w2 := hq
  have hszw2 : w.heap.size + 3 ≤ w2.heap.size := by have h0 := hb2.size; simpa using h0
  have K2 := Lib.hid (K0.out.below hb2)
  have HR2 := Lib.hid (HR0.out.below hb2)
  clear hq hb2
  have d0 := HR2.out.c0
  have d1 := HR2.out.c1
  have f0 := HR2.out.free 0
  have f1 := HR2.out.free 1
  go_wp2
  refine bodyPost_ret (v := .tuple #[.agg #[.int .i64 0, .slice none 0 0], .int .i64 1]) (by simp [results, Tryd.results18, go_sem, d0, d1]) rfl ⟨none, 0, 0, rfl, ?_, ?_⟩
  · exact OwnGrid.nil _ _ _ (Nat.le_refl _)
  · exact (K2.out.bel.setCell (by show w.heap.size ≤ w.heap.size + 1 + 1; omega) _).setCell (by show w.heap.size ≤ w.heap.size + 1 + 1; omega) _

set_option linter.unusedVariables false in
set_option linter.unusedSimpArgs false in
set_option maxHeartbeats 8000000 in
set_option maxRecDepth 100000 in
theorem implComp_no2 (size x : Int) (a1 : Option Addr) (n1 c1 : Nat) (xs : List (List Int)) (y : Int) (a2 : Option Addr) (n2 c2 : Nat) (ys : List (List Int)) (w : World) (g1 : GridAt w (.slice a1 n1 c1) xs) (g2 : GridAt w (.slice a2 n2 c2) ys) (hc : RelOk size x xs) (hd : ¬ RelOk size y ys) :
    Calls Tryd.prog 18 #[.int .i64 size, .agg #[.int .i64 x, .slice a1 n1 c1], .agg #[.int .i64 y, .slice a2 n2 c2]] w (MadeRel2 w 0 [] 1) := by
  have hR0 := RelBox.new ((w.alloc (.cells #[.int .i64 x, .slice a1 n1 c1] 27)).alloc (.cells #[.int .i64 y, .slice a2 n2 c2] 27)) (.int .i64 0) (.slice none 0 0)
  rw [World.size_alloc, World.size_alloc] at hR0
  have HR0 := Lib.hid hR0
  have K0 := Lib.hid ((((((Kept.start w).read (lives_grid _ _) g2).read (lives_grid _ _) g1).box w.heap.size rfl (.int .i64 x) (.slice a1 n1 c1) 27).box (w.heap.size + 1) (by simp) (.int .i64 y) (.slice a2 n2 c2) 27).below ((Below.refl _ _).alloc (Nat.le_refl _) (.cells #[.int .i64 0, .slice none 0 0] 27)))
  clear g1 hR0 g2
  have HC := Lib.hid (Tells.yes hc)
  have HD := Lib.hid (Tells.no hd)
  clear hc hd
  go_enter Tryd.func18, Tryd.ntmps18
  go_wp2_with fail
  refine (implValidRel _ _ _ _ _ _ true _ (K0.out.r 0 rfl :) HC.out).mono ?_
  rintro e w2 ⟨rfl, hq⟩
  have hb2 : Below _ _ w2 := hq
  have hszw2 : w.heap.size + 3 ≤ w2.heap.size := by have h0 := hb2.size; simpa using h0
  have K2 := Lib.hid (K0.out.below hb2)
  have HR2 := Lib.hid (HR0.out.below hb2)
  clear hq hb2
  have cy0 := K2.out.c 0 rfl
  have cy1 := K2.out.c 1 rfl
  go_wp2_with fail
  refine (implValidRel _ _ _ _ _ _ false _ (K2.out.r 1 rfl :) HD.out).mono ?_
  rintro e w3 ⟨rfl, hq⟩
  have hb2 : Below _ _ w3 := hq
  have hszw3 : w.heap.size + 3 ≤ w3.heap.size := by have h0 := hb2.size; omega
  have K3 := Lib.hid (K2.out.below hb2)
  have HR3 := Lib.hid (HR2.out.below hb2)
  clear hq hb2
  have d0 := HR3.out.c0
  have d1 := HR3.out.c1
  have f0 := HR3.out.free 0
  have f1 := HR3.out.free 1
  go_wp2
  refine bodyPost_ret (v := .tuple #[.agg #[.int .i64 0, .slice none 0 0], .int .i64 1]) (by simp [results, Tryd.results18, go_sem, d0, d1]) rfl ⟨none, 0, 0, rfl, ?_, ?_⟩
  · exact OwnGrid.nil _ _ _ (Nat.le_refl _)
  · exact (K3.out.bel.setCell (by show w.heap.size ≤ w.heap.size + 1 + 1; omega) _).setCell (by show w.heap.size ≤ w.heap.size + 1 + 1; omega) _

set_option linter.unusedVariables false in
set_option linter.unusedSimpArgs false in
set_option maxHeartbeats 8000000 in
set_option maxRecDepth 100000 in
theorem implComp_no3 (size x : Int) (a1 : Option Addr) (n1 c1 : Nat) (xs : List (List Int)) (y : Int) (a2 : Option Addr) (n2 c2 : Nat) (ys : List (List Int)) (w : World) (g1 : GridAt w (.slice a1 n1 c1) xs) (g2 : GridAt w (.slice a2 n2 c2) ys) (hc : RelOk size x xs) (hd : RelOk size y ys) (h1 : x ≠ 2) :
    Calls Tryd.prog 18 #[.int .i64 size, .agg #[.int .i64 x, .slice a1 n1 c1], .agg #[.int .i64 y, .slice a2 n2 c2]] w (MadeRel2 w 0 [] 2) := by
  have t1 : (x == 2) = false := by simpa using h1
  have t2 : (x != 2) = true := by simpa using h1
  have hR0 := RelBox.new ((w.alloc (.cells #[.int .i64 x, .slice a1 n1 c1] 27)).alloc (.cells #[.int .i64 y, .slice a2 n2 c2] 27)) (.int .i64 0) (.slice none 0 0)
  rw [World.size_alloc, World.size_alloc] at hR0
  have HR0 := Lib.hid hR0
  have K0 := Lib.hid ((((((Kept.start w).read (lives_grid _ _) g2).read (lives_grid _ _) g1).box w.heap.size rfl (.int .i64 x) (.slice a1 n1 c1) 27).box (w.heap.size + 1) (by simp) (.int .i64 y) (.slice a2 n2 c2) 27).below ((Below.refl _ _).alloc (Nat.le_refl _) (.cells #[.int .i64 0, .slice none 0 0] 27)))
  clear g1 hR0 g2
  have HC := Lib.hid (Tells.yes hc)
  have HD := Lib.hid (Tells.yes hd)
  clear hc hd h1
  go_enter Tryd.func18, Tryd.ntmps18
  go_wp2_with fail
  refine (implValidRel _ _ _ _ _ _ true _ (K0.out.r 0 rfl :) HC.out).mono ?_
  rintro e w2 ⟨rfl, hq⟩
  have hb2 : Below _ _ w2 := hq
  have hszw2 : w.heap.size + 3 ≤ w2.heap.size := by have h0 := hb2.size; simpa using h0
  have K2 := Lib.hid (K0.out.below hb2)
  have HR2 := Lib.hid (HR0.out.below hb2)
  clear hq hb2
  have cy0 := K2.out.c 0 rfl
  have cy1 := K2.out.c 1 rfl
  go_wp2_with fail
  refine (implValidRel _ _ _ _ _ _ true _ (K2.out.r 1 rfl :) HD.out).mono ?_
  rintro e w3 ⟨rfl, hq⟩
  have hb2 : Below _ _ w3 := hq
  have hszw3 : w.heap.size + 3 ≤ w3.heap.size := by have h0 := hb2.size; omega
  have K3 := Lib.hid (K2.out.below hb2)
  have HR3 := Lib.hid (HR2.out.below hb2)
  clear hq hb2
  clear cy0 cy1
  have cx0 := K3.out.c 2 rfl
  have cy0 := K3.out.c 0 rfl
  have d0 := HR3.out.c0
  have d1 := HR3.out.c1
  have f0 := HR3.out.free 0
  have f1 := HR3.out.free 1
  go_wp2
  refine bodyPost_ret (v := .tuple #[.agg #[.int .i64 0, .slice none 0 0], .int .i64 2]) (by simp [results, Tryd.results18, go_sem, d0, d1]) rfl ⟨none, 0, 0, rfl, ?_, ?_⟩
  · exact OwnGrid.nil _ _ _ (Nat.le_refl _)
  · exact (K3.out.bel.setCell (by show w.heap.size ≤ w.heap.size + 1 + 1; omega) _).setCell (by show w.heap.size ≤ w.heap.size + 1 + 1; omega) _

set_option linter.unusedVariables false in
set_option linter.unusedSimpArgs false in
set_option maxHeartbeats 8000000 in
set_option maxRecDepth 100000 in
theorem implComp_no4 (size x : Int) (a1 : Option Addr) (n1 c1 : Nat) (xs : List (List Int)) (y : Int) (a2 : Option Addr) (n2 c2 : Nat) (ys : List (List Int)) (w : World) (g1 : GridAt w (.slice a1 n1 c1) xs) (g2 : GridAt w (.slice a2 n2 c2) ys) (hc : RelOk size x xs) (hd : RelOk size y ys) (h0 : x = 2) (h1 : y ≠ 2) :
    Calls Tryd.prog 18 #[.int .i64 size, .agg #[.int .i64 x, .slice a1 n1 c1], .agg #[.int .i64 y, .slice a2 n2 c2]] w (MadeRel2 w 0 [] 2) := by
  subst h0
  have t1 : (y == 2) = false := by simpa using h1
  have t2 : (y != 2) = true := by simpa using h1
  have hR0 := RelBox.new ((w.alloc (.cells #[.int .i64 2, .slice a1 n1 c1] 27)).alloc (.cells #[.int .i64 y, .slice a2 n2 c2] 27)) (.int .i64 0) (.slice none 0 0)
  rw [World.size_alloc, World.size_alloc] at hR0
  have HR0 := Lib.hid hR0
  have K0 := Lib.hid ((((((Kept.start w).read (lives_grid _ _) g2).read (lives_grid _ _) g1).box w.heap.size rfl (.int .i64 2) (.slice a1 n1 c1) 27).box (w.heap.size + 1) (by simp) (.int .i64 y) (.slice a2 n2 c2) 27).below ((Below.refl _ _).alloc (Nat.le_refl _) (.cells #[.int .i64 0, .slice none 0 0] 27)))
  clear g1 hR0 g2
  have HC := Lib.hid (Tells.yes hc)
  have HD := Lib.hid (Tells.yes hd)
  clear hc hd h1
  go_enter Tryd.func18, Tryd.ntmps18
  go_wp2_with fail
  refine (implValidRel _ _ _ _ _ _ true _ (K0.out.r 0 rfl :) HC.out).mono ?_
  rintro e w2 ⟨rfl, hq⟩
  have hb2 : Below _ _ w2 := hq
  have hszw2 : w.heap.size + 3 ≤ w2.heap.size := by have h0 := hb2.size; simpa using h0
  have K2 := Lib.hid (K0.out.below hb2)
  have HR2 := Lib.hid (HR0.out.below hb2)
  clear hq hb2
  have cy0 := K2.out.c 0 rfl
  have cy1 := K2.out.c 1 rfl
  go_wp2_with fail
  refine (implValidRel _ _ _ _ _ _ true _ (K2.out.r 1 rfl :) HD.out).mono ?_
  rintro e w3 ⟨rfl, hq⟩
  have hb2 : Below _ _ w3 := hq
  have hszw3 : w.heap.size + 3 ≤ w3.heap.size := by have h0 := hb2.size; omega
  have K3 := Lib.hid (K2.out.below hb2)
  have HR3 := Lib.hid (HR2.out.below hb2)
  clear hq hb2
  clear cy0 cy1
  have cx0 := K3.out.c 2 rfl
  have cy0 := K3.out.c 0 rfl
  have d0 := HR3.out.c0
  have d1 := HR3.out.c1
  have f0 := HR3.out.free 0
  have f1 := HR3.out.free 1
  go_wp2
  refine bodyPost_ret (v := .tuple #[.agg #[.int .i64 0, .slice none 0 0], .int .i64 2]) (by simp [results, Tryd.results18, go_sem, d0, d1]) rfl ⟨none, 0, 0, rfl, ?_, ?_⟩
  · exact OwnGrid.nil _ _ _ (Nat.le_refl _)
  · exact (K3.out.bel.setCell (by show w.heap.size ≤ w.heap.size + 1 + 1; omega) _).setCell (by show w.heap.size ≤ w.heap.size + 1 + 1; omega) _

set_option linter.unusedVariables false in
set_option linter.unusedSimpArgs false in
set_option maxHeartbeats 8000000 in
set_option maxRecDepth 100000 in
theorem implComp_in (s : Nat) (h1 : 1 ≤ s) (h2 : s ≤ 4) (a1 : Option Addr) (n1 c1 : Nat) (xs : List (List Int)) (a2 : Option Addr) (n2 c2 : Nat) (ys : List (List Int)) (w : World) (g1 : GridAt w (.slice a1 n1 c1) xs) (g2 : GridAt w (.slice a2 n2 c2) ys) (hT : TzTab w) (hc : RelOk s 2 xs) (hd : RelOk s 2 ys) :
    Calls Tryd.prog 18 #[.int .i64 s, .agg #[.int .i64 2, .slice a1 n1 c1], .agg #[.int .i64 2, .slice a2 n2 c2]] w (MadeRel2 w 2 (rowsS s 2 (setOf s (compL xs ys)) 256) 0) := by
  obtain rfl : n1 = xs.length := by obtain ⟨_, ⟨_, _, hv, _⟩, _⟩ := g1; simp only [Value.slice.injEq] at hv; exact hv.2.1
  obtain rfl : n2 = ys.length := by obtain ⟨_, ⟨_, _, hv, _⟩, _⟩ := g2; simp only [Value.slice.injEq] at hv; exact hv.2.1
  have hR0 := RelBox.new ((w.alloc (.cells #[.int .i64 2, .slice a1 xs.length c1] 27)).alloc (.cells #[.int .i64 2, .slice a2 ys.length c2] 27)) (.int .i64 0) (.slice none 0 0)
  rw [World.size_alloc, World.size_alloc] at hR0
  have HR0 := Lib.hid hR0
  have K0 := Lib.hid (((((((Kept.start w).read lives_tz hT).read (lives_grid _ _) g2).read (lives_grid _ _) g1).box w.heap.size rfl (.int .i64 2) (.slice a1 xs.length c1) 27).box (w.heap.size + 1) (by simp) (.int .i64 2) (.slice a2 ys.length c2) 27).below ((Below.refl _ _).alloc (Nat.le_refl _) (.cells #[.int .i64 0, .slice none 0 0] 27)))
  clear g1 hR0 g2 hT
  have HC := Lib.hid (Tells.yes hc)
  have HD := Lib.hid (Tells.yes hd)
  have HX := Lib.hid hc
  have HY := Lib.hid hd
  clear hc hd
  go_enter Tryd.func18, Tryd.ntmps18
  go_wp2_with fail
  refine (implValidRel _ _ _ _ _ _ true _ (K0.out.r 0 rfl :) HC.out).mono ?_
  rintro e w2 ⟨rfl, hq⟩
  have hb2 : Below _ _ w2 := hq
  have hszw2 : w.heap.size + 3 ≤ w2.heap.size := by have h0 := hb2.size; simpa using h0
  have K2 := Lib.hid (K0.out.below hb2)
  have HR2 := Lib.hid (HR0.out.below hb2)
  clear hq hb2
  have cy0 := K2.out.c 0 rfl
  have cy1 := K2.out.c 1 rfl
  go_wp2_with fail
  refine (implValidRel _ _ _ _ _ _ true _ (K2.out.r 1 rfl :) HD.out).mono ?_
  rintro e w3 ⟨rfl, hq⟩
  have hb2 : Below _ _ w3 := hq
  have hszw3 : w.heap.size + 3 ≤ w3.heap.size := by have h0 := hb2.size; omega
  have K3 := Lib.hid (K2.out.below hb2)
  have HR3 := Lib.hid (HR2.out.below hb2)
  clear hq hb2
  clear cy0 cy1
  obtain ⟨V1, ⟨q1, q2, hv, _, hcA⟩, hVA⟩ : GridAt w3 (.slice a1 xs.length c1) xs := (K3.out.r 0 rfl :)
  simp only [Value.slice.injEq] at hv
  obtain ⟨rfl, _, rfl⟩ := hv
  have HCA1 := Lib.hid hcA
  have HVA1 := Lib.hid hVA
  clear hcA hVA
  obtain ⟨V2, ⟨q1, q2, hv, _, hcA⟩, hVA⟩ : GridAt w3 (.slice a2 ys.length c2) ys := (K3.out.r 1 rfl :)
  simp only [Value.slice.injEq] at hv
  obtain ⟨rfl, _, rfl⟩ := hv
  have HCA2 := Lib.hid hcA
  have HVA2 := Lib.hid hVA
  clear hcA hVA
  have cx0 := K3.out.c 2 rfl
  have cy0 := K3.out.c 0 rfl
  have cx1 := below_cell ((Below.refl w3.heap.size w3).alloc (Nat.le_refl _) (.cells #[.int .u64 0, .int .u64 0, .int .u64 0, .int .u64 0] 52)) (K3.out.c 3 rfl)
  have HS : Hid (In14 (s : Int)) := ⟨by omega, by omega⟩
  have HA : Hid (In14 (2 : Int)) := ⟨by omega, by omega⟩
  have HX0 := Lib.hid (bits_new w3 (fun _ => false))
  have HW0 := Lib.hid ((Below.refl w3.heap.size w3).alloc (Nat.le_refl _) (.cells (bitsC fun _ => false).toArray 52))
  go_wp2
  clear cx0 cx1 cy0
  go_loopw [36] (fun i wr => ∃ k : Nat, k ≤ xs.length ∧ i = .int .i64 k ∧ BitsBox wr w3.heap.size (setOf s (compL (xs.take k) ys)) ∧ Below w3.heap.size w3 wr) (fun i _ => xs.length - (intOf i).toNat)
  case atStart =>
    rw [bits_zero]
    exact ⟨0, Nat.zero_le _, rfl, HX0.out, HW0.out⟩
  case round =>
    obtain ⟨k, hk, rfl, hb, hbel⟩ := hrel
    obtain ⟨wo, hwo⟩ : ∃ wo : World, wo = wr := ⟨_, rfl⟩
    subst hwo
    have KW := Lib.hid (K3.out.below hbel)
    have HRW := Lib.hid (HR3.out.below hbel)
    by_cases hlt1 : k < xs.length
    · obtain ⟨b1, off1, ha1, hcell1⟩ := HCA1.out (by omega)
      subst ha1
      obtain ⟨a1r, c1r, hv4, _, hc4⟩ := HVA1.out k hlt1
      have hx1 := below_cell hbel (hcell1 k hlt1)
      rw [hv4] at hx1
      have HRW1 := Lib.hid (HVA1.out k hlt1)
      rw [hv4] at HRW1
      have HC1 := Lib.hid hc4
      have hlt1' : (k : Int) < (xs.length : Int) := by omega
      clear hcell1 hc4 hv4
      have cy1 := KW.out.c 1 rfl
      have HW := Lib.hid hbel
      have HTX := Lib.hid (take_row xs k hlt1)
      have HB0 : Hid (BitsBox wo w3.heap.size (setOf s (compL (xs.take k) ys ++ compRow (rowN xs k) (ys.take 0)))) := Lib.hid (by rw [List.take_zero, compRow_nil, List.append_nil]; exact hb)
      clear hb hbel
      go_wp2
      clear cy1 hx1
      go_loopw [43] (fun i wr => ∃ j : Nat, j ≤ ys.length ∧ i = .int .i64 j ∧ BitsBox wr w3.heap.size (setOf s (compL (xs.take k) ys ++ compRow (rowN xs k) (ys.take j))) ∧ Below w3.heap.size w3 wr) (fun i _ => ys.length - (intOf i).toNat)
      case atStart => exact ⟨0, Nat.zero_le _, rfl, HB0.out, HW.out⟩
      case round =>
        obtain ⟨j, hj, rfl, hb, hbel⟩ := hrel
        by_cases hlt2 : j < ys.length
        · obtain ⟨b2, off2, ha1, hcell1⟩ := HCA2.out (by omega)
          subst ha1
          obtain ⟨a2r, c2r, hv4, _, hc4⟩ := HVA2.out j hlt2
          have hx2 := below_cell hbel (hcell1 j hlt2)
          rw [hv4] at hx2
          have HRW2 := Lib.hid (HVA2.out j hlt2)
          rw [hv4] at HRW2
          have HC2 := Lib.hid hc4
          have hlt2' : (j : Int) < (ys.length : Int) := by omega
          clear hcell1 hc4 hv4
          have HT1 := Lib.hid (HX.out.tups _ (rowN_mem hlt1))
          have HT2 := Lib.hid (HY.out.tups _ (rowN_mem hlt2))
          have HTK := Lib.hid (take_row ys j hlt2)
          generalize rowN xs k = ra at *
          generalize rowN ys j = rb at *
          have la : ra.length = 2 := by have := HT1.out.1; omega
          have lb : rb.length = 2 := by have := HT2.out.1; omega
          obtain ⟨bl, ol, rfl, hcl⟩ := HC1.out (by omega)
          obtain ⟨br, or', rfl, hcr⟩ := HC2.out (by omega)
          have hl0 : wr.cell? ⟨bl, ol, none⟩ = some (.int .i64 (intN ra 0)) := below_cell hbel (hcl 0 (by omega))
          have hl1 : wr.cell? ⟨bl, ol + 1, none⟩ = some (.int .i64 (intN ra 1)) := below_cell hbel (hcl 1 (by omega))
          have hr0 : wr.cell? ⟨br, or', none⟩ = some (.int .i64 (intN rb 0)) := below_cell hbel (hcr 0 (by omega))
          have hr1 : wr.cell? ⟨br, or' + 1, none⟩ = some (.int .i64 (intN rb 1)) := below_cell hbel (hcr 1 (by omega))
          obtain ⟨u, hu⟩ : ∃ u : Nat, intN ra 0 = u := ⟨(intN ra 0).toNat, by have := (HT1.out.2 0 (by omega)).1; omega⟩
          obtain ⟨t, ht⟩ : ∃ t : Nat, intN rb 1 = t := ⟨(intN rb 1).toNat, by have := (HT2.out.2 1 (by omega)).1; omega⟩
          have hus : u < s := by have := (HT1.out.2 0 (by omega)).2; omega
          have hts : t < s := by have := (HT2.out.2 1 (by omega)).2; omega
          rw [hu] at hl0
          rw [ht] at hr1

          have HU := Lib.hid hu
          have HTT := Lib.hid ht
          have HPT : Hid (TupP s 2 [(u : Int), (t : Int)]) := Lib.hid (pair_tup ⟨by omega, by omega⟩ ⟨by omega, by omega⟩)
          have hI1 : (1 : Int) < (ra.length : Int) := by omega
          have hN1 : 0 < ra.length := by omega
          have hN2 : 0 < rb.length := by omega
          have hI2 : (0 : Int) < (ra.length : Int) := by omega
          have hI3 : (1 : Int) < (rb.length : Int) := by omega
          have hI4 : (0 : Int) < (rb.length : Int) := by omega
          have HLA := Lib.hid la
          have HLB := Lib.hid lb
          clear hcl hcr HC1 HC2 hu ht la lb HRW1 HRW2
          have HB := Lib.hid hb
          have HWJ := Lib.hid hbel
          clear hb hbel
          go_wp2

          refine wp_region_noPanic ?_
          refine wp_region_late (S := (fun w' => w'.cell? ⟨bl, ol + 1, none⟩ = some (.int .i64 (intN ra 1)) ∧ w'.cell? ⟨br, or', none⟩ = some (.int .i64 (intN rb 0)))) [] (by kernel_rfl) ?_ (fun hHeld => ?_)
          · exact ⟨hl1, hr0⟩
          refine wpAnyL_free (i := 0) (v := ?_) (some 47) rfl rfl (by kernel_rfl) (by kernel_rfl) (by kernel_rfl) (by decide) (fun _ _ _ h => h) (Or.inl ⟨by rfl, ?_⟩) (fun h0 => by assumption) ?_
          rotate_left
          · intro wS
            go_simp
            try with_reducible rfl
          try simp only [Act.put, List.setIfInBounds_toArray, List.set_cons_zero, List.set_cons_succ]
          refine wpAnyL_free (i := 1) (v := ?_) (some 48) rfl rfl (by kernel_rfl) (by kernel_rfl) (by kernel_rfl) (by decide) (fun _ _ _ h => h) (Or.inl ⟨by rfl, ?_⟩) (fun h0 => by assumption) ?_
          rotate_left
          · intro wS
            go_simp
            try with_reducible rfl
          try simp only [Act.put, List.setIfInBounds_toArray, List.set_cons_zero, List.set_cons_succ]
          refine wpAnyL_take (i := 2) (v := ?_) (some 49) rfl rfl (by kernel_rfl) (by kernel_rfl) (by kernel_rfl) (by kernel_rfl) (by kernel_rfl) (fun _ _ _ h => h) (Or.inl ⟨by rfl, ?_⟩) (by assumption) ?_
          rotate_left
          · intro wS hSw
            try dsimp only at hSw
            go_simp
            try with_reducible rfl
          try simp only [Act.put, List.setIfInBounds_toArray, List.set_cons_zero, List.set_cons_succ]
          refine wpAnyL_free (i := 3) (v := ?_) (some 50) rfl rfl (by kernel_rfl) (by kernel_rfl) (by kernel_rfl) (by decide) (fun _ _ _ h => h) (Or.inl ⟨by rfl, ?_⟩) (fun h0 => by assumption) ?_
          rotate_left
          · intro wS
            go_simp
            try with_reducible rfl
          try simp only [Act.put, List.setIfInBounds_toArray, List.set_cons_zero, List.set_cons_succ]
          refine wpAnyL_free (i := 4) (v := ?_) (some 51) rfl rfl (by kernel_rfl) (by kernel_rfl) (by kernel_rfl) (by decide) (fun _ _ _ h => h) (Or.inl ⟨by rfl, ?_⟩) (fun h0 => by assumption) ?_
          rotate_left
          · intro wS
            go_simp
            try with_reducible rfl
          try simp only [Act.put, List.setIfInBounds_toArray, List.set_cons_zero, List.set_cons_succ]
          refine wpAnyL_take (i := 5) (v := ?_) (some 52) rfl rfl (by kernel_rfl) (by kernel_rfl) (by kernel_rfl) (by kernel_rfl) (by kernel_rfl) (fun _ _ _ h => h) (Or.inl ⟨by rfl, ?_⟩) (by assumption) ?_
          rotate_left
          · intro wS hSw
            try dsimp only at hSw
            go_simp
            try with_reducible rfl
          try simp only [Act.put, List.setIfInBounds_toArray, List.set_cons_zero, List.set_cons_succ]
          refine wpAnyL_free (i := 6) (v := ?_) (some 53) rfl rfl (by kernel_rfl) (by kernel_rfl) (by kernel_rfl) (by decide) (fun _ _ _ h => h) (Or.inl ⟨by rfl, ?_⟩) (fun h0 => by assumption) ?_
          rotate_left
          · intro wS
            go_simp
            try with_reducible rfl
          try simp only [Act.put, List.setIfInBounds_toArray, List.set_cons_zero, List.set_cons_succ]
          refine wpAnyL_done (by kernel_rfl) ?_ _
          refine NoPanic.normal ?_
          skip

          by_cases hin : (intN ra 1 == intN rb 0) = true
          · have HM : Hid (setOf s (compL (xs.take k) ys ++ compRow ra (ys.take (j + 1))) = putS (setOf s (compL (xs.take k) ys ++ compRow ra (ys.take j))) (codeN s [(u : Int), (t : Int)])) := Lib.hid (by rw [HTK.out, compRow_in hin, HU.out, HTT.out, ← List.append_assoc, setOf_snoc])
            clear HTK
            have hq1 : IntKind.i64.wrap ((u : Int) * (s : Int)) = ((u * s : Nat) : Int) := by rw [← Int.natCast_mul]; exact IntWalk.i64_in _ (by have := Nat.mul_le_mul (show u ≤ 4 by omega) h2; omega)
            have hq2 : IntKind.i64.wrap (((u * s : Nat) : Int) + (t : Int)) = ((codeN s [(u : Int), (t : Int)] : Nat) : Int) := by rw [pair_code, ← Int.natCast_add]; exact IntWalk.i64_in _ (by have := Nat.mul_le_mul (show u ≤ 4 by omega) h2; omega)
            have hlt := codeN_lt HPT.out HS.out HA.out
            generalize codeN s [(u : Int), (t : Int)] = q at *
            generalize u * s = m at *
            go_wp2

            refine wp_region_noPanic ?_
            refine wp_region_late (S := (fun w' => w'.cell? ⟨bl, ol, none⟩ = some (.int .i64 u) ∧ w'.cell? ⟨br, or' + 1, none⟩ = some (.int .i64 t))) [9] (by kernel_rfl) ?_ (fun hHeld => ?_)
            · exact ⟨hl0, hr1⟩
            refine wpAnyL_free (i := 0) (v := ?_) (some 54) rfl rfl (by kernel_rfl) (by kernel_rfl) (by kernel_rfl) (by decide) (fun _ _ _ h => h) (Or.inl ⟨by rfl, ?_⟩) (fun h0 => by assumption) ?_
            rotate_left
            · intro wS
              go_simp
              try with_reducible rfl
            try simp only [Act.put, List.setIfInBounds_toArray, List.set_cons_zero, List.set_cons_succ]
            refine wpAnyL_free (i := 1) (v := ?_) (some 55) rfl rfl (by kernel_rfl) (by kernel_rfl) (by kernel_rfl) (by decide) (fun _ _ _ h => h) (Or.inl ⟨by rfl, ?_⟩) (fun h0 => by assumption) ?_
            rotate_left
            · intro wS
              go_simp
              try with_reducible rfl
            try simp only [Act.put, List.setIfInBounds_toArray, List.set_cons_zero, List.set_cons_succ]
            refine wpAnyL_take (i := 2) (v := ?_) (some 56) rfl rfl (by kernel_rfl) (by kernel_rfl) (by kernel_rfl) (by kernel_rfl) (by kernel_rfl) (fun _ _ _ h => h) (Or.inl ⟨by rfl, ?_⟩) (by assumption) ?_
            rotate_left
            · intro wS hSw
              try dsimp only at hSw
              go_simp
              try with_reducible rfl
            try simp only [Act.put, List.setIfInBounds_toArray, List.set_cons_zero, List.set_cons_succ]
            refine wpAnyL_free (i := 3) (v := ?_) (some 57) rfl rfl (by kernel_rfl) (by kernel_rfl) (by kernel_rfl) (by decide) (fun _ _ _ h => h) (Or.inl ⟨by rfl, ?_⟩) (fun h0 => by assumption) ?_
            rotate_left
            · intro wS
              go_simp
              try with_reducible rfl
            try simp only [Act.put, List.setIfInBounds_toArray, List.set_cons_zero, List.set_cons_succ]
            refine wpAnyL_free (i := 4) (v := ?_) (some 58) rfl rfl (by kernel_rfl) (by kernel_rfl) (by kernel_rfl) (by decide) (fun _ _ _ h => h) (Or.inl ⟨by rfl, ?_⟩) (fun h0 => by assumption) ?_
            rotate_left
            · intro wS
              go_simp
              try with_reducible rfl
            try simp only [Act.put, List.setIfInBounds_toArray, List.set_cons_zero, List.set_cons_succ]
            refine wpAnyL_free (i := 5) (v := ?_) (some 59) rfl rfl (by kernel_rfl) (by kernel_rfl) (by kernel_rfl) (by decide) (fun _ _ _ h => h) (Or.inl ⟨by rfl, ?_⟩) (fun h0 => by assumption) ?_
            rotate_left
            · intro wS
              go_simp
              try with_reducible rfl
            try simp only [Act.put, List.setIfInBounds_toArray, List.set_cons_zero, List.set_cons_succ]
            refine wpAnyL_free (i := 6) (v := ?_) (some 60) rfl rfl (by kernel_rfl) (by kernel_rfl) (by kernel_rfl) (by decide) (fun _ _ _ h => h) (Or.inl ⟨by rfl, ?_⟩) (fun h0 => by assumption) ?_
            rotate_left
            · intro wS
              go_simp
              try with_reducible rfl
            try simp only [Act.put, List.setIfInBounds_toArray, List.set_cons_zero, List.set_cons_succ]
            refine wpAnyL_take (i := 7) (v := ?_) (some 61) rfl rfl (by kernel_rfl) (by kernel_rfl) (by kernel_rfl) (by kernel_rfl) (by kernel_rfl) (fun _ _ _ h => h) (Or.inl ⟨by rfl, ?_⟩) (by assumption) ?_
            rotate_left
            · intro wS hSw
              try dsimp only at hSw
              go_simp
              try with_reducible rfl
            try simp only [Act.put, List.setIfInBounds_toArray, List.set_cons_zero, List.set_cons_succ]
            refine wpAnyL_free (i := 8) (v := ?_) (some 62) rfl rfl (by kernel_rfl) (by kernel_rfl) (by kernel_rfl) (by decide) (fun _ _ _ h => h) (Or.inl ⟨by rfl, ?_⟩) (fun h0 => by assumption) ?_
            rotate_left
            · intro wS
              go_simp
              try with_reducible rfl
            try simp only [Act.put, List.setIfInBounds_toArray, List.set_cons_zero, List.set_cons_succ]
            refine wpAnyL_ready (rs := [9]) (by kernel_rfl) (by simp) ?_
            refine AllReadyL.last rfl (by kernel_rfl) (fun K hK => ?_) AllReadyL.nil
            go_simp; go_at_call 31; refine (putBit _ _ _ hlt _ (HB.out.below ((QW.refl _).drew.drew.bel))).mono ?_; rintro e w5 ⟨rfl, ho, hb5⟩
            refine hK.out _ _ ?_
            clear hK K
            try simp only [Act.put, List.setIfInBounds_toArray, List.set_cons_zero, List.set_cons_succ]
            refine wpAnyL_done (by kernel_rfl) ?_ _
            refine NoPanic.normal ?_
            rw [← HM.out] at hb5
            have HB5 := Lib.hid hb5
            have HW5 := Lib.hid ((HWJ.out.trans ((QW.refl wr).drew.drew.below _)).trans (ho.below HWJ.out.size (fun k hk => by omega)))
            clear hb5 ho hHeld
            go_wp2
            go_roundw
            case rel => exact ⟨j + 1, by omega, by go_num, HB5.out, HW5.out⟩
            case measure => simp [intOf]; omega

          · have hin : (intN ra 1 == intN rb 0) = false := by simpa using hin
            have HM : Hid (compRow ra (ys.take (j + 1)) = compRow ra (ys.take j)) := Lib.hid (by rw [HTK.out, compRow_out hin])
            clear HTK
            go_wp2
            go_roundw
            case rel => exact ⟨j + 1, by omega, by go_num, by rw [HM.out]; exact HB.out.below ((QW.refl _).drew.bel), HWJ.out.trans ((QW.refl wr).drew.below _)⟩
            case measure => simp [intOf]; omega

        · obtain rfl : j = ys.length := by omega
          rw [take_all, ← compL_snoc, ← HTX.out] at hb
          have HB := Lib.hid hb
          have HWJ := Lib.hid hbel
          clear hb hbel
          go_wp2
          go_roundw
          case rel => exact ⟨k + 1, by omega, by go_num, HB.out, HWJ.out⟩
          case measure => simp [intOf]; omega
    · obtain rfl : k = xs.length := by omega
      rw [take_all] at hb
      clear hbel
      have q0 := hb.cell 0 (by omega)
      have q1 := hb.cell 1 (by omega)
      have q2 := hb.cell 2 (by omega)
      have q3 := hb.cell 3 (by omega)
      clear hb
      go_wp2_with fail
      refine (relOf s 2 h1 h2 (by omega) (by omega) _ _ (KW.out.r 2 rfl :)).mono ?_
      rintro e w8 ⟨a8, n8, c8, rfl, ho8, hb8⟩
      have hr8 := HRW.out.below hb8
      have d0 := hr8.c0
      have d1 := hr8.c1
      have f0 := hr8.free 0
      have f1 := hr8.free 1
      have HO8 := Lib.hid ho8
      have K8 := Lib.hid (KW.out.below hb8)
      have HZ := Lib.hid HRW.out.lt
      clear ho8 hb8 hr8
      go_wp2
      refine bodyPost_ret (v := .tuple #[.agg #[.int .i64 2, .slice a8 n8 c8], .int .i64 0]) (by simp [results, Tryd.results18, go_sem, d0, d1]) rfl ⟨a8, n8, c8, rfl, ?_, ?_⟩
      · have e1 := HZ.out
        exact (((HO8.out.stored e1 _).stored e1 _).mono (by omega)).full
      · exact (K8.out.bel.setCell (by show w.heap.size ≤ w.heap.size + 1 + 1; omega) _).setCell (by show w.heap.size ≤ w.heap.size + 1 + 1; omega) _

theorem implComposeRels (size x : Int) (a1 : Option Addr) (n1 c1 : Nat) (xs : List (List Int)) (y : Int) (a2 : Option Addr) (n2 c2 : Nat) (ys : List (List Int)) (ar : Int) (zs : List (List Int)) (cd : Int) (w : World) (g1 : GridAt w (.slice a1 n1 c1) xs) (g2 : GridAt w (.slice a2 n2 c2) ys) (hT : TzTab w) (hi : ComposeRelsIs size x xs y ys ar zs cd) :
    Calls Tryd.prog 18 #[.int .i64 size, .agg #[.int .i64 x, .slice a1 n1 c1], .agg #[.int .i64 y, .slice a2 n2 c2]] w (MadeRel2 w ar zs cd) := by
  rcases hi with ⟨⟨hc, hd⟩, ⟨rfl, rfl⟩, rfl, rfl, rfl⟩ | ⟨⟨hc, hd⟩, hn, rfl, rfl, rfl⟩ | ⟨hn, rfl, rfl, rfl⟩
  · have e1 := hc.1.1
    have e2 := hc.1.2
    obtain ⟨s, rfl⟩ : ∃ s : Nat, size = s := ⟨size.toNat, by omega⟩
    simp only [Int.toNat_natCast]
    exact implComp_in s (by omega) (by omega) a1 n1 c1 xs a2 n2 c2 ys w g1 g2 hT hc hd
  · by_cases p1 : x = 2
    · exact implComp_no4 size x a1 n1 c1 xs y a2 n2 c2 ys w g1 g2 hc hd p1 fun p2 => hn ⟨p1, p2⟩
    · exact implComp_no3 size x a1 n1 c1 xs y a2 n2 c2 ys w g1 g2 hc hd p1
  · by_cases p1 : RelOk size x xs
    · exact implComp_no2 size x a1 n1 c1 xs y a2 n2 c2 ys w g1 g2 p1 fun p2 => hn ⟨p1, p2⟩
    · exact implComp_no1 size x a1 n1 c1 xs y a2 n2 c2 ys w g1 g2 p1

end Go.Proofs.YtjkbffoaenhhgaaDoor
