/-
  Tuples with tuples behind them: PairRels of the model and of the program.
-/
import Derived.Test.YtjkbffoaenhhgaaDoorMeet
import Derived.Test.YtjkbffoaenhhgaaDoorOpp
import Derived.Test.YtjkbffoaenhhgaaDoorGRel
import Derived.IntWalk
namespace Go.Proofs.YtjkbffoaenhhgaaDoor
open Go.RowKit

def pairRow (a : List Int) (ys : List (List Int)) : List (List Int) := ys.map fun b => a ++ b
def pairL (xs ys : List (List Int)) : List (List Int) := xs.flatMap fun a => pairRow a ys
theorem pairL_snoc (xs ys : List (List Int)) (a : List Int) : pairL (xs ++ [a]) ys = pairL xs ys ++ pairRow a ys := by simp [pairL]
theorem pairRow_nil (a : List Int) : pairRow a [] = [] := rfl
theorem pairRow_snoc (a b : List Int) (ys : List (List Int)) : pairRow a (ys ++ [b]) = pairRow a ys ++ [a ++ b] := by simp [pairRow]
theorem intN_left (xs ys : List Int) (k : Nat) (h : k < xs.length) : intN (xs ++ ys) k = intN xs k := by rw [intN_at _ _ (by simp; omega), intN_at _ _ h, List.getElem_append_left h]
theorem intN_right (xs ys : List Int) (k : Nat) (h : k < ys.length) : intN (xs ++ ys) (xs.length + k) = intN ys k := by
  rw [intN_at _ _ (by simp; omega), intN_at _ _ h, List.getElem_append_right (by omega)]
  simp
theorem app_tup {s x y : Int} {a b : List Int} (h1 : TupP s x a) (h2 : TupP s y b) : TupP s (x + y) (a ++ b) := by
  refine ⟨by have := h1.1; have := h2.1; simp; omega, fun k hk => ?_⟩
  by_cases hl : k < a.length
  · rw [intN_left _ _ _ hl]; exact h1.2 k hl
  · obtain ⟨j, rfl⟩ : ∃ j, k = a.length + j := ⟨k - a.length, by omega⟩
    simp only [List.length_append] at hk
    rw [intN_right _ _ _ (by omega)]
    exact h2.2 j (by omega)
theorem codeK_app (s : Int) (a b : List Int) : ∀ k, k ≤ b.length → codeK s (a ++ b) (a.length + k) = codeK s a a.length * s ^ k + codeK s b k := by
  intro k
  induction k with
  | zero =>
    intro _
    rw [Nat.add_zero, Int.pow_zero, Int.mul_one]
    show _ = _ + 0
    rw [Int.add_zero]
    exact codeK_same _ fun j hj => intN_left _ _ _ hj
  | succ k ih =>
    intro hk
    show codeK s (a ++ b) (a.length + k) * s + intN (a ++ b) (a.length + k) = _ + (codeK s b k * s + intN b k)
    rw [ih (by omega), intN_right _ _ _ (by omega), Int.pow_succ, Int.add_mul, Int.mul_assoc, Int.add_assoc]
theorem app_code {s r q : Nat} {a b : List Int} (h1 : TupP s r a) (h2 : TupP s q b) (hs : In14 (s : Int)) (hr : In14 (r : Int)) (hq : In14 (q : Int)) : codeN s (a ++ b) = codeN s a * s ^ q + codeN s b := by
  have e1 := codeN_cast h1 hs hr
  have e2 := codeN_cast h2 hs hq
  have e : code s (a ++ b) = ((codeN s a * s ^ q + codeN s b : Nat) : Int) := by
    have hl : b.length = q := by have := h2.1; omega
    unfold code at e1 e2 ⊢
    rw [List.length_append, codeK_app _ _ _ _ (Nat.le_refl _), e1, e2, hl, Int.natCast_add, Int.natCast_mul, Int.natCast_pow]
  show (code s (a ++ b)).toNat = _
  rw [e, Int.toNat_natCast]
theorem pairRow_tups {s x y : Int} {a : List Int} {ys : List (List Int)} (h1 : TupP s x a) (h2 : ∀ b, b ∈ ys → TupP s y b) : ∀ t, t ∈ pairRow a ys → TupP s (x + y) t := fun t ht => by
  obtain ⟨b, hb, rfl⟩ := List.mem_map.1 ht
  exact app_tup h1 (h2 b hb)
theorem pairL_tups {s x y : Int} {xs ys : List (List Int)} (h1 : ∀ a, a ∈ xs → TupP s x a) (h2 : ∀ b, b ∈ ys → TupP s y b) : ∀ t, t ∈ pairL xs ys → TupP s (x + y) t := fun t ht => by
  obtain ⟨a, ha, ht⟩ := List.mem_flatMap.1 ht
  exact pairRow_tups (h1 a ha) h2 t ht
theorem pairL_asc {s r q : Nat} {xs ys : List (List Int)} (hx : RelOk s r xs) (hy : RelOk s q ys) : AscC s (pairL xs ys) := by
  have hs := hx.1
  have hr := hx.2.1
  have hq := hy.2.1
  have h1 : 1 ≤ s := by have := hs.1; omega
  have hlt : ∀ b, b ∈ ys → codeN s b < s ^ q := fun b hb => codeN_pow h1 (hy.tups b hb)
  have hrow : ∀ a, a ∈ xs → AscC s (pairRow a ys) := fun a ha => by
    refine List.pairwise_map.2 (List.Pairwise.imp_of_mem ?_ hy.asc)
    intro b b' hb hb' h
    rw [app_code (hx.tups a ha) (hy.tups b hb) hs hr hq, app_code (hx.tups a ha) (hy.tups b' hb') hs hr hq]
    omega
  have hall : ∀ l : List (List Int), (∀ a, a ∈ l → a ∈ xs) → AscC s l → AscC s (pairL l ys) := by
    intro l
    induction l with
    | nil => intro _ _; exact List.Pairwise.nil
    | cons a l ih =>
      intro hl ha
      unfold AscC at ha
      rw [List.pairwise_cons] at ha
      show List.Pairwise _ (pairRow a ys ++ pairL l ys)
      refine List.pairwise_append.2 ⟨hrow a (hl a (List.mem_cons_self ..)), ih (fun b hb => hl b (List.mem_cons_of_mem _ hb)) ha.2, fun t ht t' ht' => ?_⟩
      obtain ⟨b, hb, rfl⟩ := List.mem_map.1 ht
      obtain ⟨a', ha', ht'⟩ := List.mem_flatMap.1 ht'
      obtain ⟨b', hb', rfl⟩ := List.mem_map.1 ht'
      rw [app_code (hx.tups a (hl a (List.mem_cons_self ..))) (hy.tups b hb) hs hr hq, app_code (hx.tups a' (hl a' (List.mem_cons_of_mem _ ha'))) (hy.tups b' hb') hs hr hq]
      have h2 := ha.1 a' ha'
      have h3 := hlt b hb
      have h4 := Nat.mul_le_mul_right (s ^ q) (show codeN s a + 1 ≤ codeN s a' from h2)
      rw [Nat.add_mul, Nat.one_mul] at h4
      omega
  exact hall xs (fun a ha => ha) hx.asc
theorem pairL_len (xs ys : List (List Int)) : (pairL xs ys).length = xs.length * ys.length := by
  induction xs with
  | nil => simp [pairL]
  | cons a xs ih =>
    show (pairRow a ys ++ pairL xs ys).length = _
    rw [List.length_append, ih, List.length_cons, Nat.add_mul, Nat.one_mul, Nat.add_comm]
    simp [pairRow]
/-- What PairRels answers. -/
def PairRelsIs (size x : Int) (xs : List (List Int)) (y : Int) (ys : List (List Int)) (ar : Int) (zs : List (List Int)) (cd : Int) : Prop :=
  RelAns (RelOk size x xs ∧ RelOk size y ys) (x + y ≤ 4) (x + y) (pairL xs ys) ar zs cd
theorem PairRelsIs.exists (size x : Int) (xs : List (List Int)) (y : Int) (ys : List (List Int)) : ∃ ar zs cd, PairRelsIs size x xs y ys ar zs cd := RelAns.exists _ _ _ _
theorem PairRelsIs.small {size x : Int} {xs : List (List Int)} {y : Int} {ys : List (List Int)} {ar : Int} {zs : List (List Int)} {cd : Int} (h : PairRelsIs size x xs y ys ar zs cd) : (zs.map List.length).sum ≤ 1048576 :=
  RelAns.small h fun h1 h2 => by
    have e1 := sum_map_le (pairL xs ys) 4 fun z hz => by
      have := (pairL_tups h1.1.tups h1.2.tups z hz).1
      omega
    have e2 := pairL_len xs ys
    have e3 := Nat.mul_le_mul h1.1.few h1.2.few
    omega

set_option linter.unusedVariables false in
set_option linter.unusedSimpArgs false in
set_option maxHeartbeats 8000000 in
set_option maxRecDepth 100000 in
theorem implPair_no1 (size x : Int) (a1 : Option Addr) (n1 c1 : Nat) (xs : List (List Int)) (y : Int) (a2 : Option Addr) (n2 c2 : Nat) (ys : List (List Int)) (w : World) (g1 : GridAt w (.slice a1 n1 c1) xs) (g2 : GridAt w (.slice a2 n2 c2) ys) (hc : ¬ RelOk size x xs) :
    Calls Tryd.prog 13 #[.int .i64 size, .agg #[.int .i64 x, .slice a1 n1 c1], .agg #[.int .i64 y, .slice a2 n2 c2]] w (MadeRel2 w 0 [] 1) := by
  have hR0 := RelBox.new ((w.alloc (.cells #[.int .i64 x, .slice a1 n1 c1] 27)).alloc (.cells #[.int .i64 y, .slice a2 n2 c2] 27)) (.int .i64 0) (.slice none 0 0)
  rw [World.size_alloc, World.size_alloc] at hR0
  have HR0 := Lib.hid hR0
  have K0 := Lib.hid ((((((Kept.start w).read (lives_grid _ _) g2).read (lives_grid _ _) g1).box w.heap.size rfl (.int .i64 x) (.slice a1 n1 c1) 27).box (w.heap.size + 1) (by simp) (.int .i64 y) (.slice a2 n2 c2) 27).below ((Below.refl _ _).alloc (Nat.le_refl _) (.cells #[.int .i64 0, .slice none 0 0] 27)))
  clear g1 hR0 g2
  have HC := Lib.hid (Tells.no hc)
  clear hc
  go_enter Tryd.func13, Tryd.ntmps13
  go_wp2_with fail
  refine (implValidRel _ _ _ _ _ _ false _ (K0.out.r 0 rfl :) HC.out).mono ?_
  rintro e w2 ⟨rfl, hq⟩
  have hb2 : Below _ _ w2 := hq
  have hszw2 : w.heap.size + 3 ≤ w2.heap.size := by have h0 := hb2.size; simpa using h0
  have K2 := Lib.hid (K0.out.below hb2)
  have HR2 := Lib.hid (HR0.out.below hb2)
  clear hq hb2
  have d0 := HR2.out.c0
  have d1 := HR2.out.c1
  have f0 := HR2.out.free 0
  have f1 := HR2.out.free 1
  go_wp2
  refine bodyPost_ret (v := .tuple #[.agg #[.int .i64 0, .slice none 0 0], .int .i64 1]) (by simp [results, Tryd.results13, go_sem, d0, d1]) rfl ⟨none, 0, 0, rfl, ?_, ?_⟩
  · exact OwnGrid.nil _ _ _ (Nat.le_refl _)
  · exact (K2.out.bel.setCell (by show w.heap.size ≤ w.heap.size + 1 + 1; omega) _).setCell (by show w.heap.size ≤ w.heap.size + 1 + 1; omega) _

set_option linter.unusedVariables false in
set_option linter.unusedSimpArgs false in
set_option maxHeartbeats 8000000 in
set_option maxRecDepth 100000 in
theorem implPair_no2 (size x : Int) (a1 : Option Addr) (n1 c1 : Nat) (xs : List (List Int)) (y : Int) (a2 : Option Addr) (n2 c2 : Nat) (ys : List (List Int)) (w : World) (g1 : GridAt w (.slice a1 n1 c1) xs) (g2 : GridAt w (.slice a2 n2 c2) ys) (hc : RelOk size x xs) (hd : ¬ RelOk size y ys) :
    Calls Tryd.prog 13 #[.int .i64 size, .agg #[.int .i64 x, .slice a1 n1 c1], .agg #[.int .i64 y, .slice a2 n2 c2]] w (MadeRel2 w 0 [] 1) := by
  have hR0 := RelBox.new ((w.alloc (.cells #[.int .i64 x, .slice a1 n1 c1] 27)).alloc (.cells #[.int .i64 y, .slice a2 n2 c2] 27)) (.int .i64 0) (.slice none 0 0)
  rw [World.size_alloc, World.size_alloc] at hR0
  have HR0 := Lib.hid hR0
  have K0 := Lib.hid ((((((Kept.start w).read (lives_grid _ _) g2).read (lives_grid _ _) g1).box w.heap.size rfl (.int .i64 x) (.slice a1 n1 c1) 27).box (w.heap.size + 1) (by simp) (.int .i64 y) (.slice a2 n2 c2) 27).below ((Below.refl _ _).alloc (Nat.le_refl _) (.cells #[.int .i64 0, .slice none 0 0] 27)))
  clear g1 hR0 g2
  have HC := Lib.hid (Tells.yes hc)
  have HD := Lib.hid (Tells.no hd)
  clear hc hd
  go_enter Tryd.func13, Tryd.ntmps13
  go_wp2_with fail
  refine (implValidRel _ _ _ _ _ _ true _ (K0.out.r 0 rfl :) HC.out).mono ?_
  rintro e w2 ⟨rfl, hq⟩
  have hb2 : Below _ _ w2 := hq
  have hszw2 : w.heap.size + 3 ≤ w2.heap.size := by have h0 := hb2.size; simpa using h0
  have K2 := Lib.hid (K0.out.below hb2)
  have HR2 := Lib.hid (HR0.out.below hb2)
  clear hq hb2
  have cy0 := K2.out.c 0 rfl
  have cy1 := K2.out.c 1 rfl
  go_wp2_with fail
  refine (implValidRel _ _ _ _ _ _ false _ (K2.out.r 1 rfl :) HD.out).mono ?_
  rintro e w3 ⟨rfl, hq⟩
  have hb2 : Below _ _ w3 := hq
  have hszw3 : w.heap.size + 3 ≤ w3.heap.size := by have h0 := hb2.size; omega
  have K3 := Lib.hid (K2.out.below hb2)
  have HR3 := Lib.hid (HR2.out.below hb2)
  clear hq hb2
  have d0 := HR3.out.c0
  have d1 := HR3.out.c1
  have f0 := HR3.out.free 0
  have f1 := HR3.out.free 1
  go_wp2
  refine bodyPost_ret (v := .tuple #[.agg #[.int .i64 0, .slice none 0 0], .int .i64 1]) (by simp [results, Tryd.results13, go_sem, d0, d1]) rfl ⟨none, 0, 0, rfl, ?_, ?_⟩
  · exact OwnGrid.nil _ _ _ (Nat.le_refl _)
  · exact (K3.out.bel.setCell (by show w.heap.size ≤ w.heap.size + 1 + 1; omega) _).setCell (by show w.heap.size ≤ w.heap.size + 1 + 1; omega) _

set_option linter.unusedVariables false in
set_option linter.unusedSimpArgs false in
set_option maxHeartbeats 8000000 in
set_option maxRecDepth 100000 in
theorem implPair_no3 (size x : Int) (a1 : Option Addr) (n1 c1 : Nat) (xs : List (List Int)) (y : Int) (a2 : Option Addr) (n2 c2 : Nat) (ys : List (List Int)) (w : World) (g1 : GridAt w (.slice a1 n1 c1) xs) (g2 : GridAt w (.slice a2 n2 c2) ys) (hc : RelOk size x xs) (hd : RelOk size y ys) (h1 : 4 < x + y) :
    Calls Tryd.prog 13 #[.int .i64 size, .agg #[.int .i64 x, .slice a1 n1 c1], .agg #[.int .i64 y, .slice a2 n2 c2]] w (MadeRel2 w 0 [] 2) := by
  have e1 := hc.2.1.1
  have e2 := hc.2.1.2
  have e3 := hd.2.1.1
  have e4 := hd.2.1.2
  have HNA := Lib.hid (Tells.no (show ¬ In14 (x + y) from fun h => by have := h.2; omega))
  have hR0 := RelBox.new ((w.alloc (.cells #[.int .i64 x, .slice a1 n1 c1] 27)).alloc (.cells #[.int .i64 y, .slice a2 n2 c2] 27)) (.int .i64 0) (.slice none 0 0)
  rw [World.size_alloc, World.size_alloc] at hR0
  have HR0 := Lib.hid hR0
  have K0 := Lib.hid ((((((Kept.start w).read (lives_grid _ _) g2).read (lives_grid _ _) g1).box w.heap.size rfl (.int .i64 x) (.slice a1 n1 c1) 27).box (w.heap.size + 1) (by simp) (.int .i64 y) (.slice a2 n2 c2) 27).below ((Below.refl _ _).alloc (Nat.le_refl _) (.cells #[.int .i64 0, .slice none 0 0] 27)))
  clear g1 hR0 g2
  have HC := Lib.hid (Tells.yes hc)
  have HD := Lib.hid (Tells.yes hd)
  clear hc hd
  go_enter Tryd.func13, Tryd.ntmps13
  go_wp2_with fail
  refine (implValidRel _ _ _ _ _ _ true _ (K0.out.r 0 rfl :) HC.out).mono ?_
  rintro e w2 ⟨rfl, hq⟩
  have hb2 : Below _ _ w2 := hq
  have hszw2 : w.heap.size + 3 ≤ w2.heap.size := by have h0 := hb2.size; simpa using h0
  have K2 := Lib.hid (K0.out.below hb2)
  have HR2 := Lib.hid (HR0.out.below hb2)
  clear hq hb2
  have cy0 := K2.out.c 0 rfl
  have cy1 := K2.out.c 1 rfl
  go_wp2_with fail
  refine (implValidRel _ _ _ _ _ _ true _ (K2.out.r 1 rfl :) HD.out).mono ?_
  rintro e w3 ⟨rfl, hq⟩
  have hb2 : Below _ _ w3 := hq
  have hszw3 : w.heap.size + 3 ≤ w3.heap.size := by have h0 := hb2.size; omega
  have K3 := Lib.hid (K2.out.below hb2)
  have HR3 := Lib.hid (HR2.out.below hb2)
  clear hq hb2
  clear cy0 cy1
  have cx0 := K3.out.c 2 rfl
  have cy0 := K3.out.c 0 rfl
  go_wp2_with fail
  refine (isArity _ false _ HNA.out).mono ?_
  rintro e w' ⟨rfl, rfl⟩
  have d0 := HR3.out.c0
  have d1 := HR3.out.c1
  have f0 := HR3.out.free 0
  have f1 := HR3.out.free 1
  go_wp2
  refine bodyPost_ret (v := .tuple #[.agg #[.int .i64 0, .slice none 0 0], .int .i64 2]) (by simp [results, Tryd.results13, go_sem, d0, d1]) rfl ⟨none, 0, 0, rfl, ?_, ?_⟩
  · exact OwnGrid.nil _ _ _ (Nat.le_refl _)
  · exact (K3.out.bel.setCell (by show w.heap.size ≤ w.heap.size + 1 + 1; omega) _).setCell (by show w.heap.size ≤ w.heap.size + 1 + 1; omega) _

set_option linter.unusedVariables false in
set_option linter.unusedSimpArgs false in
set_option maxHeartbeats 8000000 in
set_option maxRecDepth 100000 in
theorem implPair_in (s r q : Nat) (h1 : 1 ≤ s) (h2 : s ≤ 4) (h3 : 1 ≤ r) (h4 : 1 ≤ q) (h5 : r + q ≤ 4) (a1 : Option Addr) (n1 c1 : Nat) (xs : List (List Int)) (a2 : Option Addr) (n2 c2 : Nat) (ys : List (List Int)) (w : World) (g1 : GridAt w (.slice a1 n1 c1) xs) (g2 : GridAt w (.slice a2 n2 c2) ys) (hT : TzTab w) (hc : RelOk s r xs) (hd : RelOk s q ys) :
    Calls Tryd.prog 13 #[.int .i64 s, .agg #[.int .i64 r, .slice a1 n1 c1], .agg #[.int .i64 q, .slice a2 n2 c2]] w (MadeRel2 w ((r + q : Nat) : Int) (pairL xs ys) 0) := by
  obtain rfl : n1 = xs.length := by obtain ⟨_, ⟨_, _, hv, _⟩, _⟩ := g1; simp only [Value.slice.injEq] at hv; exact hv.2.1
  obtain rfl : n2 = ys.length := by obtain ⟨_, ⟨_, _, hv, _⟩, _⟩ := g2; simp only [Value.slice.injEq] at hv; exact hv.2.1
  rw [← rowsS_asc h1 h2 (show 1 ≤ r + q by omega) h5 (xss := pairL xs ys) (fun t ht => by rw [Int.natCast_add]; exact pairL_tups hc.tups hd.tups t ht) (pairL_asc hc hd)]
  have hR0 := RelBox.new ((w.alloc (.cells #[.int .i64 r, .slice a1 xs.length c1] 27)).alloc (.cells #[.int .i64 q, .slice a2 ys.length c2] 27)) (.int .i64 0) (.slice none 0 0)
  rw [World.size_alloc, World.size_alloc] at hR0
  have HR0 := Lib.hid hR0
  have K0 := Lib.hid (((((((Kept.start w).read lives_tz hT).read (lives_grid _ _) g2).read (lives_grid _ _) g1).box w.heap.size rfl (.int .i64 r) (.slice a1 xs.length c1) 27).box (w.heap.size + 1) (by simp) (.int .i64 q) (.slice a2 ys.length c2) 27).below ((Below.refl _ _).alloc (Nat.le_refl _) (.cells #[.int .i64 0, .slice none 0 0] 27)))
  clear g1 hR0 g2 hT
  have HC := Lib.hid (Tells.yes hc)
  have HD := Lib.hid (Tells.yes hd)
  have HX := Lib.hid hc
  have HY := Lib.hid hd
  have hlx := hc.few
  have hly := hd.few
  have hadd : (r : Int) + (q : Int) = ((r + q : Nat) : Int) := by omega
  have HADD := Lib.hid hadd
  clear hc hd hadd
  have HS : Hid (In14 (s : Int)) := ⟨by omega, by omega⟩
  have HA1 : Hid (In14 (r : Int)) := ⟨by omega, by omega⟩
  have HA2 : Hid (In14 (q : Int)) := ⟨by omega, by omega⟩
  have HA3 := Lib.hid (Tells.yes (show In14 ((r : Int) + (q : Int)) from ⟨by omega, by omega⟩))
  have HPW := Lib.hid (pow_lim h1 h2 h4 (show q ≤ 4 by omega)).1
  go_enter Tryd.func13, Tryd.ntmps13
  go_wp2_with fail
  refine (implValidRel _ _ _ _ _ _ true _ (K0.out.r 0 rfl :) HC.out).mono ?_
  rintro e w2 ⟨rfl, hq⟩
  have hb2 : Below _ _ w2 := hq
  have hszw2 : w.heap.size + 3 ≤ w2.heap.size := by have h0 := hb2.size; simpa using h0
  have K2 := Lib.hid (K0.out.below hb2)
  have HR2 := Lib.hid (HR0.out.below hb2)
  clear hq hb2
  have cy0 := K2.out.c 0 rfl
  have cy1 := K2.out.c 1 rfl
  go_wp2_with fail
  refine (implValidRel _ _ _ _ _ _ true _ (K2.out.r 1 rfl :) HD.out).mono ?_
  rintro e w3 ⟨rfl, hq⟩
  have hb2 : Below _ _ w3 := hq
  have hszw3 : w.heap.size + 3 ≤ w3.heap.size := by have h0 := hb2.size; omega
  have K3 := Lib.hid (K2.out.below hb2)
  have HR3 := Lib.hid (HR2.out.below hb2)
  clear hq hb2
  clear cy0 cy1
  obtain ⟨V1, ⟨q1, q2, hv, _, hcA⟩, hVA⟩ : GridAt w3 (.slice a1 xs.length c1) xs := (K3.out.r 0 rfl :)
  simp only [Value.slice.injEq] at hv
  obtain ⟨rfl, _, rfl⟩ := hv
  have HCA1 := Lib.hid hcA
  have HVA1 := Lib.hid hVA
  clear hcA hVA
  obtain ⟨V2, ⟨q1, q2, hv, _, hcA⟩, hVA⟩ : GridAt w3 (.slice a2 ys.length c2) ys := (K3.out.r 1 rfl :)
  simp only [Value.slice.injEq] at hv
  obtain ⟨rfl, _, rfl⟩ := hv
  have HCA2 := Lib.hid hcA
  have HVA2 := Lib.hid hVA
  clear hcA hVA
  have cx0 := K3.out.c 2 rfl
  have cy0 := K3.out.c 0 rfl
  have cx1 := below_cell ((Below.refl w3.heap.size w3).alloc (Nat.le_refl _) (.cells #[.int .u64 0, .int .u64 0, .int .u64 0, .int .u64 0] 52)) (K3.out.c 3 rfl)
  have HX0 := Lib.hid (bits_new w3 (fun _ => false))
  have HW0 := Lib.hid ((Below.refl w3.heap.size w3).alloc (Nat.le_refl _) (.cells (bitsC fun _ => false).toArray 52))
  go_wp2_with fail
  refine (isArity _ true _ HA3.out).mono ?_
  rintro e w' ⟨rfl, rfl⟩
  go_wp2
  clear cx0 cx1 cy0
  go_loopw [38] (fun i wr => ∃ k : Nat, k ≤ xs.length ∧ i = .int .i64 k ∧ BitsBox wr w3.heap.size (setOf s (pairL (xs.take k) ys)) ∧ Below w3.heap.size w3 wr) (fun i _ => xs.length - (intOf i).toNat)
  case atStart =>
    rw [bits_zero]
    exact ⟨0, Nat.zero_le _, rfl, HX0.out, HW0.out⟩
  case round =>
    obtain ⟨k, hk, rfl, hb, hbel⟩ := hrel
    obtain ⟨wo, hwo⟩ : ∃ wo : World, wo = wr := ⟨_, rfl⟩
    subst hwo
    have KW := Lib.hid (K3.out.below hbel)
    have HRW := Lib.hid (HR3.out.below hbel)
    by_cases hlt1 : k < xs.length
    · obtain ⟨b1, off1, ha1, hcell1⟩ := HCA1.out (by omega)
      subst ha1
      obtain ⟨a1r, c1r, hv4, _, hc4⟩ := HVA1.out k hlt1
      have hx1 := below_cell hbel (hcell1 k hlt1)
      rw [hv4] at hx1
      have HRW1 := Lib.hid (HVA1.out k hlt1)
      rw [hv4] at HRW1
      have HC1 := Lib.hid hc4
      have hlt1' : (k : Int) < (xs.length : Int) := by omega
      clear hcell1 hc4 hv4
      have cy0 := KW.out.c 0 rfl
      have cy1 := KW.out.c 1 rfl
      have HRWO := Lib.hid (HRW1.below hbel)
      have HT1 := Lib.hid (HX.out.tups _ (rowN_mem hlt1))
      have HW := Lib.hid hbel
      have HTX := Lib.hid (take_row xs k hlt1)
      have HB0 : Hid (BitsBox wo w3.heap.size (setOf s (pairL (xs.take k) ys ++ pairRow (rowN xs k) (ys.take 0)))) := Lib.hid (by rw [List.take_zero, pairRow_nil, List.append_nil]; exact hb)
      clear hb hbel HRW1 HC1
      generalize rowN xs k = ra at *
      have hcl := codeN_lt HT1.out HS.out HA1.out
      obtain ⟨ca, hca⟩ : ∃ ca : Nat, codeN s ra = ca := ⟨_, rfl⟩
      obtain ⟨pq, hpq⟩ : ∃ pq : Nat, s ^ q = pq := ⟨_, rfl⟩
      have hpq' : pq ≤ 256 := by rw [← hpq]; exact HPW.out
      obtain ⟨m, hm⟩ : ∃ m : Nat, ca * pq = m := ⟨_, rfl⟩
      have hm' : m ≤ 65536 := by rw [← hm]; exact Nat.mul_le_mul (by omega : ca ≤ 256) hpq'
      have hq1 : IntKind.i64.wrap ((ca : Int) * (pq : Int)) = (m : Int) := by rw [← hm, ← Int.natCast_mul]; exact IntWalk.i64_in _ (by rw [hm]; omega)
      have HCA := Lib.hid hca
      have HPQ := Lib.hid hpq
      have HMM := Lib.hid hm
      clear hca hpq hm
      go_wp2_with fail
      refine wp_region_noPanic ?_
      refine wp_region_late (S := (fun w' => w'.cell? ⟨w.heap.size + 1, 0, none⟩ = some (.int .i64 q))) [] (by kernel_rfl) ?_ (fun hHeld => ?_)
      · exact cy0
      refine wpAnyL_free (i := 0) (v := ?_) (some 42) rfl rfl (by kernel_rfl) (by kernel_rfl) (by kernel_rfl) (by decide) (fun _ _ _ h => h) (Or.inl ⟨by rfl, ?_⟩) (fun h0 => by assumption) ?_
      rotate_left
      · intro wS
        go_simp
        try with_reducible rfl
      try simp only [Act.put, List.setIfInBounds_toArray, List.set_cons_zero, List.set_cons_succ]
      refine wpAnyL_free (i := 1) (v := ?_) (some 43) rfl rfl (by kernel_rfl) (by kernel_rfl) (by kernel_rfl) (by decide) (fun _ _ _ h => h) (Or.inl ⟨by rfl, ?_⟩) (fun h0 => by assumption) ?_
      rotate_left
      · intro wS
        go_simp
        try with_reducible rfl
      try simp only [Act.put, List.setIfInBounds_toArray, List.set_cons_zero, List.set_cons_succ]
      refine wpAnyL_free (i := 3) (v := ?_) (some 45) rfl rfl (by kernel_rfl) (by kernel_rfl) (by kernel_rfl) (by decide) (fun _ _ _ h => h) (Or.inl ⟨by rfl, ?_⟩) (fun h0 => by assumption) ?_
      rotate_left
      · intro wS
        go_simp
        try with_reducible rfl
      try simp only [Act.put, List.setIfInBounds_toArray, List.set_cons_zero, List.set_cons_succ]
      refine wpAnyL_free (i := 4) (v := ?_) (some 46) rfl rfl (by kernel_rfl) (by kernel_rfl) (by kernel_rfl) (by decide) (fun _ _ _ h => h) (Or.inl ⟨by rfl, ?_⟩) (fun h0 => by assumption) ?_
      rotate_left
      · intro wS
        go_simp
        try with_reducible rfl
      try simp only [Act.put, List.setIfInBounds_toArray, List.set_cons_zero, List.set_cons_succ]
      refine wpAnyL_take (i := 5) (v := ?_) (some 47) rfl rfl (by kernel_rfl) (by kernel_rfl) (by kernel_rfl) (by kernel_rfl) (by kernel_rfl) (fun _ _ _ h => h) (Or.inl ⟨by rfl, ?_⟩) (by assumption) ?_
      rotate_left
      · intro wS hSw
        try dsimp only at hSw
        go_simp
        try with_reducible rfl
      try simp only [Act.put, List.setIfInBounds_toArray, List.set_cons_zero, List.set_cons_succ]
      refine wpAnyL_ready (rs := [2]) (by kernel_rfl) (by simp) ?_
      refine AllReadyL.cons rfl (fun K hK => ?_) AllReadyL.nil
      go_simp; go_at_call 33; refine (numberOf' _ _ r _ _ (HRWO.out.below ((QW.refl _).drew.bel)) HS.out HA1.out HT1.out).mono ?_; rintro e w' ⟨rfl, rfl⟩
      rw [HCA.out]
      refine hK.out _ _ ?_ (fun hHeld => ?_)
      · exact hHeld
      clear hK K
      try simp only [Act.put, List.setIfInBounds_toArray, List.set_cons_zero, List.set_cons_succ]
      refine wpAnyL_ready (rs := [6]) (by kernel_rfl) (by simp) ?_
      refine AllReadyL.cons rfl (fun K hK => ?_) AllReadyL.nil
      go_simp; go_at_call 27; refine (tupleCount s q h1 h2 (by omega) _).mono ?_; rintro e w' ⟨rfl, rfl⟩
      rw [HPQ.out]
      refine hK.out _ _ ?_ (fun hHeld => ?_)
      · exact hHeld
      clear hK K
      try simp only [Act.put, List.setIfInBounds_toArray, List.set_cons_zero, List.set_cons_succ]
      refine wpAnyL_free (i := 7) (v := ?_) (some 49) rfl rfl (by kernel_rfl) (by kernel_rfl) (by kernel_rfl) (by decide) (fun _ _ _ h => h) (Or.inl ⟨by rfl, ?_⟩) (fun h0 => by assumption) ?_
      rotate_left
      · intro wS
        go_simp
        try with_reducible rfl
      try simp only [Act.put, List.setIfInBounds_toArray, List.set_cons_zero, List.set_cons_succ]
      refine wpAnyL_free (i := 8) (v := ?_) (some 12) rfl rfl (by kernel_rfl) (by kernel_rfl) (by kernel_rfl) (by decide) (fun _ _ _ h => h) (Or.inl ⟨by rfl, ?_⟩) (fun h0 => by assumption) ?_
      rotate_left
      · intro wS
        go_simp
        try with_reducible rfl
      try simp only [Act.put, List.setIfInBounds_toArray, List.set_cons_zero, List.set_cons_succ]
      refine wpAnyL_done (by kernel_rfl) ?_ _
      refine NoPanic.normal ?_
      skip

      go_wp2
      clear cy1 hx1 cy0
      go_loopw [53] (fun i wr => ∃ j : Nat, j ≤ ys.length ∧ i = .int .i64 j ∧ BitsBox wr w3.heap.size (setOf s (pairL (xs.take k) ys ++ pairRow ra (ys.take j))) ∧ Below w3.heap.size w3 wr) (fun i _ => ys.length - (intOf i).toNat)
      case atStart => exact ⟨0, Nat.zero_le _, rfl, HB0.out.below ((QW.refl _).drew.bel), HW.out.trans ((QW.refl _).drew.below _)⟩
      case round =>
        obtain ⟨j, hj, rfl, hb, hbel⟩ := hrel
        by_cases hlt2 : j < ys.length
        · obtain ⟨b2, off2, ha1, hcell1⟩ := HCA2.out (by omega)
          subst ha1
          obtain ⟨a2r, c2r, hv4, _, hc4⟩ := HVA2.out j hlt2
          have hx2 := below_cell hbel (hcell1 j hlt2)
          rw [hv4] at hx2
          have HRW2 := Lib.hid (HVA2.out j hlt2)
          rw [hv4] at HRW2
          have HC2 := Lib.hid hc4
          have hlt2' : (j : Int) < (ys.length : Int) := by omega
          clear hcell1 hc4 hv4
          have HT2 := Lib.hid (HY.out.tups _ (rowN_mem hlt2))
          have HTK := Lib.hid (take_row ys j hlt2)
          have HRWB := Lib.hid (HRW2.below hbel)
          have HB := Lib.hid hb
          have HWJ := Lib.hid hbel
          clear hb hbel HRW2 HC2
          generalize rowN ys j = rb at *
          have hcl2 := codeN_lt HT2.out HS.out HA2.out
          have HAC := Lib.hid (app_code HT1.out HT2.out HS.out HA1.out HA2.out)
          have HM : Hid (setOf s (pairL (xs.take k) ys ++ pairRow ra (ys.take (j + 1))) = putS (setOf s (pairL (xs.take k) ys ++ pairRow ra (ys.take j))) (codeN s (ra ++ rb))) := Lib.hid (by rw [HTK.out, pairRow_snoc, ← List.append_assoc, setOf_snoc])
          have hlt := codeN_lt (size := s) (ar := ((r + q : Nat) : Int)) (by rw [Int.natCast_add]; exact app_tup HT1.out HT2.out) HS.out (by rw [← HADD.out]; exact ⟨by omega, by omega⟩)
          rw [HCA.out, HPQ.out, HMM.out] at HAC
          obtain ⟨cb, hcb⟩ : ∃ cb : Nat, codeN s rb = cb := ⟨_, rfl⟩
          rw [hcb] at HAC
          have HCB := Lib.hid hcb
          obtain ⟨cc, hcc⟩ : ∃ cc : Nat, codeN s (ra ++ rb) = cc := ⟨_, rfl⟩
          have HCC := Lib.hid hcc
          have hsum : m + cb = cc := by have := HAC.out; omega
          rw [hcc] at hlt
          have hsumI : (m : Int) + (cb : Int) = (cc : Int) := by omega
          have hsumW : IntKind.i64.wrap ((m : Int) + (cb : Int)) = (cc : Int) := by rw [hsumI]; exact IntWalk.i64_in _ (by omega)
          clear HTK hcb hcc hsum
          go_wp2_with fail
          refine (numberOf' _ _ q _ _ HRWB.out HS.out HA2.out HT2.out).mono ?_
          rw [HCB.out]
          rintro e w' ⟨rfl, rfl⟩
          go_wp2_with fail
          refine (putBit _ _ cc hlt _ HB.out).mono ?_
          rintro e w5 ⟨rfl, ho, hb5⟩
          have HB5 : Hid (BitsBox w5 w3.heap.size (setOf s (pairL (xs.take k) ys ++ pairRow ra (ys.take (j + 1))))) := Lib.hid (by rw [HM.out, HCC.out]; exact hb5)
          have HW5 := Lib.hid (HWJ.out.trans (ho.below HWJ.out.size (fun k hk => by omega)))
          clear hb5 ho
          go_wp2
          go_roundw
          case rel => exact ⟨j + 1, by omega, by go_num, HB5.out, HW5.out⟩
          case measure => simp [intOf]; omega
        · obtain rfl : j = ys.length := by omega
          rw [take_all, ← pairL_snoc, ← HTX.out] at hb
          have HB := Lib.hid hb
          have HWJ := Lib.hid hbel
          clear hb hbel
          go_wp2
          go_roundw
          case rel => exact ⟨k + 1, by omega, by go_num, HB.out, HWJ.out⟩
          case measure => simp [intOf]; omega
    · obtain rfl : k = xs.length := by omega
      rw [take_all] at hb
      clear hbel
      rw [HADD.out]
      have q0 := hb.cell 0 (by omega)
      have q1 := hb.cell 1 (by omega)
      have q2 := hb.cell 2 (by omega)
      have q3 := hb.cell 3 (by omega)
      clear hb
      go_wp2_with fail
      refine (relOf s (r + q) h1 h2 (by omega) h5 _ _ (KW.out.r 2 rfl :)).mono ?_
      rintro e w8 ⟨a8, n8, c8, rfl, ho8, hb8⟩
      have hr8 := HRW.out.below hb8
      have d0 := hr8.c0
      have d1 := hr8.c1
      have f0 := hr8.free 0
      have f1 := hr8.free 1
      have HO8 := Lib.hid ho8
      have K8 := Lib.hid (KW.out.below hb8)
      have HZ := Lib.hid HRW.out.lt
      clear ho8 hb8 hr8
      go_wp2
      refine bodyPost_ret (v := .tuple #[.agg #[.int .i64 ((r + q : Nat) : Int), .slice a8 n8 c8], .int .i64 0]) (by simp [results, Tryd.results13, go_sem, d0, d1]) rfl ⟨a8, n8, c8, rfl, ?_, ?_⟩
      · have e1 := HZ.out
        exact (((HO8.out.stored e1 _).stored e1 _).mono (by omega)).full
      · exact (K8.out.bel.setCell (by show w.heap.size ≤ w.heap.size + 1 + 1; omega) _).setCell (by show w.heap.size ≤ w.heap.size + 1 + 1; omega) _

theorem implPairRels (size x : Int) (a1 : Option Addr) (n1 c1 : Nat) (xs : List (List Int)) (y : Int) (a2 : Option Addr) (n2 c2 : Nat) (ys : List (List Int)) (ar : Int) (zs : List (List Int)) (cd : Int) (w : World) (g1 : GridAt w (.slice a1 n1 c1) xs) (g2 : GridAt w (.slice a2 n2 c2) ys) (hT : TzTab w) (hi : PairRelsIs size x xs y ys ar zs cd) :
    Calls Tryd.prog 13 #[.int .i64 size, .agg #[.int .i64 x, .slice a1 n1 c1], .agg #[.int .i64 y, .slice a2 n2 c2]] w (MadeRel2 w ar zs cd) := by
  rcases hi with ⟨⟨hc, hd⟩, hs, rfl, rfl, rfl⟩ | ⟨⟨hc, hd⟩, hn, rfl, rfl, rfl⟩ | ⟨hn, rfl, rfl, rfl⟩
  · have e1 := hc.1.1
    have e2 := hc.1.2
    have e3 := hc.2.1.1
    have e4 := hd.2.1.1
    obtain ⟨s, rfl⟩ : ∃ s : Nat, size = s := ⟨size.toNat, by omega⟩
    obtain ⟨r, rfl⟩ : ∃ r : Nat, x = r := ⟨x.toNat, by omega⟩
    obtain ⟨q, rfl⟩ : ∃ q : Nat, y = q := ⟨y.toNat, by omega⟩
    have h := implPair_in s r q (by omega) (by omega) (by omega) (by omega) (by omega) a1 n1 c1 xs a2 n2 c2 ys w g1 g2 hT hc hd
    rwa [Int.natCast_add] at h
  · exact implPair_no3 size x a1 n1 c1 xs y a2 n2 c2 ys w g1 g2 hc hd (by omega)
  · by_cases p1 : RelOk size x xs
    · exact implPair_no2 size x a1 n1 c1 xs y a2 n2 c2 ys w g1 g2 p1 fun p2 => hn ⟨p1, p2⟩
    · exact implPair_no1 size x a1 n1 c1 xs y a2 n2 c2 ys w g1 g2 p1

end Go.Proofs.YtjkbffoaenhhgaaDoor
