/-
  A relation at places of a greater one: PlaceRel of the model and of the program.
-/
import Derived.Test.YtjkbffoaenhhgaaDoorAtP
import Derived.Test.YtjkbffoaenhhgaaDoorMeet
import Derived.Test.YtjkbffoaenhhgaaDoorOpp
import Derived.Test.YtjkbffoaenhhgaaDoorGRel
namespace Go.Proofs.YtjkbffoaenhhgaaDoor
open Go.RowKit

/-- The numbers of the tuples whose values at the places are a tuple of the relation. -/
def plS (s r : Nat) (ps : List Int) (xs : List (List Int)) : Nat → Bool := fun n => decide (mapped (digs s r n) ps ∈ xs)
def cutS (k : Nat) (S : Nat → Bool) : Nat → Bool := fun n => decide (n < k) && S n
theorem cutS_zero (S : Nat → Bool) : cutS 0 S = fun _ => false := by funext n; simp [cutS]
theorem cutS_in {k : Nat} {S : Nat → Bool} (h : S k = true) : cutS (k + 1) S = putS (cutS k S) k := by
  funext n
  unfold cutS putS
  by_cases e : n = k
  · subst e; simp [h]
  · by_cases l : n < k
    · simp [e, l, show n < k + 1 by omega]
    · simp [e, l, show ¬ n < k + 1 by omega]
theorem cutS_out {k : Nat} {S : Nat → Bool} (h : S k = false) : cutS (k + 1) S = cutS k S := by
  funext n
  unfold cutS
  by_cases e : n = k
  · subst e; simp [h]
  · by_cases l : n < k
    · simp [l, show n < k + 1 by omega]
    · simp [l, show ¬ n < k + 1 by omega]
theorem cut_rows {s r : Nat} (h1 : 1 ≤ s) (h2 : s ≤ 4) (h3 : 1 ≤ r) (h4 : r ≤ 4) (S : Nat → Bool) : rowsS s r (cutS (s ^ r) S) 256 = rowsS s r S (s ^ r) := by
  unfold rowsS
  rw [memb_cut (n := s ^ r) (m := 256) (S := cutS (s ^ r) S) (pow_lim h1 h2 h3 h4).1 fun j hj _ => by simp [cutS, show ¬ j < s ^ r by omega]]
  rw [memb_congr fun j hj => ?_]
  simp [cutS, hj]
theorem rowsS_succ_in {s r k : Nat} {S : Nat → Bool} (h : S k = true) : rowsS s r S (k + 1) = rowsS s r S k ++ [digs s r k] := by unfold rowsS; rw [memb_succ, h]; simp
theorem rowsS_succ_out {s r k : Nat} {S : Nat → Bool} (h : S k = false) : rowsS s r S (k + 1) = rowsS s r S k := by unfold rowsS; rw [memb_succ, h]; simp
theorem powN {s t N : Nat} (hN : s ^ t = N) (h1 : 1 ≤ s) (h2 : s ≤ 4) (h4 : t ≤ 4) (w : World) :
    Calls Tryd.prog 41 #[.int .i64 s, .int .i64 t] w fun e w' => e = .returned (.int .i64 (N : Int)) ∧ w = w' := by subst hN; exact l01Power s t h1 h2 h4 w
theorem countN {s t N : Nat} (hN : s ^ t = N) (h1 : 1 ≤ s) (h2 : s ≤ 4) (h4 : t ≤ 4) (w : World) :
    Calls Tryd.prog 27 #[.int .i64 s, .int .i64 t] w fun e w' => e = .returned (.int .i64 (N : Int)) ∧ w = w' := by subst hN; exact tupleCount s t h1 h2 h4 w

theorem bitsOf4 (size : Int) (ar : Int) (a : Option Addr) (n c : Nat) (xss : List (List Int)) (w : World) (h : GridAt w (.slice a n c) xss) (hr : RelOk size ar xss) :
    Calls Tryd.prog 26 #[.int .i64 size, .agg #[.int .i64 ar, .slice a n c]] w fun e w' => e = .returned (.agg #[.int .u64 (word (setOf size xss) 0), .int .u64 (word (setOf size xss) 1), .int .u64 (word (setOf size xss) 2), .int .u64 (word (setOf size xss) 3)]) ∧ Below w.heap.size w w' := bitsOf size ar a n c xss w h hr

/-- What PlaceRel answers. -/
def PlaceRelIs (size x : Int) (xs : List (List Int)) (arity : Int) (ps : List Int) (ar : Int) (zs : List (List Int)) (cd : Int) : Prop :=
  RelAns (RelOk size x xs) (In14 arity ∧ TupP arity x ps) arity (rowsS size.toNat arity.toNat (cutS (size.toNat ^ arity.toNat) (plS size.toNat arity.toNat ps xs)) 256) ar zs cd
theorem PlaceRelIs.exists (size x : Int) (xs : List (List Int)) (arity : Int) (ps : List Int) : ∃ ar zs cd, PlaceRelIs size x xs arity ps ar zs cd := RelAns.exists _ _ _ _
theorem PlaceRelIs.small {size x : Int} {xs : List (List Int)} {arity : Int} {ps : List Int} {ar : Int} {zs : List (List Int)} {cd : Int} (h : PlaceRelIs size x xs arity ps ar zs cd) : (zs.map List.length).sum ≤ 1048576 :=
  RelAns.small h fun _ h2 => rowsS_small _ _ _ (by have := h2.1.2; omega)
theorem plS_set {s r t : Nat} {ps : List Int} {xs : List (List Int)} (hc : RelOk s r xs) (h1 : 1 ≤ s) (ht : TupP t r ps) (n : Nat) : setOf s xs (codeN s (mapped (digs s t n) ps)) = plS s t ps xs n := by
  have hm : TupP s r (mapped (digs s t n) ps) := by
    have h := mapped_place (digs_tup s t n h1) ht.2
    rwa [ht.1] at h
  unfold plS
  rw [Bool.eq_iff_iff, setOf_iff, decide_eq_true_iff]
  constructor
  · rintro ⟨x, hx, he⟩
    rwa [← codeN_inj (hc.tups x hx) hm hc.1 hc.2.1 he]
  · intro h
    exact ⟨_, h, rfl⟩

set_option linter.unusedVariables false in
set_option linter.unusedSimpArgs false in
set_option maxHeartbeats 8000000 in
set_option maxRecDepth 100000 in
theorem implPlace_no (size x : Int) (a1 : Option Addr) (n1 c1 : Nat) (xs : List (List Int)) (arity : Int) (v : Value) (ps : List Int) (w : World) (g1 : GridAt w (.slice a1 n1 c1) xs) (g2 : RowAt w v ps) (hc : ¬ RelOk size x xs) :
    Calls Tryd.prog 9 #[.int .i64 size, .agg #[.int .i64 x, .slice a1 n1 c1], .int .i64 arity, v] w (MadeRel2 w 0 [] 1) := by
  obtain ⟨a2, c2, rfl, hn2⟩ : ∃ a c, v = .slice a ps.length c ∧ ps.length ≤ 9223372036854775807 := by obtain ⟨a, c, h, hn, _⟩ := g2; exact ⟨a, c, h, hn⟩
  have hR0 := RelBox.new (w.alloc (.cells #[.int .i64 x, .slice a1 n1 c1] 27)) (.int .i64 0) (.slice none 0 0)
  rw [World.size_alloc] at hR0
  have HR0 := Lib.hid hR0
  have K0 := Lib.hid (((((Kept.start w).read (lives_row _ _) g2).read (lives_grid _ _) g1).box w.heap.size rfl (.int .i64 x) (.slice a1 n1 c1) 27).below ((Below.refl _ _).alloc (Nat.le_refl _) (.cells #[.int .i64 0, .slice none 0 0] 27)))
  clear g1 hR0 g2
  have HC := Lib.hid (Tells.no hc)
  clear hc
  go_enter Tryd.func9, Tryd.ntmps9
  go_wp2_with fail
  refine (implValidRel _ _ _ _ _ _ false _ (K0.out.r 0 rfl :) HC.out).mono ?_
  rintro e w2 ⟨rfl, hq⟩
  have hb2 : Below _ _ w2 := hq
  have hsz2 : w.heap.size + 2 ≤ w2.heap.size := by have := hb2.size; simpa using this
  have K2 := Lib.hid (K0.out.below hb2)
  have HR2 := Lib.hid (HR0.out.below hb2)
  clear hq hb2
  have d0 := HR2.out.c0
  have d1 := HR2.out.c1
  have f0 := HR2.out.free 0
  have f1 := HR2.out.free 1
  go_wp2
  refine bodyPost_ret (v := .tuple #[.agg #[.int .i64 0, .slice none 0 0], .int .i64 1]) (by simp [results, Tryd.results9, go_sem, d0, d1]) rfl ⟨none, 0, 0, rfl, ?_, ?_⟩
  · exact OwnGrid.nil _ _ _ (Nat.le_refl _)
  · exact (K2.out.bel.setCell (by show w.heap.size ≤ w.heap.size + 1; omega) _).setCell (by show w.heap.size ≤ w.heap.size + 1; omega) _

set_option linter.unusedVariables false in
set_option linter.unusedSimpArgs false in
set_option maxHeartbeats 8000000 in
set_option maxRecDepth 100000 in
theorem implPlace_no1 (size x : Int) (a1 : Option Addr) (n1 c1 : Nat) (xs : List (List Int)) (arity : Int) (v : Value) (ps : List Int) (w : World) (g1 : GridAt w (.slice a1 n1 c1) xs) (g2 : RowAt w v ps) (hc : RelOk size x xs) (h1 : ¬ In14 arity) :
    Calls Tryd.prog 9 #[.int .i64 size, .agg #[.int .i64 x, .slice a1 n1 c1], .int .i64 arity, v] w (MadeRel2 w 0 [] 2) := by
  obtain ⟨a2, c2, rfl, hn2⟩ : ∃ a c, v = .slice a ps.length c ∧ ps.length ≤ 9223372036854775807 := by obtain ⟨a, c, h, hn, _⟩ := g2; exact ⟨a, c, h, hn⟩
  have hR0 := RelBox.new (w.alloc (.cells #[.int .i64 x, .slice a1 n1 c1] 27)) (.int .i64 0) (.slice none 0 0)
  rw [World.size_alloc] at hR0
  have HR0 := Lib.hid hR0
  have K0 := Lib.hid (((((Kept.start w).read (lives_row _ _) g2).read (lives_grid _ _) g1).box w.heap.size rfl (.int .i64 x) (.slice a1 n1 c1) 27).below ((Below.refl _ _).alloc (Nat.le_refl _) (.cells #[.int .i64 0, .slice none 0 0] 27)))
  clear g1 hR0 g2
  have HC := Lib.hid (Tells.yes hc)
  have HP := Lib.hid h1
  clear hc h1
  go_enter Tryd.func9, Tryd.ntmps9
  go_wp2_with fail
  refine (implValidRel _ _ _ _ _ _ true _ (K0.out.r 0 rfl :) HC.out).mono ?_
  rintro e w2 ⟨rfl, hq⟩
  have hb2 : Below _ _ w2 := hq
  have hsz2 : w.heap.size + 2 ≤ w2.heap.size := by have := hb2.size; simpa using this
  have K2 := Lib.hid (K0.out.below hb2)
  have HR2 := Lib.hid (HR0.out.below hb2)
  clear hq hb2
  go_wp2_with fail
  refine (isArity _ false _ (Tells.no HP.out)).mono ?_
  rintro e w' ⟨rfl, rfl⟩
  have d0 := HR2.out.c0
  have d1 := HR2.out.c1
  have f0 := HR2.out.free 0
  have f1 := HR2.out.free 1
  go_wp2
  refine bodyPost_ret (v := .tuple #[.agg #[.int .i64 0, .slice none 0 0], .int .i64 2]) (by simp [results, Tryd.results9, go_sem, d0, d1]) rfl ⟨none, 0, 0, rfl, ?_, ?_⟩
  · exact OwnGrid.nil _ _ _ (Nat.le_refl _)
  · exact (K2.out.bel.setCell (by show w.heap.size ≤ w.heap.size + 1; omega) _).setCell (by show w.heap.size ≤ w.heap.size + 1; omega) _

set_option linter.unusedVariables false in
set_option linter.unusedSimpArgs false in
set_option maxHeartbeats 8000000 in
set_option maxRecDepth 100000 in
theorem implPlace_no2 (size x : Int) (a1 : Option Addr) (n1 c1 : Nat) (xs : List (List Int)) (arity : Int) (v : Value) (ps : List Int) (w : World) (g1 : GridAt w (.slice a1 n1 c1) xs) (g2 : RowAt w v ps) (hc : RelOk size x xs) (h0 : In14 arity) (h1 : ¬ TupP arity x ps) :
    Calls Tryd.prog 9 #[.int .i64 size, .agg #[.int .i64 x, .slice a1 n1 c1], .int .i64 arity, v] w (MadeRel2 w 0 [] 2) := by
  obtain ⟨a2, c2, rfl, hn2⟩ : ∃ a c, v = .slice a ps.length c ∧ ps.length ≤ 9223372036854775807 := by obtain ⟨a, c, h, hn, _⟩ := g2; exact ⟨a, c, h, hn⟩
  have hR0 := RelBox.new (w.alloc (.cells #[.int .i64 x, .slice a1 n1 c1] 27)) (.int .i64 0) (.slice none 0 0)
  rw [World.size_alloc] at hR0
  have HR0 := Lib.hid hR0
  have K0 := Lib.hid (((((Kept.start w).read (lives_row _ _) g2).read (lives_grid _ _) g1).box w.heap.size rfl (.int .i64 x) (.slice a1 n1 c1) 27).below ((Below.refl _ _).alloc (Nat.le_refl _) (.cells #[.int .i64 0, .slice none 0 0] 27)))
  clear g1 hR0 g2
  have HC := Lib.hid (Tells.yes hc)
  have HP0 := Lib.hid h0
  have HP := Lib.hid h1
  clear hc h1 h0
  go_enter Tryd.func9, Tryd.ntmps9
  go_wp2_with fail
  refine (implValidRel _ _ _ _ _ _ true _ (K0.out.r 0 rfl :) HC.out).mono ?_
  rintro e w2 ⟨rfl, hq⟩
  have hb2 : Below _ _ w2 := hq
  have hsz2 : w.heap.size + 2 ≤ w2.heap.size := by have := hb2.size; simpa using this
  have K2 := Lib.hid (K0.out.below hb2)
  have HR2 := Lib.hid (HR0.out.below hb2)
  clear hq hb2
  have cx0 := K2.out.c 0 rfl
  go_wp2_with fail
  refine (isArity _ true _ (Tells.yes HP0.out)).mono ?_
  rintro e w' ⟨rfl, rfl⟩
  go_wp2_with fail
  refine (isListBelow _ _ x arity false _ (K2.out.r 1 rfl :) (Tells.no HP.out)).mono ?_
  rintro e w' ⟨rfl, rfl⟩
  have d0 := HR2.out.c0
  have d1 := HR2.out.c1
  have f0 := HR2.out.free 0
  have f1 := HR2.out.free 1
  go_wp2
  refine bodyPost_ret (v := .tuple #[.agg #[.int .i64 0, .slice none 0 0], .int .i64 2]) (by simp [results, Tryd.results9, go_sem, d0, d1]) rfl ⟨none, 0, 0, rfl, ?_, ?_⟩
  · exact OwnGrid.nil _ _ _ (Nat.le_refl _)
  · exact (K2.out.bel.setCell (by show w.heap.size ≤ w.heap.size + 1; omega) _).setCell (by show w.heap.size ≤ w.heap.size + 1; omega) _

set_option linter.unusedVariables false in
set_option linter.unusedSimpArgs false in
set_option maxHeartbeats 8000000 in
set_option maxRecDepth 100000 in
theorem implPlace_in (s r t : Nat) (h1 : 1 ≤ s) (h2 : s ≤ 4) (h3 : 1 ≤ r) (h4 : r ≤ 4) (h5 : 1 ≤ t) (h6 : t ≤ 4) (a1 : Option Addr) (n1 c1 : Nat) (xs : List (List Int)) (v : Value) (ps : List Int) (w : World) (g1 : GridAt w (.slice a1 n1 c1) xs) (g2 : RowAt w v ps) (hT : TzTab w) (hc : RelOk s r xs) (hp : TupP t r ps) :
    Calls Tryd.prog 9 #[.int .i64 s, .agg #[.int .i64 r, .slice a1 n1 c1], .int .i64 t, v] w (MadeRel2 w t (rowsS s t (cutS (s ^ t) (plS s t ps xs)) 256) 0) := by
  obtain ⟨a2, c2, rfl, hn2⟩ : ∃ a c, v = .slice a ps.length c ∧ ps.length ≤ 9223372036854775807 := by obtain ⟨a, c, h, hn, _⟩ := g2; exact ⟨a, c, h, hn⟩
  have hR0 := RelBox.new (w.alloc (.cells #[.int .i64 r, .slice a1 n1 c1] 27)) (.int .i64 0) (.slice none 0 0)
  rw [World.size_alloc] at hR0
  have HR0 := Lib.hid hR0
  have K0 := Lib.hid ((((((Kept.start w).read lives_tz hT).read (lives_row _ _) g2).read (lives_grid _ _) g1).box w.heap.size rfl (.int .i64 r) (.slice a1 n1 c1) 27).below ((Below.refl _ _).alloc (Nat.le_refl _) (.cells #[.int .i64 0, .slice none 0 0] 27)))
  clear g1 hR0 hT g2
  have HC := Lib.hid (Tells.yes hc)
  have HRK := Lib.hid hc
  have HA := Lib.hid (Tells.yes (show In14 (t : Int) from ⟨by omega, by omega⟩))
  have HPT := Lib.hid hp
  have HP1 := Lib.hid (Tells.yes hp)
  have HS : Hid (In14 (s : Int)) := ⟨by omega, by omega⟩
  have HAR : Hid (In14 (r : Int)) := ⟨by omega, by omega⟩
  have hlim := (pow_lim h1 h2 h5 h6).1
  obtain ⟨N, hN⟩ : ∃ N, s ^ t = N := ⟨_, rfl⟩
  rw [hN] at hlim ⊢
  have HN := Lib.hid hN
  clear hN
  have HMT : Hid (∀ n, TupP s r (mapped (digs s t n) ps)) := Lib.hid fun n => by
    have h := mapped_place (digs_tup s t n h1) hp.2
    rwa [hp.1] at h
  have HSET : Hid (∀ n, setOf s xs (codeN s (mapped (digs s t n) ps)) = plS s t ps xs n) := Lib.hid fun n => plS_set hc h1 hp n
  clear hc hp
  go_enter Tryd.func9, Tryd.ntmps9
  go_wp2_with fail
  refine (implValidRel _ _ _ _ _ _ true _ (K0.out.r 0 rfl :) HC.out).mono ?_
  rintro e w2 ⟨rfl, hq⟩
  have hb2 : Below _ _ w2 := hq
  have hsz2 : w.heap.size + 2 ≤ w2.heap.size := by have := hb2.size; simpa using this
  have K2 := Lib.hid (K0.out.below hb2)
  have HR2 := Lib.hid (HR0.out.below hb2)
  clear hq hb2
  have cx0 := K2.out.c 0 rfl
  have cx1 := K2.out.c 1 rfl
  go_wp2_with fail
  refine (isArity _ true _ HA.out).mono ?_
  rintro e w' ⟨rfl, rfl⟩
  go_wp2_with fail
  refine (isListBelow _ _ r t true _ (K2.out.r 1 rfl :) HP1.out).mono ?_
  rintro e w' ⟨rfl, rfl⟩
  go_wp2_with fail
  refine (bitsOf4 _ _ _ _ _ _ _ (K2.out.r 0 rfl :) HRK.out).mono ?_
  rintro e w3 ⟨rfl, hb3⟩
  have hsz3 := hb3.size
  have K3 := Lib.hid (K2.out.below hb3)
  have HR3 := Lib.hid (HR2.out.below hb3)
  have HBX := Lib.hid ((bits_new w3 (setOf s xs)).alloc (.cells (bitsC fun _ => false).toArray 52))
  have hX := bits_new (w3.alloc (.cells (bitsC (setOf s xs)).toArray 52)) (fun _ => false)
  rw [World.size_alloc] at hX
  have HX0 := Lib.hid hX
  have HW0 := Lib.hid (((Below.refl w3.heap.size w3).alloc (Nat.le_refl _) (.cells (bitsC (setOf s xs)).toArray 52)).alloc (by simp) (.cells (bitsC fun _ => false).toArray 52))
  clear hb3 cx0 cx1 hX
  go_wp2_with fail
  refine (countN HN.out h1 h2 h6 _).mono ?_
  rintro e w' ⟨rfl, rfl⟩
  go_wp2
  go_loopw [36] (fun i wr => ∃ k : Nat, k ≤ N ∧ i = .int .i64 k ∧ BitsBox wr (w3.heap.size + 1) (cutS k (plS s t ps xs)) ∧ BitsBox wr w3.heap.size (setOf s xs) ∧ Below w3.heap.size w3 wr) (fun i _ => N - (intOf i).toNat)
  case atStart =>
    refine ⟨0, Nat.zero_le _, rfl, ?_, HBX.out, HW0.out⟩
    rw [cutS_zero]
    exact HX0.out
  case round =>
    obtain ⟨k, hk, rfl, hb, hbx, hbel⟩ := hrel
    have KW := Lib.hid (K3.out.below hbel)
    have HRW := Lib.hid (HR3.out.below hbel)
    have HB := Lib.hid hb
    have HBX2 := Lib.hid hbx
    have HW := Lib.hid hbel
    by_cases hlt : k < N
    · have hkI : (k : Int) < (N : Int) := by omega
      have q0 := hbx.cell 0 (by omega)
      have q1 := hbx.cell 1 (by omega)
      have q2 := hbx.cell 2 (by omega)
      have q3 := hbx.cell 3 (by omega)
      have HSK := Lib.hid (HSET.out k)
      have hcl := codeN_lt (HMT.out k) HS.out HAR.out
      clear hb hbx hbel
      go_wp2_with fail
      refine wp_region_noPanic ?_
      refine wp_region_late (S := (fun w' => w'.cell? ⟨w3.heap.size, 0, none⟩ = some (.int .u64 (word (setOf s xs) 0)) ∧ w'.cell? ⟨w3.heap.size, 1, none⟩ = some (.int .u64 (word (setOf s xs) 1)) ∧ w'.cell? ⟨w3.heap.size, 2, none⟩ = some (.int .u64 (word (setOf s xs) 2)) ∧ w'.cell? ⟨w3.heap.size, 3, none⟩ = some (.int .u64 (word (setOf s xs) 3)) ∧ Below wr.heap.size wr w')) [] (by kernel_rfl) ?_ (fun hHeld => ?_)
      · exact ⟨q0, q1, q2, q3, (QW.refl wr).drew.below _⟩
      refine wpAnyL_take (i := 0) (v := ?_) (some 39) rfl rfl (by kernel_rfl) (by kernel_rfl) (by kernel_rfl) (by kernel_rfl) (by kernel_rfl) (fun _ _ _ h => h) (Or.inl ⟨by rfl, ?_⟩) (by assumption) ?_
      rotate_left
      · intro wS hSw
        try dsimp only at hSw
        go_simp
        try with_reducible rfl
      try simp only [Act.put, List.setIfInBounds_toArray, List.set_cons_zero, List.set_cons_succ]
      refine wpAnyL_free (i := 1) (v := ?_) (some 40) rfl rfl (by kernel_rfl) (by kernel_rfl) (by kernel_rfl) (by decide) (fun _ _ _ h => h) (Or.inl ⟨by rfl, ?_⟩) (fun h0 => by assumption) ?_
      rotate_left
      · intro wS
        go_simp
        try with_reducible rfl
      try simp only [Act.put, List.setIfInBounds_toArray, List.set_cons_zero, List.set_cons_succ]
      refine wpAnyL_free (i := 2) (v := ?_) (some 41) rfl rfl (by kernel_rfl) (by kernel_rfl) (by kernel_rfl) (by decide) (fun _ _ _ h => h) (Or.inl ⟨by rfl, ?_⟩) (fun h0 => by assumption) ?_
      rotate_left
      · intro wS
        go_simp
        try with_reducible rfl
      try simp only [Act.put, List.setIfInBounds_toArray, List.set_cons_zero, List.set_cons_succ]
      refine wpAnyL_free (i := 3) (v := ?_) (some 42) rfl rfl (by kernel_rfl) (by kernel_rfl) (by kernel_rfl) (by decide) (fun _ _ _ h => h) (Or.inl ⟨by rfl, ?_⟩) (fun h0 => by assumption) ?_
      rotate_left
      · intro wS
        go_simp
        try with_reducible rfl
      try simp only [Act.put, List.setIfInBounds_toArray, List.set_cons_zero, List.set_cons_succ]
      refine wpAnyL_free (i := 4) (v := ?_) (some 43) rfl rfl (by kernel_rfl) (by kernel_rfl) (by kernel_rfl) (by decide) (fun _ _ _ h => h) (Or.inl ⟨by rfl, ?_⟩) (fun h0 => by assumption) ?_
      rotate_left
      · intro wS
        go_simp
        try with_reducible rfl
      try simp only [Act.put, List.setIfInBounds_toArray, List.set_cons_zero, List.set_cons_succ]
      refine wpAnyL_free (i := 6) (v := ?_) (some 45) rfl rfl (by kernel_rfl) (by kernel_rfl) (by kernel_rfl) (by decide) (fun _ _ _ h => h) (Or.inl ⟨by rfl, ?_⟩) (fun h0 => by assumption) ?_
      rotate_left
      · intro wS
        go_simp
        try with_reducible rfl
      try simp only [Act.put, List.setIfInBounds_toArray, List.set_cons_zero, List.set_cons_succ]
      refine wpAnyL_ready (rs := [5]) (by kernel_rfl) (by simp) ?_
      refine AllReadyL.cons rfl (fun K hK => ?_) AllReadyL.nil
      go_simp; go_at_call 30; refine (tupleOf s t k h1 h2 h5 h6 (by omega) _).mono ?_; rintro e w4 ⟨a4, n4, c4, rfl, ho4, hb4⟩
      have HO4 := Lib.hid ho4.rowAt
      clear ho4
      refine hK.out _ _ ?_ (fun hHeld => ?_)
      · exact ⟨below_cell hb4 hHeld.1, below_cell hb4 hHeld.2.1, below_cell hb4 hHeld.2.2.1, below_cell hb4 hHeld.2.2.2.1, hHeld.2.2.2.2.trans (hb4.mono hHeld.2.2.2.2.size)⟩
      clear hK K
      try simp only [Act.put, List.setIfInBounds_toArray, List.set_cons_zero, List.set_cons_succ]
      refine wpAnyL_ready (rs := [7]) (by kernel_rfl) (by simp) ?_
      refine AllReadyL.cons rfl (fun K hK => ?_) AllReadyL.nil
      have HPS := Lib.hid ((((KW.out.r 1 rfl :) : RowAt wr (.slice a2 ps.length c2) ps)).below hHeld.2.2.2.2)
      go_simp; go_at_call 29; refine (numberAt _ _ (digs s t k) ps r _ _ HO4.out HPS.out HS.out HAR.out HPT.out.1 (HMT.out k) (fun i hi => by have := HPT.out.2 i hi; have := digs_len s t k; omega)).mono ?_; rintro e w' ⟨rfl, rfl⟩
      refine hK.out _ _ ?_ (fun hHeld => ?_)
      · exact hHeld
      clear hK K
      try simp only [Act.put, List.setIfInBounds_toArray, List.set_cons_zero, List.set_cons_succ]
      refine wpAnyL_ready (rs := [8]) (by kernel_rfl) (by simp) ?_
      refine AllReadyL.cons rfl (fun K hK => ?_) AllReadyL.nil
      go_simp; go_at_call 28; refine (hasBit _ _ hcl _).mono ?_; rintro e w5 ⟨rfl, hb5⟩
      rw [HSK.out]
      refine hK.out _ _ ?_ (fun hHeld => ?_)
      · exact ⟨below_cell hb5 hHeld.1, below_cell hb5 hHeld.2.1, below_cell hb5 hHeld.2.2.1, below_cell hb5 hHeld.2.2.2.1, hHeld.2.2.2.2.trans (hb5.mono hHeld.2.2.2.2.size)⟩
      clear hK K
      try simp only [Act.put, List.setIfInBounds_toArray, List.set_cons_zero, List.set_cons_succ]
      refine wpAnyL_done (by kernel_rfl) ?_ _
      refine NoPanic.normal ?_
      have HB5 := Lib.hid hHeld.2.2.2.2
      clear hHeld hb4 hb5

      cases hS : plS s t ps xs k with
      | true =>
        have HM := Lib.hid (cutS_in hS)
        clear hS
        go_wp2_with fail
        refine (putBit _ _ k (by omega) _ (HB.out.below HB5.out)).mono ?_
        rintro e w6 ⟨rfl, ho, hb6⟩
        rw [← HM.out] at hb6
        have HB6 := Lib.hid hb6
        have hx6 := HBX2.out.below HB5.out
        have HX6 := Lib.hid (show BitsBox w6 w3.heap.size (setOf s xs) by unfold BitsBox at hx6 ⊢; rw [ho.block _ (BitsBox.lt hx6) (by omega)]; exact hx6)
        have HW6 := Lib.hid ((HW.out.trans (HB5.out.mono HW.out.size)).trans (ho.below (Nat.le_trans HW.out.size HB5.out.size) (fun k hk => by omega)))
        clear hb6 ho hx6
        go_wp2
        go_roundw
        case rel => exact ⟨k + 1, by omega, by go_num, HB6.out, HX6.out, HW6.out⟩
        case measure => simp [intOf]; omega
      | false =>
        have HM := Lib.hid (cutS_out hS)
        clear hS
        go_wp2
        go_roundw
        case rel => exact ⟨k + 1, by omega, by go_num, by rw [HM.out]; exact HB.out.below HB5.out, HBX2.out.below HB5.out, HW.out.trans (HB5.out.mono HW.out.size)⟩
        case measure => simp [intOf]; omega
    · obtain rfl : k = N := by omega
      clear hbx hbel
      have q0 := hb.cell 0 (by omega)
      have q1 := hb.cell 1 (by omega)
      have q2 := hb.cell 2 (by omega)
      have q3 := hb.cell 3 (by omega)
      clear hb
      go_wp2_with fail
      refine (relOf s t h1 h2 h5 h6 _ _ (KW.out.r 2 rfl :)).mono ?_
      rintro e w8 ⟨a8, n8, c8, rfl, ho8, hb8⟩
      have hr8 := HRW.out.below hb8
      have d0 := hr8.c0
      have d1 := hr8.c1
      have f0 := hr8.free 0
      have f1 := hr8.free 1
      have HO8 := Lib.hid ho8
      have K8 := Lib.hid (KW.out.below hb8)
      have HZ := Lib.hid HRW.out.lt
      clear ho8 hb8 hr8
      go_wp2
      refine bodyPost_ret (v := .tuple #[.agg #[.int .i64 t, .slice a8 n8 c8], .int .i64 0]) (by simp [results, Tryd.results9, go_sem, d0, d1]) rfl ⟨a8, n8, c8, rfl, ?_, ?_⟩
      · have e1 := HZ.out
        exact (((HO8.out.stored e1 _).stored e1 _).mono (by omega)).full
      · exact (K8.out.bel.setCell (by show w.heap.size ≤ w.heap.size + 1; omega) _).setCell (by show w.heap.size ≤ w.heap.size + 1; omega) _

theorem implPlaceRel (size x : Int) (a1 : Option Addr) (n1 c1 : Nat) (xs : List (List Int)) (arity : Int) (v : Value) (ps : List Int) (ar : Int) (zs : List (List Int)) (cd : Int) (w : World) (g1 : GridAt w (.slice a1 n1 c1) xs) (g2 : RowAt w v ps) (hT : TzTab w) (hi : PlaceRelIs size x xs arity ps ar zs cd) :
    Calls Tryd.prog 9 #[.int .i64 size, .agg #[.int .i64 x, .slice a1 n1 c1], .int .i64 arity, v] w (MadeRel2 w ar zs cd) := by
  rcases hi with ⟨hc, ⟨p1, p2⟩, rfl, rfl, rfl⟩ | ⟨hc, hn, rfl, rfl, rfl⟩ | ⟨hc, rfl, rfl, rfl⟩
  · have e1 := hc.1.1
    have e2 := hc.1.2
    have e3 := hc.2.1.1
    have e4 := hc.2.1.2
    have e5 := p1.1
    have e6 := p1.2
    obtain ⟨s, rfl⟩ : ∃ s : Nat, size = s := ⟨size.toNat, by omega⟩
    obtain ⟨r, rfl⟩ : ∃ r : Nat, x = r := ⟨x.toNat, by omega⟩
    obtain ⟨t, rfl⟩ : ∃ t : Nat, ar = t := ⟨ar.toNat, by omega⟩
    simp only [Int.toNat_natCast]
    exact implPlace_in s r t (by omega) (by omega) (by omega) (by omega) (by omega) (by omega) a1 n1 c1 xs v ps w g1 g2 hT hc p2
  · by_cases p1 : In14 arity
    · exact implPlace_no2 size x a1 n1 c1 xs arity v ps w g1 g2 hc p1 fun p2 => hn ⟨p1, p2⟩
    · exact implPlace_no1 size x a1 n1 c1 xs arity v ps w g1 g2 hc p1
  · exact implPlace_no size x a1 n1 c1 xs arity v ps w g1 g2 hc

end Go.Proofs.YtjkbffoaenhhgaaDoor
