/-
  The values of tuples at places: ProjectRel of the model and of the program.
-/
import Derived.Test.YtjkbffoaenhhgaaDoorAtP
import Derived.Test.YtjkbffoaenhhgaaDoorMeet
import Derived.Test.YtjkbffoaenhhgaaDoorOpp
import Derived.Test.YtjkbffoaenhhgaaDoorGRel
namespace Go.Proofs.YtjkbffoaenhhgaaDoor
open Go.RowKit

def atL (ps : List Int) (xs : List (List Int)) : List (List Int) := xs.map fun t => mapped t ps
theorem atL_snoc (ps : List Int) (xs : List (List Int)) (t : List Int) : atL ps (xs ++ [t]) = atL ps xs ++ [mapped t ps] := by simp [atL]
theorem atL_tups {size ar : Int} {ps : List Int} {xs : List (List Int)} (h : ∀ x, x ∈ xs → TupP size ar x) (hp : PlP ps ar) : ∀ x, x ∈ atL ps xs → TupP size ps.length x := fun x hx => by
  obtain ⟨t, ht, rfl⟩ := List.mem_map.1 hx
  exact mapped_place (h t ht) hp
/-- What ProjectRel answers. -/
def ProjectRelIs (size x : Int) (xs : List (List Int)) (ps : List Int) (ar : Int) (zs : List (List Int)) (cd : Int) : Prop :=
  RelAns (RelOk size x xs) (In14 ps.length ∧ PlP ps x) ps.length (rowsS size.toNat ps.length (setOf size (atL ps xs)) 256) ar zs cd
theorem ProjectRelIs.exists (size x : Int) (xs : List (List Int)) (ps : List Int) : ∃ ar zs cd, ProjectRelIs size x xs ps ar zs cd := RelAns.exists _ _ _ _
theorem ProjectRelIs.small {size x : Int} {xs : List (List Int)} {ps : List Int} {ar : Int} {zs : List (List Int)} {cd : Int} (h : ProjectRelIs size x xs ps ar zs cd) : (zs.map List.length).sum ≤ 1048576 :=
  RelAns.small h fun _ h2 => rowsS_small _ _ _ (by have := h2.1.2; omega)

set_option linter.unusedVariables false in
set_option linter.unusedSimpArgs false in
set_option maxHeartbeats 8000000 in
set_option maxRecDepth 100000 in
theorem implProject_no (size x : Int) (a1 : Option Addr) (n1 c1 : Nat) (xs : List (List Int)) (v : Value) (ps : List Int) (w : World) (g1 : GridAt w (.slice a1 n1 c1) xs) (g2 : RowAt w v ps) (hc : ¬ RelOk size x xs) :
    Calls Tryd.prog 14 #[.int .i64 size, .agg #[.int .i64 x, .slice a1 n1 c1], v] w (MadeRel2 w 0 [] 1) := by
  obtain ⟨a2, c2, rfl, hn2⟩ : ∃ a c, v = .slice a ps.length c ∧ ps.length ≤ 9223372036854775807 := by obtain ⟨a, c, h, hn, _⟩ := g2; exact ⟨a, c, h, hn⟩
  have hR0 := RelBox.new (w.alloc (.cells #[.int .i64 x, .slice a1 n1 c1] 27)) (.int .i64 0) (.slice none 0 0)
  rw [World.size_alloc] at hR0
  have HR0 := Lib.hid hR0
  have K0 := Lib.hid (((((Kept.start w).read (lives_row _ _) g2).read (lives_grid _ _) g1).box w.heap.size rfl (.int .i64 x) (.slice a1 n1 c1) 27).below ((Below.refl _ _).alloc (Nat.le_refl _) (.cells #[.int .i64 0, .slice none 0 0] 27)))
  clear g1 hR0 g2
  have HC := Lib.hid (Tells.no hc)
  clear hc
  go_enter Tryd.func14, Tryd.ntmps14
  go_wp2_with fail
  refine (implValidRel _ _ _ _ _ _ false _ (K0.out.r 0 rfl :) HC.out).mono ?_
  rintro e w2 ⟨rfl, hq⟩
  have hb2 : Below _ _ w2 := hq
  have hsz2 : w.heap.size + 2 ≤ w2.heap.size := by have := hb2.size; simpa using this
  have K2 := Lib.hid (K0.out.below hb2)
  have HR2 := Lib.hid (HR0.out.below hb2)
  clear hq hb2
  have d0 := HR2.out.c0
  have d1 := HR2.out.c1
  have f0 := HR2.out.free 0
  have f1 := HR2.out.free 1
  go_wp2
  refine bodyPost_ret (v := .tuple #[.agg #[.int .i64 0, .slice none 0 0], .int .i64 1]) (by simp [results, Tryd.results14, go_sem, d0, d1]) rfl ⟨none, 0, 0, rfl, ?_, ?_⟩
  · exact OwnGrid.nil _ _ _ (Nat.le_refl _)
  · exact (K2.out.bel.setCell (by show w.heap.size ≤ w.heap.size + 1; omega) _).setCell (by show w.heap.size ≤ w.heap.size + 1; omega) _

set_option linter.unusedVariables false in
set_option linter.unusedSimpArgs false in
set_option maxHeartbeats 8000000 in
set_option maxRecDepth 100000 in
theorem implProject_no1 (size x : Int) (a1 : Option Addr) (n1 c1 : Nat) (xs : List (List Int)) (v : Value) (ps : List Int) (w : World) (g1 : GridAt w (.slice a1 n1 c1) xs) (g2 : RowAt w v ps) (hc : RelOk size x xs) (h1 : ¬ In14 ps.length) :
    Calls Tryd.prog 14 #[.int .i64 size, .agg #[.int .i64 x, .slice a1 n1 c1], v] w (MadeRel2 w 0 [] 2) := by
  obtain ⟨a2, c2, rfl, hn2⟩ : ∃ a c, v = .slice a ps.length c ∧ ps.length ≤ 9223372036854775807 := by obtain ⟨a, c, h, hn, _⟩ := g2; exact ⟨a, c, h, hn⟩
  have hR0 := RelBox.new (w.alloc (.cells #[.int .i64 x, .slice a1 n1 c1] 27)) (.int .i64 0) (.slice none 0 0)
  rw [World.size_alloc] at hR0
  have HR0 := Lib.hid hR0
  have K0 := Lib.hid (((((Kept.start w).read (lives_row _ _) g2).read (lives_grid _ _) g1).box w.heap.size rfl (.int .i64 x) (.slice a1 n1 c1) 27).below ((Below.refl _ _).alloc (Nat.le_refl _) (.cells #[.int .i64 0, .slice none 0 0] 27)))
  clear g1 hR0 g2
  have HC := Lib.hid (Tells.yes hc)
  have e3 := hc.2.1.1
  have e4 := hc.2.1.2
  have HP := Lib.hid h1
  clear hc h1
  go_enter Tryd.func14, Tryd.ntmps14
  go_wp2_with fail
  refine (implValidRel _ _ _ _ _ _ true _ (K0.out.r 0 rfl :) HC.out).mono ?_
  rintro e w2 ⟨rfl, hq⟩
  have hb2 : Below _ _ w2 := hq
  have hsz2 : w.heap.size + 2 ≤ w2.heap.size := by have := hb2.size; simpa using this
  have K2 := Lib.hid (K0.out.below hb2)
  have HR2 := Lib.hid (HR0.out.below hb2)
  clear hq hb2
  have cx0 := K2.out.c 0 rfl
  go_wp2_with fail
  refine (isArity _ false _ (Tells.no HP.out)).mono ?_
  rintro e w' ⟨rfl, rfl⟩
  have d0 := HR2.out.c0
  have d1 := HR2.out.c1
  have f0 := HR2.out.free 0
  have f1 := HR2.out.free 1
  go_wp2
  refine bodyPost_ret (v := .tuple #[.agg #[.int .i64 0, .slice none 0 0], .int .i64 2]) (by simp [results, Tryd.results14, go_sem, d0, d1]) rfl ⟨none, 0, 0, rfl, ?_, ?_⟩
  · exact OwnGrid.nil _ _ _ (Nat.le_refl _)
  · exact (K2.out.bel.setCell (by show w.heap.size ≤ w.heap.size + 1; omega) _).setCell (by show w.heap.size ≤ w.heap.size + 1; omega) _

set_option linter.unusedVariables false in
set_option linter.unusedSimpArgs false in
set_option maxHeartbeats 8000000 in
set_option maxRecDepth 100000 in
theorem implProject_no2 (size x : Int) (a1 : Option Addr) (n1 c1 : Nat) (xs : List (List Int)) (v : Value) (ps : List Int) (w : World) (g1 : GridAt w (.slice a1 n1 c1) xs) (g2 : RowAt w v ps) (hc : RelOk size x xs) (h0 : In14 ps.length) (h1 : ¬ PlP ps x) :
    Calls Tryd.prog 14 #[.int .i64 size, .agg #[.int .i64 x, .slice a1 n1 c1], v] w (MadeRel2 w 0 [] 2) := by
  obtain ⟨a2, c2, rfl, hn2⟩ : ∃ a c, v = .slice a ps.length c ∧ ps.length ≤ 9223372036854775807 := by obtain ⟨a, c, h, hn, _⟩ := g2; exact ⟨a, c, h, hn⟩
  have hR0 := RelBox.new (w.alloc (.cells #[.int .i64 x, .slice a1 n1 c1] 27)) (.int .i64 0) (.slice none 0 0)
  rw [World.size_alloc] at hR0
  have HR0 := Lib.hid hR0
  have K0 := Lib.hid (((((Kept.start w).read (lives_row _ _) g2).read (lives_grid _ _) g1).box w.heap.size rfl (.int .i64 x) (.slice a1 n1 c1) 27).below ((Below.refl _ _).alloc (Nat.le_refl _) (.cells #[.int .i64 0, .slice none 0 0] 27)))
  clear g1 hR0 g2
  have HC := Lib.hid (Tells.yes hc)
  have e3 := hc.2.1.1
  have e4 := hc.2.1.2
  have HP0 := Lib.hid h0
  have HP := Lib.hid h1
  clear hc h1 h0
  go_enter Tryd.func14, Tryd.ntmps14
  go_wp2_with fail
  refine (implValidRel _ _ _ _ _ _ true _ (K0.out.r 0 rfl :) HC.out).mono ?_
  rintro e w2 ⟨rfl, hq⟩
  have hb2 : Below _ _ w2 := hq
  have hsz2 : w.heap.size + 2 ≤ w2.heap.size := by have := hb2.size; simpa using this
  have K2 := Lib.hid (K0.out.below hb2)
  have HR2 := Lib.hid (HR0.out.below hb2)
  clear hq hb2
  have cx0 := K2.out.c 0 rfl
  go_wp2_with fail
  refine (isArity _ true _ (Tells.yes HP0.out)).mono ?_
  rintro e w' ⟨rfl, rfl⟩
  go_wp2_with fail
  refine (isListBelow _ _ _ x false _ (K2.out.r 1 rfl :) (Tells.no (fun h => HP.out (PlP.tup.2 h)))).mono ?_
  rintro e w' ⟨rfl, rfl⟩
  have d0 := HR2.out.c0
  have d1 := HR2.out.c1
  have f0 := HR2.out.free 0
  have f1 := HR2.out.free 1
  go_wp2
  refine bodyPost_ret (v := .tuple #[.agg #[.int .i64 0, .slice none 0 0], .int .i64 2]) (by simp [results, Tryd.results14, go_sem, d0, d1]) rfl ⟨none, 0, 0, rfl, ?_, ?_⟩
  · exact OwnGrid.nil _ _ _ (Nat.le_refl _)
  · exact (K2.out.bel.setCell (by show w.heap.size ≤ w.heap.size + 1; omega) _).setCell (by show w.heap.size ≤ w.heap.size + 1; omega) _

set_option linter.unusedVariables false in
set_option linter.unusedSimpArgs false in
set_option maxHeartbeats 8000000 in
set_option maxRecDepth 100000 in
theorem implProject_in (s r : Nat) (h1 : 1 ≤ s) (h2 : s ≤ 4) (h3 : 1 ≤ r) (h4 : r ≤ 4) (a1 : Option Addr) (n1 c1 : Nat) (xs : List (List Int)) (v : Value) (ps : List Int) (w : World) (g1 : GridAt w (.slice a1 n1 c1) xs) (g2 : RowAt w v ps) (hT : TzTab w) (hc : RelOk s r xs) (ha : In14 ps.length) (hp : PlP ps r) :
    Calls Tryd.prog 14 #[.int .i64 s, .agg #[.int .i64 r, .slice a1 n1 c1], v] w (MadeRel2 w ps.length (rowsS s ps.length (setOf s (atL ps xs)) 256) 0) := by
  obtain rfl : n1 = xs.length := by obtain ⟨_, ⟨_, _, hv, _⟩, _⟩ := g1; simp only [Value.slice.injEq] at hv; exact hv.2.1
  obtain ⟨a2, c2, rfl, hn2⟩ : ∃ a c, v = .slice a ps.length c ∧ ps.length ≤ 9223372036854775807 := by obtain ⟨a, c, h, hn, _⟩ := g2; exact ⟨a, c, h, hn⟩
  have hR0 := RelBox.new (w.alloc (.cells #[.int .i64 r, .slice a1 xs.length c1] 27)) (.int .i64 0) (.slice none 0 0)
  rw [World.size_alloc] at hR0
  have HR0 := Lib.hid hR0
  have K0 := Lib.hid ((((((Kept.start w).read lives_tz hT).read (lives_row _ _) g2).read (lives_grid _ _) g1).box w.heap.size rfl (.int .i64 r) (.slice a1 xs.length c1) 27).below ((Below.refl _ _).alloc (Nat.le_refl _) (.cells #[.int .i64 0, .slice none 0 0] 27)))
  clear g1 hR0 hT g2
  have HC := Lib.hid (Tells.yes hc)
  have HRK := Lib.hid hc
  have HA0 := Lib.hid (Tells.yes ha)
  have HA := Lib.hid ha
  have HP := Lib.hid hp
  have HP1 := Lib.hid (Tells.yes (PlP.tup.1 hp))
  have HS : Hid (In14 (s : Int)) := ⟨by omega, by omega⟩
  have h5 : 1 ≤ ps.length := by have := ha.1; omega
  have h6 : ps.length ≤ 4 := by have := ha.2; omega
  clear hc ha hp
  go_enter Tryd.func14, Tryd.ntmps14
  go_wp2_with fail
  refine (implValidRel _ _ _ _ _ _ true _ (K0.out.r 0 rfl :) HC.out).mono ?_
  rintro e w2 ⟨rfl, hq⟩
  have hb2 : Below _ _ w2 := hq
  have hsz2 : w.heap.size + 2 ≤ w2.heap.size := by have := hb2.size; simpa using this
  have K2 := Lib.hid (K0.out.below hb2)
  have HR2 := Lib.hid (HR0.out.below hb2)
  clear hq hb2
  have cx0 := K2.out.c 0 rfl
  have cx1 := below_cell ((Below.refl w2.heap.size w2).alloc (Nat.le_refl _) (.cells #[.int .u64 0, .int .u64 0, .int .u64 0, .int .u64 0] 52)) (K2.out.c 1 rfl)
  have HX0 := Lib.hid (bits_new w2 (fun _ => false))
  have HW0 := Lib.hid ((Below.refl w2.heap.size w2).alloc (Nat.le_refl _) (.cells (bitsC fun _ => false).toArray 52))
  go_wp2_with fail
  refine (isArity _ true _ HA0.out).mono ?_
  rintro e w' ⟨rfl, rfl⟩
  go_wp2_with fail
  refine (isListBelow _ _ _ r true _ (K2.out.r 1 rfl :) HP1.out).mono ?_
  rintro e w' ⟨rfl, rfl⟩
  go_wp2
  clear cx0 cx1
  go_loopw [34] (fun i wr => ∃ k : Nat, k ≤ xs.length ∧ i = .int .i64 k ∧ BitsBox wr w2.heap.size (setOf s (atL ps (xs.take k))) ∧ Below w2.heap.size w2 wr) (fun i _ => xs.length - (intOf i).toNat)
  case atStart =>
    rw [bits_zero]
    exact ⟨0, Nat.zero_le _, rfl, HX0.out, HW0.out⟩
  case round =>
    obtain ⟨k, hk, rfl, hb, hbel⟩ := hrel
    have KW := Lib.hid (K2.out.below hbel)
    have HRW := Lib.hid (HR2.out.below hbel)
    by_cases hlt : k < xs.length
    · obtain ⟨V, ⟨a', c', hv, hn, hc⟩, hV⟩ : GridAt wr (.slice a1 xs.length c1) xs := (KW.out.r 0 rfl :)
      simp only [Value.slice.injEq] at hv
      obtain ⟨rfl, _, rfl⟩ := hv
      obtain ⟨b1, off1, ha1, hcell1⟩ := hc (by omega)
      subst ha1
      obtain ⟨a4, c4, hv4, hn4, hc4⟩ := hV k hlt
      have hx1 := hcell1 k hlt
      rw [hv4] at hx1
      have hR := hV k hlt
      rw [hv4] at hR
      have HROW := Lib.hid hR
      have HC4 := Lib.hid hc4
      have hlt' : (k : Int) < (xs.length : Int) := by omega
      clear hcell1 hR hc4 hV hc hv4
      have HW := Lib.hid hbel
      have HB := Lib.hid hb
      have HTK := Lib.hid (take_row xs k hlt)
      have HTUP := Lib.hid (HRK.out.tups _ (rowN_mem hlt))
      have HPS : Hid (RowAt wr (.slice a2 ps.length c2) ps) := Lib.hid (KW.out.r 1 rfl :)
      clear hb hbel HC4
      generalize hrk : rowN xs k = row at *
      clear hrk
      have HMT := Lib.hid (mapped_place HTUP.out HP.out)
      have HM : Hid (setOf s (atL ps (xs.take (k + 1))) = putS (setOf s (atL ps (xs.take k))) (codeN s (mapped row ps))) := Lib.hid (by rw [HTK.out, atL_snoc, setOf_snoc])
      clear HTK
      go_wp2_with fail
      refine (numberAt _ _ row ps ps.length _ _ HROW.out HPS.out HS.out HA.out rfl HMT.out (fun i hi => by have := HP.out i hi; have := HTUP.out.1; omega)).mono ?_
      rintro e w' ⟨rfl, rfl⟩
      go_wp2_with fail
      refine (putBit _ _ _ (codeN_lt HMT.out HS.out HA.out) _ HB.out).mono ?_
      rintro e w3 ⟨rfl, ho, hb3⟩
      rw [← HM.out] at hb3
      have HB3 := Lib.hid hb3
      have HW3 := Lib.hid (HW.out.trans (ho.below HW.out.size (fun k hk => by omega)))
      clear hb3 ho
      go_wp2
      go_roundw
      case rel => exact ⟨k + 1, by omega, by go_num, HB3.out, HW3.out⟩
      case measure => simp [intOf]; omega
    · obtain rfl : k = xs.length := by omega
      rw [take_all] at hb
      clear hbel
      have q0 := hb.cell 0 (by omega)
      have q1 := hb.cell 1 (by omega)
      have q2 := hb.cell 2 (by omega)
      have q3 := hb.cell 3 (by omega)
      clear hb
      go_wp2_with fail
      refine (relOf s ps.length h1 h2 h5 h6 _ _ (KW.out.r 2 rfl :)).mono ?_
      rintro e w8 ⟨a8, n8, c8, rfl, ho8, hb8⟩
      have hr8 := HRW.out.below hb8
      have d0 := hr8.c0
      have d1 := hr8.c1
      have f0 := hr8.free 0
      have f1 := hr8.free 1
      have HO8 := Lib.hid ho8
      have K8 := Lib.hid (KW.out.below hb8)
      have HZ := Lib.hid HRW.out.lt
      clear ho8 hb8 hr8
      go_wp2
      refine bodyPost_ret (v := .tuple #[.agg #[.int .i64 ps.length, .slice a8 n8 c8], .int .i64 0]) (by simp [results, Tryd.results14, go_sem, d0, d1]) rfl ⟨a8, n8, c8, rfl, ?_, ?_⟩
      · have e1 := HZ.out
        exact (((HO8.out.stored e1 _).stored e1 _).mono (by omega)).full
      · exact (K8.out.bel.setCell (by show w.heap.size ≤ w.heap.size + 1; omega) _).setCell (by show w.heap.size ≤ w.heap.size + 1; omega) _

theorem implProjectRel (size x : Int) (a1 : Option Addr) (n1 c1 : Nat) (xs : List (List Int)) (v : Value) (ps : List Int) (ar : Int) (zs : List (List Int)) (cd : Int) (w : World) (g1 : GridAt w (.slice a1 n1 c1) xs) (g2 : RowAt w v ps) (hT : TzTab w) (hi : ProjectRelIs size x xs ps ar zs cd) :
    Calls Tryd.prog 14 #[.int .i64 size, .agg #[.int .i64 x, .slice a1 n1 c1], v] w (MadeRel2 w ar zs cd) := by
  rcases hi with ⟨hc, ⟨p1, p2⟩, rfl, rfl, rfl⟩ | ⟨hc, hn, rfl, rfl, rfl⟩ | ⟨hc, rfl, rfl, rfl⟩
  · have e1 := hc.1.1
    have e2 := hc.1.2
    have e3 := hc.2.1.1
    have e4 := hc.2.1.2
    obtain ⟨s, rfl⟩ : ∃ s : Nat, size = s := ⟨size.toNat, by omega⟩
    obtain ⟨r, rfl⟩ : ∃ r : Nat, x = r := ⟨x.toNat, by omega⟩
    simp only [Int.toNat_natCast]
    exact implProject_in s r (by omega) (by omega) (by omega) (by omega) a1 n1 c1 xs v ps w g1 g2 hT hc p1 p2
  · by_cases p1 : In14 ps.length
    · exact implProject_no2 size x a1 n1 c1 xs v ps w g1 g2 hc p1 fun p2 => hn ⟨p1, p2⟩
    · exact implProject_no1 size x a1 n1 c1 xs v ps w g1 g2 hc p1
  · exact implProject_no size x a1 n1 c1 xs v ps w g1 g2 hc

end Go.Proofs.YtjkbffoaenhhgaaDoor
