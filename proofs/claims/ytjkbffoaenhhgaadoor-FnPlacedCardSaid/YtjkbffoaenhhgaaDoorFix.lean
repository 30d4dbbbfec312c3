/-
  The tuples with a value at a place: FixPlace of the model and of the program.
-/
import Derived.Test.YtjkbffoaenhhgaaDoorGrowAt
import Derived.Test.YtjkbffoaenhhgaaDoorMeet
import Derived.Test.YtjkbffoaenhhgaaDoorGRel
namespace Go.Proofs.YtjkbffoaenhhgaaDoor
open Go.RowKit

def fixL (p : Nat) (v : Int) (xs : List (List Int)) : List (List Int) := xs.filter fun t => intN t p == v
theorem fixL_snoc_in {p : Nat} {v : Int} {xs : List (List Int)} {t : List Int} (h : (intN t p == v) = true) : fixL p v (xs ++ [t]) = fixL p v xs ++ [t] := by simp [fixL, List.filter_append, h]
theorem fixL_snoc_out {p : Nat} {v : Int} {xs : List (List Int)} {t : List Int} (h : (intN t p == v) = false) : fixL p v (xs ++ [t]) = fixL p v xs := by simp [fixL, List.filter_append, h]
theorem fixL_len (p : Nat) (v : Int) (xs : List (List Int)) : (fixL p v xs).length ≤ xs.length := List.length_filter_le _ _
/-- What FixPlace answers. -/
def FixPlaceIs (size x : Int) (xs : List (List Int)) (pl va : Int) (ar : Int) (zs : List (List Int)) (cd : Int) : Prop :=
  RelAns (RelOk size x xs) (InP pl 0 (x - 1) ∧ InP va 0 (size - 1)) x (fixL pl.toNat va xs) ar zs cd
theorem FixPlaceIs.exists (size x : Int) (xs : List (List Int)) (pl va : Int) : ∃ ar zs cd, FixPlaceIs size x xs pl va ar zs cd := RelAns.exists _ _ _ _
theorem FixPlaceIs.small {size x : Int} {xs : List (List Int)} {pl va : Int} {ar : Int} {zs : List (List Int)} {cd : Int} (h : FixPlaceIs size x xs pl va ar zs cd) : (zs.map List.length).sum ≤ 1048576 :=
  RelAns.small h fun h1 _ => few_small h1 (fun _ hz => (List.mem_filter.1 hz).1) (fixL_len _ _ _)

set_option linter.unusedSimpArgs false in
set_option maxHeartbeats 8000000 in
set_option maxRecDepth 100000 in
theorem implFix_no (size x : Int) (a1 : Option Addr) (n1 c1 : Nat) (xs : List (List Int)) (pl va : Int) (w : World) (g1 : GridAt w (.slice a1 n1 c1) xs) (hc : ¬ RelOk size x xs) :
    Calls Tryd.prog 16 #[.int .i64 size, .agg #[.int .i64 x, .slice a1 n1 c1], .int .i64 pl, .int .i64 va] w (MadeRel2 w 0 [] 1) := by
  have hR0 := RelBox.new (w.alloc (.cells #[.int .i64 x, .slice a1 n1 c1] 27)) (.int .i64 0) (.slice none 0 0)
  rw [World.size_alloc] at hR0
  have HR0 := Lib.hid hR0
  have K0 := Lib.hid ((((Kept.start w).read (lives_grid _ _) g1).box w.heap.size rfl (.int .i64 x) (.slice a1 n1 c1) 27).below ((Below.refl _ _).alloc (Nat.le_refl _) (.cells #[.int .i64 0, .slice none 0 0] 27)))
  clear g1 hR0
  have HC := Lib.hid (Tells.no hc)
  clear hc
  go_enter Tryd.func16, Tryd.ntmps16
  go_wp2_with fail
  refine (implValidRel _ _ _ _ _ _ false _ (K0.out.r 0 rfl :) HC.out).mono ?_
  rintro e w2 ⟨rfl, hq⟩
  have hb2 : Below _ _ w2 := hq
  have hsz2 : w.heap.size + 2 ≤ w2.heap.size := by have := hb2.size; simpa using this
  have K2 := Lib.hid (K0.out.below hb2)
  have HR2 := Lib.hid (HR0.out.below hb2)
  clear hq hb2
  have d0 := HR2.out.c0
  have d1 := HR2.out.c1
  have f0 := HR2.out.free 0
  have f1 := HR2.out.free 1
  go_wp2
  refine bodyPost_ret (v := .tuple #[.agg #[.int .i64 0, .slice none 0 0], .int .i64 1]) (by simp [results, Tryd.results16, go_sem, d0, d1]) rfl ⟨none, 0, 0, rfl, ?_, ?_⟩
  · exact OwnGrid.nil _ _ _ (Nat.le_refl _)
  · exact (K2.out.bel.setCell (by show w.heap.size ≤ w.heap.size + 1; omega) _).setCell (by show w.heap.size ≤ w.heap.size + 1; omega) _

set_option linter.unusedSimpArgs false in
set_option maxHeartbeats 8000000 in
set_option maxRecDepth 100000 in
theorem implFix_no1 (size x : Int) (a1 : Option Addr) (n1 c1 : Nat) (xs : List (List Int)) (pl va : Int) (w : World) (g1 : GridAt w (.slice a1 n1 c1) xs) (hc : RelOk size x xs) (h1 : pl < 0) :
    Calls Tryd.prog 16 #[.int .i64 size, .agg #[.int .i64 x, .slice a1 n1 c1], .int .i64 pl, .int .i64 va] w (MadeRel2 w 0 [] 2) := by
  have hR0 := RelBox.new (w.alloc (.cells #[.int .i64 x, .slice a1 n1 c1] 27)) (.int .i64 0) (.slice none 0 0)
  rw [World.size_alloc] at hR0
  have HR0 := Lib.hid hR0
  have K0 := Lib.hid ((((Kept.start w).read (lives_grid _ _) g1).box w.heap.size rfl (.int .i64 x) (.slice a1 n1 c1) 27).below ((Below.refl _ _).alloc (Nat.le_refl _) (.cells #[.int .i64 0, .slice none 0 0] 27)))
  clear g1 hR0
  have HC := Lib.hid (Tells.yes hc)
  clear hc
  have t1 : decide (pl < 0) = true := by simpa using h1
  go_enter Tryd.func16, Tryd.ntmps16
  go_wp2_with fail
  refine (implValidRel _ _ _ _ _ _ true _ (K0.out.r 0 rfl :) HC.out).mono ?_
  rintro e w2 ⟨rfl, hq⟩
  have hb2 : Below _ _ w2 := hq
  have hsz2 : w.heap.size + 2 ≤ w2.heap.size := by have := hb2.size; simpa using this
  have K2 := Lib.hid (K0.out.below hb2)
  have HR2 := Lib.hid (HR0.out.below hb2)
  clear hq hb2
  have cx0 := K2.out.c 0 rfl
  have d0 := HR2.out.c0
  have d1 := HR2.out.c1
  have f0 := HR2.out.free 0
  have f1 := HR2.out.free 1
  go_wp2
  refine bodyPost_ret (v := .tuple #[.agg #[.int .i64 0, .slice none 0 0], .int .i64 2]) (by simp [results, Tryd.results16, go_sem, d0, d1]) rfl ⟨none, 0, 0, rfl, ?_, ?_⟩
  · exact OwnGrid.nil _ _ _ (Nat.le_refl _)
  · exact (K2.out.bel.setCell (by show w.heap.size ≤ w.heap.size + 1; omega) _).setCell (by show w.heap.size ≤ w.heap.size + 1; omega) _

set_option linter.unusedSimpArgs false in
set_option maxHeartbeats 8000000 in
set_option maxRecDepth 100000 in
theorem implFix_no2 (size x : Int) (a1 : Option Addr) (n1 c1 : Nat) (xs : List (List Int)) (pl va : Int) (w : World) (g1 : GridAt w (.slice a1 n1 c1) xs) (hc : RelOk size x xs) (h0 : 0 ≤ pl) (h1 : x ≤ pl) :
    Calls Tryd.prog 16 #[.int .i64 size, .agg #[.int .i64 x, .slice a1 n1 c1], .int .i64 pl, .int .i64 va] w (MadeRel2 w 0 [] 2) := by
  have hR0 := RelBox.new (w.alloc (.cells #[.int .i64 x, .slice a1 n1 c1] 27)) (.int .i64 0) (.slice none 0 0)
  rw [World.size_alloc] at hR0
  have HR0 := Lib.hid hR0
  have K0 := Lib.hid ((((Kept.start w).read (lives_grid _ _) g1).box w.heap.size rfl (.int .i64 x) (.slice a1 n1 c1) 27).below ((Below.refl _ _).alloc (Nat.le_refl _) (.cells #[.int .i64 0, .slice none 0 0] 27)))
  clear g1 hR0
  have HC := Lib.hid (Tells.yes hc)
  clear hc
  have t1 : decide (pl < 0) = false := by simpa using h0
  have t2 : decide (x ≤ pl) = true := by simpa using h1
  go_enter Tryd.func16, Tryd.ntmps16
  go_wp2_with fail
  refine (implValidRel _ _ _ _ _ _ true _ (K0.out.r 0 rfl :) HC.out).mono ?_
  rintro e w2 ⟨rfl, hq⟩
  have hb2 : Below _ _ w2 := hq
  have hsz2 : w.heap.size + 2 ≤ w2.heap.size := by have := hb2.size; simpa using this
  have K2 := Lib.hid (K0.out.below hb2)
  have HR2 := Lib.hid (HR0.out.below hb2)
  clear hq hb2
  have cx0 := K2.out.c 0 rfl
  have d0 := HR2.out.c0
  have d1 := HR2.out.c1
  have f0 := HR2.out.free 0
  have f1 := HR2.out.free 1
  go_wp2
  refine bodyPost_ret (v := .tuple #[.agg #[.int .i64 0, .slice none 0 0], .int .i64 2]) (by simp [results, Tryd.results16, go_sem, d0, d1]) rfl ⟨none, 0, 0, rfl, ?_, ?_⟩
  · exact OwnGrid.nil _ _ _ (Nat.le_refl _)
  · exact (K2.out.bel.setCell (by show w.heap.size ≤ w.heap.size + 1; omega) _).setCell (by show w.heap.size ≤ w.heap.size + 1; omega) _

set_option linter.unusedSimpArgs false in
set_option maxHeartbeats 8000000 in
set_option maxRecDepth 100000 in
theorem implFix_no3 (size x : Int) (a1 : Option Addr) (n1 c1 : Nat) (xs : List (List Int)) (pl va : Int) (w : World) (g1 : GridAt w (.slice a1 n1 c1) xs) (hc : RelOk size x xs) (h0 : 0 ≤ pl) (h00 : pl < x) (h1 : va < 0) :
    Calls Tryd.prog 16 #[.int .i64 size, .agg #[.int .i64 x, .slice a1 n1 c1], .int .i64 pl, .int .i64 va] w (MadeRel2 w 0 [] 2) := by
  have hR0 := RelBox.new (w.alloc (.cells #[.int .i64 x, .slice a1 n1 c1] 27)) (.int .i64 0) (.slice none 0 0)
  rw [World.size_alloc] at hR0
  have HR0 := Lib.hid hR0
  have K0 := Lib.hid ((((Kept.start w).read (lives_grid _ _) g1).box w.heap.size rfl (.int .i64 x) (.slice a1 n1 c1) 27).below ((Below.refl _ _).alloc (Nat.le_refl _) (.cells #[.int .i64 0, .slice none 0 0] 27)))
  clear g1 hR0
  have HC := Lib.hid (Tells.yes hc)
  clear hc
  have t1 : decide (pl < 0) = false := by simpa using h0
  have t2 : decide (x ≤ pl) = false := by simpa using h00
  have t3 : decide (va < 0) = true := by simpa using h1
  go_enter Tryd.func16, Tryd.ntmps16
  go_wp2_with fail
  refine (implValidRel _ _ _ _ _ _ true _ (K0.out.r 0 rfl :) HC.out).mono ?_
  rintro e w2 ⟨rfl, hq⟩
  have hb2 : Below _ _ w2 := hq
  have hsz2 : w.heap.size + 2 ≤ w2.heap.size := by have := hb2.size; simpa using this
  have K2 := Lib.hid (K0.out.below hb2)
  have HR2 := Lib.hid (HR0.out.below hb2)
  clear hq hb2
  have cx0 := K2.out.c 0 rfl
  have d0 := HR2.out.c0
  have d1 := HR2.out.c1
  have f0 := HR2.out.free 0
  have f1 := HR2.out.free 1
  go_wp2
  refine bodyPost_ret (v := .tuple #[.agg #[.int .i64 0, .slice none 0 0], .int .i64 2]) (by simp [results, Tryd.results16, go_sem, d0, d1]) rfl ⟨none, 0, 0, rfl, ?_, ?_⟩
  · exact OwnGrid.nil _ _ _ (Nat.le_refl _)
  · exact (K2.out.bel.setCell (by show w.heap.size ≤ w.heap.size + 1; omega) _).setCell (by show w.heap.size ≤ w.heap.size + 1; omega) _

set_option linter.unusedSimpArgs false in
set_option maxHeartbeats 8000000 in
set_option maxRecDepth 100000 in
theorem implFix_no4 (size x : Int) (a1 : Option Addr) (n1 c1 : Nat) (xs : List (List Int)) (pl va : Int) (w : World) (g1 : GridAt w (.slice a1 n1 c1) xs) (hc : RelOk size x xs) (h0 : 0 ≤ pl) (h00 : pl < x) (h2 : 0 ≤ va) (h1 : size ≤ va) :
    Calls Tryd.prog 16 #[.int .i64 size, .agg #[.int .i64 x, .slice a1 n1 c1], .int .i64 pl, .int .i64 va] w (MadeRel2 w 0 [] 2) := by
  have hR0 := RelBox.new (w.alloc (.cells #[.int .i64 x, .slice a1 n1 c1] 27)) (.int .i64 0) (.slice none 0 0)
  rw [World.size_alloc] at hR0
  have HR0 := Lib.hid hR0
  have K0 := Lib.hid ((((Kept.start w).read (lives_grid _ _) g1).box w.heap.size rfl (.int .i64 x) (.slice a1 n1 c1) 27).below ((Below.refl _ _).alloc (Nat.le_refl _) (.cells #[.int .i64 0, .slice none 0 0] 27)))
  clear g1 hR0
  have HC := Lib.hid (Tells.yes hc)
  clear hc
  have t1 : decide (pl < 0) = false := by simpa using h0
  have t2 : decide (x ≤ pl) = false := by simpa using h00
  have t3 : decide (va < 0) = false := by simpa using h2
  have t4 : decide (size ≤ va) = true := by simpa using h1
  go_enter Tryd.func16, Tryd.ntmps16
  go_wp2_with fail
  refine (implValidRel _ _ _ _ _ _ true _ (K0.out.r 0 rfl :) HC.out).mono ?_
  rintro e w2 ⟨rfl, hq⟩
  have hb2 : Below _ _ w2 := hq
  have hsz2 : w.heap.size + 2 ≤ w2.heap.size := by have := hb2.size; simpa using this
  have K2 := Lib.hid (K0.out.below hb2)
  have HR2 := Lib.hid (HR0.out.below hb2)
  clear hq hb2
  have cx0 := K2.out.c 0 rfl
  have d0 := HR2.out.c0
  have d1 := HR2.out.c1
  have f0 := HR2.out.free 0
  have f1 := HR2.out.free 1
  go_wp2
  refine bodyPost_ret (v := .tuple #[.agg #[.int .i64 0, .slice none 0 0], .int .i64 2]) (by simp [results, Tryd.results16, go_sem, d0, d1]) rfl ⟨none, 0, 0, rfl, ?_, ?_⟩
  · exact OwnGrid.nil _ _ _ (Nat.le_refl _)
  · exact (K2.out.bel.setCell (by show w.heap.size ≤ w.heap.size + 1; omega) _).setCell (by show w.heap.size ≤ w.heap.size + 1; omega) _

set_option linter.unusedSimpArgs false in
set_option maxHeartbeats 8000000 in
set_option maxRecDepth 100000 in
theorem implFix_in (s r pl va : Nat) (h1 : 1 ≤ s) (h2 : s ≤ 4) (h3 : 1 ≤ r) (h4 : r ≤ 4) (h5 : pl < r) (h6 : va < s) (a1 : Option Addr) (n1 c1 : Nat) (xs : List (List Int)) (w : World) (g1 : GridAt w (.slice a1 n1 c1) xs) (hT : TzTab w) (hc : RelOk s r xs) :
    Calls Tryd.prog 16 #[.int .i64 s, .agg #[.int .i64 r, .slice a1 n1 c1], .int .i64 pl, .int .i64 va] w (MadeRel2 w r (fixL pl va xs) 0) := by
  obtain rfl : n1 = xs.length := by obtain ⟨_, ⟨_, _, hv, _⟩, _⟩ := g1; simp only [Value.slice.injEq] at hv; exact hv.2.1
  have hR0 := RelBox.new (w.alloc (.cells #[.int .i64 r, .slice a1 xs.length c1] 27)) (.int .i64 0) (.slice none 0 0)
  rw [World.size_alloc] at hR0
  have HR0 := Lib.hid hR0
  have K0 := Lib.hid (((((Kept.start w).read lives_tz hT).read (lives_grid _ _) g1).box w.heap.size rfl (.int .i64 r) (.slice a1 xs.length c1) 27).below ((Below.refl _ _).alloc (Nat.le_refl _) (.cells #[.int .i64 0, .slice none 0 0] 27)))
  clear g1 hR0 hT
  have HC := Lib.hid (Tells.yes hc)
  rw [← rowsS_asc h1 h2 h3 h4 (xss := fixL pl va xs) (fun x h => hc.tups x (List.mem_filter.1 h).1) (hc.asc.filter _)]
  have HLEN : Hid (∀ j, j < xs.length → (rowN xs j).length = r) := Lib.hid fun j hj => by
    have h1 := (hc.tups _ (rowN_mem hj)).1
    omega
  have hl := hc.few
  have HRK := Lib.hid hc
  clear hc
  have HS : Hid (In14 (s : Int)) := ⟨by omega, by omega⟩
  have HA : Hid (In14 (r : Int)) := ⟨by omega, by omega⟩
  have t2 : decide (r ≤ pl) = false := by simpa using h5
  have t4 : decide (s ≤ va) = false := by simpa using h6
  go_enter Tryd.func16, Tryd.ntmps16
  go_wp2_with fail
  refine (implValidRel _ _ _ _ _ _ true _ (K0.out.r 0 rfl :) HC.out).mono ?_
  rintro e w2 ⟨rfl, hq⟩
  have hb2 : Below _ _ w2 := hq
  have hsz2 : w.heap.size + 2 ≤ w2.heap.size := by have := hb2.size; simpa using this
  have K2 := Lib.hid (K0.out.below hb2)
  have HR2 := Lib.hid (HR0.out.below hb2)
  clear hq hb2
  have cx0 := K2.out.c 0 rfl
  have cx1 := below_cell ((Below.refl w2.heap.size w2).alloc (Nat.le_refl _) (.cells #[.int .u64 0, .int .u64 0, .int .u64 0, .int .u64 0] 52)) (K2.out.c 1 rfl)
  have HX0 := Lib.hid (bits_new w2 (fun _ => false))
  have HW0 := Lib.hid ((Below.refl w2.heap.size w2).alloc (Nat.le_refl _) (.cells (bitsC fun _ => false).toArray 52))
  go_wp2
  clear cx0 cx1
  go_loopw [39] (fun i wr => ∃ k : Nat, k ≤ xs.length ∧ i = .int .i64 k ∧ BitsBox wr w2.heap.size (setOf s (fixL pl va (xs.take k))) ∧ Below w2.heap.size w2 wr) (fun i _ => xs.length - (intOf i).toNat)
  case atStart =>
    rw [bits_zero]
    exact ⟨0, Nat.zero_le _, rfl, HX0.out, HW0.out⟩
  case round =>
    obtain ⟨k, hk, rfl, hb, hbel⟩ := hrel
    have KW := Lib.hid (K2.out.below hbel)
    have HRW := Lib.hid (HR2.out.below hbel)
    have cx0 := KW.out.c 0 rfl
    by_cases hlt : k < xs.length
    · obtain ⟨V, ⟨a', c', hv, hn, hc⟩, hV⟩ : GridAt wr (.slice a1 xs.length c1) xs := (KW.out.r 0 rfl :)
      simp only [Value.slice.injEq] at hv
      obtain ⟨rfl, _, rfl⟩ := hv
      obtain ⟨b1, off1, ha1, hcell1⟩ := hc (by omega)
      subst ha1
      obtain ⟨a4, c4, hv4, hn4, hc4⟩ := hV k hlt
      have hx1 := hcell1 k hlt
      rw [hv4] at hx1
      have hR := hV k hlt
      rw [hv4] at hR
      have HROW := Lib.hid hR
      have HC4 := Lib.hid hc4
      have hlt' : (k : Int) < (xs.length : Int) := by omega
      clear hcell1 hR hc4 hV hc hv4
      have HW := Lib.hid hbel
      have HB := Lib.hid hb
      have HTK := Lib.hid (take_row xs k hlt)
      have hrl := HLEN.out k hlt
      have HTUP := Lib.hid (HRK.out.tups _ (rowN_mem hlt))
      clear hb hbel cx0
      generalize hrk : rowN xs k = row at *
      clear hrk
      obtain ⟨b3, off3, rfl, hc3⟩ := HC4.out (by omega)
      have hx3 := hc3 pl (by omega)
      have hplI : (pl : Int) < (row.length : Int) := by omega
      clear hc3 HC4
      clear hrl
      by_cases hin : (intN row pl == (va : Int)) = true
      · have HM : Hid (setOf s (fixL pl va (xs.take (k + 1))) = putS (setOf s (fixL pl va (xs.take k))) (codeN s row)) := Lib.hid (by rw [HTK.out, fixL_snoc_in hin, setOf_snoc])
        clear HTK
        go_wp2_with fail
        refine (numberOf' _ _ r _ _ HROW.out HS.out HA.out HTUP.out).mono ?_
        rintro e w' ⟨rfl, rfl⟩
        go_wp2_with fail
        refine (putBit _ _ _ (codeN_lt HTUP.out HS.out HA.out) _ HB.out).mono ?_
        rintro e w3 ⟨rfl, ho, hb3⟩
        rw [← HM.out] at hb3
        have HB3 := Lib.hid hb3
        have HW3 := Lib.hid (HW.out.trans (ho.below HW.out.size (fun k hk => by omega)))
        clear hb3 ho
        go_wp2
        go_roundw
        case rel => exact ⟨k + 1, by omega, by go_num, HB3.out, HW3.out⟩
        case measure => simp [intOf]; omega
      · have hin : (intN row pl == (va : Int)) = false := by simpa using hin
        have HM : Hid (fixL pl va (xs.take (k + 1)) = fixL pl va (xs.take k)) := Lib.hid (by rw [HTK.out, fixL_snoc_out hin])
        clear HTK
        go_wp2
        go_roundw
        case rel => exact ⟨k + 1, by omega, by go_num, by rw [HM.out]; exact HB.out, HW.out⟩
        case measure => simp [intOf]; omega
    · obtain rfl : k = xs.length := by omega
      rw [take_all] at hb
      clear hbel
      have q0 := hb.cell 0 (by omega)
      have q1 := hb.cell 1 (by omega)
      have q2 := hb.cell 2 (by omega)
      have q3 := hb.cell 3 (by omega)
      clear hb
      go_wp2_with fail
      refine (relOf s r h1 h2 h3 h4 _ _ (KW.out.r 1 rfl :)).mono ?_
      rintro e w8 ⟨a8, n8, c8, rfl, ho8, hb8⟩
      have hr8 := HRW.out.below hb8
      have d0 := hr8.c0
      have d1 := hr8.c1
      have f0 := hr8.free 0
      have f1 := hr8.free 1
      have HO8 := Lib.hid ho8
      have K8 := Lib.hid (KW.out.below hb8)
      have HZ := Lib.hid HRW.out.lt
      clear ho8 hb8 hr8
      go_wp2
      refine bodyPost_ret (v := .tuple #[.agg #[.int .i64 r, .slice a8 n8 c8], .int .i64 0]) (by simp [results, Tryd.results16, go_sem, d0, d1]) rfl ⟨a8, n8, c8, rfl, ?_, ?_⟩
      · have e1 := HZ.out
        exact (((HO8.out.stored e1 _).stored e1 _).mono (by omega)).full
      · exact (K8.out.bel.setCell (by show w.heap.size ≤ w.heap.size + 1; omega) _).setCell (by show w.heap.size ≤ w.heap.size + 1; omega) _

theorem implFixPlace (size x : Int) (a1 : Option Addr) (n1 c1 : Nat) (xs : List (List Int)) (pl va : Int) (ar : Int) (zs : List (List Int)) (cd : Int) (w : World) (g1 : GridAt w (.slice a1 n1 c1) xs) (hT : TzTab w) (hi : FixPlaceIs size x xs pl va ar zs cd) :
    Calls Tryd.prog 16 #[.int .i64 size, .agg #[.int .i64 x, .slice a1 n1 c1], .int .i64 pl, .int .i64 va] w (MadeRel2 w ar zs cd) := by
  rcases hi with ⟨hc, ⟨p1, p2⟩, rfl, rfl, rfl⟩ | ⟨hc, hn, rfl, rfl, rfl⟩ | ⟨hc, rfl, rfl, rfl⟩
  · have e1 := hc.1.1
    have e2 := hc.1.2
    have e3 := hc.2.1.1
    have e4 := hc.2.1.2
    unfold InP at p1 p2
    obtain ⟨s, rfl⟩ : ∃ s : Nat, size = s := ⟨size.toNat, by omega⟩
    obtain ⟨r, rfl⟩ : ∃ r : Nat, ar = r := ⟨ar.toNat, by omega⟩
    obtain ⟨p, rfl⟩ : ∃ p : Nat, pl = p := ⟨pl.toNat, by omega⟩
    obtain ⟨v, rfl⟩ : ∃ v : Nat, va = v := ⟨va.toNat, by omega⟩
    simp only [Int.toNat_natCast]
    exact implFix_in s r p v (by omega) (by omega) (by omega) (by omega) (by omega) (by omega) a1 n1 c1 xs w g1 hT hc
  · unfold InP at hn
    by_cases q1 : pl < 0
    · exact implFix_no1 size x a1 n1 c1 xs pl va w g1 hc q1
    · by_cases q2 : x ≤ pl
      · exact implFix_no2 size x a1 n1 c1 xs pl va w g1 hc (by omega) q2
      · by_cases q3 : va < 0
        · exact implFix_no3 size x a1 n1 c1 xs pl va w g1 hc (by omega) (by omega) q3
        · exact implFix_no4 size x a1 n1 c1 xs pl va w g1 hc (by omega) (by omega) (by omega) (by omega)
  · exact implFix_no size x a1 n1 c1 xs pl va w g1 hc

end Go.Proofs.YtjkbffoaenhhgaaDoor
