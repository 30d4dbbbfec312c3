/-
  AtomFormula of the model and of the program, with the numbers below a limit.
-/
import Derived.Test.YtnbgpeoceejolaaFormOk2
import Derived.Test.YtnbgpeoceejolaaBox
namespace Go.Proofs.Ytnbgpeoceejolaa
open Go.RowKit

/-- The numbers below n. -/
def cnts (n : Nat) : List Int := (List.range n).map fun (i : Nat) => (i : Int)
theorem cnts_len (n : Nat) : (cnts n).length = n := by simp [cnts]
theorem cnts_at (n i : Nat) (h : i < n) : intN (cnts n) i = i := by
  rw [intN_at _ _ (by rw [cnts_len]; exact h)]
  simp [cnts]
theorem cnts_succ (n : Nat) : (cnts (n + 1)).map (Value.int .i64) = (cnts n).map (Value.int .i64) ++ [.int .i64 (n : Int)] := by simp [cnts, List.range_succ]
theorem cnts_map (n : Nat) : (cnts n).map (Value.int .i64) = (List.range n).map fun (i : Nat) => Value.int .i64 (i : Int) := by
  unfold cnts
  rw [List.map_map]
  rfl
def MadeCnts (w : World) (n : Nat) (e : Ending) (w' : World) : Prop := ∃ a c, e = .returned (.slice a n c) ∧ OwnRow w' w.heap.size (.slice a n c) (cnts n) ∧ Below w.heap.size w w'

set_option maxHeartbeats 400000 in
theorem numbersBelow (n : Nat) (hn : n ≤ 1000) (w : World) :
    Calls Try.prog 165 #[.int .i64 (n : Int)] w (MadeCnts w n) := by
  obtain ⟨i0, hi, hz0, hz1, hz2⟩ := info_parts info_int
  go_enter Try.func165, Try.ntmps165
  go_wp2_with (at_make; refine wpList_make_full _ rfl _ _ 34 rfl w.heap.size 2 i0 (.int .i64 0) 1 Try.underlying34 hi hz0 hz1 .i64 .i64 _ _ n rfl rfl rfl rfl (by rw [hz2]; omega) (by unfold maxLen; omega) (Nat.le_refl _) ?_; intro w1 hown hgrow)
  have hu := upto_zero n (fun i => .int .i64 (i : Int)) (.int .i64 0)
  have hown0 : w1.ownsRow w.heap.size 2 1 (.slice (some ⟨w.heap.size, 0, none⟩) n n) n (upto n 0 (fun i => .int .i64 (i : Int)) (.int .i64 0)) := by
    rw [hu, ← toList_madeCells_one]
    simpa [Value.cells] using hown
  have hb0 : Below w.heap.size w w1 := (Below.refl _ _).grown hgrow (Nat.le_refl _) (fun _ h => by simp at h)
  clear hu hown hgrow
  go_loopw [9] (fun i wr => ∃ k : Nat, k ≤ n ∧ i = .int .i64 k ∧ wr.ownsRow w.heap.size 2 1 (.slice (some ⟨w.heap.size, 0, none⟩) n n) n (upto n k (fun i => .int .i64 (i : Int)) (.int .i64 0)) ∧ Below w.heap.size w wr) (fun i _ => n - (intOf i).toNat)
  case atStart => exact ⟨0, Nat.zero_le _, rfl, hown0, hb0⟩
  case round =>
    obtain ⟨k, hk, rfl, hown, hbel⟩ := hrel
    by_cases hlt : k < n
    · have hc2 := hown.cellAt k (by omega)
      rw [upto_at _ _ _ _ _ hlt, if_neg (by omega)] at hc2
      have hf2 := hown.frozenAt k
      have hst := Lib.hid (hown.stored k (.int .i64 (k : Int)))
      have hbl := Lib.hid hbel
      have hlt' : (k : Int) < (n : Int) := by omega
      clear hown hbel hown0 hb0
      go_wp2
      go_roundw
      case rel => exact ⟨k + 1, by omega, by go_num, by have h := hst.out.1; rwa [upto_set _ _ _ _ _ rfl] at h, hbl.out.setCell (Nat.le_refl _) _⟩
      case measure => simp [intOf]; omega
    · obtain rfl : k = n := by omega
      clear hown0 hb0
      rw [upto_all, ← cnts_map] at hown
      have H : Hid (OwnRow wr w.heap.size (.slice (some ⟨w.heap.size, 0, none⟩) k k) (cnts k)) := by
        show World.ownsRow _ _ _ _ _ _ _
        rw [cnts_len]
        exact hown
      have HB := Lib.hid hbel
      clear hown hbel
      go_wp2
      go_ret
      exact ⟨_, _, rfl, H.out, HB.out⟩

theorem info_int3 : (Try.prog.info? 2).map (fun i => (i.zero, i.size, i.bytes)) = some (some (.int .i64 0), 1, 8) := by kernel_rfl

set_option maxHeartbeats 1000000 in
theorem l03Count (n : Nat) (hn : n ≤ 1000) (w : World) :
    Calls Try.prog 163 #[.int .i64 (n : Int)] w (MadeCnts w n) := by
  obtain ⟨i0, hi, hz0, hz1, hz2⟩ := info_parts info_int3
  go_enter Try.func163, Try.ntmps163
  go_wp2
  go_loopw [3, 4] (fun v i wr => ∃ (k : Nat) (a : Option Addr) (m c : Nat), k ≤ n ∧ i = .int .i64 k ∧ v = .slice a m c ∧ wr.ownsRow w.heap.size 2 1 (.slice a m c) k ((cnts k).map (Value.int .i64)) ∧ Below w.heap.size w wr) (fun _ i _ => n - (intOf i).toNat)
  case atStart => exact ⟨0, _, _, _, Nat.zero_le _, rfl, rfl, ownRow_lit w w.heap.size [] (Nat.le_refl _) (by simp), (Below.refl _ _).alloc (Nat.le_refl _) _⟩
  case round =>
    obtain ⟨k, a, m, c, hk, rfl, rfl, hown, hbel⟩ := hrel
    by_cases hlt : k < n
    · have hlt' : (k : Int) < (n : Int) := by omega
      have HO := Lib.hid hown
      have HW := Lib.hid hbel
      have HC1' := Lib.hid (cell_one_new wr (.int .i64 (k : Int)) 2)
      clear hown hbel
      go_wp2_with (at_builtin; refine wpList_append_own _ rfl _ _ 34 rfl w.heap.size 2 i0 (.int .i64 0) 1 8 Try.underlying34 hi hz0 hz1 hz2 rfl (by decide) (.slice a m c) k _ rfl (HO.out.alloc _) ⟨wr.heap.size, 0, none⟩ 1 1 [.int .i64 (k : Int)] rfl rfl HC1'.out (by simp [Value.oneCell']) (by unfold maxLen; omega) (by omega) (by have := HW.out.size; simp; omega) ?_; intro v' w3 hown' hgrow _; obtain ⟨g', c', rfl⟩ := ownsRow_succ hown'; have HG3 := Lib.hid hown'; have HR3 := Lib.hid hgrow; clear hown' hgrow)
      go_roundw
      case rel =>
        refine ⟨k + 1, _, _, _, by omega, by go_num, rfl, ?_, ((HW.out.alloc HW.out.size _).grown HR3.out (by have := HW.out.size; simp; omega) (fun q hq => (HO.out.lt q hq).1))⟩
        rw [cnts_succ]; exact HG3.out
      case measure => simp [intOf]; omega
    · obtain rfl : k = n := by omega
      have hm : m = k := by
        rcases ownsRow_parts hown with ⟨hv, h0, _⟩ | ⟨_, _, hv, _⟩ <;> simp only [Value.slice.injEq] at hv <;> omega
      subst hm
      have HE : Hid (OwnRow wr w.heap.size (.slice a m c) (cnts m)) := by
        show World.ownsRow _ _ _ _ _ _ _
        rw [cnts_len]
        exact hown
      have HW := Lib.hid hbel
      clear hown hbel
      go_wp2
      go_ret
      exact ⟨_, _, rfl, HE.out, HW.out⟩

/-- A formula of its own, and a code. -/
def MadeF (w : World) (x y : Int) (fs : List (Int × List Int)) (cd : Int) (e : Ending) (w' : World) : Prop :=
  ∃ a n c, e = .returned (.tuple #[.agg #[.int .i64 x, .int .i64 y, .slice a n c], .int .i64 cd]) ∧ OwnOps 213 w' w.heap.size w'.heap.size (.slice a n c) fs ∧ Below w.heap.size w w'

def AtomFormulaIs (sz : Int) (rs : List (Int × List (List Int))) (rel : Int) (x y : Int) (fs : List (Int × List Int)) (cd : Int) : Prop :=
  (∃ k : Nat, TplOk sz rs ∧ k < rs.length ∧ rel = k ∧ x = arN rs k ∧ y = x ∧ fs = [(rel, cnts x.toNat)] ∧ cd = 0)
  ∨ (TplOk sz rs ∧ ¬ (0 ≤ rel ∧ rel < rs.length) ∧ x = 0 ∧ y = 0 ∧ fs = [] ∧ cd = 2)
  ∨ (¬ TplOk sz rs ∧ x = 0 ∧ y = 0 ∧ fs = [] ∧ cd = 1)
theorem AtomFormulaIs.exists (sz : Int) (rs : List (Int × List (List Int))) (rel : Int) : ∃ x y fs cd, AtomFormulaIs sz rs rel x y fs cd := by
  by_cases h : TplOk sz rs
  · by_cases h2 : 0 ≤ rel ∧ rel < rs.length
    · exact ⟨_, _, _, _, .inl ⟨rel.toNat, h, by omega, by omega, rfl, rfl, rfl, rfl⟩⟩
    · exact ⟨_, _, _, _, .inr (.inl ⟨h, h2, rfl, rfl, rfl, rfl⟩)⟩
  · exact ⟨_, _, _, _, .inr (.inr ⟨h, rfl, rfl, rfl, rfl⟩)⟩
theorem AtomFormulaIs.small {sz : Int} {rs : List (Int × List (List Int))} {rel x y : Int} {fs : List (Int × List Int)} {cd : Int} (h : AtomFormulaIs sz rs rel x y fs cd) : opsSize fs ≤ 1048576 := by
  rcases h with ⟨k, h, hk, -, rfl, -, rfl, -⟩ | ⟨-, -, -, -, rfl, -⟩ | ⟨-, -, -, rfl, -⟩
  · have h1 := (h.2.2 k hk).2.1
    unfold In14 at h1
    simp [opsSize, partO, rowO, cnts]
    omega
  · simp [opsSize, partO]
  · simp [opsSize, partO]

/-- One atom in a block of its own, its row made before. -/
theorem own_one {w0 w' : World} {B g n : Nat} {T : TypeId} {rel : Int} {a : Option Addr} {c : Nat} {xs : List Int} (hr : OwnRow w0 B (.slice a n c) xs) (hg : g = w0.heap.size) (hB : B ≤ g)
    (hh : w'.heap[g]? = some (.cells #[.int .i64 rel, .slice a n c] T (0, 0))) (hs : ∀ b, (Value.slice a n c).ownBlock = some b → w'.heap[b]? = w0.heap[b]?) :
    OwnOps T w' B w'.heap.size (.slice (some ⟨g, 0, none⟩) 1 1) [(rel, xs)] := by
  subst hg
  have hlt := (Array.getElem?_eq_some_iff.1 hh).1
  have hb : ∀ b, (Value.slice a n c).ownBlock = some b → B ≤ b ∧ b < w0.heap.size := fun b h => hr.lt b h
  have hlit := World.ownsRow_lit (e := T) (size := 2) (base := B) w0 #[.int .i64 rel, .slice a n c] 1 hB (by unfold maxLen; omega) (by simp)
  refine ⟨fun _ => .slice a n c, ⟨_, ownsRow_same hlit fun b h => ?_, fun i hi => ?_⟩, Nat.le_refl _, fun b h => ?_, fun i hi => ?_, fun i hi b h => ?_, fun i j hij hj => ?_, fun i hi b h h2 => ?_⟩
  · obtain rfl : w0.heap.size = b := by simpa [Value.ownBlock] using h
    rw [hh, heap_alloc_new]
  · obtain rfl : i = 0 := by simp at hi; omega
    exact ⟨rfl, rfl⟩
  · obtain rfl : w0.heap.size = b := by simpa [Value.ownBlock] using h
    exact hlt
  · obtain rfl : i = 0 := by simp at hi; omega
    exact ownsRow_same hr fun b h => hs b h
  · have := (hb b h).2; omega
  · simp at hj; omega
  · obtain rfl : w0.heap.size = b := by simpa [Value.ownBlock] using h
    have := (hb _ h2).2
    omega

set_option linter.unusedSimpArgs false in
set_option maxHeartbeats 2000000 in
set_option maxRecDepth 100000 in
theorem specAtomFormula (sz : Int) (a : Option Addr) (n c : Nat) (rs : List (Int × List (List Int))) (rel x y : Int) (fs : List (Int × List Int)) (cd : Int) (w : World) (h1 : RelsAt w (.slice a n c) rs) (hi : AtomFormulaIs sz rs rel x y fs cd) :
    Calls Try.prog 112 #[.agg #[.int .i64 sz, .slice a n c], .int .i64 rel] w (MadeF w x y fs cd) := by
  have hR0 := Box.new 158 (w.alloc (.cells #[.int .i64 sz, .slice a n c] 78)) #[.int .i64 0, .int .i64 0, .slice none 0 0]
  rw [World.size_alloc] at hR0
  have HR0 := Lib.hid hR0
  have hnl : n = rs.length := by obtain ⟨_, _, hv, _⟩ := h1; simp only [Value.slice.injEq] at hv; exact hv.2.1
  have K0 := Lib.hid ((((Kept.start w).read (lives_rels _ _) h1).box w.heap.size rfl (.int .i64 sz) (.slice a n c) 78).below ((Below.refl _ _).alloc (Nat.le_refl _) (.cells #[.int .i64 0, .int .i64 0, .slice none 0 0] 158)))
  clear hR0 h1
  subst hnl
  rcases hi with ⟨k, h, hk, rfl, rfl, rfl, rfl, rfl⟩ | ⟨h, h2, rfl, rfl, rfl, rfl⟩ | ⟨h, rfl, rfl, rfl, rfl⟩
  · have G1 := Lib.hid (Tells.yes h)
    have h1 := (h.2.2 k hk).2.1
    have hlen := h.2.1
    have G2 : Hid (Tells true (InP (k : Int) 0 ((rs.length : Int) - 1))) := Lib.hid (Tells.yes ⟨by omega, by omega⟩)
    obtain ⟨ar, har⟩ : ∃ ar : Nat, arN rs k = ar := ⟨(arN rs k).toNat, by unfold In14 at h1; omega⟩
    have HAR := Lib.hid har
    have har4 : ar ≤ 1000 := by unfold In14 at h1; omega
    rw [har]
    have hkI : (k : Int) < (rs.length : Int) := by omega
    clear h h1 har
    go_enter Try.func112, Try.ntmps112
    go_wp2_with fail
    refine (l01Template _ _ _ _ true _ ⟨(K0.out.c 0 rfl :), a, rs.length, c, (K0.out.c 1 rfl :), (K0.out.r 0 rfl :)⟩ G1.out).mono ?_
    rintro e w2 ⟨rfl, hq⟩
    have hb2 : Below _ _ w2 := hq.bel
    have hsz2 : w.heap.size + 2 ≤ w2.heap.size := by have := hb2.size; simpa using this
    have K2 := Lib.hid (K0.out.below hb2)
    have HR2 := Lib.hid (HR0.out.below hb2)
    clear hq hb2
    have t1 := K2.out.c 1 rfl
    go_wp2_with fail
    refine (l00In _ _ _ true _ G2.out).mono ?_
    rintro e w3 ⟨rfl, rfl⟩
    clear t1
    have K3 := K2
    have HR3 := HR2
    have hsz3 := hsz2
    have t1 := K3.out.c 1 rfl
    obtain ⟨_, _, hv, -, hc⟩ := (K3.out.r 0 rfl : RelsAt w2 (.slice a rs.length c) rs)
    simp only [Value.slice.injEq] at hv
    obtain ⟨rfl, _, rfl⟩ := hv
    obtain ⟨b1, off1, ha1, hcell1⟩ := hc (by omega)
    subst ha1
    obtain ⟨y0, -⟩ := hcell1 k hk
    rw [HAR.out] at y0
    clear hcell1 hc
    go_wp2_with fail
    refine (l03Count ar har4 _).mono ?_
    rintro e w4 ⟨a4, c4, rfl, ho4, hb4⟩
    have K4 := Lib.hid (K3.out.below hb4)
    have HR4 := Lib.hid ((HR3.out.below hb4).below ((Below.refl _ _).alloc (Nat.le_refl _) (.cells #[.int .i64 (k : Int), .slice a4 ar c4] 213)))
    have hsz4 : w2.heap.size ≤ w4.heap.size := hb4.size
    have hne : w4.heap.size ≠ w.heap.size + 1 := by omega
    have HOW := Lib.hid ho4
    clear ho4 hb4 t1 y0
    have d0 := HR4.out.c 0 rfl
    have d1 := HR4.out.c 1 rfl
    have d2 := HR4.out.c 2 rfl
    have f0 := HR4.out.free 0
    have f1 := HR4.out.free 1
    have f2 := HR4.out.free 2
    go_wp2
    refine bodyPost_ret (v := .tuple #[.agg #[.int .i64 (ar : Int), .int .i64 (ar : Int), .slice (some ⟨w4.heap.size, 0, none⟩) 1 1], .int .i64 0]) (by simp [results, Try.results112, go_sem, d0, d1, d2]) rfl ⟨some ⟨w4.heap.size, 0, none⟩, 1, 1, rfl, ?_, ?_⟩
    · simp only [Int.toNat_natCast]
      refine own_one (w0 := w4) (HOW.out.mono (by omega)) rfl (by omega) ?_ fun b h => ?_
      · rw [Below.heap_setCell _ _ _ _ (show w4.heap.size ≠ w.heap.size + 1 by omega), Below.heap_setCell _ _ _ _ (show w4.heap.size ≠ w.heap.size + 1 by omega), Below.heap_setCell _ _ _ _ (show w4.heap.size ≠ w.heap.size + 1 by omega)]
        exact heap_alloc_new _ _
      · have hb := HOW.out.lt b h
        rw [Below.heap_setCell _ _ _ _ (show b ≠ w.heap.size + 1 by omega), Below.heap_setCell _ _ _ _ (show b ≠ w.heap.size + 1 by omega), Below.heap_setCell _ _ _ _ (show b ≠ w.heap.size + 1 by omega)]
        exact Below.heap_alloc _ _ _ hb.2
    · exact (((K4.out.bel.alloc K4.out.bel.size _).setCell (by show w.heap.size ≤ w.heap.size + 1; omega) _).setCell (by show w.heap.size ≤ w.heap.size + 1; omega) _).setCell (by show w.heap.size ≤ w.heap.size + 1; omega) _
  · have G1 := Lib.hid (Tells.yes h)
    have hlen := h.2.1
    have G2 : Hid (Tells false (InP rel 0 ((rs.length : Int) - 1))) := Lib.hid (Tells.no (fun q => h2 ⟨q.1, by have := q.2; omega⟩))
    clear h h2
    go_enter Try.func112, Try.ntmps112
    go_wp2_with fail
    refine (l01Template _ _ _ _ true _ ⟨(K0.out.c 0 rfl :), a, rs.length, c, (K0.out.c 1 rfl :), (K0.out.r 0 rfl :)⟩ G1.out).mono ?_
    rintro e w2 ⟨rfl, hq⟩
    have hb2 : Below _ _ w2 := hq.bel
    have hsz2 : w.heap.size + 2 ≤ w2.heap.size := by have := hb2.size; simpa using this
    have K2 := Lib.hid (K0.out.below hb2)
    have HR2 := Lib.hid (HR0.out.below hb2)
    clear hq hb2
    have t1 := K2.out.c 1 rfl
    go_wp2_with fail
    refine (l00In _ _ _ false _ G2.out).mono ?_
    rintro e w3 ⟨rfl, rfl⟩
    clear t1
    have K3 := K2
    have HR3 := HR2
    have hsz3 := hsz2
    have d0 := HR3.out.c 0 rfl
    have d1 := HR3.out.c 1 rfl
    have d2 := HR3.out.c 2 rfl
    have f0 := HR3.out.free 0
    have f1 := HR3.out.free 1
    have f2 := HR3.out.free 2
    go_wp2
    refine bodyPost_ret (v := .tuple #[.agg #[.int .i64 0, .int .i64 0, .slice none 0 0], .int .i64 2]) (by simp [results, Try.results112, go_sem, d0, d1, d2]) rfl ⟨none, 0, 0, rfl, ?_, ?_⟩
    · exact OwnOps.nil _ _ _ _ (Nat.le_refl _)
    · exact ((K3.out.bel.setCell (by show w.heap.size ≤ w.heap.size + 1; omega) _).setCell (by show w.heap.size ≤ w.heap.size + 1; omega) _).setCell (by show w.heap.size ≤ w.heap.size + 1; omega) _
  · have G1 := Lib.hid (Tells.no h)
    clear h
    go_enter Try.func112, Try.ntmps112
    go_wp2_with fail
    refine (l01Template _ _ _ _ false _ ⟨(K0.out.c 0 rfl :), a, rs.length, c, (K0.out.c 1 rfl :), (K0.out.r 0 rfl :)⟩ G1.out).mono ?_
    rintro e w2 ⟨rfl, hq⟩
    have hb2 : Below _ _ w2 := hq.bel
    have hsz2 : w.heap.size + 2 ≤ w2.heap.size := by have := hb2.size; simpa using this
    have K2 := Lib.hid (K0.out.below hb2)
    have HR2 := Lib.hid (HR0.out.below hb2)
    clear hq hb2
    have d0 := HR2.out.c 0 rfl
    have d1 := HR2.out.c 1 rfl
    have d2 := HR2.out.c 2 rfl
    have f0 := HR2.out.free 0
    have f1 := HR2.out.free 1
    have f2 := HR2.out.free 2
    go_wp2
    refine bodyPost_ret (v := .tuple #[.agg #[.int .i64 0, .int .i64 0, .slice none 0 0], .int .i64 1]) (by simp [results, Try.results112, go_sem, d0, d1, d2]) rfl ⟨none, 0, 0, rfl, ?_, ?_⟩
    · exact OwnOps.nil _ _ _ _ (Nat.le_refl _)
    · exact ((K2.out.bel.setCell (by show w.heap.size ≤ w.heap.size + 1; omega) _).setCell (by show w.heap.size ≤ w.heap.size + 1; omega) _).setCell (by show w.heap.size ≤ w.heap.size + 1; omega) _

set_option linter.unusedSimpArgs false in
set_option maxHeartbeats 2000000 in
set_option maxRecDepth 100000 in
theorem implAtomFormula (sz : Int) (a : Option Addr) (n c : Nat) (rs : List (Int × List (List Int))) (rel x y : Int) (fs : List (Int × List Int)) (cd : Int) (w : World) (h1 : RelsAt w (.slice a n c) rs) (hi : AtomFormulaIs sz rs rel x y fs cd) :
    Calls Try.prog 115 #[.agg #[.int .i64 sz, .slice a n c], .int .i64 rel] w (MadeF w x y fs cd) := by
  have hR0 := Box.new 158 (w.alloc (.cells #[.int .i64 sz, .slice a n c] 78)) #[.int .i64 0, .int .i64 0, .slice none 0 0]
  rw [World.size_alloc] at hR0
  have HR0 := Lib.hid hR0
  have hnl : n = rs.length := by obtain ⟨_, _, hv, _⟩ := h1; simp only [Value.slice.injEq] at hv; exact hv.2.1
  have K0 := Lib.hid ((((Kept.start w).read (lives_rels _ _) h1).box w.heap.size rfl (.int .i64 sz) (.slice a n c) 78).below ((Below.refl _ _).alloc (Nat.le_refl _) (.cells #[.int .i64 0, .int .i64 0, .slice none 0 0] 158)))
  clear hR0 h1
  subst hnl
  rcases hi with ⟨k, h, hk, rfl, rfl, rfl, rfl, rfl⟩ | ⟨h, h2, rfl, rfl, rfl, rfl⟩ | ⟨h, rfl, rfl, rfl, rfl⟩
  · have G1 := Lib.hid (Tells.yes h)
    have h1 := (h.2.2 k hk).2.1
    have hlen := h.2.1
    have G2 : Hid (Tells true (0 ≤ (k : Int) ∧ (k : Int) < rs.length)) := Lib.hid (Tells.yes ⟨by omega, by omega⟩)
    obtain ⟨ar, har⟩ : ∃ ar : Nat, arN rs k = ar := ⟨(arN rs k).toNat, by unfold In14 at h1; omega⟩
    have HAR := Lib.hid har
    have har4 : ar ≤ 1000 := by unfold In14 at h1; omega
    rw [har]
    have hkI : (k : Int) < (rs.length : Int) := by omega
    clear h h1 har
    go_enter Try.func115, Try.ntmps115
    go_wp2_with fail
    refine (implValidTemplate _ _ _ _ _ true _ (K0.out.r 0 rfl :) G1.out).mono ?_
    rintro e w2 ⟨rfl, hq⟩
    have hb2 : Below _ _ w2 := hq
    have hsz2 : w.heap.size + 2 ≤ w2.heap.size := by have := hb2.size; simpa using this
    have K2 := Lib.hid (K0.out.below hb2)
    have HR2 := Lib.hid (HR0.out.below hb2)
    clear hq hb2
    have t0 := K2.out.c 0 rfl
    have t1 := K2.out.c 1 rfl
    go_wp2_with fail
    refine (isRelOf _ _ _ _ rs _ true _ (K2.out.r 0 rfl :) G2.out).mono ?_
    rintro e w3 ⟨rfl, hb3⟩
    clear t0 t1
    have hsz3 : w.heap.size + 2 ≤ w3.heap.size := Nat.le_trans hsz2 hb3.size
    have K3 := Lib.hid (K2.out.below hb3)
    have HR3 := Lib.hid (HR2.out.below hb3)
    clear hb3
    have t1 := K3.out.c 1 rfl
    obtain ⟨_, _, hv, -, hc⟩ := (K3.out.r 0 rfl : RelsAt w3 (.slice a rs.length c) rs)
    simp only [Value.slice.injEq] at hv
    obtain ⟨rfl, _, rfl⟩ := hv
    obtain ⟨b1, off1, ha1, hcell1⟩ := hc (by omega)
    subst ha1
    obtain ⟨y0, -⟩ := hcell1 k hk
    rw [HAR.out] at y0
    clear hcell1 hc
    go_wp2_with fail
    refine (numbersBelow ar har4 _).mono ?_
    rintro e w4 ⟨a4, c4, rfl, ho4, hb4⟩
    have K4 := Lib.hid (K3.out.below hb4)
    have HR4 := Lib.hid ((HR3.out.below hb4).below ((Below.refl _ _).alloc (Nat.le_refl _) (.cells #[.int .i64 (k : Int), .slice a4 ar c4] 213)))
    have hsz4 : w3.heap.size ≤ w4.heap.size := hb4.size
    have hne : w4.heap.size ≠ w.heap.size + 1 := by omega
    have HOW := Lib.hid ho4
    clear ho4 hb4 t1 y0
    have d0 := HR4.out.c 0 rfl
    have d1 := HR4.out.c 1 rfl
    have d2 := HR4.out.c 2 rfl
    have f0 := HR4.out.free 0
    have f1 := HR4.out.free 1
    have f2 := HR4.out.free 2
    go_wp2
    refine bodyPost_ret (v := .tuple #[.agg #[.int .i64 (ar : Int), .int .i64 (ar : Int), .slice (some ⟨w4.heap.size, 0, none⟩) 1 1], .int .i64 0]) (by simp [results, Try.results115, go_sem, d0, d1, d2]) rfl ⟨some ⟨w4.heap.size, 0, none⟩, 1, 1, rfl, ?_, ?_⟩
    · simp only [Int.toNat_natCast]
      refine own_one (w0 := w4) (HOW.out.mono (by omega)) rfl (by omega) ?_ fun b h => ?_
      · rw [Below.heap_setCell _ _ _ _ (show w4.heap.size ≠ w.heap.size + 1 by omega), Below.heap_setCell _ _ _ _ (show w4.heap.size ≠ w.heap.size + 1 by omega), Below.heap_setCell _ _ _ _ (show w4.heap.size ≠ w.heap.size + 1 by omega)]
        exact heap_alloc_new _ _
      · have hb := HOW.out.lt b h
        rw [Below.heap_setCell _ _ _ _ (show b ≠ w.heap.size + 1 by omega), Below.heap_setCell _ _ _ _ (show b ≠ w.heap.size + 1 by omega), Below.heap_setCell _ _ _ _ (show b ≠ w.heap.size + 1 by omega)]
        exact Below.heap_alloc _ _ _ hb.2
    · exact (((K4.out.bel.alloc K4.out.bel.size _).setCell (by show w.heap.size ≤ w.heap.size + 1; omega) _).setCell (by show w.heap.size ≤ w.heap.size + 1; omega) _).setCell (by show w.heap.size ≤ w.heap.size + 1; omega) _
  · have G1 := Lib.hid (Tells.yes h)
    have hlen := h.2.1
    have G2 : Hid (Tells false (0 ≤ rel ∧ rel < rs.length)) := Lib.hid (Tells.no h2)
    clear h h2
    go_enter Try.func115, Try.ntmps115
    go_wp2_with fail
    refine (implValidTemplate _ _ _ _ _ true _ (K0.out.r 0 rfl :) G1.out).mono ?_
    rintro e w2 ⟨rfl, hq⟩
    have hb2 : Below _ _ w2 := hq
    have hsz2 : w.heap.size + 2 ≤ w2.heap.size := by have := hb2.size; simpa using this
    have K2 := Lib.hid (K0.out.below hb2)
    have HR2 := Lib.hid (HR0.out.below hb2)
    clear hq hb2
    have t0 := K2.out.c 0 rfl
    have t1 := K2.out.c 1 rfl
    go_wp2_with fail
    refine (isRelOf _ _ _ _ rs _ false _ (K2.out.r 0 rfl :) G2.out).mono ?_
    rintro e w3 ⟨rfl, hb3⟩
    clear t0 t1
    have hsz3 : w.heap.size + 2 ≤ w3.heap.size := Nat.le_trans hsz2 hb3.size
    have K3 := Lib.hid (K2.out.below hb3)
    have HR3 := Lib.hid (HR2.out.below hb3)
    clear hb3
    have d0 := HR3.out.c 0 rfl
    have d1 := HR3.out.c 1 rfl
    have d2 := HR3.out.c 2 rfl
    have f0 := HR3.out.free 0
    have f1 := HR3.out.free 1
    have f2 := HR3.out.free 2
    go_wp2
    refine bodyPost_ret (v := .tuple #[.agg #[.int .i64 0, .int .i64 0, .slice none 0 0], .int .i64 2]) (by simp [results, Try.results115, go_sem, d0, d1, d2]) rfl ⟨none, 0, 0, rfl, ?_, ?_⟩
    · exact OwnOps.nil _ _ _ _ (Nat.le_refl _)
    · exact ((K3.out.bel.setCell (by show w.heap.size ≤ w.heap.size + 1; omega) _).setCell (by show w.heap.size ≤ w.heap.size + 1; omega) _).setCell (by show w.heap.size ≤ w.heap.size + 1; omega) _
  · have G1 := Lib.hid (Tells.no h)
    clear h
    go_enter Try.func115, Try.ntmps115
    go_wp2_with fail
    refine (implValidTemplate _ _ _ _ _ false _ (K0.out.r 0 rfl :) G1.out).mono ?_
    rintro e w2 ⟨rfl, hq⟩
    have hb2 : Below _ _ w2 := hq
    have hsz2 : w.heap.size + 2 ≤ w2.heap.size := by have := hb2.size; simpa using this
    have K2 := Lib.hid (K0.out.below hb2)
    have HR2 := Lib.hid (HR0.out.below hb2)
    clear hq hb2
    have d0 := HR2.out.c 0 rfl
    have d1 := HR2.out.c 1 rfl
    have d2 := HR2.out.c 2 rfl
    have f0 := HR2.out.free 0
    have f1 := HR2.out.free 1
    have f2 := HR2.out.free 2
    go_wp2
    refine bodyPost_ret (v := .tuple #[.agg #[.int .i64 0, .int .i64 0, .slice none 0 0], .int .i64 1]) (by simp [results, Try.results115, go_sem, d0, d1, d2]) rfl ⟨none, 0, 0, rfl, ?_, ?_⟩
    · exact OwnOps.nil _ _ _ _ (Nat.le_refl _)
    · exact ((K2.out.bel.setCell (by show w.heap.size ≤ w.heap.size + 1; omega) _).setCell (by show w.heap.size ≤ w.heap.size + 1; omega) _).setCell (by show w.heap.size ≤ w.heap.size + 1; omega) _

end Go.Proofs.Ytnbgpeoceejolaa
