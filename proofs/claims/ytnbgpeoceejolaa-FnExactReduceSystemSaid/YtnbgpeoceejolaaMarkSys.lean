/-
  The laws' marks of lists of equations and of systems.
-/
import Derived.Test.YtnbgpeoceejolaaEqsT
import Derived.Test.YtnbgpeoceejolaaSys
import Derived.Test.YtnbgpeoceejolaaMarkO
namespace Go.Proofs.Ytnbgpeoceejolaa
open Go.RowKit

def marksE (k0 : Int) (rs : List (Int × List Int)) : List (Int × List Int) := (List.range rs.length).map fun (i : Nat) => (k0 + (offO rs i : Int) + ((rowO rs i).length : Int), marks (k0 + (offO rs i : Int)) (rowO rs i).length)
theorem marksE_length (k0 : Int) (rs : List (Int × List Int)) : (marksE k0 rs).length = rs.length := by simp [marksE]
theorem marksE_ar (k0 : Int) (rs : List (Int × List Int)) (i : Nat) (h : i < rs.length) : arO (marksE k0 rs) i = k0 + (offO rs i : Int) + ((rowO rs i).length : Int) := by simp [marksE, arO, List.getD, h]
theorem marksE_row (k0 : Int) (rs : List (Int × List Int)) (i : Nat) (h : i < rs.length) : rowO (marksE k0 rs) i = marks (k0 + (offO rs i : Int)) (rowO rs i).length := by simp [marksE, rowO, List.getD, h]

/-- The numbers ar and the rows row of n elements. -/
structure OwnPairsE (T : TypeId) (w : World) (B E : Nat) (v : Value) (n : Nat) (V : Nat → Value) (ar : Nat → Int) (row : Nat → List Int) : Prop where
  outer : ∃ xs, w.ownsRow B T 2 v n xs ∧ ∀ i, i < n → xs[i * 2 + 1]? = some (.int .i64 (ar i)) ∧ xs[i * 2]? = some (V i)
  le : E ≤ w.heap.size
  top : ∀ g, v.ownBlock = some g → g < E
  rows : ∀ i, i < n → OwnRow w B (V i) (row i)
  hi : ∀ i, i < n → ∀ g, (V i).ownBlock = some g → g < E
  apart : ∀ i j, i < j → j < n → ∀ g, (V i).ownBlock = some g → (V j).ownBlock ≠ some g
  top_ne : ∀ i, i < n → ∀ g, v.ownBlock = some g → (V i).ownBlock ≠ some g
theorem OwnEqsV.pairsE {T : TypeId} {w : World} {B E n : Nat} {v : Value} {V : Nat → Value} {rs : List (Int × List Int)} (h : OwnEqsV T w B E v n V rs) : OwnPairsE T w B E v n V (arO rs) (rowO rs) := ⟨h.outer, h.le, h.top, h.rows, h.hi, h.apart, h.top_ne⟩
theorem OwnPairsE.eqs {T : TypeId} {w : World} {B E n : Nat} {v : Value} {V : Nat → Value} {ar : Nat → Int} {row : Nat → List Int} {rs : List (Int × List Int)} (h : OwnPairsE T w B E v n V ar row) (ha : ∀ i, i < n → ar i = arO rs i) (hr : ∀ i, i < n → row i = rowO rs i) : OwnEqsV T w B E v n V rs := by
  obtain ⟨xs, ho, hx⟩ := h.outer
  exact ⟨⟨xs, ho, fun i hi => ha i hi ▸ hx i hi⟩, h.le, h.top, fun i hi => hr i hi ▸ h.rows i hi, h.hi, h.apart, h.top_ne⟩
theorem OwnPairsE.congr {T : TypeId} {w : World} {B E n : Nat} {v : Value} {V : Nat → Value} {ar ar' : Nat → Int} {row row' : Nat → List Int} (h : OwnPairsE T w B E v n V ar row) (ha : ∀ i, i < n → ar i = ar' i) (hr : ∀ i, i < n → row i = row' i) : OwnPairsE T w B E v n V ar' row' := by
  obtain ⟨xs, ho, hx⟩ := h.outer
  exact ⟨⟨xs, ho, fun i hi => ha i hi ▸ hx i hi⟩, h.le, h.top, fun i hi => hr i hi ▸ h.rows i hi, h.hi, h.apart, h.top_ne⟩
theorem OwnPairsE.cell0 {T : TypeId} {w : World} {B E n g c : Nat} {V : Nat → Value} {ar : Nat → Int} {row : Nat → List Int} (h : OwnPairsE T w B E (.slice (some ⟨g, 0, none⟩) n c) n V ar row) (i : Nat) (hi : i < n) : w.cell? ⟨g, i * 2 + 1, none⟩ = some (.int .i64 (ar i)) := by
  obtain ⟨xs, ho, hx⟩ := h.outer
  rw [ho.cellAt (i * 2 + 1) (by omega)]; exact (hx i hi).1
theorem OwnPairsE.cell1 {T : TypeId} {w : World} {B E n g c : Nat} {V : Nat → Value} {ar : Nat → Int} {row : Nat → List Int} (h : OwnPairsE T w B E (.slice (some ⟨g, 0, none⟩) n c) n V ar row) (i : Nat) (hi : i < n) : w.cell? ⟨g, i * 2, none⟩ = some (V i) := by
  obtain ⟨xs, ho, hx⟩ := h.outer
  rw [ho.cellAt (i * 2) (by omega)]; exact (hx i hi).2
theorem OwnPairsE.free {T : TypeId} {w : World} {B E n g c : Nat} {V : Nat → Value} {ar : Nat → Int} {row : Nat → List Int} (h : OwnPairsE T w B E (.slice (some ⟨g, 0, none⟩) n c) n V ar row) (i : Nat) : w.frozen? ⟨g, i, none⟩ = false := by
  obtain ⟨xs, ho, hx⟩ := h.outer
  exact ho.frozenAt i
theorem OwnPairsE.setAr {T : TypeId} {w : World} {B E n g c : Nat} {V : Nat → Value} {ar : Nat → Int} {row : Nat → List Int} (h : OwnPairsE T w B E (.slice (some ⟨g, 0, none⟩) n c) n V ar row) (k : Nat) (hk : k < n) (z : Int) :
    OwnPairsE T (w.setCell ⟨g, k * 2 + 1, none⟩ (.int .i64 z)) B E (.slice (some ⟨g, 0, none⟩) n c) n V (fun i => if i = k then z else ar i) row := by
  obtain ⟨xs, ho, hx⟩ := h.outer
  have hl := ownsRow_len ho
  refine ⟨⟨_, (ho.stored (k * 2 + 1) (.int .i64 z)).1, fun i hi => ?_⟩, by have := h.le; simpa [World.setCell] using this, h.top, fun i hi => ?_, h.hi, h.apart, h.top_ne⟩
  · by_cases hik : i = k
    · subst hik
      refine ⟨by simp [List.getElem?_set, hl]; omega, ?_⟩
      rw [List.getElem?_set_ne (by omega)]
      exact (hx i hi).2
    · simp only [hik, if_false]
      rw [List.getElem?_set_ne (by omega), List.getElem?_set_ne (by omega)]
      exact hx i hi
  · exact ownsRow_same (h.rows i hi) fun g' hg' => Below.heap_setCell _ _ _ _ (fun e => h.top_ne i hi g rfl (by rw [hg', e]))
theorem OwnPairsE.setRow {T : TypeId} {w w2 : World} {B E n k : Nat} {v : Value} {V : Nat → Value} {ar : Nat → Int} {row : Nat → List Int} {ys : List Int} (h : OwnPairsE T w B E v n V ar row) (hk : k < n) (ho : OwnRow w2 B (V k) ys) (hn : Only (fun g => (V k).ownBlock = some g) w w2) :
    OwnPairsE T w2 B E v n V ar (fun i => if i = k then ys else row i) := by
  obtain ⟨xs, hx0, hx⟩ := h.outer
  refine ⟨⟨xs, ownsRow_same hx0 fun g hg => hn.block g (hx0.lt g hg).2 fun e => h.top_ne k hk g hg e, hx⟩, Nat.le_trans h.le hn.size, h.top, fun i hi => ?_, h.hi, h.apart, h.top_ne⟩
  by_cases hik : i = k
  · subst hik
    simpa using ho
  · simp only [hik, if_false]
    refine (h.rows i hi).only hn fun g hg e => ?_
    rcases Nat.lt_or_gt_of_ne hik with h1 | h1
    · exact h.apart i k h1 hk g hg e
    · exact h.apart k i h1 hi g e hg


theorem EqsNil (T : TypeId) (w : World) (B E : Nat) (h : E ≤ w.heap.size) : OwnEqs T w B E (.slice none 0 0) [] :=
  ⟨fun _ => .slice none 0 0, ⟨⟨[], World.ownsRow_nil _ _ _ 2, fun i hi => absurd hi (Nat.not_lt_zero i)⟩, h, fun g hg => by simp [Value.ownBlock] at hg, fun i hi => absurd hi (Nat.not_lt_zero i), fun i hi => absurd hi (Nat.not_lt_zero i), fun i j _ hj => absurd hj (Nat.not_lt_zero j), fun i hi => absurd hi (Nat.not_lt_zero i)⟩⟩

set_option maxHeartbeats 1000000 in
theorem markEquationS (B E : Nat) (v : Value) (rs : List (Int × List Int)) (k0 : Int) (w : World) (h : OwnEqs 46 w B E v rs) (hk0 : 0 ≤ k0) (hk1 : k0 + opsSize rs ≤ 1000000000000) :
    Calls Try.prog 87 #[v, .int .i64 k0] w fun e w' => e = .returned (.int .i64 (k0 + opsSize rs)) ∧ OwnEqs 46 w' B E v (marksE k0 rs) ∧ Only (fun g => B ≤ g ∧ g < E) w w' := by
  obtain ⟨V, h⟩ := h
  have hall := offO_all rs
  have h' := h
  obtain ⟨xs, hx0, _⟩ := h'.outer
  rcases ownsRow2_parts hx0 with ⟨rfl, hn, _⟩ | ⟨g, c, rfl, hB, hg, hc, hm, _⟩
  · obtain rfl : rs = [] := List.length_eq_zero_iff.1 hn
    have HO : Hid (OwnEqs 46 w B E (.slice none 0 0) (marksE k0 ([] : List (Int × List Int)))) := EqsNil _ w B E h.le
    clear h h' hx0
    go_enter Try.func87, Try.ntmps87
    go_wp2
    go_loopw [1, 5] (fun m i wr => i = .int .i64 0 ∧ m = .int .i64 k0 ∧ wr = w) (fun _ _ _ => 0)
    case atStart => exact ⟨rfl, rfl, rfl⟩
    case round =>
      obtain ⟨rfl, rfl, rfl⟩ := hrel
      go_wp2
      go_ret
      exact ⟨ret_int (by simp [opsSize, partO]), HO.out, Only.refl _ _⟩
  · have HO := Lib.hid h.pairsE
    have hgE := h.top g rfl
    have hgB := (hx0.lt g rfl).1
    have hn : rs.length ≤ 9223372036854775807 := by unfold maxLen at hm; omega
    clear h h' hx0
    go_enter Try.func87, Try.ntmps87
    go_wp2
    go_loopw [1, 5] (fun m i wr => ∃ k : Nat, k ≤ rs.length ∧ i = .int .i64 k ∧ m = .int .i64 (k0 + (offO rs k : Int)) ∧ OwnPairsE 46 wr B E (.slice (some ⟨g, 0, none⟩) rs.length c) rs.length V (fun i => if i < k then k0 + (offO rs i : Int) + ((rowO rs i).length : Int) else arO rs i) (fun i => if i < k then marks (k0 + (offO rs i : Int)) (rowO rs i).length else rowO rs i) ∧ Only (fun g => B ≤ g ∧ g < E) w wr) (fun _ i _ => rs.length - (intOf i).toNat)
    case atStart => exact ⟨0, Nat.zero_le _, rfl, by rw [offO_zero]; simp, HO.out.congr (fun i _ => by simp) (fun i _ => by simp), Only.refl _ _⟩
    case round =>
      obtain ⟨k, hk, rfl, rfl, hown, hon⟩ := hrel
      by_cases hlt : k < rs.length
      · have hc1 := hown.cell1 k hlt
        have hr := hown.rows k hlt
        simp only [Nat.lt_irrefl, if_false] at hr
        have HR := Lib.hid hr
        have hs := Lib.hid (offO_succ rs k)
        have hle := offO_le rs (i := k + 1) (by omega)
        have hle2 : k0 + (offO rs k : Int) + ((rowO rs k).length : Int) ≤ 1000000000000 := by have := hs.out; omega
        have hlt' : (k : Int) < (rs.length : Int) := by omega
        have HW := Lib.hid hown
        have HN := Lib.hid hon
        clear hown hon hr
        go_wp2_with fail
        refine (markRow B _ _ _ _ HR.out (by omega) hle2).mono ?_
        rintro e w2 ⟨rfl, ho2, hn2⟩
        have hset1 := HW.out.setRow hlt ho2 hn2
        have hc0 := hset1.cell0 k hlt
        simp only [Nat.lt_irrefl, if_false] at hc0
        have hf0 := hset1.free (k * 2 + 1)
        have HS := Lib.hid (hset1.setAr k hlt (k0 + (offO rs k : Int) + ((rowO rs k).length : Int)))
        have HN2 := Lib.hid ((HN.out.trans (hn2.mono fun g' hg' => ⟨((HW.out.rows k hlt).lt g' hg').1, HW.out.hi k hlt g' hg'⟩)).setCell (p := ⟨g, k * 2 + 1, none⟩) (show B ≤ g ∧ g < E from ⟨hgB, hgE⟩) (.int .i64 (k0 + (offO rs k : Int) + ((rowO rs k).length : Int))))
        clear ho2 hn2 hset1
        go_wp2
        go_roundw
        case rel =>
          refine ⟨k + 1, by omega, by go_num, by rw [hs.out]; go_num, HS.out.congr (fun i hi => ?_) (fun i hi => ?_), HN2.out⟩
          · by_cases hik : i = k
            · subst hik; simp
            · by_cases h1 : i < k
              · simp [hik, h1, show i < k + 1 by omega]
              · simp [hik, h1, show ¬ i < k + 1 by omega]
          · by_cases hik : i = k
            · subst hik; simp
            · by_cases h1 : i < k
              · simp [hik, h1, show i < k + 1 by omega]
              · simp [hik, h1, show ¬ i < k + 1 by omega]
        case measure => simp [intOf]; omega
      · obtain rfl : k = rs.length := by omega
        have HE : Hid (OwnEqs 46 wr B E (.slice (some ⟨g, 0, none⟩) rs.length c) (marksE k0 rs)) := by
          refine ⟨V, ?_⟩
          rw [marksE_length]
          exact hown.eqs (fun i hi => by rw [if_pos hi, marksE_ar k0 rs i hi]) (fun i hi => by rw [if_pos hi, marksE_row k0 rs i hi])
        have HN := Lib.hid hon
        clear hown hon
        go_wp2
        go_ret
        exact ⟨ret_int (by first | rfl | rw [hall]), HE.out, HN.out⟩

set_option maxHeartbeats 1000000 in
theorem heldEquationS (v : Value) (rs : List (Int × List Int)) (k0 : Int) (w : World) (h : EqsAt w v (marksE k0 rs)) (hk0 : 0 ≤ k0) (hk1 : k0 + opsSize rs ≤ 1000000000000) :
    Calls Try.prog 90 #[v, .int .i64 k0] w fun e w' => e = .returned (.int .i64 (k0 + opsSize rs)) ∧ w = w' := by
  have hall := offO_all rs
  obtain ⟨a, c, rfl, hn, hc⟩ := h
  rw [marksE_length] at hn hc ⊢
  have HC := Lib.hid hc
  clear hc
  go_enter Try.func90, Try.ntmps90
  go_wp2
  go_loop [1, 5] (fun m i => ∃ k : Nat, k ≤ rs.length ∧ i = .int .i64 k ∧ m = .int .i64 (k0 + (offO rs k : Int))) (fun _ i => rs.length - (intOf i).toNat)
  case atStart => exact ⟨0, Nat.zero_le _, rfl, by rw [offO_zero]; simp⟩
  case round =>
    obtain ⟨k, hk, rfl, rfl⟩ := hrel
    by_cases hlt : k < rs.length
    · obtain ⟨b1, off1, ha1, hcell1⟩ := HC.out (by omega)
      subst ha1
      obtain ⟨hx0, a2, n2, c2, hx1, hr⟩ := hcell1 k hlt
      rw [marksE_ar k0 rs k hlt] at hx0
      rw [marksE_row k0 rs k hlt] at hr
      have HR := Lib.hid hr
      have hs := Lib.hid (offO_succ rs k)
      have hle := offO_le rs (i := k + 1) (by omega)
      have hle2 : k0 + (offO rs k : Int) + ((rowO rs k).length : Int) ≤ 1000000000000 := by have := hs.out; omega
      have hpos : ¬ (k0 + (offO rs k : Int) + ((rowO rs k).length : Int) < 0) := by omega
      have hlt' : (k : Int) < (rs.length : Int) := by omega
      clear hcell1 hr
      go_wp2_with fail
      refine (heldRow _ _ _ _ HR.out (by omega) hle2).mono ?_
      rintro e w2 ⟨rfl, rfl⟩
      go_wp2
      go_round
      case rel => exact ⟨k + 1, by omega, by go_num, by rw [hs.out]; go_num⟩
      case measure => simp [intOf]; omega
    · obtain rfl : k = rs.length := by omega
      go_wp2
      go_ret
      exact ⟨ret_int (by first | rfl | rw [hall]), rfl⟩

set_option maxHeartbeats 1000000 in
theorem markSystem (B E : Nat) (x y : Int) (a : Option Addr) (n c : Nat) (rs : List (Int × List Int)) (k0 : Int) (w : World) (h : (OwnEqs 46) w B E (.slice a n c) rs) (hk0 : 0 ≤ k0) (hk1 : k0 + opsSize rs ≤ 1000000000000) :
    Calls Try.prog 25 #[.agg #[.int .i64 x, .int .i64 y, .slice a n c], .int .i64 k0] w fun e w' => e = .returned (.int .i64 (k0 + opsSize rs)) ∧ (OwnEqs 46) w' B E (.slice a n c) (marksE k0 rs) ∧ Only (fun g => B ≤ g ∧ g < E) w w' := by
  have hbw : Below w.heap.size w (w.alloc (.cells #[.int .i64 x, .int .i64 y, .slice a n c] 30)) := (Below.refl _ _).alloc (Nat.le_refl _) _
  have H := Lib.hid (h.below hbw)
  have HN : Hid (Only (fun g => B ≤ g ∧ g < E) w (w.alloc (.cells #[.int .i64 x, .int .i64 y, .slice a n c] 30))) := ⟨rfl, rfl, rfl, by simp, fun k hk _ => Below.heap_alloc _ _ _ hk⟩
  clear h hbw
  go_enter Try.func25, Try.ntmps25
  go_wp2_with fail
  refine (markEquationS B E _ _ _ _ H.out hk0 hk1).mono ?_
  rintro e w2 ⟨rfl, ho2, hn2⟩
  have HO := Lib.hid ho2
  have HN2 := Lib.hid (HN.out.trans hn2)
  clear ho2 hn2
  go_wp2
  go_ret
  exact ⟨rfl, HO.out, HN2.out⟩

set_option maxHeartbeats 1000000 in
theorem heldSystem (x y : Int) (a : Option Addr) (n c : Nat) (rs : List (Int × List Int)) (k0 : Int) (w : World) (h : EqsAt w (.slice a n c) (marksE k0 rs)) (hk0 : 0 ≤ k0) (hk1 : k0 + opsSize rs ≤ 1000000000000) :
    Calls Try.prog 30 #[.agg #[.int .i64 x, .int .i64 y, .slice a n c], .int .i64 k0] w fun e w' => e = .returned (.int .i64 (k0 + opsSize rs)) ∧ Below w.heap.size w w' := by
  have hbw : Below w.heap.size w (w.alloc (.cells #[.int .i64 x, .int .i64 y, .slice a n c] 30)) := (Below.refl _ _).alloc (Nat.le_refl _) _
  have H := Lib.hid (h.below hbw)
  have HW := Lib.hid hbw
  have hpos : ¬ (k0 + (opsSize rs : Int) < 0) := by omega
  clear h hbw
  go_enter Try.func30, Try.ntmps30
  go_wp2_with fail
  refine (heldEquationS _ _ _ _ H.out hk0 hk1).mono ?_
  rintro e w2 ⟨rfl, rfl⟩
  go_wp2
  go_ret
  exact ⟨rfl, HW.out⟩

end Go.Proofs.Ytnbgpeoceejolaa
