/-
  Lists of relations: what they read as, and their measures: szRelS, szTemplate.
-/
import Derived.Test.YtfjfkmoeaenlbabRelOk
import Derived.Test.YtfjfkmoeaenlbabEq
namespace Go.Proofs.Ytfjfkmoeaenlbab
open Go.RowKit

def arN (rs : List (Int × List (List Int))) (k : Nat) : Int := (rs.getD k (0, [])).1
def gridN (rs : List (Int × List (List Int))) (k : Nat) : List (List Int) := (rs.getD k (0, [])).2

theorem rels_ext {rs qs : List (Int × List (List Int))} (hl : rs.length = qs.length) (h : ∀ i, i < rs.length → arN rs i = arN qs i ∧ gridN rs i = gridN qs i) : rs = qs := by
  apply List.ext_getElem hl
  intro i h1 h2
  obtain ⟨e1, e2⟩ := h i h1
  simp only [arN, gridN, List.getD, List.getElem?_eq_getElem h1, List.getElem?_eq_getElem h2, Option.getD_some] at e1 e2
  exact Prod.ext e1 e2

/-- v is a slice of relations: two cells each. -/
def RelsAt (w : World) (v : Value) (rs : List (Int × List (List Int))) : Prop :=
  ∃ (a : Option Addr) (c : Nat), v = .slice a rs.length c ∧ rs.length ≤ 9223372036854775807 ∧ (0 < rs.length → ∃ b off, a = some ⟨b, off, none⟩ ∧ ∀ i, i < rs.length → RelAt w b (off + i * 2) (arN rs i) (gridN rs i))

theorem RelsAt.below {w w' : World} {v : Value} {rs : List (Int × List (List Int))} (h : RelsAt w v rs) (hb : Below w.heap.size w w') : RelsAt w' v rs := by
  obtain ⟨a, c, rfl, hn, h⟩ := h
  refine ⟨a, c, rfl, hn, fun h0 => ?_⟩
  obtain ⟨b, off, rfl, hc⟩ := h h0
  exact ⟨b, off, rfl, fun i hi => (hc i hi).below hb⟩

theorem RelsAt.nil (w : World) : RelsAt w (.slice none 0 0) [] := ⟨none, 0, rfl, by simp, fun h => absurd h (by simp)⟩

def partR (rs : List (Int × List (List Int))) : Nat → Nat
  | 0 => 0
  | k + 1 => partR rs k + gridSize (gridN rs k)
def relsSize (rs : List (Int × List (List Int))) : Nat := rs.length + partR rs rs.length

theorem partR_succ (rs : List (Int × List (List Int))) (k : Nat) : partR rs (k + 1) = partR rs k + gridSize (gridN rs k) := rfl
theorem partR_zero (rs : List (Int × List (List Int))) : partR rs 0 = 0 := rfl
theorem partR_le (rs : List (Int × List (List Int))) {k n : Nat} (h : k ≤ n) : partR rs k ≤ partR rs n := by
  induction n with
  | zero => obtain rfl : k = 0 := by omega
            exact Nat.le_refl _
  | succ n ih =>
    by_cases hk : k = n + 1
    · subst hk; exact Nat.le_refl _
    · have := ih (by omega)
      rw [partR_succ]; omega
theorem grid_le (rs : List (Int × List (List Int))) {k : Nat} (h : k < rs.length) : rs.length + gridSize (gridN rs k) ≤ relsSize rs := by
  have := partR_le rs (k := k + 1) (n := rs.length) (by omega)
  rw [partR_succ] at this
  unfold relsSize
  omega

set_option maxHeartbeats 1000000 in
theorem szRels (v : Value) (rs : List (Int × List (List Int))) (left : Int) (w : World) (h : RelsAt w v rs) (h0 : 0 ≤ left) (h1 : left ≤ 1048576) :
    Calls Try.prog 17 #[v, .int .i64 left] w fun e w' => e = .returned (.int .i64 (szF (relsSize rs) left)) ∧ Below w.heap.size w w' := by
  obtain ⟨a, c, rfl, hn, hc⟩ := h
  by_cases hl : left < rs.length
  · have hf := Lib.hid (szF_no (t := relsSize rs) (l := left) (by unfold relsSize; omega))
    have hl' : left - rs.length < 0 := by omega
    clear hc
    go_enter Try.func17, Try.ntmps17
    go_wp2
    go_ret
    exact ⟨ret_int hf.out.symm, Below.refl _ _⟩
  · have hl' : ¬ left - rs.length < 0 := by omega
    have HC := Lib.hid hc
    clear hc
    go_enter Try.func17, Try.ntmps17
    go_wp2
    go_loopw [1, 5] (fun l i wr => ∃ k : Nat, k ≤ rs.length ∧ i = .int .i64 k ∧ (rs.length : Int) + partR rs k ≤ left ∧ l = .int .i64 (left - rs.length - partR rs k) ∧ Below w.heap.size w wr) (fun _ i _ => rs.length - (intOf i).toNat)
    case atStart => exact ⟨0, Nat.zero_le _, rfl, by rw [partR_zero]; omega, by rw [partR_zero]; simp, Below.refl _ _⟩
    case round =>
      obtain ⟨k, hk, rfl, hp, rfl, hb⟩ := hrel
      have HB := Lib.hid hb
      clear hb
      by_cases hlt : k < rs.length
      · obtain ⟨b, off, ha, hcell⟩ := HC.out (by omega)
        subst ha
        obtain ⟨hx0, a1, n1, c1, hx1, hg⟩ := (hcell k hlt).below HB.out
        have HG := Lib.hid hg
        have hs := Lib.hid (partR_succ rs k)
        have hle := Lib.hid (partR_le rs (k := k + 1) (n := rs.length) (by omega))
        clear hcell hg
        by_cases hov : left - rs.length - partR rs k < gridSize (gridN rs k)
        · have hf := Lib.hid (szF_no (t := relsSize rs) (l := left) (by have := hs.out; have := hle.out; unfold relsSize; omega))
          have hg := Lib.hid (szF_no (t := gridSize (gridN rs k)) (l := left - rs.length - partR rs k) hov)
          go_wp2_with fail
          refine (szRel _ _ _ _ _ _ _ HG.out (by omega) (by omega)).mono ?_
          rw [hg.out]
          rintro e w' ⟨rfl, hb'⟩
          have HB' := Lib.hid hb'
          clear hb'
          go_wp2
          go_ret
          exact ⟨ret_int hf.out.symm, HB.out.trans (HB'.out.mono HB.out.size)⟩
        · have hg := Lib.hid (szF_yes (t := gridSize (gridN rs k)) (l := left - rs.length - partR rs k) (by omega))
          have hov' : ¬ left - rs.length - partR rs k - gridSize (gridN rs k) < 0 := by omega
          go_wp2_with fail
          refine (szRel _ _ _ _ _ _ _ HG.out (by omega) (by omega)).mono ?_
          rw [hg.out]
          rintro e w' ⟨rfl, hb'⟩
          have HB' := Lib.hid hb'
          clear hb'
          go_wp2
          go_roundw
          case rel => exact ⟨k + 1, by omega, by go_num, by rw [hs.out]; omega, by rw [hs.out]; go_num, HB.out.trans (HB'.out.mono HB.out.size)⟩
          case measure => simp [intOf]; omega
      · obtain rfl : k = rs.length := by omega
        have hf := Lib.hid (szF_yes (t := relsSize rs) (l := left) (by unfold relsSize; omega))
        have hq : Hid (left - rs.length - partR rs rs.length = left - relsSize rs) := Lib.hid (by unfold relsSize; omega)
        go_wp2
        go_ret
        exact ⟨ret_int (by rw [hf.out, hq.out]), HB.out⟩

set_option maxHeartbeats 400000 in
theorem szTemplate (x : Int) (a : Option Addr) (n c : Nat) (rs : List (Int × List (List Int))) (left : Int) (w : World) (h : RelsAt w (.slice a n c) rs) (h0 : 0 ≤ left) (h1 : left ≤ 1048576) :
    Calls Try.prog 5 #[.agg #[.int .i64 x, .slice a n c], .int .i64 left] w fun e w' => e = .returned (.int .i64 (szF (relsSize rs) left)) ∧ Below w.heap.size w w' := by
  have H := Lib.hid h
  clear h
  by_cases hl : left < relsSize rs
  · have HF := Lib.hid (szF_no hl)
    go_enter Try.func5, Try.ntmps5
    go_wp2_with fail
    have hbw := (Below.refl w.heap.size w).alloc (Nat.le_refl _) (.cells #[.int .i64 x, .slice a n c] 24)
    refine (szRels _ _ _ _ (H.out.below hbw) h0 h1).mono ?_
    rw [HF.out]
    rintro e w2 ⟨rfl, hb2⟩
    have HQ := Lib.hid (hbw.trans (hb2.mono hbw.size))
    clear hbw hb2
    go_wp2
    go_ret
    exact ⟨ret_int HF.out.symm, HQ.out⟩
  · have HF := Lib.hid (szF_yes (t := relsSize rs) (l := left) (by omega))
    have hl' : ¬ left - relsSize rs < 0 := by omega
    go_enter Try.func5, Try.ntmps5
    go_wp2_with fail
    have hbw := (Below.refl w.heap.size w).alloc (Nat.le_refl _) (.cells #[.int .i64 x, .slice a n c] 24)
    refine (szRels _ _ _ _ (H.out.below hbw) h0 h1).mono ?_
    rw [HF.out]
    rintro e w2 ⟨rfl, hb2⟩
    have HQ := Lib.hid (hbw.trans (hb2.mono hbw.size))
    clear hbw hb2
    go_wp2
    go_ret
    exact ⟨ret_int HF.out.symm, HQ.out⟩

end Go.Proofs.Ytfjfkmoeaenlbab
