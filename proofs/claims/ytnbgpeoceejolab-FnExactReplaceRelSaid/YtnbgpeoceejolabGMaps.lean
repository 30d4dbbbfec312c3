/-  Lists of relations: what they read as, and their measures: szRelS, szTemplate. Copies of lists of relations and their comparison: toRelS, toTemplate, eqRelS, eqTemplate. Valid templates: l01Template and ValidTemplate of the model, ValidTemplate of the program. Maps of templates in the model: l01Mapped, l01Maps. Maps of templates in the model: l01Maps, l01Arities, IsMapOf. Maps of templates in the model: l01Arities, IsMapOf. IsMapOf of the model; the program's templatesCode, mappedBits. The program's mappedBits, keepsTuples, IsMapOf. -/
import Derived.Test.YtnbgpeoceejolabGRel
import Derived.Test.YtnbgpeoceejolabGBase
import Derived.Deep.RegionHeld3
namespace Go.Proofs.Ytnbgpeoceejolab
open Go.RowKit

def arN (rs : List (Int × List (List Int))) (k : Nat) : Int := (rs.getD k (0, [])).1
def gridN (rs : List (Int × List (List Int))) (k : Nat) : List (List Int) := (rs.getD k (0, [])).2

theorem rels_ext {rs qs : List (Int × List (List Int))} (hl : rs.length = qs.length) (h : ∀ i, i < rs.length → arN rs i = arN qs i ∧ gridN rs i = gridN qs i) : rs = qs := by
  apply List.ext_getElem hl
  intro i h1 h2
  obtain ⟨e1, e2⟩ := h i h1
  simp only [arN, gridN, List.getD, List.getElem?_eq_getElem h1, List.getElem?_eq_getElem h2, Option.getD_some] at e1 e2
  exact Prod.ext e1 e2

/-- v is a slice of relations: two cells each. -/
def RelsAt (w : World) (v : Value) (rs : List (Int × List (List Int))) : Prop :=
  ∃ (a : Option Addr) (c : Nat), v = .slice a rs.length c ∧ rs.length ≤ 9223372036854775807 ∧ (0 < rs.length → ∃ b off, a = some ⟨b, off, none⟩ ∧ ∀ i, i < rs.length → RelAt w b (off + i * 2) (arN rs i) (gridN rs i))

theorem RelsAt.below {w w' : World} {v : Value} {rs : List (Int × List (List Int))} (h : RelsAt w v rs) (hb : Below w.heap.size w w') : RelsAt w' v rs := by
  obtain ⟨a, c, rfl, hn, h⟩ := h
  refine ⟨a, c, rfl, hn, fun h0 => ?_⟩
  obtain ⟨b, off, rfl, hc⟩ := h h0
  exact ⟨b, off, rfl, fun i hi => (hc i hi).below hb⟩

theorem RelsAt.nil (w : World) : RelsAt w (.slice none 0 0) [] := ⟨none, 0, rfl, by simp, fun h => absurd h (by simp)⟩

def partR (rs : List (Int × List (List Int))) : Nat → Nat
  | 0 => 0
  | k + 1 => partR rs k + gridSize (gridN rs k)
def relsSize (rs : List (Int × List (List Int))) : Nat := rs.length + partR rs rs.length

theorem partR_succ (rs : List (Int × List (List Int))) (k : Nat) : partR rs (k + 1) = partR rs k + gridSize (gridN rs k) := rfl
theorem partR_zero (rs : List (Int × List (List Int))) : partR rs 0 = 0 := rfl
theorem partR_le (rs : List (Int × List (List Int))) {k n : Nat} (h : k ≤ n) : partR rs k ≤ partR rs n := by
  induction n with
  | zero => obtain rfl : k = 0 := by omega
            exact Nat.le_refl _
  | succ n ih =>
    by_cases hk : k = n + 1
    · subst hk; exact Nat.le_refl _
    · have := ih (by omega)
      rw [partR_succ]; omega
theorem grid_le (rs : List (Int × List (List Int))) {k : Nat} (h : k < rs.length) : rs.length + gridSize (gridN rs k) ≤ relsSize rs := by
  have := partR_le rs (k := k + 1) (n := rs.length) (by omega)
  rw [partR_succ] at this
  unfold relsSize
  omega

set_option maxHeartbeats 1000000 in
theorem szRels (v : Value) (rs : List (Int × List (List Int))) (left : Int) (w : World) (h : RelsAt w v rs) (h0 : 0 ≤ left) (h1 : left ≤ 1048576) :
    Calls Try.prog 24 #[v, .int .i64 left] w fun e w' => e = .returned (.int .i64 (szF (relsSize rs) left)) ∧ Below w.heap.size w w' := by
  obtain ⟨a, c, rfl, hn, hc⟩ := h
  by_cases hl : left < rs.length
  · have hf := Lib.hid (szF_no (t := relsSize rs) (l := left) (by unfold relsSize; omega))
    have hl' : left - rs.length < 0 := by omega
    clear hc
    go_enter Try.func24, Try.ntmps24
    go_wp2
    go_ret
    exact ⟨ret_int hf.out.symm, Below.refl _ _⟩
  · have hl' : ¬ left - rs.length < 0 := by omega
    have HC := Lib.hid hc
    clear hc
    go_enter Try.func24, Try.ntmps24
    go_wp2
    go_loopw [1, 5] (fun l i wr => ∃ k : Nat, k ≤ rs.length ∧ i = .int .i64 k ∧ (rs.length : Int) + partR rs k ≤ left ∧ l = .int .i64 (left - rs.length - partR rs k) ∧ Below w.heap.size w wr) (fun _ i _ => rs.length - (intOf i).toNat)
    case atStart => exact ⟨0, Nat.zero_le _, rfl, by rw [partR_zero]; omega, by rw [partR_zero]; simp, Below.refl _ _⟩
    case round =>
      obtain ⟨k, hk, rfl, hp, rfl, hb⟩ := hrel
      have HB := Lib.hid hb
      clear hb
      by_cases hlt : k < rs.length
      · obtain ⟨b, off, ha, hcell⟩ := HC.out (by omega)
        subst ha
        obtain ⟨hx0, a1, n1, c1, hx1, hg⟩ := (hcell k hlt).below HB.out
        have HG := Lib.hid hg
        have hs := Lib.hid (partR_succ rs k)
        have hle := Lib.hid (partR_le rs (k := k + 1) (n := rs.length) (by omega))
        clear hcell hg
        by_cases hov : left - rs.length - partR rs k < gridSize (gridN rs k)
        · have hf := Lib.hid (szF_no (t := relsSize rs) (l := left) (by have := hs.out; have := hle.out; unfold relsSize; omega))
          have hg := Lib.hid (szF_no (t := gridSize (gridN rs k)) (l := left - rs.length - partR rs k) hov)
          go_wp2_with fail
          refine (szRel _ _ _ _ _ _ _ HG.out (by omega) (by omega)).mono ?_
          rw [hg.out]
          rintro e w' ⟨rfl, hb'⟩
          have HB' := Lib.hid hb'
          clear hb'
          go_wp2
          go_ret
          exact ⟨ret_int hf.out.symm, HB.out.trans (HB'.out.mono HB.out.size)⟩
        · have hg := Lib.hid (szF_yes (t := gridSize (gridN rs k)) (l := left - rs.length - partR rs k) (by omega))
          have hov' : ¬ left - rs.length - partR rs k - gridSize (gridN rs k) < 0 := by omega
          go_wp2_with fail
          refine (szRel _ _ _ _ _ _ _ HG.out (by omega) (by omega)).mono ?_
          rw [hg.out]
          rintro e w' ⟨rfl, hb'⟩
          have HB' := Lib.hid hb'
          clear hb'
          go_wp2
          go_roundw
          case rel => exact ⟨k + 1, by omega, by go_num, by rw [hs.out]; omega, by rw [hs.out]; go_num, HB.out.trans (HB'.out.mono HB.out.size)⟩
          case measure => simp [intOf]; omega
      · obtain rfl : k = rs.length := by omega
        have hf := Lib.hid (szF_yes (t := relsSize rs) (l := left) (by unfold relsSize; omega))
        have hq : Hid (left - rs.length - partR rs rs.length = left - relsSize rs) := Lib.hid (by unfold relsSize; omega)
        go_wp2
        go_ret
        exact ⟨ret_int (by rw [hf.out, hq.out]), HB.out⟩

set_option maxHeartbeats 400000 in
theorem szTemplate (x : Int) (a : Option Addr) (n c : Nat) (rs : List (Int × List (List Int))) (left : Int) (w : World) (h : RelsAt w (.slice a n c) rs) (h0 : 0 ≤ left) (h1 : left ≤ 1048576) :
    Calls Try.prog 6 #[.agg #[.int .i64 x, .slice a n c], .int .i64 left] w fun e w' => e = .returned (.int .i64 (szF (relsSize rs) left)) ∧ Below w.heap.size w w' := by
  have H := Lib.hid h
  clear h
  by_cases hl : left < relsSize rs
  · have HF := Lib.hid (szF_no hl)
    go_enter Try.func6, Try.ntmps6
    go_wp2_with fail
    have hbw := (Below.refl w.heap.size w).alloc (Nat.le_refl _) (.cells #[.int .i64 x, .slice a n c] 24)
    refine (szRels _ _ _ _ (H.out.below hbw) h0 h1).mono ?_
    rw [HF.out]
    rintro e w2 ⟨rfl, hb2⟩
    have HQ := Lib.hid (hbw.trans (hb2.mono hbw.size))
    clear hbw hb2
    go_wp2
    go_ret
    exact ⟨ret_int HF.out.symm, HQ.out⟩
  · have HF := Lib.hid (szF_yes (t := relsSize rs) (l := left) (by omega))
    have hl' : ¬ left - relsSize rs < 0 := by omega
    go_enter Try.func6, Try.ntmps6
    go_wp2_with fail
    have hbw := (Below.refl w.heap.size w).alloc (Nat.le_refl _) (.cells #[.int .i64 x, .slice a n c] 24)
    refine (szRels _ _ _ _ (H.out.below hbw) h0 h1).mono ?_
    rw [HF.out]
    rintro e w2 ⟨rfl, hb2⟩
    have HQ := Lib.hid (hbw.trans (hb2.mono hbw.size))
    clear hbw hb2
    go_wp2
    go_ret
    exact ⟨ret_int HF.out.symm, HQ.out⟩

end Go.Proofs.Ytnbgpeoceejolab

namespace Go.Proofs.Ytnbgpeoceejolab
open Go.RowKit

theorem info_rel : (Try.prog.info? 81).map (fun i => (i.zero, i.size, i.bytes)) = some (some (.agg #[.int .i64 0, .slice none 0 0]), 2, 32) := by kernel_rfl

theorem lives_rels (v : Value) (rs : List (Int × List (List Int))) : Lives (fun w => RelsAt w v rs) := fun _ _ hb h => h.below hb
theorem Kept.rels {w w1 : World} {C : List (Addr × Value)} {R : List (World → Prop)} (h : Kept w C R w1) (i : Nat) {v : Value} {rs : List (Int × List (List Int))} (hi : R[i]? = some (fun w => RelsAt w v rs)) : RelsAt w1 v rs := h.reads i _ hi

/-- A list of relations of which k are made. -/
structure RelsPart (w wr : World) (n k : Nat) (U : Nat → Value) (rs : List (Int × List (List Int))) : Prop where
  outer : ∃ xs, wr.ownsRow w.heap.size 81 2 (.slice (some ⟨w.heap.size, 0, none⟩) n n) n xs ∧ ∀ i, i < k → xs[i * 2]? = some (.int .i64 (arN rs i)) ∧ xs[i * 2 + 1]? = some (U i)
  rows : ∀ i, i < k → ∃ a m c, U i = .slice a m c ∧ OwnGrid wr (w.heap.size + 1) wr.heap.size (U i) (gridN rs i)
  below : Below w.heap.size w wr
  size : w.heap.size + 1 ≤ wr.heap.size

theorem ownsRow_len {w : World} {B e s n : Nat} {v : Value} {xs : List Value} (h : w.ownsRow B e s v n xs) : xs.length = n * s := h.1

theorem RelsPart.step {w wr w2 : World} {n k : Nat} {U : Nat → Value} {rs : List (Int × List (List Int))} {a : Option Addr} {m c : Nat} (h : RelsPart w wr n k U rs) (hk : k < n)
    (ho : OwnGrid w2 wr.heap.size w2.heap.size (.slice a m c) (gridN rs k)) (hb : Below wr.heap.size wr w2) :
    RelsPart w ((w2.setCell ⟨w.heap.size, k * 2, none⟩ (.int .i64 (arN rs k))).setCell ⟨w.heap.size, k * 2 + 1, none⟩ (.slice a m c)) n (k + 1) (fun i => if i = k then .slice a m c else U i) rs := by
  have hs := hb.size
  have hsz := h.size
  obtain ⟨xs, h1, h2⟩ := h.outer
  have h3 := ((ownsRow_below h1 hb).stored (k * 2) (.int .i64 (arN rs k))).1.stored (k * 2 + 1) (.slice a m c)
  have hl := ownsRow_len h1
  have hz : ∀ (u : Value) (ys : List (List Int)) (B : Nat), w.heap.size + 1 ≤ B → OwnGrid w2 B w2.heap.size u ys → OwnGrid ((w2.setCell ⟨w.heap.size, k * 2, none⟩ (.int .i64 (arN rs k))).setCell ⟨w.heap.size, k * 2 + 1, none⟩ (.slice a m c)) (w.heap.size + 1) ((w2.setCell ⟨w.heap.size, k * 2, none⟩ (.int .i64 (arN rs k))).setCell ⟨w.heap.size, k * 2 + 1, none⟩ (.slice a m c)).heap.size u ys := by
    intro u ys B hB hu
    exact (((hu.stored (p := ⟨w.heap.size, k * 2, none⟩) (by show w.heap.size < B; omega) _).stored (p := ⟨w.heap.size, k * 2 + 1, none⟩) (by show w.heap.size < B; omega) _).mono hB).full
  refine ⟨⟨_, h3.1, fun i hi => ?_⟩, fun i hi => ?_, ?_, ?_⟩
  · by_cases hik : i = k
    · subst hik
      simp [List.getElem?_set, hl]
      omega
    · obtain ⟨e1, e2⟩ := h2 i (by omega)
      simp only [hik, if_false]
      rw [List.getElem?_set_ne (by omega), List.getElem?_set_ne (by omega), List.getElem?_set_ne (by omega), List.getElem?_set_ne (by omega)]
      exact ⟨e1, e2⟩
  · by_cases hik : i = k
    · subst hik
      simp only [if_true]
      exact ⟨a, m, c, rfl, hz _ _ _ hsz ho⟩
    · simp only [hik, if_false]
      obtain ⟨a', m', c', e, hg⟩ := h.rows i (by omega)
      exact ⟨a', m', c', e, hz _ _ _ (Nat.le_refl _) (hg.below hb).full⟩
  · exact ((h.below.trans (hb.mono (by omega))).setCell (Nat.le_refl _) _).setCell (Nat.le_refl _) _
  · simp [World.setCell]
    omega

theorem OwnGrid.gridAt_same {w w' : World} {B E : Nat} {v : Value} {xss : List (List Int)} (h : OwnGrid w B E v xss) (hg : ∀ g, B ≤ g → g < w.heap.size → w'.heap[g]? = w.heap[g]?) : GridAt w' v xss := by
  obtain ⟨V, h⟩ := h
  have ho := ownsRow_same h.outer fun g hv => hg g (h.outer.lt g hv).1 (h.outer.lt g hv).2
  refine ⟨V, ?_, fun i hi => OwnRow.rowAt (ownsRow_same (h.rows i hi) fun g hv => hg g ((h.rows i hi).lt g hv).1 ((h.rows i hi).lt g hv).2)⟩
  rcases ownsRow_parts ho with ⟨rfl, hn, _⟩ | ⟨g, c, rfl, _, _, h1, h2, _, hc⟩
  · exact ⟨none, 0, by rw [hn], by omega, fun h0 => by omega⟩
  · refine ⟨some ⟨g, 0, none⟩, c, rfl, by unfold maxLen at h2; omega, fun _ => ⟨g, 0, rfl, fun i hi => ?_⟩⟩
    rw [Nat.zero_add]
    exact hc i _ (range_map_at hi)

/-- A list of relations in blocks from B on: it reads so wherever these blocks are as they are. -/
def RelsOwn (w : World) (B : Nat) (v : Value) (rs : List (Int × List (List Int))) : Prop := ∀ w' : World, (∀ g, B ≤ g → g < w.heap.size → w'.heap[g]? = w.heap[g]?) → RelsAt w' v rs
theorem RelsOwn.at {w : World} {B : Nat} {v : Value} {rs : List (Int × List (List Int))} (h : RelsOwn w B v rs) : RelsAt w v rs := h w fun _ _ _ => rfl
theorem RelsOwn.stored {w : World} {B : Nat} {v : Value} {rs : List (Int × List (List Int))} (h : RelsOwn w B v rs) {p : Addr} (hp : p.block < B) (u : Value) : RelsOwn (w.setCell p u) B v rs := by
  intro w' hw
  refine h w' fun g h1 h2 => ?_
  rw [hw g h1 (by simpa [World.setCell] using h2)]
  exact Below.heap_setCell _ _ _ _ (by omega)
theorem RelsOwn.mono {w : World} {B B' : Nat} {v : Value} {rs : List (Int × List (List Int))} (h : RelsOwn w B v rs) (hB : B' ≤ B) : RelsOwn w B' v rs := fun w' hw => h w' fun g h1 h2 => hw g (by omega) h2

theorem RelsPart.reads {w wr : World} {U : Nat → Value} {rs : List (Int × List (List Int))} (h : RelsPart w wr rs.length rs.length U rs) (hl : rs.length ≤ 9223372036854775807) :
    RelsOwn wr w.heap.size (.slice (some ⟨w.heap.size, 0, none⟩) rs.length rs.length) rs := by
  intro w' hw
  refine ⟨_, _, rfl, hl, fun _ => ⟨w.heap.size, 0, rfl, fun i hi => ?_⟩⟩
  obtain ⟨xs, h0, h2⟩ := h.outer
  have h1 := ownsRow_same h0 fun g hv => hw g (h0.lt g hv).1 (h0.lt g hv).2
  obtain ⟨e1, e2⟩ := h2 i hi
  obtain ⟨a, m, c, e, hg⟩ := h.rows i hi
  rw [Nat.zero_add]
  refine ⟨?_, a, m, c, ?_, ?_⟩
  · rw [h1.cellAt (i * 2) (by omega)]; exact e1
  · rw [h1.cellAt (i * 2 + 1) (by omega), e2, e]
  · rw [← e]; exact hg.gridAt_same fun g a1 a2 => hw g (by omega) a2

/-- A list of relations of its own, made by the call; nothing that was there has turned. -/
def MadeRels (w : World) (rs : List (Int × List (List Int))) (e : Ending) (w' : World) : Prop := ∃ a n c, e = .returned (.slice a n c) ∧ RelsOwn w' w.heap.size (.slice a n c) rs ∧ Below w.heap.size w w'

set_option maxHeartbeats 1000000 in
theorem toRels (v : Value) (rs : List (Int × List (List Int))) (w : World) (h : RelsAt w v rs) (hl : relsSize rs ≤ 1048576) :
    Calls Try.prog 31 #[v] w (MadeRels w rs) := by
  obtain ⟨a, c, rfl, hn, hc⟩ := h
  obtain ⟨i0, hi, hz0, hz1, hz2⟩ := info_parts info_rel
  have HC := Lib.hid hc
  have hlen : rs.length ≤ 1048576 := by unfold relsSize at hl; omega
  clear hc
  go_enter Try.func31, Try.ntmps31
  go_wp2_with (at_make; refine wpList_make_full _ rfl _ _ 35 rfl w.heap.size 81 i0 (.agg #[.int .i64 0, .slice none 0 0]) 2 Try.underlying35 hi hz0 hz1 .i64 .i64 _ _ rs.length rfl rfl rfl rfl (by rw [hz2]; omega) (by unfold maxLen; omega) (Nat.le_refl _) ?_; intro w1 hown hgrow)
  have hp0 : RelsPart w w1 rs.length 0 (fun _ => .slice none 0 0) rs :=
    ⟨⟨_, hown, fun i hi => absurd hi (by omega)⟩, fun i hi => absurd hi (by omega), (Below.refl _ _).grown hgrow (Nat.le_refl _) (fun _ h => by simp at h), (hown.lt _ rfl).2⟩
  clear hown hgrow
  go_loopw [4] (fun i wr => ∃ (k : Nat) (U : Nat → Value), k ≤ rs.length ∧ i = .int .i64 k ∧ RelsPart w wr rs.length k U rs) (fun i _ => rs.length - (intOf i).toNat)
  case atStart => exact ⟨0, _, Nat.zero_le _, rfl, hp0⟩
  case round =>
    obtain ⟨k, U, hk, rfl, hp⟩ := hrel
    clear hp0
    by_cases hlt : k < rs.length
    · obtain ⟨b, off, ha, hcell⟩ := HC.out (by omega)
      subst ha
      obtain ⟨hx0, a1, n1, c1, hx1, hg⟩ := (hcell k hlt).below hp.below
      have HG := Lib.hid hg
      have hgl := Lib.hid (grid_le rs hlt)
      have HL : Hid ((gridN rs k).length + ((gridN rs k).map List.length).sum ≤ 1048576) := by
        have := hgl.out
        show _ ≤ _
        unfold gridSize at this
        omega
      have HP := Lib.hid hp
      clear hcell hp hg
      go_wp2_with fail
      refine (toRel _ _ _ _ _ _ HG.out HL.out).mono ?_
      rintro e w2 ⟨a2, n2, c2, rfl, ho, hb2⟩
      have hst := HP.out.step hlt ho hb2
      obtain ⟨xs, hown0, -⟩ := HP.out.outer
      have hxl := ownsRow_len hown0
      have hown := ownsRow_below hown0 hb2
      obtain ⟨o2, hc2⟩ : ∃ u, w2.cell? ⟨w.heap.size, k * 2, none⟩ = some u := ⟨_, (hown.cellAt (k * 2) (by omega)).trans (List.getElem?_eq_getElem (by omega))⟩
      obtain ⟨o3, hc3⟩ : ∃ u, w2.cell? ⟨w.heap.size, k * 2 + 1, none⟩ = some u := ⟨_, (hown.cellAt (k * 2 + 1) (by omega)).trans (List.getElem?_eq_getElem (by omega))⟩
      have hf2 := hown.frozenAt (k * 2)
      have hf3 := hown.frozenAt (k * 2 + 1)
      have HS := Lib.hid hst
      clear hown hst ho hb2 hown0 hxl
      go_wp2
      go_roundw
      case rel => exact ⟨k + 1, _, by omega, by go_num, HS.out⟩
      case measure => simp [intOf]; omega
    · obtain rfl : k = rs.length := by omega
      have HP := Lib.hid hp
      clear hp
      go_wp2
      go_ret
      exact ⟨_, _, _, rfl, HP.out.reads hn, HP.out.below⟩

/-- A template of its own. -/
def MadeTemplate (w : World) (sz : Int) (rs : List (Int × List (List Int))) (e : Ending) (w' : World) : Prop :=
  ∃ a n c, e = .returned (.agg #[.int .i64 sz, .slice a n c]) ∧ RelsOwn w' w.heap.size (.slice a n c) rs ∧ Below w.heap.size w w'

set_option maxHeartbeats 400000 in
theorem toTemplate (sz : Int) (a : Option Addr) (n c : Nat) (rs : List (Int × List (List Int))) (w : World) (h : RelsAt w (.slice a n c) rs) (hl : relsSize rs ≤ 1048576) :
    Calls Try.prog 9 #[.agg #[.int .i64 sz, .slice a n c]] w (MadeTemplate w sz rs) := by
  have hH := Lib.hid h
  clear h
  go_enter Try.func9, Try.ntmps9
  go_wp2_with fail
  refine (toRels _ _ _ (hH.out.below ((((Below.refl _ _).alloc (Nat.le_refl _) _).alloc (by simp) _).alloc (by simp; omega) _)) hl).mono ?_
  rintro e w2 ⟨a2, n2, c2, rfl, ho, hb2⟩
  obtain ⟨hc, hf⟩ := bcell hb2
  have hz : w.heap.size + 3 ≤ w2.heap.size := by have := hb2.size; simp at this; omega
  have HO := Lib.hid ho
  have HB := Lib.hid hb2
  clear ho hb2
  go_wp2
  refine bodyPost_ret (v := .agg #[.int .i64 sz, .slice a2 n2 c2]) (by simp [results, Try.results9, go_sem, hc]) rfl ⟨a2, n2, c2, rfl, ?_, ?_⟩
  · exact (((HO.out.stored (by simp) _).stored (by simp) _).stored (by simp) _).mono (by simp; omega)
  · exact ((((((((Below.refl _ _).alloc (Nat.le_refl _) _).alloc (by simp) _).alloc (by simp; omega) _).trans (HB.out.mono (by simp; omega))).setCell (by simp; omega) _).setCell (by simp) _).setCell (by simp) _)

def eqT (a : Int) (rs : List (Int × List (List Int))) (b : Int) (qs : List (Int × List (List Int))) : Bool := eqB a b && eqB rs qs
theorem eqT_same (a : Int) (rs : List (Int × List (List Int))) : eqT a rs a rs = true := by simp [eqT, eqB]

theorem Kept.two0 {w w1 : World} {C : List (Addr × Value)} {R : List (World → Prop)} (h : Kept w C R w1) {a b a' b' : Addr} {x y x' y' : Value}
    (h1 : w1.cell? a = some x) (h2 : w1.cell? a' = some x') (h3 : w1.cell? b = some y) (h4 : w1.cell? b' = some y') :
    w1.cell? a = some x ∧ w1.cell? a' = some x' ∧ w1.cell? b = some y ∧ w1.cell? b' = some y' ∧ Kept w C R w1 := ⟨h1, h2, h3, h4, h⟩

set_option maxHeartbeats 1000000 in
theorem eqRels (v1 v2 : Value) (rs qs : List (Int × List (List Int))) (w : World) (h1 : RelsAt w v1 rs) (h2 : RelsAt w v2 qs) :
    Calls Try.prog 39 #[v1, v2] w fun e w' => e = .returned (.bool (eqB rs qs)) ∧ Below w.heap.size w w' := by
  obtain ⟨a1, c1, rfl, hn1, hc1⟩ := h1
  obtain ⟨a2, c2, rfl, hn2, hc2⟩ := h2
  have HC1 := Lib.hid hc1
  have HC2 := Lib.hid hc2
  clear hc1 hc2
  by_cases hl : rs.length = qs.length
  · rw [← hl] at hn2 HC2 ⊢
    have HL := Lib.hid hl
    clear hl
    go_enter Try.func39, Try.ntmps39
    go_wp2
    go_loopw [5] (fun i wr => ∃ k : Nat, k ≤ rs.length ∧ i = .int .i64 k ∧ (∀ j, j < k → arN rs j = arN qs j ∧ gridN rs j = gridN qs j) ∧ Below w.heap.size w wr) (fun i _ => rs.length - (intOf i).toNat)
    case atStart => exact ⟨0, Nat.zero_le _, rfl, fun j hj => absurd hj (Nat.not_lt_zero _), Below.refl _ _⟩
    case round =>
      obtain ⟨k, hk, rfl, hall, hb⟩ := hrel
      have HA := Lib.hid hall
      have HB := Lib.hid hb
      clear hall hb
      by_cases hlt : k < rs.length
      · obtain ⟨b1, off1, ha1, hcell1⟩ := HC1.out (by omega)
        subst ha1
        obtain ⟨b2, off2, ha2, hcell2⟩ := HC2.out (by omega)
        subst ha2
        obtain ⟨hx0, A1, N1, C1, hx1, hg1⟩ := (hcell1 k hlt).below HB.out
        obtain ⟨hy0, A2, N2, C2, hy1, hg2⟩ := (hcell2 k hlt).below HB.out
        have hlt' : (k : Int) < (rs.length : Int) := by omega
        have K0 := Lib.hid ((((Kept.start w).below HB.out).read (lives_grid _ _) hg2).read (lives_grid _ _) hg1)
        clear hcell1 hcell2 hg1 hg2
        cases hbb : eqR (arN rs k) (gridN rs k) (arN qs k) (gridN qs k) with
        | true =>
          have HE : Hid (arN rs k = arN qs k ∧ gridN rs k = gridN qs k) := by
            simp only [eqR, Bool.and_eq_true] at hbb
            exact ⟨eqB_true hbb.1, eqB_true hbb.2⟩
          have HBB := Lib.hid hbb
          clear hbb
          go_wp2
          go_region_held3 (fun w' => w'.cell? ⟨b1, off1 + k * 2, none⟩ = some (.int .i64 (arN rs k)) ∧ w'.cell? ⟨b1, off1 + k * 2 + 1, none⟩ = some (.slice A1 N1 C1) ∧ w'.cell? ⟨b2, off2 + k * 2, none⟩ = some (.int .i64 (arN qs k)) ∧ w'.cell? ⟨b2, off2 + k * 2 + 1, none⟩ = some (.slice A2 N2 C2) ∧ Kept w [] [fun w => GridAt w (.slice A1 N1 C1) (gridN rs k), fun w => GridAt w (.slice A2 N2 C2) (gridN qs k)] w')
            (first | exact two_below (by assumption) hb5 | exact two_below (K0.out.two0 hx0 hx1 hy0 hy1) ((QW.refl _).drew.below _))
            (first | (go_at_call 67; refine (eqRel' _ _ _ _ _ _ _ _ _ _ true _ (two_grid (by assumption) 0 (by rfl)) (two_grid (by assumption) 1 (by rfl)) HBB.out).mono ?_; rintro e w5 ⟨rfl, hb5⟩))
          have HB5 := Lib.hid (K0.out.drew.below hb5).bel
          clear hb5
          go_wp2
          go_roundw
          case rel =>
            refine ⟨k + 1, by omega, by go_num, fun j hj => ?_, HB5.out⟩
            by_cases hjk : j = k
            · subst hjk; exact HE.out
            · exact HA.out j (by omega)
          case measure => simp [intOf]; omega
        | false =>
          have HF := Lib.hid (eqB_no (x := rs) (y := qs) (fun e => by rw [e, eqR_same] at hbb; cases hbb))
          have HBB := Lib.hid hbb
          clear hbb
          go_wp2
          go_region_held3 (fun w' => w'.cell? ⟨b1, off1 + k * 2, none⟩ = some (.int .i64 (arN rs k)) ∧ w'.cell? ⟨b1, off1 + k * 2 + 1, none⟩ = some (.slice A1 N1 C1) ∧ w'.cell? ⟨b2, off2 + k * 2, none⟩ = some (.int .i64 (arN qs k)) ∧ w'.cell? ⟨b2, off2 + k * 2 + 1, none⟩ = some (.slice A2 N2 C2) ∧ Kept w [] [fun w => GridAt w (.slice A1 N1 C1) (gridN rs k), fun w => GridAt w (.slice A2 N2 C2) (gridN qs k)] w')
            (first | exact two_below (by assumption) hb5 | exact two_below (K0.out.two0 hx0 hx1 hy0 hy1) ((QW.refl _).drew.below _))
            (first | (go_at_call 67; refine (eqRel' _ _ _ _ _ _ _ _ _ _ false _ (two_grid (by assumption) 0 (by rfl)) (two_grid (by assumption) 1 (by rfl)) HBB.out).mono ?_; rintro e w5 ⟨rfl, hb5⟩))
          have HB5 := Lib.hid (K0.out.drew.below hb5).bel
          clear hb5
          go_wp2
          go_ret
          exact ⟨ret_bool HF.out.symm, HB5.out⟩
      · obtain rfl : k = rs.length := by omega
        have HF := Lib.hid (eqB_yes (rels_ext HL.out HA.out))
        go_wp2
        go_ret
        exact ⟨ret_bool HF.out.symm, HB.out⟩
  · have HF := Lib.hid (eqB_no (x := rs) (y := qs) (fun e => hl (by rw [e])))
    have hlb : ((rs.length : Int) == qs.length) = false := beq_eq_false_iff_ne.2 (by omega)
    go_enter Try.func39, Try.ntmps39
    go_wp2
    go_ret
    exact ⟨ret_bool HF.out.symm, Below.refl _ _⟩

theorem eqRels' (v1 v2 : Value) (rs qs : List (Int × List (List Int))) (b : Bool) (w : World) (h1 : RelsAt w v1 rs) (h2 : RelsAt w v2 qs) (hb : eqB rs qs = b) :
    Calls Try.prog 39 #[v1, v2] w fun e w' => e = .returned (.bool b) ∧ Below w.heap.size w w' := hb ▸ eqRels v1 v2 rs qs w h1 h2

set_option maxHeartbeats 400000 in
theorem eqTemplate (x : Int) (a1 : Option Addr) (n1 c1 : Nat) (rs : List (Int × List (List Int))) (y : Int) (a2 : Option Addr) (n2 c2 : Nat) (qs : List (Int × List (List Int))) (w : World) (h1 : RelsAt w (.slice a1 n1 c1) rs) (h2 : RelsAt w (.slice a2 n2 c2) qs) :
    Calls Try.prog 13 #[.agg #[.int .i64 x, .slice a1 n1 c1], .agg #[.int .i64 y, .slice a2 n2 c2]] w fun e w' => e = .returned (.bool (eqT x rs y qs)) ∧ Below w.heap.size w w' := by
  have H1 := Lib.hid h1
  have H2 := Lib.hid h2
  clear h1 h2
  by_cases hxy : x = y
  · subst hxy
    have HF : Hid (eqT x rs x qs = eqB rs qs) := by simp [Hid, eqT, eqB]
    cases hb : eqB rs qs with
    | true =>
      have HB := Lib.hid hb
      clear hb
      go_enter Try.func13, Try.ntmps13
      go_wp2_with fail
      have hbw := ((Below.refl w.heap.size w).alloc (Nat.le_refl _) (.cells #[.int .i64 x, .slice a1 n1 c1] 37)).alloc (by simp) (.cells #[.int .i64 x, .slice a2 n2 c2] 37)
      refine (eqRels' _ _ _ _ _ _ (H1.out.below hbw) (H2.out.below hbw) HB.out).mono ?_
      rintro e w2 ⟨rfl, hq⟩
      have HQ := Lib.hid (hbw.trans (hq.mono hbw.size))
      clear hq hbw
      go_wp2
      go_ret
      exact ⟨ret_bool (by rw [HF.out, HB.out]), HQ.out⟩
    | false =>
      have HB := Lib.hid hb
      clear hb
      go_enter Try.func13, Try.ntmps13
      go_wp2_with fail
      have hbw := ((Below.refl w.heap.size w).alloc (Nat.le_refl _) (.cells #[.int .i64 x, .slice a1 n1 c1] 37)).alloc (by simp) (.cells #[.int .i64 x, .slice a2 n2 c2] 37)
      refine (eqRels' _ _ _ _ _ _ (H1.out.below hbw) (H2.out.below hbw) HB.out).mono ?_
      rintro e w2 ⟨rfl, hq⟩
      have HQ := Lib.hid (hbw.trans (hq.mono hbw.size))
      clear hq hbw
      go_wp2
      go_ret
      exact ⟨ret_bool (by rw [HF.out, HB.out]), HQ.out⟩
  · have HF : Hid (eqT x rs y qs = false) := by simp [Hid, eqT, eqB, hxy]
    have hne : (x == y) = false := beq_eq_false_iff_ne.2 hxy
    go_enter Try.func13, Try.ntmps13
    go_wp2
    go_ret
    exact ⟨ret_bool HF.out.symm, ((Below.refl _ _).alloc (Nat.le_refl _) _).alloc (by simp) _⟩

theorem eqTemplate' (x : Int) (a1 : Option Addr) (n1 c1 : Nat) (rs : List (Int × List (List Int))) (y : Int) (a2 : Option Addr) (n2 c2 : Nat) (qs : List (Int × List (List Int))) (b : Bool) (w : World) (h1 : RelsAt w (.slice a1 n1 c1) rs) (h2 : RelsAt w (.slice a2 n2 c2) qs) (hb : eqT x rs y qs = b) :
    Calls Try.prog 13 #[.agg #[.int .i64 x, .slice a1 n1 c1], .agg #[.int .i64 y, .slice a2 n2 c2]] w fun e w' => e = .returned (.bool b) ∧ Below w.heap.size w w' := hb ▸ eqTemplate x a1 n1 c1 rs y a2 n2 c2 qs w h1 h2

end Go.Proofs.Ytnbgpeoceejolab

namespace Go.Proofs.Ytnbgpeoceejolab
open Go.RowKit

def TplOk (sz : Int) (rs : List (Int × List (List Int))) : Prop := In14 sz ∧ rs.length ≤ 6 ∧ ∀ k, k < rs.length → RelOk sz (arN rs k) (gridN rs k)

structure TplAt (w : World) (b o : Nat) (sz : Int) (rs : List (Int × List (List Int))) : Prop where
  size : w.cell? ⟨b, o, none⟩ = some (.int .i64 sz)
  rels : ∃ a n c, w.cell? ⟨b, o + 1, none⟩ = some (.slice a n c) ∧ RelsAt w (.slice a n c) rs

theorem TplAt.below {w w' : World} {b o : Nat} {sz : Int} {rs : List (Int × List (List Int))} (h : TplAt w b o sz rs) (hb : Below w.heap.size w w') : TplAt w' b o sz rs := by
  obtain ⟨h1, a, n, c, h2, h3⟩ := h
  exact ⟨below_cell hb h1, a, n, c, below_cell hb h2, h3.below hb⟩

theorem RelAt.qw {w w' : World} {b o : Nat} {ar : Int} {xss : List (List Int)} (h : RelAt w b o ar xss) (hq : QW w w') : RelAt w' b o ar xss := h.below hq.bel

set_option maxHeartbeats 1000000 in
set_option maxRecDepth 100000 in
theorem l01Template (pb po : Nat) (sz : Int) (rs : List (Int × List (List Int))) (b : Bool) (w : World) (h : TplAt w pb po sz rs) (hb : Tells b (TplOk sz rs)) :
    Calls Try.prog 70 #[.pointer (some ⟨pb, po, none⟩)] w fun e w' => e = .returned (.bool b) ∧ QW w w' := by
  obtain ⟨hp0, a, n, c, hp1, a', c', hv, hn, hc⟩ := h
  simp only [Value.slice.injEq] at hv
  obtain ⟨rfl, rfl, rfl⟩ := hv
  have HC := Lib.hid hc
  have HB := Lib.hid hb
  clear hc hb
  go_enter Try.func70, Try.ntmps70
  go_wp2
  go_loopw [3] (fun i wr => ∃ k : Nat, k ≤ rs.length ∧ i = .int .i64 k ∧ (∀ j, j < k → RelOk sz (arN rs j) (gridN rs j)) ∧ QW w wr) (fun i _ => rs.length - (intOf i).toNat)
  case atStart => exact ⟨0, Nat.zero_le _, rfl, fun j hj => absurd hj (Nat.not_lt_zero _), QW.refl _⟩
  case round =>
    obtain ⟨k, hk, rfl, hall, hq⟩ := hrel
    have HA := Lib.hid hall
    have HQ := Lib.hid hq
    have hq0 := HQ.out.cell hp0
    have hq1 := HQ.out.cell hp1
    clear hall hq
    by_cases hlt : k < rs.length
    · obtain ⟨b1, off1, ha1, hcell1⟩ := HC.out (by omega)
      subst ha1
      have HR := Lib.hid (hcell1 k hlt)
      have hlt' : (k : Int) < (rs.length : Int) := by omega
      clear hcell1
      by_cases ht : RelOk sz (arN rs k) (gridN rs k)
      · have HT := Lib.hid (Tells.yes ht)
        have HTP := Lib.hid ht
        clear ht
        go_wp2
        go_quiet ((go_at_call 83; exact QW.calls (l01Ok _ _ _ _ _ true _ (HR.out.qw (HQ.out.drewN _)) HT.out)))
        go_wp2
        go_roundw
        case rel =>
          refine ⟨k + 1, by omega, by go_num, fun j hj => ?_, HQ.out.drewN _⟩
          by_cases hjk : j = k
          · subst hjk; exact HTP.out
          · exact HA.out j (by omega)
        case measure => simp [intOf]; omega
      · have HT := Lib.hid (Tells.no ht)
        have HF := Lib.hid (HB.out.is_false fun h => ht (h.2.2 k hlt))
        clear ht
        go_wp2
        go_quiet ((go_at_call 83; exact QW.calls (l01Ok _ _ _ _ _ false _ (HR.out.qw (HQ.out.drewN _)) HT.out)))
        go_wp2
        go_ret
        exact ⟨ret_bool HF.out.symm, HQ.out.drewN _⟩
    · obtain rfl : k = rs.length := by omega
      by_cases hs : In14 sz
      · have HS := Lib.hid (Tells.yes hs)
        by_cases h6 : rs.length ≤ 6
        · have HF := Lib.hid (HB.out.is_true ⟨hs, h6, HA.out⟩)
          have h6' : (rs.length : Int) ≤ 6 := by omega
          clear hs
          go_wp2_with (go_at_call 84; refine (l01Size _ true _ HS.out).mono ?_; rintro e w' ⟨rfl, rfl⟩)
          go_ret
          exact ⟨ret_bool (by first | exact HF.out.symm | simp [HF.out, h6']), HQ.out⟩
        · have HF := Lib.hid (HB.out.is_false fun h => h6 h.2.1)
          have h6' : (6 : Int) < (rs.length : Int) := by omega
          clear hs
          go_wp2_with (go_at_call 84; refine (l01Size _ true _ HS.out).mono ?_; rintro e w' ⟨rfl, rfl⟩)
          go_ret
          exact ⟨ret_bool (by first | exact HF.out.symm | simp [HF.out, h6']), HQ.out⟩
      · have HS := Lib.hid (Tells.no hs)
        have HF := Lib.hid (HB.out.is_false fun h => hs h.1)
        clear hs
        go_wp2_with (go_at_call 84; refine (l01Size _ false _ HS.out).mono ?_; rintro e w' ⟨rfl, rfl⟩)
        go_ret
        exact ⟨ret_bool HF.out.symm, HQ.out⟩

set_option maxHeartbeats 1000000 in
set_option maxRecDepth 100000 in
theorem implValidTemplate (sz : Int) (a : Option Addr) (n c : Nat) (rs : List (Int × List (List Int))) (b : Bool) (w : World) (h : RelsAt w (.slice a n c) rs) (hb : Tells b (TplOk sz rs)) :
    Calls Try.prog 73 #[.agg #[.int .i64 sz, .slice a n c]] w fun e w' => e = .returned (.bool b) ∧ Below w.heap.size w w' := by
  have HBW := Lib.hid ((Below.refl w.heap.size w).alloc (Nat.le_refl _) (.cells #[.int .i64 sz, .slice a n c] 37))
  have H := Lib.hid (h.below HBW.out)
  have HB := Lib.hid hb
  clear h hb
  obtain ⟨a', c', hv, hn, hc⟩ := H.out
  clear H
  simp only [Value.slice.injEq] at hv
  obtain ⟨rfl, rfl, rfl⟩ := hv
  have HC := Lib.hid hc
  clear hc
  by_cases hs : In14 sz
  · by_cases h6 : rs.length ≤ 6
    · have HS := Lib.hid (Tells.yes hs)
      have HSP := Lib.hid hs
      have h6' : ¬ (6 : Int) < (rs.length : Int) := by omega
      clear hs
      have k0 : (w.alloc (.cells #[.int .i64 sz, .slice a rs.length c] 37)).cell? ⟨w.heap.size, 0, none⟩ = some (.int .i64 sz) := by simp
      have hz0 : (w.alloc (.cells #[.int .i64 sz, .slice a rs.length c] 37)).heap.size = w.heap.size + 1 := by simp
      go_enter Try.func73, Try.ntmps73
      go_wp2_with (go_at_call 85; refine (isSize _ true _ HS.out).mono ?_; rintro e w' ⟨rfl, rfl⟩)
      go_loopw [4, 18] (fun _ i wr => ∃ k : Nat, k ≤ rs.length ∧ i = .int .i64 k ∧ (∀ j, j < k → RelOk sz (arN rs j) (gridN rs j)) ∧ Below (w.alloc (.cells #[.int .i64 sz, .slice a rs.length c] 37)).heap.size (w.alloc (.cells #[.int .i64 sz, .slice a rs.length c] 37)) wr) (fun _ i _ => rs.length - (intOf i).toNat)
      case atStart => exact ⟨0, Nat.zero_le _, rfl, fun j hj => absurd hj (Nat.not_lt_zero _), Below.refl _ _⟩
      case round =>
        obtain ⟨k, hk, rfl, hall, hb⟩ := hrel
        have HA := Lib.hid hall
        have HBR := Lib.hid hb
        have k1 := below_cell HBR.out k0
        have hsz := HBR.out.size
        clear hall hb
        rw [hz0] at hsz
        by_cases hlt : k < rs.length
        · obtain ⟨b1, off1, ha1, hcell1⟩ := HC.out (by omega)
          subst ha1
          obtain ⟨hx0, a1, n1, c1, hx1, hg1⟩ := (hcell1 k hlt).below HBR.out
          have HG := Lib.hid hg1
          have hlt' : (k : Int) < (rs.length : Int) := by omega
          have HBA := Lib.hid ((Below.refl wr.heap.size wr).alloc (Nat.le_refl _) (.cells #[.int .i64 (arN rs k), .slice a1 n1 c1] 81))
          have k2 := below_cell HBA.out k1
          have hne : w.heap.size ≠ wr.heap.size := by omega
          have hne2 : ¬ wr.heap.size = w.heap.size := by omega
          clear hcell1 hg1
          by_cases ht : RelOk sz (arN rs k) (gridN rs k)
          · have HT := Lib.hid (Tells.yes ht)
            have HTP := Lib.hid ht
            clear ht
            go_wp2_with fail
            refine (implValidRel _ _ _ _ _ _ true _ (HG.out.below HBA.out) HT.out).mono ?_
            rintro e w2 ⟨rfl, hb2⟩
            have HB2 := Lib.hid (HBR.out.trans ((HBA.out.trans (hb2.mono HBA.out.size)).mono HBR.out.size))
            clear hb2
            go_wp2
            go_roundw
            case rel =>
              refine ⟨k + 1, by omega, by go_num, fun j hj => ?_, HB2.out⟩
              by_cases hjk : j = k
              · subst hjk; exact HTP.out
              · exact HA.out j (by omega)
            case measure => simp [intOf]; omega
          · have HT := Lib.hid (Tells.no ht)
            have HF := Lib.hid (HB.out.is_false fun h => ht (h.2.2 k hlt))
            clear ht
            go_wp2_with fail
            refine (implValidRel _ _ _ _ _ _ false _ (HG.out.below HBA.out) HT.out).mono ?_
            rintro e w2 ⟨rfl, hb2⟩
            have HB2 := Lib.hid (HBR.out.trans ((HBA.out.trans (hb2.mono HBA.out.size)).mono HBR.out.size))
            clear hb2
            go_wp2
            go_ret
            exact ⟨ret_bool HF.out.symm, HBW.out.trans (HB2.out.mono (by simp))⟩
        · obtain rfl : k = rs.length := by omega
          have HF := Lib.hid (HB.out.is_true ⟨HSP.out, h6, HA.out⟩)
          go_wp2
          go_ret
          exact ⟨ret_bool HF.out.symm, HBW.out.trans (HBR.out.mono (by simp))⟩
    · have HS := Lib.hid (Tells.yes hs)
      have HF := Lib.hid (HB.out.is_false fun h => h6 h.2.1)
      have h6' : (6 : Int) < (rs.length : Int) := by omega
      clear hs
      go_enter Try.func73, Try.ntmps73
      go_wp2_with (go_at_call 85; refine (isSize _ true _ HS.out).mono ?_; rintro e w' ⟨rfl, rfl⟩)
      go_ret
      exact ⟨ret_bool HF.out.symm, HBW.out⟩
  · have HS := Lib.hid (Tells.no hs)
    have HF := Lib.hid (HB.out.is_false fun h => hs h.1)
    clear hs
    go_enter Try.func73, Try.ntmps73
    go_wp2_with (go_at_call 85; refine (isSize _ false _ HS.out).mono ?_; rintro e w' ⟨rfl, rfl⟩)
    go_ret
    exact ⟨ret_bool HF.out.symm, HBW.out⟩

end Go.Proofs.Ytnbgpeoceejolab

namespace Go.Proofs.Ytnbgpeoceejolab
open Go.RowKit

def mapK (to xs : List Int) (k : Nat) : List Int := (List.range k).map fun i => intN to (intN xs i).toNat
def mapped (to xs : List Int) : List Int := mapK to xs xs.length
theorem mapK_len (to xs : List Int) (k : Nat) : (mapK to xs k).length = k := by simp [mapK]
theorem mapK_succ (to xs : List Int) (k : Nat) : (mapK to xs (k + 1)).map (Value.int .i64) = (mapK to xs k).map (Value.int .i64) ++ [.int .i64 (intN to (intN xs k).toNat)] := by simp [mapK, List.range_succ]
theorem mapped_len (to xs : List Int) : (mapped to xs).length = xs.length := mapK_len _ _ _
theorem mapped_at (to xs : List Int) (k : Nat) (h : k < xs.length) : intN (mapped to xs) k = intN to (intN xs k).toNat := by
  rw [intN_at _ _ (by rw [mapped_len]; exact h)]
  simp [mapped, mapK]

theorem info_int' : (Try.prog.info? 2).map (fun i => (i.zero, i.size, i.bytes)) = some (some (.int .i64 0), 1, 8) := by kernel_rfl

set_option maxHeartbeats 1000000 in
theorem l01Mapped (v1 v2 : Value) (xs to : List Int) (w : World) (h1 : RowAt w v1 xs) (h2 : RowAt w v2 to) (hl : xs.length ≤ 4) (hr : ∀ i, i < xs.length → 0 ≤ intN xs i ∧ intN xs i < to.length) :
    Calls Try.prog 57 #[v1, v2] w (fun e w' => ∃ a n c, e = .returned (.slice a n c) ∧ RowAt w' (.slice a n c) (mapped to xs) ∧ Below w.heap.size w w') := by
  obtain ⟨i0, hi, hz0, hz1, hz2⟩ := info_parts info_int'
  obtain ⟨a1, c1, rfl, hn1, hc1⟩ := h1
  obtain ⟨a2, c2, rfl, hn2, hc2⟩ := h2
  have HC1 := Lib.hid hc1
  have HC2 := Lib.hid hc2
  have HR := Lib.hid hr
  clear hc1 hc2 hr
  go_enter Try.func57, Try.ntmps57
  go_wp2
  go_loopw [5, 6] (fun v i wr => ∃ (k : Nat) (a : Option Addr) (n c : Nat), k ≤ xs.length ∧ i = .int .i64 k ∧ v = .slice a n c ∧ wr.ownsRow w.heap.size 2 1 (.slice a n c) k ((mapK to xs k).map (Value.int .i64)) ∧ Below w.heap.size w wr) (fun _ i _ => xs.length - (intOf i).toNat)
  case atStart => exact ⟨0, _, _, _, Nat.zero_le _, rfl, rfl, ownRow_lit w w.heap.size [] (Nat.le_refl _) (by simp), (Below.refl _ _).alloc (Nat.le_refl _) _⟩
  case round =>
    obtain ⟨k, a, n, c, hk, rfl, rfl, hown, hbel⟩ := hrel
    by_cases hlt : k < xs.length
    · obtain ⟨b1, off1, ha1, hcell1⟩ := HC1.out (by omega)
      subst ha1
      obtain ⟨g0, g1⟩ := HR.out k hlt
      obtain ⟨b2, off2, ha2, hcell2⟩ := HC2.out (by omega)
      subst ha2
      have hx1 := below_cell hbel (hcell1 k hlt)
      have hx2 := below_cell hbel (hcell2 (intN xs k).toNat (by omega))
      have hlt' : (k : Int) < (xs.length : Int) := by omega
      have HO := Lib.hid hown
      have HW := Lib.hid hbel
      have hc1 := cell_one_new wr (.int .i64 (intN to (intN xs k).toNat)) 2
      have HC1' := Lib.hid hc1
      clear hcell1 hcell2 hown hbel hc1
      go_wp2_with (at_builtin; refine wpList_append_own _ rfl _ _ 45 rfl w.heap.size 2 i0 (.int .i64 0) 1 8 Try.underlying45 hi hz0 hz1 hz2 rfl (by decide) (.slice a n c) k _ rfl (HO.out.alloc _) ⟨wr.heap.size, 0, none⟩ 1 1 [.int .i64 (intN to (intN xs k).toNat)] rfl rfl HC1'.out (by simp [Value.oneCell']) (by unfold maxLen; omega) (by omega) (by have := HW.out.size; simp; omega) ?_; intro v' w3 hown' hgrow _; obtain ⟨g', c', rfl⟩ := ownsRow_succ hown'; have HG3 := Lib.hid hown'; have HR3 := Lib.hid hgrow; clear hown' hgrow)
      go_roundw
      case rel =>
        refine ⟨k + 1, _, _, _, by omega, by go_num, rfl, ?_, ((HW.out.alloc HW.out.size _).grown HR3.out (by have := HW.out.size; simp; omega) (fun q hq => (HO.out.lt q hq).1))⟩
        rw [mapK_succ]; exact HG3.out
      case measure => simp [intOf]; omega
    · obtain rfl : k = xs.length := by omega
      have HE : Hid (OwnRow wr w.heap.size (.slice a n c) (mapped to xs)) := by
        show World.ownsRow _ _ _ _ _ _ _
        rw [mapped_len]
        exact hown
      have HW := Lib.hid hbel
      clear hown hbel
      go_wp2
      go_ret
      exact ⟨_, _, _, rfl, HE.out.rowAt, HW.out⟩

def MapsP (rs qs : List (Int × List (List Int))) (to : List Int) : Prop := ∀ i, i < rs.length → ∀ j, j < (gridN rs i).length → HasP (gridN qs i) (mapped to (rowN (gridN rs i) j))

theorem lives_rel (b o : Nat) (ar : Int) (xss : List (List Int)) : Lives (fun w => RelAt w b o ar xss) := fun _ _ hb h => h.below hb
theorem two_rel {w w1 : World} {C : List (Addr × Value)} {R : List (World → Prop)} {a b a' b' : Addr} {x y x' y' : Value}
    (h : w1.cell? a = some x ∧ w1.cell? a' = some x' ∧ w1.cell? b = some y ∧ w1.cell? b' = some y' ∧ Kept w C R w1) (i : Nat) {p o : Nat} {ar : Int} {xss : List (List Int)} (hi : R[i]? = some (fun w => RelAt w p o ar xss)) : RelAt w1 p o ar xss := h.2.2.2.2.reads i _ hi

end Go.Proofs.Ytnbgpeoceejolab

namespace Go.Proofs.Ytnbgpeoceejolab
open Go.RowKit

end Go.Proofs.Ytnbgpeoceejolab

namespace Go.Proofs.Ytnbgpeoceejolab
open Go.RowKit

/-- Relations of one number and of the same arities. -/
def SameAr (rs qs : List (Int × List (List Int))) : Prop := rs.length = qs.length ∧ ∀ i, i < rs.length → arN rs i = arN qs i
/-- The code of two templates. -/
def ArIs (x : Int) (rs : List (Int × List (List Int))) (y : Int) (qs : List (Int × List (List Int))) (c : Int) : Prop :=
  (¬ TplOk x rs ∧ c = 1) ∨ (TplOk x rs ∧ ¬ TplOk y qs ∧ c = 1) ∨ (TplOk x rs ∧ TplOk y qs ∧ ((SameAr rs qs ∧ c = 0) ∨ (¬ SameAr rs qs ∧ c = 4)))
theorem ArIs.exists (x : Int) (rs : List (Int × List (List Int))) (y : Int) (qs : List (Int × List (List Int))) : ∃ c, ArIs x rs y qs c := by
  by_cases h1 : TplOk x rs
  · by_cases h2 : TplOk y qs
    · by_cases h3 : SameAr rs qs
      · exact ⟨0, .inr (.inr ⟨h1, h2, .inl ⟨h3, rfl⟩⟩)⟩
      · exact ⟨4, .inr (.inr ⟨h1, h2, .inr ⟨h3, rfl⟩⟩)⟩
    · exact ⟨1, .inr (.inl ⟨h1, h2, rfl⟩)⟩
  · exact ⟨1, .inl ⟨h1, rfl⟩⟩
theorem ArIs.ok {x y : Int} {rs qs : List (Int × List (List Int))} (h : ArIs x rs y qs 0) : TplOk x rs ∧ TplOk y qs ∧ SameAr rs qs := by
  rcases h with ⟨_, h⟩ | ⟨_, _, h⟩ | ⟨h1, h2, ⟨h3, _⟩ | ⟨_, h⟩⟩
  · cases h
  · cases h
  · exact ⟨h1, h2, h3⟩
  · cases h

/-- What IsMapOf answers. -/
def MapIs (x : Int) (rs : List (Int × List (List Int))) (y : Int) (qs : List (Int × List (List Int))) (to : List Int) (b : Bool) (c : Int) : Prop :=
  (ArIs x rs y qs c ∧ c ≠ 0 ∧ b = false) ∨ (ArIs x rs y qs 0 ∧ ((¬ TupP y x to ∧ b = false ∧ c = 2) ∨ (TupP y x to ∧ Tells b (MapsP rs qs to) ∧ c = 0)))
theorem MapIs.exists (x : Int) (rs : List (Int × List (List Int))) (y : Int) (qs : List (Int × List (List Int))) (to : List Int) : ∃ b c, MapIs x rs y qs to b c := by
  obtain ⟨c, hc⟩ := ArIs.exists x rs y qs
  by_cases h0 : c = 0
  · subst h0
    by_cases ht : TupP y x to
    · by_cases hm : MapsP rs qs to
      · exact ⟨true, 0, .inr ⟨hc, .inr ⟨ht, Tells.yes hm, rfl⟩⟩⟩
      · exact ⟨false, 0, .inr ⟨hc, .inr ⟨ht, Tells.no hm, rfl⟩⟩⟩
    · exact ⟨false, 2, .inr ⟨hc, .inl ⟨ht, rfl, rfl⟩⟩⟩
  · exact ⟨false, c, .inl ⟨hc, h0, rfl⟩⟩

end Go.Proofs.Ytnbgpeoceejolab

namespace Go.Proofs.Ytnbgpeoceejolab
open Go.RowKit

theorem MapsP.range {x y : Int} {rs : List (Int × List (List Int))} {to : List Int} (h1 : TplOk x rs) (ht : TupP y x to) : ∀ i, i < rs.length → ∀ j, j < (gridN rs i).length → (rowN (gridN rs i) j).length ≤ 4 ∧ ∀ k, k < (rowN (gridN rs i) j).length → 0 ≤ intN (rowN (gridN rs i) j) k ∧ intN (rowN (gridN rs i) j) k < to.length := by
  intro i hi j hj
  have hr := h1.2.2 i hi
  have hu := (hr.2.2 j hj).1
  refine ⟨hu.len hr.2.1, fun k hk => ?_⟩
  have hk2 := hu.2 k hk
  have hx := ht.1
  omega

end Go.Proofs.Ytnbgpeoceejolab

namespace Go.Proofs.Ytnbgpeoceejolab
open Go.RowKit

def mapG (to : List Int) (xss : List (List Int)) : List (List Int) := xss.map (mapped to)
theorem mapG_len (to : List Int) (xss : List (List Int)) : (mapG to xss).length = xss.length := by simp [mapG]
theorem mapG_at (to : List Int) (xss : List (List Int)) (j : Nat) (h : j < xss.length) : rowN (mapG to xss) j = mapped to (rowN xss j) := by
  rw [rowN_at _ _ (by rw [mapG_len]; exact h), rowN_at _ _ h]
  simp [mapG]

theorem mapped_tup {x y ar : Int} {to xs : List Int} (ht : TupP y x to) (h : TupP x ar xs) : TupP y ar (mapped to xs) := by
  refine ⟨by rw [mapped_len]; exact h.1, fun k hk => ?_⟩
  rw [mapped_len] at hk
  rw [mapped_at _ _ _ hk]
  have h1 := h.2 k hk
  have h2 := ht.1
  exact ht.2 _ (by omega)

theorem part_mapped {size x : Int} {xs ys : List (List Int)} (h0 : In14 size) (h3 : In14 x) (h1 : ∀ j, j < xs.length → TupP size x (rowN xs j)) (h2 : RelOk size x ys) : SubP (setOf size xs) (setOf size ys) ↔ ∀ j, j < xs.length → HasP ys (rowN xs j) := by
  constructor
  · intro h j hj
    obtain ⟨i, hi, he⟩ := (setK_iff _ _).1 (h (codeN size (rowN xs j)) (codeN_lt (h1 j hj) h0 h3) ((setK_iff _ _).2 ⟨j, hj, rfl⟩))
    exact ⟨i, hi, codeN_inj (h2.2.2 i hi).1 (h1 j hj) h0 h3 he⟩
  · intro h n _ hs
    obtain ⟨j, hj, rfl⟩ := (setK_iff _ _).1 hs
    obtain ⟨i, hi, he⟩ := h j hj
    exact (setK_iff _ _).2 ⟨i, hi, by rw [he]⟩

end Go.Proofs.Ytnbgpeoceejolab
