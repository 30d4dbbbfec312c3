/-
  Lists of relations of their own: the laws' copies and marks of them, and of templates.
-/
import Derived.Test.YtnbgpeoceejolabGMaps
import Derived.Test.YtnbgpeoceejolabGBase
import Derived.Test.YtnbgpeoceejolabSegs
namespace Go.Proofs.Ytnbgpeoceejolab
open Go.RowKit

def relCell (ar : Nat → Int) (V : Nat → Value) (j : Nat) : Value := if j % 2 = 0 then .int .i64 (ar (j / 2)) else V (j / 2)
theorem relCell0 (ar : Nat → Int) (V : Nat → Value) (i : Nat) : relCell ar V (i * 2) = .int .i64 (ar i) := by
  unfold relCell
  rw [if_pos (by omega), show i * 2 / 2 = i by omega]
theorem relCell1 (ar : Nat → Int) (V : Nat → Value) (i : Nat) : relCell ar V (i * 2 + 1) = V i := by
  unfold relCell
  rw [if_neg (by omega), show (i * 2 + 1) / 2 = i by omega]

/-- A list of relations of its own, by its numbers and grids. -/
def OwnRelsV (w : World) (B E : Nat) (v : Value) (n : Nat) (V : Nat → Value) (lo hi : Nat → Nat) (ar : Nat → Int) (gr : Nat → List (List Int)) : Prop :=
  Segs 81 2 w B E v n (relCell ar V) lo hi fun i w lo hi => OwnGrid w lo hi (V i) (gr i)
def OwnRels (w : World) (B E : Nat) (v : Value) (rs : List (Int × List (List Int))) : Prop := ∃ V lo hi, OwnRelsV w B E v rs.length V lo hi (arN rs) (gridN rs)

theorem GridAt.slice {w : World} {v : Value} {xs : List (List Int)} (h : GridAt w v xs) : ∃ a n c, v = .slice a n c ∧ GridAt w (.slice a n c) xs := by
  have h' := h
  obtain ⟨_, ⟨a, c, rfl, _⟩, _⟩ := h'
  exact ⟨a, _, c, rfl, h⟩

theorem OwnRels.at {w : World} {B E : Nat} {v : Value} {rs : List (Int × List (List Int))} (h : OwnRels w B E v rs) : RelsAt w v rs := by
  obtain ⟨V, lo, hi, h⟩ := h
  rcases Segs.parts h with ⟨rfl, hn⟩ | ⟨g, c, rfl, _, _, h1, h2⟩
  · obtain rfl : rs = [] := List.length_eq_zero_iff.1 hn
    exact RelsAt.nil w
  · refine ⟨_, c, rfl, by unfold maxLen at h2; omega, fun _ => ⟨g, 0, rfl, fun i hi' => ?_⟩⟩
    have e1 := Segs.cellAt h (i * 2) (by omega)
    have e2 := Segs.cellAt h (i * 2 + 1) (by omega)
    rw [relCell0] at e1
    rw [relCell1] at e2
    obtain ⟨a, m, c', he, hr⟩ := (OwnGrid.gridAt (h.seg i hi')).slice
    rw [Nat.zero_add]
    exact ⟨e1, a, m, c', by rw [e2, he], hr⟩
theorem OwnRels.same {w w' : World} {B E : Nat} {v : Value} {rs : List (Int × List (List Int))} (h : OwnRels w B E v rs) (hs : E ≤ w'.heap.size) (hg : ∀ g, B ≤ g → g < E → w'.heap[g]? = w.heap[g]?) : OwnRels w' B E v rs := by
  obtain ⟨V, lo, hi, h⟩ := h
  exact ⟨V, lo, hi, Segs.same h hs hg⟩
theorem ownRels_le {w : World} {B E : Nat} {v : Value} {rs : List (Int × List (List Int))} (h : OwnRels w B E v rs) : E ≤ w.heap.size := by
  obtain ⟨V, lo, hi, h⟩ := h
  exact h.le
theorem OwnRels.below {w w' : World} {B E : Nat} {v : Value} {rs : List (Int × List (List Int))} (h : OwnRels w B E v rs) (hb : Below w.heap.size w w') : OwnRels w' B E v rs :=
  h.same (Nat.le_trans (ownRels_le h) hb.size) fun g _ h2 => hb.block g (Nat.lt_of_lt_of_le h2 (ownRels_le h))
theorem OwnRels.stored {w : World} {B E : Nat} {v : Value} {rs : List (Int × List (List Int))} (h : OwnRels w B E v rs) {p : Addr} (hp : p.block < B) (u : Value) : OwnRels (w.setCell p u) B E v rs := by
  obtain ⟨V, lo, hi, h⟩ := h
  exact ⟨V, lo, hi, Segs.stored h (.inl hp) u⟩
theorem OwnRels.mono {w : World} {B B' E : Nat} {v : Value} {rs : List (Int × List (List Int))} (h : OwnRels w B E v rs) (hB : B' ≤ B) : OwnRels w B' E v rs := by
  obtain ⟨V, lo, hi, h⟩ := h
  exact ⟨V, lo, hi, Segs.mono h hB (Nat.le_refl _) h.le⟩
theorem OwnRels.full {w : World} {B E : Nat} {v : Value} {rs : List (Int × List (List Int))} (h : OwnRels w B E v rs) : OwnRels w B w.heap.size v rs := by
  obtain ⟨V, lo, hi, h⟩ := h
  exact ⟨V, lo, hi, Segs.mono h (Nat.le_refl _) h.le (Nat.le_refl _)⟩
theorem lives_ownRels (B E : Nat) (v : Value) (rs : List (Int × List (List Int))) : Lives (fun w => OwnRels w B E v rs) := fun _ _ hb h => h.below hb
theorem stab_ownRels {w : World} {B E : Nat} {v : Value} {rs : List (Int × List (List Int))} (h : OwnRels w B E v rs) : Stab B E (fun w => OwnRels w B E v rs) w := fun _ h1 h2 => h.same (Nat.le_trans (ownRels_le h) h1) h2

/-- A list of relations of which k are made. -/
structure RelsMade (w wr : World) (n k : Nat) (rs : List (Int × List (List Int))) (cell : Nat → Value) (V : Nat → Value) (lo hi : Nat → Nat) : Prop where
  outer : wr.ownsRow w.heap.size 81 2 (.slice (some ⟨w.heap.size, 0, none⟩) n n) n ((List.range (n * 2)).map cell)
  cells : ∀ i, i < k → cell (i * 2) = .int .i64 (arN rs i) ∧ cell (i * 2 + 1) = V i
  seg : ∀ i, i < k → OwnGrid wr (lo i) (hi i) (V i) (gridN rs i) ∧ w.heap.size + 1 ≤ lo i ∧ hi i ≤ wr.heap.size
  disj : ∀ i j, i < j → j < k → hi i ≤ lo j
  below : Below w.heap.size w wr
  size : w.heap.size + 1 ≤ wr.heap.size

theorem range_set2 (n j : Nat) (cell : Nat → Value) (u : Value) : ((List.range n).map cell).set j u = (List.range n).map fun i => if i = j then u else cell i := by
  apply List.ext_getElem?
  intro i
  rw [List.getElem?_set]
  by_cases hij : j = i
  · subst hij
    by_cases hj : j < n <;> simp [hj]
  · rw [if_neg hij]
    by_cases hi' : i < n
    · simp [hi', show ¬ i = j from fun e => hij e.symm]
    · simp [hi']

theorem RelsMade.step {w wr w2 : World} {n k : Nat} {rs : List (Int × List (List Int))} {cell V : Nat → Value} {lo hi : Nat → Nat} {a : Option Addr} {m c : Nat} (h : RelsMade w wr n k rs cell V lo hi)
    (ho : OwnGrid w2 wr.heap.size w2.heap.size (.slice a m c) (gridN rs k)) (hb : Below wr.heap.size wr w2) :
    RelsMade w ((w2.setCell ⟨w.heap.size, k * 2, none⟩ (.int .i64 (arN rs k))).setCell ⟨w.heap.size, k * 2 + 1, none⟩ (.slice a m c)) n (k + 1) rs
      (fun j => if j = k * 2 + 1 then .slice a m c else if j = k * 2 then .int .i64 (arN rs k) else cell j) (fun i => if i = k then .slice a m c else V i) (fun i => if i = k then wr.heap.size else lo i) (fun i => if i = k then w2.heap.size else hi i) := by
  have hs := hb.size
  have hsz := h.size
  have h3 := ((ownsRow_below h.outer hb).stored (k * 2) (.int .i64 (arN rs k))).1.stored (k * 2 + 1) (.slice a m c)
  rw [range_set2, range_set2] at h3
  have hz : ∀ (u : Value) (ys : List (List Int)) (B E : Nat), w.heap.size + 1 ≤ B → OwnGrid w2 B E u ys → OwnGrid ((w2.setCell ⟨w.heap.size, k * 2, none⟩ (.int .i64 (arN rs k))).setCell ⟨w.heap.size, k * 2 + 1, none⟩ (.slice a m c)) B E u ys := by
    intro u ys B E hB hu
    have hE : E ≤ w2.heap.size := by obtain ⟨_, hu⟩ := hu; exact hu.le
    refine hu.same (by simpa [World.setCell] using hE) fun g h1 _ => ?_
    rw [Below.heap_setCell _ _ _ _ (show g ≠ w.heap.size by omega), Below.heap_setCell _ _ _ _ (show g ≠ w.heap.size by omega)]
  refine ⟨h3.1, fun i hi' => ?_, fun i hi' => ?_, fun i j hij hj => ?_, ?_, ?_⟩
  · by_cases hik : i = k
    · subst hik; simp
    · obtain ⟨e1, e2⟩ := h.cells i (by omega)
      simp only [hik, if_false]
      rw [if_neg (by omega), if_neg (by omega), if_neg (by omega), if_neg (by omega)]
      exact ⟨e1, e2⟩
  · by_cases hik : i = k
    · subst hik
      simp only [if_true]
      exact ⟨hz _ _ _ _ hsz ho, hsz, by simp [World.setCell]⟩
    · simp only [hik, if_false]
      obtain ⟨e1, e2, e3⟩ := h.seg i (by omega)
      exact ⟨hz _ _ _ _ e2 (e1.below hb), e2, by simp [World.setCell]; omega⟩
  · by_cases hjk : j = k
    · subst hjk
      simp only [show ¬ i = j by omega, if_false, if_true]
      exact (h.seg i hij).2.2
    · simp only [show ¬ i = k by omega, hjk, if_false]
      exact h.disj i j hij (by omega)
  · exact ((h.below.trans (hb.mono (by omega))).setCell (Nat.le_refl _) _).setCell (Nat.le_refl _) _
  · simp [World.setCell]
    omega

theorem RelsMade.own {w wr : World} {rs : List (Int × List (List Int))} {cell V : Nat → Value} {lo hi : Nat → Nat} (h : RelsMade w wr rs.length rs.length rs cell V lo hi) :
    OwnRels wr w.heap.size wr.heap.size (.slice (some ⟨w.heap.size, 0, none⟩) rs.length rs.length) rs := by
  refine ⟨V, lo, hi, ?_, Nat.le_refl _, fun g hg => (h.outer.lt g hg).2, fun i hi' => (h.seg i hi').1, fun i _ => sure_grid _ _, fun i hi' => by have := (h.seg i hi').2.1; omega, fun i hi' => (h.seg i hi').2.2, h.disj, fun i hi' g hg => ?_⟩
  · have e : (List.range (rs.length * 2)).map cell = (List.range (rs.length * 2)).map (relCell (arN rs) V) := List.map_congr_left fun j hj => by
      have hj := List.mem_range.1 hj
      obtain ⟨e1, e2⟩ := h.cells (j / 2) (by omega)
      rcases Nat.mod_two_eq_zero_or_one j with hm | hm
      · rw [show j = j / 2 * 2 by omega, relCell0]
        exact e1
      · rw [show j = j / 2 * 2 + 1 by omega, relCell1]
        exact e2
    exact e ▸ h.outer
  · simp only [Value.ownBlock, Option.some.injEq] at hg
    have := (h.seg i hi').2.1
    omega

/-- A list of relations of its own, made by the call; nothing that was there has turned. -/
def MadeRelsE (w : World) (rs : List (Int × List (List Int))) (e : Ending) (w' : World) : Prop := ∃ a n c, e = .returned (.slice a n c) ∧ OwnRels w' w.heap.size w'.heap.size (.slice a n c) rs ∧ Below w.heap.size w w'

set_option maxHeartbeats 1000000 in
theorem toRelsE (v : Value) (rs : List (Int × List (List Int))) (w : World) (h : RelsAt w v rs) (hl : relsSize rs ≤ 1048576) :
    Calls Try.prog 31 #[v] w (MadeRelsE w rs) := by
  obtain ⟨a, c, rfl, hn, hc⟩ := h
  obtain ⟨i0, hi, hz0, hz1, hz2⟩ := info_parts info_rel
  have HC := Lib.hid hc
  have hlen : rs.length ≤ 1048576 := by unfold relsSize at hl; omega
  clear hc
  go_enter Try.func31, Try.ntmps31
  go_wp2_with (at_make; refine wpList_make_full _ rfl _ _ 35 rfl w.heap.size 81 i0 (.agg #[.int .i64 0, .slice none 0 0]) 2 Try.underlying35 hi hz0 hz1 .i64 .i64 _ _ rs.length rfl rfl rfl rfl (by rw [hz2]; omega) (by unfold maxLen; omega) (Nat.le_refl _) ?_; intro w1 hown hgrow)
  obtain ⟨cell0, hcell0⟩ : ∃ cell : Nat → Value, w1.ownsRow w.heap.size 81 2 (.slice (some ⟨w.heap.size, 0, none⟩) rs.length rs.length) rs.length ((List.range (rs.length * 2)).map cell) := by
    have hl := ownsRow_len hown
    generalize (madeCells (Value.agg #[Value.int IntKind.i64 0, Value.slice none 0 0]).cells (rs.length * 2)).toList = l at hown hl
    refine ⟨fun j => l.getD j undef, ?_⟩
    have e : (List.range (rs.length * 2)).map (fun j => l.getD j undef) = l := by
      apply List.ext_getElem?
      intro j
      by_cases hj : j < l.length
      · simp [show j < rs.length * 2 by omega, hj]
      · simp [show ¬ j < rs.length * 2 by omega, hj]
    rw [e]
    exact hown
  have hp0 : RelsMade w w1 rs.length 0 rs cell0 (fun _ => undef) (fun _ => 0) (fun _ => 0) :=
    ⟨hcell0, fun i hi => absurd hi (by omega), fun i hi => absurd hi (by omega), fun i j _ hj => absurd hj (by omega), (Below.refl _ _).grown hgrow (Nat.le_refl _) (fun _ h => by simp at h), (hown.lt _ rfl).2⟩
  clear hown hgrow hcell0
  go_loopw [4] (fun i wr => ∃ (k : Nat) (cell V : Nat → Value) (lo hi : Nat → Nat), k ≤ rs.length ∧ i = .int .i64 k ∧ RelsMade w wr rs.length k rs cell V lo hi) (fun i _ => rs.length - (intOf i).toNat)
  case atStart => exact ⟨0, _, _, _, _, Nat.zero_le _, rfl, hp0⟩
  case round =>
    obtain ⟨k, cell, V, lo, hi, hk, rfl, hp⟩ := hrel
    clear hp0
    by_cases hlt : k < rs.length
    · obtain ⟨b, off, ha, hcell⟩ := HC.out (by omega)
      subst ha
      obtain ⟨hx0, a1, n1, c1, hx1, hg⟩ := (hcell k hlt).below hp.below
      have HG := Lib.hid hg
      have hgl := Lib.hid (grid_le rs hlt)
      have HL : Hid ((gridN rs k).length + ((gridN rs k).map List.length).sum ≤ 1048576) := by
        have := hgl.out
        show _ ≤ _
        unfold gridSize at this
        omega
      have HP := Lib.hid hp
      clear hcell hp hg
      go_wp2_with fail
      refine (toRel _ _ _ _ _ _ HG.out HL.out).mono ?_
      rintro e w2 ⟨a2, n2, c2, rfl, ho, hb2⟩
      have hst := HP.out.step ho hb2
      have hown0 := HP.out.outer
      have hown := ownsRow_below hown0 hb2
      have hxl := ownsRow_len hown
      obtain ⟨o2, hc2⟩ : ∃ u, w2.cell? ⟨w.heap.size, k * 2, none⟩ = some u := ⟨_, (hown.cellAt (k * 2) (by omega)).trans (List.getElem?_eq_getElem (by omega))⟩
      obtain ⟨o3, hc3⟩ : ∃ u, w2.cell? ⟨w.heap.size, k * 2 + 1, none⟩ = some u := ⟨_, (hown.cellAt (k * 2 + 1) (by omega)).trans (List.getElem?_eq_getElem (by omega))⟩
      have hf2 := hown.frozenAt (k * 2)
      have hf3 := hown.frozenAt (k * 2 + 1)
      have HS := Lib.hid hst
      clear hown hst ho hb2 hown0 hxl
      go_wp2
      go_roundw
      case rel => exact ⟨k + 1, _, _, _, _, by omega, by go_num, HS.out⟩
      case measure => simp [intOf]; omega
    · obtain rfl : k = rs.length := by omega
      have HP := Lib.hid hp
      clear hp
      go_wp2
      go_ret
      exact ⟨_, _, _, rfl, HP.out.own, HP.out.below⟩

/-- A template of its own. -/
def MadeTemplateE (w : World) (sz : Int) (rs : List (Int × List (List Int))) (e : Ending) (w' : World) : Prop :=
  ∃ a n c, e = .returned (.agg #[.int .i64 sz, .slice a n c]) ∧ OwnRels w' w.heap.size w'.heap.size (.slice a n c) rs ∧ Below w.heap.size w w'

set_option maxHeartbeats 400000 in
theorem toTemplateE (sz : Int) (a : Option Addr) (n c : Nat) (rs : List (Int × List (List Int))) (w : World) (h : RelsAt w (.slice a n c) rs) (hl : relsSize rs ≤ 1048576) :
    Calls Try.prog 9 #[.agg #[.int .i64 sz, .slice a n c]] w (MadeTemplateE w sz rs) := by
  have hH := Lib.hid h
  clear h
  go_enter Try.func9, Try.ntmps9
  go_wp2_with fail
  refine (toRelsE _ _ _ (hH.out.below ((((Below.refl _ _).alloc (Nat.le_refl _) _).alloc (by simp) _).alloc (by simp; omega) _)) hl).mono ?_
  rintro e w2 ⟨a2, n2, c2, rfl, ho, hb2⟩
  obtain ⟨hc, hf⟩ := bcell hb2
  have hz : w.heap.size + 3 ≤ w2.heap.size := by have := hb2.size; simp at this; omega
  have HO := Lib.hid ho
  have HB := Lib.hid hb2
  clear ho hb2
  go_wp2
  refine bodyPost_ret (v := .agg #[.int .i64 sz, .slice a2 n2 c2]) (by simp [results, Try.results9, go_sem, hc]) rfl ⟨a2, n2, c2, rfl, ?_, ?_⟩
  · exact ((((HO.out.stored (by simp) _).stored (by simp) _).stored (by simp) _).mono (by simp; omega)).full
  · exact ((((((((Below.refl _ _).alloc (Nat.le_refl _) _).alloc (by simp) _).alloc (by simp; omega) _).trans (HB.out.mono (by simp; omega))).setCell (by simp; omega) _).setCell (by simp) _).setCell (by simp) _)

/-- Where the marks of the i-th begin. -/
def offR (rs : List (Int × List (List Int))) : Nat → Nat
  | 0 => 0
  | i + 1 => offR rs i + 1 + ((gridN rs i).map List.length).sum
theorem offR_zero (rs : List (Int × List (List Int))) : offR rs 0 = 0 := rfl
theorem offR_succ (rs : List (Int × List (List Int))) (i : Nat) : offR rs (i + 1) = offR rs i + 1 + ((gridN rs i).map List.length).sum := rfl
theorem offR_mono (rs : List (Int × List (List Int))) {i n : Nat} (h : i ≤ n) : offR rs i ≤ offR rs n := by
  induction n with
  | zero => obtain rfl : i = 0 := by omega
            exact Nat.le_refl _
  | succ n ih =>
    by_cases hk : i = n + 1
    · subst hk; exact Nat.le_refl _
    · have := ih (by omega)
      rw [offR_succ]; omega
theorem offR_size (rs : List (Int × List (List Int))) : ∀ n, offR rs n ≤ n + partR rs n
  | 0 => by simp [offR]
  | n + 1 => by
    have := offR_size rs n
    rw [offR_succ, partR_succ]
    unfold gridSize
    omega
theorem offR_le (rs : List (Int × List (List Int))) : offR rs rs.length ≤ relsSize rs := offR_size rs rs.length
def marksR (k0 : Int) (rs : List (Int × List (List Int))) : List (Int × List (List Int)) := (List.range rs.length).map fun (i : Nat) => (k0 + (offR rs i : Int), marksG (k0 + (offR rs i : Int) + 1) (gridN rs i))
theorem marksR_length (k0 : Int) (rs : List (Int × List (List Int))) : (marksR k0 rs).length = rs.length := by simp [marksR]
theorem marksR_ar (k0 : Int) (rs : List (Int × List (List Int))) (i : Nat) (h : i < rs.length) : arN (marksR k0 rs) i = k0 + (offR rs i : Int) := by simp [marksR, arN, List.getD, h]
theorem marksR_grid (k0 : Int) (rs : List (Int × List (List Int))) (i : Nat) (h : i < rs.length) : gridN (marksR k0 rs) i = marksG (k0 + (offR rs i : Int) + 1) (gridN rs i) := by simp [marksR, gridN, List.getD, h]

theorem OwnRelsV.congr {w : World} {B E n : Nat} {v : Value} {V : Nat → Value} {lo hi : Nat → Nat} {ar ar' : Nat → Int} {gr gr' : Nat → List (List Int)} (h : OwnRelsV w B E v n V lo hi ar gr) (ha : ∀ i, i < n → ar i = ar' i) (hr : ∀ i, i < n → gr i = gr' i) : OwnRelsV w B E v n V lo hi ar' gr' :=
  Segs.congr h (fun j hj => by unfold relCell; split; rw [ha (j / 2) (by omega)]; rfl) (fun i hi' => by rw [hr i hi'])
theorem OwnRelsV.setAr {w : World} {B E n g c : Nat} {V : Nat → Value} {lo hi : Nat → Nat} {ar : Nat → Int} {gr : Nat → List (List Int)} (h : OwnRelsV w B E (.slice (some ⟨g, 0, none⟩) n c) n V lo hi ar gr) (k : Nat) (z : Int) :
    OwnRelsV (w.setCell ⟨g, k * 2, none⟩ (.int .i64 z)) B E (.slice (some ⟨g, 0, none⟩) n c) n V lo hi (fun i => if i = k then z else ar i) gr :=
  Segs.congr (Segs.setTop h (k * 2) (.int .i64 z)) (fun j hj => by
    by_cases hjk : j = k * 2
    · subst hjk; rw [if_pos rfl, relCell0, if_pos rfl]
    · rw [if_neg hjk]
      unfold relCell
      split
      · show Value.int .i64 (ar (j / 2)) = Value.int .i64 (if j / 2 = k then z else ar (j / 2))
        rw [if_neg (by omega)]
      · rfl) (fun _ _ => rfl)
theorem OwnRelsV.setGrid {w w2 : World} {B E n k : Nat} {v : Value} {V : Nat → Value} {lo hi : Nat → Nat} {ar : Nat → Int} {gr : Nat → List (List Int)} {ys : List (List Int)} (h : OwnRelsV w B E v n V lo hi ar gr) (hk : k < n) (ho : OwnGrid w2 (lo k) (hi k) (V k) ys) (hn : Only (fun g => lo k ≤ g ∧ g < hi k) w w2) :
    OwnRelsV w2 B E v n V lo hi ar (fun i => if i = k then ys else gr i) :=
  Segs.congr (Segs.setSeg h hk (p := fun w lo hi => OwnGrid w lo hi (V k) ys) ho (sure_grid _ _) hn) (fun _ _ => rfl) (fun i _ => by
    by_cases hik : i = k
    · subst hik; simp
    · simp [hik])

set_option maxHeartbeats 1000000 in
theorem markRelS (B E : Nat) (v : Value) (rs : List (Int × List (List Int))) (k0 : Int) (w : World) (h : OwnRels w B E v rs) (hk0 : 0 ≤ k0) (hk1 : k0 + offR rs rs.length ≤ 1000000000000) :
    Calls Try.prog 40 #[v, .int .i64 k0] w fun e w' => e = .returned (.int .i64 (k0 + offR rs rs.length)) ∧ OwnRels w' B E v (marksR k0 rs) ∧ Only (fun g => B ≤ g ∧ g < E) w w' := by
  obtain ⟨V, lo, hi, h⟩ := h
  rcases Segs.parts h with ⟨rfl, hn⟩ | ⟨g, c, rfl, hgB, hgE, hc, hm⟩
  · obtain rfl : rs = [] := List.length_eq_zero_iff.1 hn
    have HO : Hid (OwnRels w B E (.slice none 0 0) (marksR k0 ([] : List (Int × List (List Int))))) := ⟨fun _ => undef, fun _ => 0, fun _ => 0, Segs.nil _ _ w B E _ _ _ _ h.le⟩
    clear h
    go_enter Try.func40, Try.ntmps40
    go_wp2
    go_loopw [1, 5] (fun m i wr => i = .int .i64 0 ∧ m = .int .i64 k0 ∧ wr = w) (fun _ _ _ => 0)
    case atStart => exact ⟨rfl, rfl, rfl⟩
    case round =>
      obtain ⟨rfl, rfl, rfl⟩ := hrel
      go_wp2
      go_ret
      exact ⟨ret_int (by simp [offR]), HO.out, Only.refl _ _⟩
  · have HO := Lib.hid h
    have hn : rs.length ≤ 9223372036854775807 := by unfold maxLen at hm; omega
    clear h
    go_enter Try.func40, Try.ntmps40
    go_wp2
    go_loopw [1, 5] (fun m i wr => ∃ k : Nat, k ≤ rs.length ∧ i = .int .i64 k ∧ m = .int .i64 (k0 + (offR rs k : Int)) ∧ OwnRelsV wr B E (.slice (some ⟨g, 0, none⟩) rs.length c) rs.length V lo hi (fun i => if i < k then k0 + (offR rs i : Int) else arN rs i) (fun i => if i < k then marksG (k0 + (offR rs i : Int) + 1) (gridN rs i) else gridN rs i) ∧ Only (fun g => B ≤ g ∧ g < E) w wr) (fun _ i _ => rs.length - (intOf i).toNat)
    case atStart => exact ⟨0, Nat.zero_le _, rfl, by rw [offR_zero]; simp, HO.out.congr (fun i _ => by simp) (fun i _ => by simp), Only.refl _ _⟩
    case round =>
      obtain ⟨k, hk, rfl, rfl, hown, hon⟩ := hrel
      by_cases hlt : k < rs.length
      · have hset := OwnRelsV.setAr hown k (k0 + (offR rs k : Int))
        have hc0 := Segs.cellAt hown (k * 2) (by omega)
        rw [relCell0] at hc0
        simp only [Nat.lt_irrefl, if_false] at hc0
        have hf0 := Segs.free hown (k * 2)
        have hc1 := Segs.cellAt hset (k * 2 + 1) (by omega)
        rw [relCell1] at hc1
        have hr := hset.seg k hlt
        simp only [Nat.lt_irrefl, if_false] at hr
        have hlo := hset.lower k hlt
        have hhi := hset.upper k hlt
        have HR := Lib.hid hr
        have hs := Lib.hid (offR_succ rs k)
        have hle := offR_mono rs (i := k + 1) (n := rs.length) (by omega)
        have hle2 : k0 + (offR rs k : Int) + 1 + (((gridN rs k).map List.length).sum : Int) ≤ 1000000000000 := by have := hs.out; omega
        have hlt' : (k : Int) < (rs.length : Int) := by omega
        have HW := Lib.hid hset
        have HN := Lib.hid (hon.setCell (p := ⟨g, k * 2, none⟩) (show B ≤ g ∧ g < E from ⟨hgB, hgE⟩) (.int .i64 (k0 + (offR rs k : Int))))
        clear hown hon hr hset
        go_wp2_with fail
        refine (markGrid (lo k) (hi k) _ _ _ _ HR.out (by omega) hle2).mono ?_
        rintro e w2 ⟨rfl, ho2, hn2⟩
        have HS := Lib.hid (OwnRelsV.setGrid HW.out hlt ho2 hn2)
        have HN2 := Lib.hid (HN.out.trans (hn2.mono fun g' hg' => ⟨by omega, by omega⟩))
        clear ho2 hn2
        go_wp2
        go_roundw
        case rel =>
          refine ⟨k + 1, by omega, by go_num, by rw [hs.out]; go_num, HS.out.congr (fun i hi => ?_) (fun i hi => ?_), HN2.out⟩
          · by_cases hik : i = k
            · subst hik; simp
            · by_cases h1 : i < k
              · simp [hik, h1, show i < k + 1 by omega]
              · simp [hik, h1, show ¬ i < k + 1 by omega]
          · by_cases hik : i = k
            · subst hik; simp
            · by_cases h1 : i < k
              · simp [hik, h1, show i < k + 1 by omega]
              · simp [hik, h1, show ¬ i < k + 1 by omega]
        case measure => simp [intOf]; omega
      · obtain rfl : k = rs.length := by omega
        have HE : Hid (OwnRels wr B E (.slice (some ⟨g, 0, none⟩) rs.length c) (marksR k0 rs)) := by
          refine ⟨V, lo, hi, ?_⟩
          rw [marksR_length]
          exact OwnRelsV.congr hown (fun i hi => by rw [if_pos hi, marksR_ar k0 rs i hi]) (fun i hi => by rw [if_pos hi, marksR_grid k0 rs i hi])
        have HN := Lib.hid hon
        clear hown hon
        go_wp2
        go_ret
        exact ⟨rfl, HE.out, HN.out⟩

end Go.Proofs.Ytnbgpeoceejolab
