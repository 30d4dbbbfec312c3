/-
  Copies of lists of relations and their comparison: toRelS, toTemplate, eqRelS, eqTemplate.
-/
import Derived.Test.YtfjfkmoeaenlbabRels
import Derived.Test.YtfjfkmoeaenlbabKept
namespace Go.Proofs.Ytfjfkmoeaenlbab
open Go.RowKit

theorem info_rel : (Try.prog.info? 63).map (fun i => (i.zero, i.size, i.bytes)) = some (some (.agg #[.int .i64 0, .slice none 0 0]), 2, 32) := by kernel_rfl

theorem lives_rels (v : Value) (rs : List (Int × List (List Int))) : Lives (fun w => RelsAt w v rs) := fun _ _ hb h => h.below hb
theorem Kept.rels {w w1 : World} {C : List (Addr × Value)} {R : List (World → Prop)} (h : Kept w C R w1) (i : Nat) {v : Value} {rs : List (Int × List (List Int))} (hi : R[i]? = some (fun w => RelsAt w v rs)) : RelsAt w1 v rs := h.reads i _ hi

/-- A list of relations of which k are made. -/
structure RelsPart (w wr : World) (n k : Nat) (U : Nat → Value) (rs : List (Int × List (List Int))) : Prop where
  outer : ∃ xs, wr.ownsRow w.heap.size 63 2 (.slice (some ⟨w.heap.size, 0, none⟩) n n) n xs ∧ ∀ i, i < k → xs[i * 2]? = some (.int .i64 (arN rs i)) ∧ xs[i * 2 + 1]? = some (U i)
  rows : ∀ i, i < k → ∃ a m c, U i = .slice a m c ∧ OwnGrid wr (w.heap.size + 1) wr.heap.size (U i) (gridN rs i)
  below : Below w.heap.size w wr
  size : w.heap.size + 1 ≤ wr.heap.size

theorem ownsRow_len {w : World} {B e s n : Nat} {v : Value} {xs : List Value} (h : w.ownsRow B e s v n xs) : xs.length = n * s := h.1

theorem RelsPart.step {w wr w2 : World} {n k : Nat} {U : Nat → Value} {rs : List (Int × List (List Int))} {a : Option Addr} {m c : Nat} (h : RelsPart w wr n k U rs) (hk : k < n)
    (ho : OwnGrid w2 wr.heap.size w2.heap.size (.slice a m c) (gridN rs k)) (hb : Below wr.heap.size wr w2) :
    RelsPart w ((w2.setCell ⟨w.heap.size, k * 2, none⟩ (.int .i64 (arN rs k))).setCell ⟨w.heap.size, k * 2 + 1, none⟩ (.slice a m c)) n (k + 1) (fun i => if i = k then .slice a m c else U i) rs := by
  have hs := hb.size
  have hsz := h.size
  obtain ⟨xs, h1, h2⟩ := h.outer
  have h3 := ((ownsRow_below h1 hb).stored (k * 2) (.int .i64 (arN rs k))).1.stored (k * 2 + 1) (.slice a m c)
  have hl := ownsRow_len h1
  have hz : ∀ (u : Value) (ys : List (List Int)) (B : Nat), w.heap.size + 1 ≤ B → OwnGrid w2 B w2.heap.size u ys → OwnGrid ((w2.setCell ⟨w.heap.size, k * 2, none⟩ (.int .i64 (arN rs k))).setCell ⟨w.heap.size, k * 2 + 1, none⟩ (.slice a m c)) (w.heap.size + 1) ((w2.setCell ⟨w.heap.size, k * 2, none⟩ (.int .i64 (arN rs k))).setCell ⟨w.heap.size, k * 2 + 1, none⟩ (.slice a m c)).heap.size u ys := by
    intro u ys B hB hu
    exact (((hu.stored (p := ⟨w.heap.size, k * 2, none⟩) (by show w.heap.size < B; omega) _).stored (p := ⟨w.heap.size, k * 2 + 1, none⟩) (by show w.heap.size < B; omega) _).mono hB).full
  refine ⟨⟨_, h3.1, fun i hi => ?_⟩, fun i hi => ?_, ?_, ?_⟩
  · by_cases hik : i = k
    · subst hik
      simp [List.getElem?_set, hl]
      omega
    · obtain ⟨e1, e2⟩ := h2 i (by omega)
      simp only [hik, if_false]
      rw [List.getElem?_set_ne (by omega), List.getElem?_set_ne (by omega), List.getElem?_set_ne (by omega), List.getElem?_set_ne (by omega)]
      exact ⟨e1, e2⟩
  · by_cases hik : i = k
    · subst hik
      simp only [if_true]
      exact ⟨a, m, c, rfl, hz _ _ _ hsz ho⟩
    · simp only [hik, if_false]
      obtain ⟨a', m', c', e, hg⟩ := h.rows i (by omega)
      exact ⟨a', m', c', e, hz _ _ _ (Nat.le_refl _) (hg.below hb).full⟩
  · exact ((h.below.trans (hb.mono (by omega))).setCell (Nat.le_refl _) _).setCell (Nat.le_refl _) _
  · simp [World.setCell]
    omega

theorem OwnGrid.gridAt_same {w w' : World} {B E : Nat} {v : Value} {xss : List (List Int)} (h : OwnGrid w B E v xss) (hg : ∀ g, B ≤ g → g < w.heap.size → w'.heap[g]? = w.heap[g]?) : GridAt w' v xss := by
  obtain ⟨V, h⟩ := h
  have ho := ownsRow_same h.outer fun g hv => hg g (h.outer.lt g hv).1 (h.outer.lt g hv).2
  refine ⟨V, ?_, fun i hi => OwnRow.rowAt (ownsRow_same (h.rows i hi) fun g hv => hg g ((h.rows i hi).lt g hv).1 ((h.rows i hi).lt g hv).2)⟩
  rcases ownsRow_parts ho with ⟨rfl, hn, _⟩ | ⟨g, c, rfl, _, _, h1, h2, _, hc⟩
  · exact ⟨none, 0, by rw [hn], by omega, fun h0 => by omega⟩
  · refine ⟨some ⟨g, 0, none⟩, c, rfl, by unfold maxLen at h2; omega, fun _ => ⟨g, 0, rfl, fun i hi => ?_⟩⟩
    rw [Nat.zero_add]
    exact hc i _ (range_map_at hi)

/-- A list of relations in blocks from B on: it reads so wherever these blocks are as they are. -/
def RelsOwn (w : World) (B : Nat) (v : Value) (rs : List (Int × List (List Int))) : Prop := ∀ w' : World, (∀ g, B ≤ g → g < w.heap.size → w'.heap[g]? = w.heap[g]?) → RelsAt w' v rs
theorem RelsOwn.at {w : World} {B : Nat} {v : Value} {rs : List (Int × List (List Int))} (h : RelsOwn w B v rs) : RelsAt w v rs := h w fun _ _ _ => rfl
theorem RelsOwn.stored {w : World} {B : Nat} {v : Value} {rs : List (Int × List (List Int))} (h : RelsOwn w B v rs) {p : Addr} (hp : p.block < B) (u : Value) : RelsOwn (w.setCell p u) B v rs := by
  intro w' hw
  refine h w' fun g h1 h2 => ?_
  rw [hw g h1 (by simpa [World.setCell] using h2)]
  exact Below.heap_setCell _ _ _ _ (by omega)
theorem RelsOwn.mono {w : World} {B B' : Nat} {v : Value} {rs : List (Int × List (List Int))} (h : RelsOwn w B v rs) (hB : B' ≤ B) : RelsOwn w B' v rs := fun w' hw => h w' fun g h1 h2 => hw g (by omega) h2

theorem RelsPart.reads {w wr : World} {U : Nat → Value} {rs : List (Int × List (List Int))} (h : RelsPart w wr rs.length rs.length U rs) (hl : rs.length ≤ 9223372036854775807) :
    RelsOwn wr w.heap.size (.slice (some ⟨w.heap.size, 0, none⟩) rs.length rs.length) rs := by
  intro w' hw
  refine ⟨_, _, rfl, hl, fun _ => ⟨w.heap.size, 0, rfl, fun i hi => ?_⟩⟩
  obtain ⟨xs, h0, h2⟩ := h.outer
  have h1 := ownsRow_same h0 fun g hv => hw g (h0.lt g hv).1 (h0.lt g hv).2
  obtain ⟨e1, e2⟩ := h2 i hi
  obtain ⟨a, m, c, e, hg⟩ := h.rows i hi
  rw [Nat.zero_add]
  refine ⟨?_, a, m, c, ?_, ?_⟩
  · rw [h1.cellAt (i * 2) (by omega)]; exact e1
  · rw [h1.cellAt (i * 2 + 1) (by omega), e2, e]
  · rw [← e]; exact hg.gridAt_same fun g a1 a2 => hw g (by omega) a2

/-- A list of relations of its own, made by the call; nothing that was there has turned. -/
def MadeRels (w : World) (rs : List (Int × List (List Int))) (e : Ending) (w' : World) : Prop := ∃ a n c, e = .returned (.slice a n c) ∧ RelsOwn w' w.heap.size (.slice a n c) rs ∧ Below w.heap.size w w'

set_option maxHeartbeats 1000000 in
theorem toRels (v : Value) (rs : List (Int × List (List Int))) (w : World) (h : RelsAt w v rs) (hl : relsSize rs ≤ 1048576) :
    Calls Try.prog 21 #[v] w (MadeRels w rs) := by
  obtain ⟨a, c, rfl, hn, hc⟩ := h
  obtain ⟨i0, hi, hz0, hz1, hz2⟩ := info_parts info_rel
  have HC := Lib.hid hc
  have hlen : rs.length ≤ 1048576 := by unfold relsSize at hl; omega
  clear hc
  go_enter Try.func21, Try.ntmps21
  go_wp2_with (at_make; refine wpList_make_full _ rfl _ _ 29 rfl w.heap.size 63 i0 (.agg #[.int .i64 0, .slice none 0 0]) 2 Try.underlying29 hi hz0 hz1 .i64 .i64 _ _ rs.length rfl rfl rfl rfl (by rw [hz2]; omega) (by unfold maxLen; omega) (Nat.le_refl _) ?_; intro w1 hown hgrow)
  have hp0 : RelsPart w w1 rs.length 0 (fun _ => .slice none 0 0) rs :=
    ⟨⟨_, hown, fun i hi => absurd hi (by omega)⟩, fun i hi => absurd hi (by omega), (Below.refl _ _).grown hgrow (Nat.le_refl _) (fun _ h => by simp at h), (hown.lt _ rfl).2⟩
  clear hown hgrow
  go_loopw [4] (fun i wr => ∃ (k : Nat) (U : Nat → Value), k ≤ rs.length ∧ i = .int .i64 k ∧ RelsPart w wr rs.length k U rs) (fun i _ => rs.length - (intOf i).toNat)
  case atStart => exact ⟨0, _, Nat.zero_le _, rfl, hp0⟩
  case round =>
    obtain ⟨k, U, hk, rfl, hp⟩ := hrel
    clear hp0
    by_cases hlt : k < rs.length
    · obtain ⟨b, off, ha, hcell⟩ := HC.out (by omega)
      subst ha
      obtain ⟨hx0, a1, n1, c1, hx1, hg⟩ := (hcell k hlt).below hp.below
      have HG := Lib.hid hg
      have hgl := Lib.hid (grid_le rs hlt)
      have HL : Hid ((gridN rs k).length + ((gridN rs k).map List.length).sum ≤ 1048576) := by
        have := hgl.out
        show _ ≤ _
        unfold gridSize at this
        omega
      have HP := Lib.hid hp
      clear hcell hp hg
      go_wp2_with fail
      refine (toRel _ _ _ _ _ _ HG.out HL.out).mono ?_
      rintro e w2 ⟨a2, n2, c2, rfl, ho, hb2⟩
      have hst := HP.out.step hlt ho hb2
      obtain ⟨xs, hown0, -⟩ := HP.out.outer
      have hxl := ownsRow_len hown0
      have hown := ownsRow_below hown0 hb2
      obtain ⟨o2, hc2⟩ : ∃ u, w2.cell? ⟨w.heap.size, k * 2, none⟩ = some u := ⟨_, (hown.cellAt (k * 2) (by omega)).trans (List.getElem?_eq_getElem (by omega))⟩
      obtain ⟨o3, hc3⟩ : ∃ u, w2.cell? ⟨w.heap.size, k * 2 + 1, none⟩ = some u := ⟨_, (hown.cellAt (k * 2 + 1) (by omega)).trans (List.getElem?_eq_getElem (by omega))⟩
      have hf2 := hown.frozenAt (k * 2)
      have hf3 := hown.frozenAt (k * 2 + 1)
      have HS := Lib.hid hst
      clear hown hst ho hb2 hown0 hxl
      go_wp2
      go_roundw
      case rel => exact ⟨k + 1, _, by omega, by go_num, HS.out⟩
      case measure => simp [intOf]; omega
    · obtain rfl : k = rs.length := by omega
      have HP := Lib.hid hp
      clear hp
      go_wp2
      go_ret
      exact ⟨_, _, _, rfl, HP.out.reads hn, HP.out.below⟩

/-- A template of its own. -/
def MadeTemplate (w : World) (sz : Int) (rs : List (Int × List (List Int))) (e : Ending) (w' : World) : Prop :=
  ∃ a n c, e = .returned (.agg #[.int .i64 sz, .slice a n c]) ∧ RelsOwn w' w.heap.size (.slice a n c) rs ∧ Below w.heap.size w w'

set_option maxHeartbeats 400000 in
theorem toTemplate (sz : Int) (a : Option Addr) (n c : Nat) (rs : List (Int × List (List Int))) (w : World) (h : RelsAt w (.slice a n c) rs) (hl : relsSize rs ≤ 1048576) :
    Calls Try.prog 7 #[.agg #[.int .i64 sz, .slice a n c]] w (MadeTemplate w sz rs) := by
  have hH := Lib.hid h
  clear h
  go_enter Try.func7, Try.ntmps7
  go_wp2_with fail
  refine (toRels _ _ _ (hH.out.below ((((Below.refl _ _).alloc (Nat.le_refl _) _).alloc (by simp) _).alloc (by simp; omega) _)) hl).mono ?_
  rintro e w2 ⟨a2, n2, c2, rfl, ho, hb2⟩
  obtain ⟨hc, hf⟩ := bcell hb2
  have hz : w.heap.size + 3 ≤ w2.heap.size := by have := hb2.size; simp at this; omega
  have HO := Lib.hid ho
  have HB := Lib.hid hb2
  clear ho hb2
  go_wp2
  refine bodyPost_ret (v := .agg #[.int .i64 sz, .slice a2 n2 c2]) (by simp [results, Try.results7, go_sem, hc]) rfl ⟨a2, n2, c2, rfl, ?_, ?_⟩
  · exact (((HO.out.stored (by simp) _).stored (by simp) _).stored (by simp) _).mono (by simp; omega)
  · exact ((((((((Below.refl _ _).alloc (Nat.le_refl _) _).alloc (by simp) _).alloc (by simp; omega) _).trans (HB.out.mono (by simp; omega))).setCell (by simp; omega) _).setCell (by simp) _).setCell (by simp) _)

def eqT (a : Int) (rs : List (Int × List (List Int))) (b : Int) (qs : List (Int × List (List Int))) : Bool := eqB a b && eqB rs qs
theorem eqT_same (a : Int) (rs : List (Int × List (List Int))) : eqT a rs a rs = true := by simp [eqT, eqB]

theorem Kept.two0 {w w1 : World} {C : List (Addr × Value)} {R : List (World → Prop)} (h : Kept w C R w1) {a b a' b' : Addr} {x y x' y' : Value}
    (h1 : w1.cell? a = some x) (h2 : w1.cell? a' = some x') (h3 : w1.cell? b = some y) (h4 : w1.cell? b' = some y') :
    w1.cell? a = some x ∧ w1.cell? a' = some x' ∧ w1.cell? b = some y ∧ w1.cell? b' = some y' ∧ Kept w C R w1 := ⟨h1, h2, h3, h4, h⟩

set_option maxHeartbeats 1000000 in
theorem eqRels (v1 v2 : Value) (rs qs : List (Int × List (List Int))) (w : World) (h1 : RelsAt w v1 rs) (h2 : RelsAt w v2 qs) :
    Calls Try.prog 25 #[v1, v2] w fun e w' => e = .returned (.bool (eqB rs qs)) ∧ Below w.heap.size w w' := by
  obtain ⟨a1, c1, rfl, hn1, hc1⟩ := h1
  obtain ⟨a2, c2, rfl, hn2, hc2⟩ := h2
  have HC1 := Lib.hid hc1
  have HC2 := Lib.hid hc2
  clear hc1 hc2
  by_cases hl : rs.length = qs.length
  · rw [← hl] at hn2 HC2 ⊢
    have HL := Lib.hid hl
    clear hl
    go_enter Try.func25, Try.ntmps25
    go_wp2
    go_loopw [5] (fun i wr => ∃ k : Nat, k ≤ rs.length ∧ i = .int .i64 k ∧ (∀ j, j < k → arN rs j = arN qs j ∧ gridN rs j = gridN qs j) ∧ Below w.heap.size w wr) (fun i _ => rs.length - (intOf i).toNat)
    case atStart => exact ⟨0, Nat.zero_le _, rfl, fun j hj => absurd hj (Nat.not_lt_zero _), Below.refl _ _⟩
    case round =>
      obtain ⟨k, hk, rfl, hall, hb⟩ := hrel
      have HA := Lib.hid hall
      have HB := Lib.hid hb
      clear hall hb
      by_cases hlt : k < rs.length
      · obtain ⟨b1, off1, ha1, hcell1⟩ := HC1.out (by omega)
        subst ha1
        obtain ⟨b2, off2, ha2, hcell2⟩ := HC2.out (by omega)
        subst ha2
        obtain ⟨hx0, A1, N1, C1, hx1, hg1⟩ := (hcell1 k hlt).below HB.out
        obtain ⟨hy0, A2, N2, C2, hy1, hg2⟩ := (hcell2 k hlt).below HB.out
        have hlt' : (k : Int) < (rs.length : Int) := by omega
        have K0 := Lib.hid ((((Kept.start w).below HB.out).read (lives_grid _ _) hg2).read (lives_grid _ _) hg1)
        clear hcell1 hcell2 hg1 hg2
        cases hbb : eqR (arN rs k) (gridN rs k) (arN qs k) (gridN qs k) with
        | true =>
          have HE : Hid (arN rs k = arN qs k ∧ gridN rs k = gridN qs k) := by
            simp only [eqR, Bool.and_eq_true] at hbb
            exact ⟨eqB_true hbb.1, eqB_true hbb.2⟩
          have HBB := Lib.hid hbb
          clear hbb
          go_wp2
          go_region_held3 (fun w' => w'.cell? ⟨b1, off1 + k * 2, none⟩ = some (.int .i64 (arN rs k)) ∧ w'.cell? ⟨b1, off1 + k * 2 + 1, none⟩ = some (.slice A1 N1 C1) ∧ w'.cell? ⟨b2, off2 + k * 2, none⟩ = some (.int .i64 (arN qs k)) ∧ w'.cell? ⟨b2, off2 + k * 2 + 1, none⟩ = some (.slice A2 N2 C2) ∧ Kept w [] [fun w => GridAt w (.slice A1 N1 C1) (gridN rs k), fun w => GridAt w (.slice A2 N2 C2) (gridN qs k)] w')
            (first | exact two_below (by assumption) hb5 | exact two_below (K0.out.two0 hx0 hx1 hy0 hy1) ((QW.refl _).drew.below _))
            (first | (go_at_call 43; refine (eqRel' _ _ _ _ _ _ _ _ _ _ true _ (two_grid (by assumption) 0 (by rfl)) (two_grid (by assumption) 1 (by rfl)) HBB.out).mono ?_; rintro e w5 ⟨rfl, hb5⟩))
          have HB5 := Lib.hid (K0.out.drew.below hb5).bel
          clear hb5
          go_wp2
          go_roundw
          case rel =>
            refine ⟨k + 1, by omega, by go_num, fun j hj => ?_, HB5.out⟩
            by_cases hjk : j = k
            · subst hjk; exact HE.out
            · exact HA.out j (by omega)
          case measure => simp [intOf]; omega
        | false =>
          have HF := Lib.hid (eqB_no (x := rs) (y := qs) (fun e => by rw [e, eqR_same] at hbb; cases hbb))
          have HBB := Lib.hid hbb
          clear hbb
          go_wp2
          go_region_held3 (fun w' => w'.cell? ⟨b1, off1 + k * 2, none⟩ = some (.int .i64 (arN rs k)) ∧ w'.cell? ⟨b1, off1 + k * 2 + 1, none⟩ = some (.slice A1 N1 C1) ∧ w'.cell? ⟨b2, off2 + k * 2, none⟩ = some (.int .i64 (arN qs k)) ∧ w'.cell? ⟨b2, off2 + k * 2 + 1, none⟩ = some (.slice A2 N2 C2) ∧ Kept w [] [fun w => GridAt w (.slice A1 N1 C1) (gridN rs k), fun w => GridAt w (.slice A2 N2 C2) (gridN qs k)] w')
            (first | exact two_below (by assumption) hb5 | exact two_below (K0.out.two0 hx0 hx1 hy0 hy1) ((QW.refl _).drew.below _))
            (first | (go_at_call 43; refine (eqRel' _ _ _ _ _ _ _ _ _ _ false _ (two_grid (by assumption) 0 (by rfl)) (two_grid (by assumption) 1 (by rfl)) HBB.out).mono ?_; rintro e w5 ⟨rfl, hb5⟩))
          have HB5 := Lib.hid (K0.out.drew.below hb5).bel
          clear hb5
          go_wp2
          go_ret
          exact ⟨ret_bool HF.out.symm, HB5.out⟩
      · obtain rfl : k = rs.length := by omega
        have HF := Lib.hid (eqB_yes (rels_ext HL.out HA.out))
        go_wp2
        go_ret
        exact ⟨ret_bool HF.out.symm, HB.out⟩
  · have HF := Lib.hid (eqB_no (x := rs) (y := qs) (fun e => hl (by rw [e])))
    have hlb : ((rs.length : Int) == qs.length) = false := beq_eq_false_iff_ne.2 (by omega)
    go_enter Try.func25, Try.ntmps25
    go_wp2
    go_ret
    exact ⟨ret_bool HF.out.symm, Below.refl _ _⟩

theorem eqRels' (v1 v2 : Value) (rs qs : List (Int × List (List Int))) (b : Bool) (w : World) (h1 : RelsAt w v1 rs) (h2 : RelsAt w v2 qs) (hb : eqB rs qs = b) :
    Calls Try.prog 25 #[v1, v2] w fun e w' => e = .returned (.bool b) ∧ Below w.heap.size w w' := hb ▸ eqRels v1 v2 rs qs w h1 h2

set_option maxHeartbeats 400000 in
theorem eqTemplate (x : Int) (a1 : Option Addr) (n1 c1 : Nat) (rs : List (Int × List (List Int))) (y : Int) (a2 : Option Addr) (n2 c2 : Nat) (qs : List (Int × List (List Int))) (w : World) (h1 : RelsAt w (.slice a1 n1 c1) rs) (h2 : RelsAt w (.slice a2 n2 c2) qs) :
    Calls Try.prog 10 #[.agg #[.int .i64 x, .slice a1 n1 c1], .agg #[.int .i64 y, .slice a2 n2 c2]] w fun e w' => e = .returned (.bool (eqT x rs y qs)) ∧ Below w.heap.size w w' := by
  have H1 := Lib.hid h1
  have H2 := Lib.hid h2
  clear h1 h2
  by_cases hxy : x = y
  · subst hxy
    have HF : Hid (eqT x rs x qs = eqB rs qs) := by simp [Hid, eqT, eqB]
    cases hb : eqB rs qs with
    | true =>
      have HB := Lib.hid hb
      clear hb
      go_enter Try.func10, Try.ntmps10
      go_wp2_with fail
      have hbw := ((Below.refl w.heap.size w).alloc (Nat.le_refl _) (.cells #[.int .i64 x, .slice a1 n1 c1] 31)).alloc (by simp) (.cells #[.int .i64 x, .slice a2 n2 c2] 31)
      refine (eqRels' _ _ _ _ _ _ (H1.out.below hbw) (H2.out.below hbw) HB.out).mono ?_
      rintro e w2 ⟨rfl, hq⟩
      have HQ := Lib.hid (hbw.trans (hq.mono hbw.size))
      clear hq hbw
      go_wp2
      go_ret
      exact ⟨ret_bool (by rw [HF.out, HB.out]), HQ.out⟩
    | false =>
      have HB := Lib.hid hb
      clear hb
      go_enter Try.func10, Try.ntmps10
      go_wp2_with fail
      have hbw := ((Below.refl w.heap.size w).alloc (Nat.le_refl _) (.cells #[.int .i64 x, .slice a1 n1 c1] 31)).alloc (by simp) (.cells #[.int .i64 x, .slice a2 n2 c2] 31)
      refine (eqRels' _ _ _ _ _ _ (H1.out.below hbw) (H2.out.below hbw) HB.out).mono ?_
      rintro e w2 ⟨rfl, hq⟩
      have HQ := Lib.hid (hbw.trans (hq.mono hbw.size))
      clear hq hbw
      go_wp2
      go_ret
      exact ⟨ret_bool (by rw [HF.out, HB.out]), HQ.out⟩
  · have HF : Hid (eqT x rs y qs = false) := by simp [Hid, eqT, eqB, hxy]
    have hne : (x == y) = false := beq_eq_false_iff_ne.2 hxy
    go_enter Try.func10, Try.ntmps10
    go_wp2
    go_ret
    exact ⟨ret_bool HF.out.symm, ((Below.refl _ _).alloc (Nat.le_refl _) _).alloc (by simp) _⟩

theorem eqTemplate' (x : Int) (a1 : Option Addr) (n1 c1 : Nat) (rs : List (Int × List (List Int))) (y : Int) (a2 : Option Addr) (n2 c2 : Nat) (qs : List (Int × List (List Int))) (b : Bool) (w : World) (h1 : RelsAt w (.slice a1 n1 c1) rs) (h2 : RelsAt w (.slice a2 n2 c2) qs) (hb : eqT x rs y qs = b) :
    Calls Try.prog 10 #[.agg #[.int .i64 x, .slice a1 n1 c1], .agg #[.int .i64 y, .slice a2 n2 c2]] w fun e w' => e = .returned (.bool b) ∧ Below w.heap.size w w' := hb ▸ eqTemplate x a1 n1 c1 rs y a2 n2 c2 qs w h1 h2

end Go.Proofs.Ytfjfkmoeaenlbab
