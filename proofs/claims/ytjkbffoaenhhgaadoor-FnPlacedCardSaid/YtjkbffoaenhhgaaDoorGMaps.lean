/-  Lists of relations: what they read as, and their measures: szRelS, szTemplate. Copies of lists of relations and their comparison: toRelS, toTemplate, eqRelS, eqTemplate. Valid templates: l01Template and ValidTemplate of the model, ValidTemplate of the program. Maps of templates in the model: l01Mapped, l01Maps. Maps of templates in the model: l01Maps, l01Arities, IsMapOf. Maps of templates in the model: l01Arities, IsMapOf. IsMapOf of the model; the program's templatesCode, mappedBits. The program's mappedBits, keepsTuples, IsMapOf. -/
import Derived.Test.YtjkbffoaenhhgaaDoorGRel
import Derived.Test.YtjkbffoaenhhgaaDoorGBase
import Derived.Deep.RegionHeld3
namespace Go.Proofs.YtjkbffoaenhhgaaDoor
open Go.RowKit

def arN (rs : List (Int × List (List Int))) (k : Nat) : Int := (rs.getD k (0, [])).1
def gridN (rs : List (Int × List (List Int))) (k : Nat) : List (List Int) := (rs.getD k (0, [])).2

theorem rels_ext {rs qs : List (Int × List (List Int))} (hl : rs.length = qs.length) (h : ∀ i, i < rs.length → arN rs i = arN qs i ∧ gridN rs i = gridN qs i) : rs = qs := by
  apply List.ext_getElem hl
  intro i h1 h2
  obtain ⟨e1, e2⟩ := h i h1
  simp only [arN, gridN, List.getD, List.getElem?_eq_getElem h1, List.getElem?_eq_getElem h2, Option.getD_some] at e1 e2
  exact Prod.ext e1 e2

/-- v is a slice of relations: two cells each. -/
def RelsAt (w : World) (v : Value) (rs : List (Int × List (List Int))) : Prop :=
  ∃ (a : Option Addr) (c : Nat), v = .slice a rs.length c ∧ rs.length ≤ 9223372036854775807 ∧ (0 < rs.length → ∃ b off, a = some ⟨b, off, none⟩ ∧ ∀ i, i < rs.length → RelAt w b (off + i * 2) (arN rs i) (gridN rs i))

theorem RelsAt.below {w w' : World} {v : Value} {rs : List (Int × List (List Int))} (h : RelsAt w v rs) (hb : Below w.heap.size w w') : RelsAt w' v rs := by
  obtain ⟨a, c, rfl, hn, h⟩ := h
  refine ⟨a, c, rfl, hn, fun h0 => ?_⟩
  obtain ⟨b, off, rfl, hc⟩ := h h0
  exact ⟨b, off, rfl, fun i hi => (hc i hi).below hb⟩

theorem RelsAt.nil (w : World) : RelsAt w (.slice none 0 0) [] := ⟨none, 0, rfl, by simp, fun h => absurd h (by simp)⟩

def partR (rs : List (Int × List (List Int))) : Nat → Nat
  | 0 => 0
  | k + 1 => partR rs k + gridSize (gridN rs k)
def relsSize (rs : List (Int × List (List Int))) : Nat := rs.length + partR rs rs.length

theorem partR_succ (rs : List (Int × List (List Int))) (k : Nat) : partR rs (k + 1) = partR rs k + gridSize (gridN rs k) := rfl
theorem partR_zero (rs : List (Int × List (List Int))) : partR rs 0 = 0 := rfl
theorem partR_le (rs : List (Int × List (List Int))) {k n : Nat} (h : k ≤ n) : partR rs k ≤ partR rs n := by
  induction n with
  | zero => obtain rfl : k = 0 := by omega
            exact Nat.le_refl _
  | succ n ih =>
    by_cases hk : k = n + 1
    · subst hk; exact Nat.le_refl _
    · have := ih (by omega)
      rw [partR_succ]; omega
theorem grid_le (rs : List (Int × List (List Int))) {k : Nat} (h : k < rs.length) : rs.length + gridSize (gridN rs k) ≤ relsSize rs := by
  have := partR_le rs (k := k + 1) (n := rs.length) (by omega)
  rw [partR_succ] at this
  unfold relsSize
  omega

end Go.Proofs.YtjkbffoaenhhgaaDoor

namespace Go.Proofs.YtjkbffoaenhhgaaDoor
open Go.RowKit

theorem info_rel : (Tryd.prog.info? 27).map (fun i => (i.zero, i.size, i.bytes)) = some (some (.agg #[.int .i64 0, .slice none 0 0]), 2, 32) := by kernel_rfl

theorem lives_rels (v : Value) (rs : List (Int × List (List Int))) : Lives (fun w => RelsAt w v rs) := fun _ _ hb h => h.below hb
theorem Kept.rels {w w1 : World} {C : List (Addr × Value)} {R : List (World → Prop)} (h : Kept w C R w1) (i : Nat) {v : Value} {rs : List (Int × List (List Int))} (hi : R[i]? = some (fun w => RelsAt w v rs)) : RelsAt w1 v rs := h.reads i _ hi

/-- A list of relations of which k are made. -/
structure RelsPart (w wr : World) (n k : Nat) (U : Nat → Value) (rs : List (Int × List (List Int))) : Prop where
  outer : ∃ xs, wr.ownsRow w.heap.size 27 2 (.slice (some ⟨w.heap.size, 0, none⟩) n n) n xs ∧ ∀ i, i < k → xs[i * 2]? = some (.int .i64 (arN rs i)) ∧ xs[i * 2 + 1]? = some (U i)
  rows : ∀ i, i < k → ∃ a m c, U i = .slice a m c ∧ OwnGrid wr (w.heap.size + 1) wr.heap.size (U i) (gridN rs i)
  below : Below w.heap.size w wr
  size : w.heap.size + 1 ≤ wr.heap.size

theorem ownsRow_len {w : World} {B e s n : Nat} {v : Value} {xs : List Value} (h : w.ownsRow B e s v n xs) : xs.length = n * s := h.1

theorem RelsPart.step {w wr w2 : World} {n k : Nat} {U : Nat → Value} {rs : List (Int × List (List Int))} {a : Option Addr} {m c : Nat} (h : RelsPart w wr n k U rs) (hk : k < n)
    (ho : OwnGrid w2 wr.heap.size w2.heap.size (.slice a m c) (gridN rs k)) (hb : Below wr.heap.size wr w2) :
    RelsPart w ((w2.setCell ⟨w.heap.size, k * 2, none⟩ (.int .i64 (arN rs k))).setCell ⟨w.heap.size, k * 2 + 1, none⟩ (.slice a m c)) n (k + 1) (fun i => if i = k then .slice a m c else U i) rs := by
  have hs := hb.size
  have hsz := h.size
  obtain ⟨xs, h1, h2⟩ := h.outer
  have h3 := ((ownsRow_below h1 hb).stored (k * 2) (.int .i64 (arN rs k))).1.stored (k * 2 + 1) (.slice a m c)
  have hl := ownsRow_len h1
  have hz : ∀ (u : Value) (ys : List (List Int)) (B : Nat), w.heap.size + 1 ≤ B → OwnGrid w2 B w2.heap.size u ys → OwnGrid ((w2.setCell ⟨w.heap.size, k * 2, none⟩ (.int .i64 (arN rs k))).setCell ⟨w.heap.size, k * 2 + 1, none⟩ (.slice a m c)) (w.heap.size + 1) ((w2.setCell ⟨w.heap.size, k * 2, none⟩ (.int .i64 (arN rs k))).setCell ⟨w.heap.size, k * 2 + 1, none⟩ (.slice a m c)).heap.size u ys := by
    intro u ys B hB hu
    exact (((hu.stored (p := ⟨w.heap.size, k * 2, none⟩) (by show w.heap.size < B; omega) _).stored (p := ⟨w.heap.size, k * 2 + 1, none⟩) (by show w.heap.size < B; omega) _).mono hB).full
  refine ⟨⟨_, h3.1, fun i hi => ?_⟩, fun i hi => ?_, ?_, ?_⟩
  · by_cases hik : i = k
    · subst hik
      simp [List.getElem?_set, hl]
      omega
    · obtain ⟨e1, e2⟩ := h2 i (by omega)
      simp only [hik, if_false]
      rw [List.getElem?_set_ne (by omega), List.getElem?_set_ne (by omega), List.getElem?_set_ne (by omega), List.getElem?_set_ne (by omega)]
      exact ⟨e1, e2⟩
  · by_cases hik : i = k
    · subst hik
      simp only [if_true]
      exact ⟨a, m, c, rfl, hz _ _ _ hsz ho⟩
    · simp only [hik, if_false]
      obtain ⟨a', m', c', e, hg⟩ := h.rows i (by omega)
      exact ⟨a', m', c', e, hz _ _ _ (Nat.le_refl _) (hg.below hb).full⟩
  · exact ((h.below.trans (hb.mono (by omega))).setCell (Nat.le_refl _) _).setCell (Nat.le_refl _) _
  · simp [World.setCell]
    omega

theorem OwnGrid.gridAt_same {w w' : World} {B E : Nat} {v : Value} {xss : List (List Int)} (h : OwnGrid w B E v xss) (hg : ∀ g, B ≤ g → g < w.heap.size → w'.heap[g]? = w.heap[g]?) : GridAt w' v xss := by
  obtain ⟨V, h⟩ := h
  have ho := ownsRow_same h.outer fun g hv => hg g (h.outer.lt g hv).1 (h.outer.lt g hv).2
  refine ⟨V, ?_, fun i hi => OwnRow.rowAt (ownsRow_same (h.rows i hi) fun g hv => hg g ((h.rows i hi).lt g hv).1 ((h.rows i hi).lt g hv).2)⟩
  rcases ownsRow_parts ho with ⟨rfl, hn, _⟩ | ⟨g, c, rfl, _, _, h1, h2, _, hc⟩
  · exact ⟨none, 0, by rw [hn], by omega, fun h0 => by omega⟩
  · refine ⟨some ⟨g, 0, none⟩, c, rfl, by unfold maxLen at h2; omega, fun _ => ⟨g, 0, rfl, fun i hi => ?_⟩⟩
    rw [Nat.zero_add]
    exact hc i _ (range_map_at hi)

/-- A list of relations in blocks from B on: it reads so wherever these blocks are as they are. -/
def RelsOwn (w : World) (B : Nat) (v : Value) (rs : List (Int × List (List Int))) : Prop := ∀ w' : World, (∀ g, B ≤ g → g < w.heap.size → w'.heap[g]? = w.heap[g]?) → RelsAt w' v rs
theorem RelsOwn.at {w : World} {B : Nat} {v : Value} {rs : List (Int × List (List Int))} (h : RelsOwn w B v rs) : RelsAt w v rs := h w fun _ _ _ => rfl
theorem RelsOwn.stored {w : World} {B : Nat} {v : Value} {rs : List (Int × List (List Int))} (h : RelsOwn w B v rs) {p : Addr} (hp : p.block < B) (u : Value) : RelsOwn (w.setCell p u) B v rs := by
  intro w' hw
  refine h w' fun g h1 h2 => ?_
  rw [hw g h1 (by simpa [World.setCell] using h2)]
  exact Below.heap_setCell _ _ _ _ (by omega)
theorem RelsOwn.mono {w : World} {B B' : Nat} {v : Value} {rs : List (Int × List (List Int))} (h : RelsOwn w B v rs) (hB : B' ≤ B) : RelsOwn w B' v rs := fun w' hw => h w' fun g h1 h2 => hw g (by omega) h2

theorem RelsPart.reads {w wr : World} {U : Nat → Value} {rs : List (Int × List (List Int))} (h : RelsPart w wr rs.length rs.length U rs) (hl : rs.length ≤ 9223372036854775807) :
    RelsOwn wr w.heap.size (.slice (some ⟨w.heap.size, 0, none⟩) rs.length rs.length) rs := by
  intro w' hw
  refine ⟨_, _, rfl, hl, fun _ => ⟨w.heap.size, 0, rfl, fun i hi => ?_⟩⟩
  obtain ⟨xs, h0, h2⟩ := h.outer
  have h1 := ownsRow_same h0 fun g hv => hw g (h0.lt g hv).1 (h0.lt g hv).2
  obtain ⟨e1, e2⟩ := h2 i hi
  obtain ⟨a, m, c, e, hg⟩ := h.rows i hi
  rw [Nat.zero_add]
  refine ⟨?_, a, m, c, ?_, ?_⟩
  · rw [h1.cellAt (i * 2) (by omega)]; exact e1
  · rw [h1.cellAt (i * 2 + 1) (by omega), e2, e]
  · rw [← e]; exact hg.gridAt_same fun g a1 a2 => hw g (by omega) a2

/-- A list of relations of its own, made by the call; nothing that was there has turned. -/
def MadeRels (w : World) (rs : List (Int × List (List Int))) (e : Ending) (w' : World) : Prop := ∃ a n c, e = .returned (.slice a n c) ∧ RelsOwn w' w.heap.size (.slice a n c) rs ∧ Below w.heap.size w w'

/-- A template of its own. -/
def MadeTemplate (w : World) (sz : Int) (rs : List (Int × List (List Int))) (e : Ending) (w' : World) : Prop :=
  ∃ a n c, e = .returned (.agg #[.int .i64 sz, .slice a n c]) ∧ RelsOwn w' w.heap.size (.slice a n c) rs ∧ Below w.heap.size w w'

def eqT (a : Int) (rs : List (Int × List (List Int))) (b : Int) (qs : List (Int × List (List Int))) : Bool := eqB a b && eqB rs qs
theorem eqT_same (a : Int) (rs : List (Int × List (List Int))) : eqT a rs a rs = true := by simp [eqT, eqB]

theorem Kept.two0 {w w1 : World} {C : List (Addr × Value)} {R : List (World → Prop)} (h : Kept w C R w1) {a b a' b' : Addr} {x y x' y' : Value}
    (h1 : w1.cell? a = some x) (h2 : w1.cell? a' = some x') (h3 : w1.cell? b = some y) (h4 : w1.cell? b' = some y') :
    w1.cell? a = some x ∧ w1.cell? a' = some x' ∧ w1.cell? b = some y ∧ w1.cell? b' = some y' ∧ Kept w C R w1 := ⟨h1, h2, h3, h4, h⟩

end Go.Proofs.YtjkbffoaenhhgaaDoor

namespace Go.Proofs.YtjkbffoaenhhgaaDoor
open Go.RowKit

def TplOk (sz : Int) (rs : List (Int × List (List Int))) : Prop := In14 sz ∧ rs.length ≤ 6 ∧ ∀ k, k < rs.length → RelOk sz (arN rs k) (gridN rs k)

structure TplAt (w : World) (b o : Nat) (sz : Int) (rs : List (Int × List (List Int))) : Prop where
  size : w.cell? ⟨b, o, none⟩ = some (.int .i64 sz)
  rels : ∃ a n c, w.cell? ⟨b, o + 1, none⟩ = some (.slice a n c) ∧ RelsAt w (.slice a n c) rs

theorem TplAt.below {w w' : World} {b o : Nat} {sz : Int} {rs : List (Int × List (List Int))} (h : TplAt w b o sz rs) (hb : Below w.heap.size w w') : TplAt w' b o sz rs := by
  obtain ⟨h1, a, n, c, h2, h3⟩ := h
  exact ⟨below_cell hb h1, a, n, c, below_cell hb h2, h3.below hb⟩

theorem RelAt.qw {w w' : World} {b o : Nat} {ar : Int} {xss : List (List Int)} (h : RelAt w b o ar xss) (hq : QW w w') : RelAt w' b o ar xss := h.below hq.bel

end Go.Proofs.YtjkbffoaenhhgaaDoor

namespace Go.Proofs.YtjkbffoaenhhgaaDoor
open Go.RowKit

def mapK (to xs : List Int) (k : Nat) : List Int := (List.range k).map fun i => intN to (intN xs i).toNat
def mapped (to xs : List Int) : List Int := mapK to xs xs.length
theorem mapK_len (to xs : List Int) (k : Nat) : (mapK to xs k).length = k := by simp [mapK]
theorem mapK_succ (to xs : List Int) (k : Nat) : (mapK to xs (k + 1)).map (Value.int .i64) = (mapK to xs k).map (Value.int .i64) ++ [.int .i64 (intN to (intN xs k).toNat)] := by simp [mapK, List.range_succ]
theorem mapped_len (to xs : List Int) : (mapped to xs).length = xs.length := mapK_len _ _ _
theorem mapped_at (to xs : List Int) (k : Nat) (h : k < xs.length) : intN (mapped to xs) k = intN to (intN xs k).toNat := by
  rw [intN_at _ _ (by rw [mapped_len]; exact h)]
  simp [mapped, mapK]

theorem info_int' : (Tryd.prog.info? 2).map (fun i => (i.zero, i.size, i.bytes)) = some (some (.int .i64 0), 1, 8) := by kernel_rfl

def MapsP (rs qs : List (Int × List (List Int))) (to : List Int) : Prop := ∀ i, i < rs.length → ∀ j, j < (gridN rs i).length → HasP (gridN qs i) (mapped to (rowN (gridN rs i) j))

theorem lives_rel (b o : Nat) (ar : Int) (xss : List (List Int)) : Lives (fun w => RelAt w b o ar xss) := fun _ _ hb h => h.below hb
theorem two_rel {w w1 : World} {C : List (Addr × Value)} {R : List (World → Prop)} {a b a' b' : Addr} {x y x' y' : Value}
    (h : w1.cell? a = some x ∧ w1.cell? a' = some x' ∧ w1.cell? b = some y ∧ w1.cell? b' = some y' ∧ Kept w C R w1) (i : Nat) {p o : Nat} {ar : Int} {xss : List (List Int)} (hi : R[i]? = some (fun w => RelAt w p o ar xss)) : RelAt w1 p o ar xss := h.2.2.2.2.reads i _ hi

end Go.Proofs.YtjkbffoaenhhgaaDoor

namespace Go.Proofs.YtjkbffoaenhhgaaDoor
open Go.RowKit

end Go.Proofs.YtjkbffoaenhhgaaDoor

namespace Go.Proofs.YtjkbffoaenhhgaaDoor
open Go.RowKit

/-- Relations of one number and of the same arities. -/
def SameAr (rs qs : List (Int × List (List Int))) : Prop := rs.length = qs.length ∧ ∀ i, i < rs.length → arN rs i = arN qs i
/-- The code of two templates. -/
def ArIs (x : Int) (rs : List (Int × List (List Int))) (y : Int) (qs : List (Int × List (List Int))) (c : Int) : Prop :=
  (¬ TplOk x rs ∧ c = 1) ∨ (TplOk x rs ∧ ¬ TplOk y qs ∧ c = 1) ∨ (TplOk x rs ∧ TplOk y qs ∧ ((SameAr rs qs ∧ c = 0) ∨ (¬ SameAr rs qs ∧ c = 4)))
theorem ArIs.exists (x : Int) (rs : List (Int × List (List Int))) (y : Int) (qs : List (Int × List (List Int))) : ∃ c, ArIs x rs y qs c := by
  by_cases h1 : TplOk x rs
  · by_cases h2 : TplOk y qs
    · by_cases h3 : SameAr rs qs
      · exact ⟨0, .inr (.inr ⟨h1, h2, .inl ⟨h3, rfl⟩⟩)⟩
      · exact ⟨4, .inr (.inr ⟨h1, h2, .inr ⟨h3, rfl⟩⟩)⟩
    · exact ⟨1, .inr (.inl ⟨h1, h2, rfl⟩)⟩
  · exact ⟨1, .inl ⟨h1, rfl⟩⟩
theorem ArIs.ok {x y : Int} {rs qs : List (Int × List (List Int))} (h : ArIs x rs y qs 0) : TplOk x rs ∧ TplOk y qs ∧ SameAr rs qs := by
  rcases h with ⟨_, h⟩ | ⟨_, _, h⟩ | ⟨h1, h2, ⟨h3, _⟩ | ⟨_, h⟩⟩
  · cases h
  · cases h
  · exact ⟨h1, h2, h3⟩
  · cases h

/-- What IsMapOf answers. -/
def MapIs (x : Int) (rs : List (Int × List (List Int))) (y : Int) (qs : List (Int × List (List Int))) (to : List Int) (b : Bool) (c : Int) : Prop :=
  (ArIs x rs y qs c ∧ c ≠ 0 ∧ b = false) ∨ (ArIs x rs y qs 0 ∧ ((¬ TupP y x to ∧ b = false ∧ c = 2) ∨ (TupP y x to ∧ Tells b (MapsP rs qs to) ∧ c = 0)))
theorem MapIs.exists (x : Int) (rs : List (Int × List (List Int))) (y : Int) (qs : List (Int × List (List Int))) (to : List Int) : ∃ b c, MapIs x rs y qs to b c := by
  obtain ⟨c, hc⟩ := ArIs.exists x rs y qs
  by_cases h0 : c = 0
  · subst h0
    by_cases ht : TupP y x to
    · by_cases hm : MapsP rs qs to
      · exact ⟨true, 0, .inr ⟨hc, .inr ⟨ht, Tells.yes hm, rfl⟩⟩⟩
      · exact ⟨false, 0, .inr ⟨hc, .inr ⟨ht, Tells.no hm, rfl⟩⟩⟩
    · exact ⟨false, 2, .inr ⟨hc, .inl ⟨ht, rfl, rfl⟩⟩⟩
  · exact ⟨false, c, .inl ⟨hc, h0, rfl⟩⟩

end Go.Proofs.YtjkbffoaenhhgaaDoor

namespace Go.Proofs.YtjkbffoaenhhgaaDoor
open Go.RowKit

theorem MapsP.range {x y : Int} {rs : List (Int × List (List Int))} {to : List Int} (h1 : TplOk x rs) (ht : TupP y x to) : ∀ i, i < rs.length → ∀ j, j < (gridN rs i).length → (rowN (gridN rs i) j).length ≤ 4 ∧ ∀ k, k < (rowN (gridN rs i) j).length → 0 ≤ intN (rowN (gridN rs i) j) k ∧ intN (rowN (gridN rs i) j) k < to.length := by
  intro i hi j hj
  have hr := h1.2.2 i hi
  have hu := (hr.2.2 j hj).1
  refine ⟨hu.len hr.2.1, fun k hk => ?_⟩
  have hk2 := hu.2 k hk
  have hx := ht.1
  omega

end Go.Proofs.YtjkbffoaenhhgaaDoor

namespace Go.Proofs.YtjkbffoaenhhgaaDoor
open Go.RowKit

def mapG (to : List Int) (xss : List (List Int)) : List (List Int) := xss.map (mapped to)
theorem mapG_len (to : List Int) (xss : List (List Int)) : (mapG to xss).length = xss.length := by simp [mapG]
theorem mapG_at (to : List Int) (xss : List (List Int)) (j : Nat) (h : j < xss.length) : rowN (mapG to xss) j = mapped to (rowN xss j) := by
  rw [rowN_at _ _ (by rw [mapG_len]; exact h), rowN_at _ _ h]
  simp [mapG]

theorem mapped_tup {x y ar : Int} {to xs : List Int} (ht : TupP y x to) (h : TupP x ar xs) : TupP y ar (mapped to xs) := by
  refine ⟨by rw [mapped_len]; exact h.1, fun k hk => ?_⟩
  rw [mapped_len] at hk
  rw [mapped_at _ _ _ hk]
  have h1 := h.2 k hk
  have h2 := ht.1
  exact ht.2 _ (by omega)

theorem part_mapped {size x : Int} {xs ys : List (List Int)} (h0 : In14 size) (h3 : In14 x) (h1 : ∀ j, j < xs.length → TupP size x (rowN xs j)) (h2 : RelOk size x ys) : SubP (setOf size xs) (setOf size ys) ↔ ∀ j, j < xs.length → HasP ys (rowN xs j) := by
  constructor
  · intro h j hj
    obtain ⟨i, hi, he⟩ := (setK_iff _ _).1 (h (codeN size (rowN xs j)) (codeN_lt (h1 j hj) h0 h3) ((setK_iff _ _).2 ⟨j, hj, rfl⟩))
    exact ⟨i, hi, codeN_inj (h2.2.2 i hi).1 (h1 j hj) h0 h3 he⟩
  · intro h n _ hs
    obtain ⟨j, hj, rfl⟩ := (setK_iff _ _).1 hs
    obtain ⟨i, hi, he⟩ := h j hj
    exact (setK_iff _ _).2 ⟨i, hi, by rw [he]⟩

set_option maxHeartbeats 2000000 in
set_option maxRecDepth 100000 in
theorem mappedBits (x y : Int) (ar : Int) (a : Option Addr) (n c : Nat) (xss : List (List Int)) (v : Value) (to : List Int) (w : World) (h : GridAt w (.slice a n c) xss) (hv0 : RowAt w v to) (hr : RelOk x ar xss) (hy : In14 y) (ht : TupP y x to) :
    Calls Tryd.prog 39 #[.agg #[.int .i64 ar, .slice a n c], v, .int .i64 y] w fun e w' => e = .returned (bitsV (setOf y (mapG to xss))) ∧ Below w.heap.size w w' := by
  have HR := Lib.hid hr
  have HTO := Lib.hid ht
  have HY := Lib.hid hy
  have hy1 : 1 ≤ y := hy.1
  have hy2 : y ≤ 4 := hy.2
  obtain ⟨at0, ct0, rfl, hnt, hct⟩ := hv0
  obtain ⟨V, ⟨a', c', hv, hn, hc⟩, hV⟩ := h
  simp only [Value.slice.injEq] at hv
  obtain ⟨rfl, rfl, rfl⟩ := hv
  have HC := Lib.hid hc
  have HV := Lib.hid hV
  have HCT := Lib.hid hct
  clear hc hV hr hct ht hy
  go_enter Tryd.func39, Tryd.ntmps39
  go_wp2
  go_loopw [16] (fun i wr => ∃ k : Nat, k ≤ xss.length ∧ i = .int .i64 k ∧ BitsBox wr (w.heap.size + 1 + 1) (setK y (mapG to xss) k) ∧ BitsBox wr (w.heap.size + 1) (fun _ => false) ∧ Below w.heap.size w wr) (fun i _ => xss.length - (intOf i).toNat)
  case atStart =>
    refine ⟨0, by omega, rfl, ?_, ?_, (((Below.refl w.heap.size w).alloc (Nat.le_refl _) _).alloc (by simp) _).alloc (by simp; omega) _⟩
    · rw [bits_zero]
      have h := bits_new ((w.alloc (.cells #[.int .i64 ar, .slice a xss.length c] 27)).alloc (.cells (bitsC fun _ => false).toArray 52)) (fun _ => false)
      rw [World.size_alloc, World.size_alloc] at h
      exact h
    · rw [bits_zero]
      have h := (bits_new (w.alloc (.cells #[.int .i64 ar, .slice a xss.length c] 27)) (fun _ => false)).alloc (.cells (bitsC fun _ => false).toArray 52)
      rw [World.size_alloc] at h
      exact h
  case round =>
    obtain ⟨k, hk, rfl, hb, hb1, hw⟩ := hrel
    by_cases hlt : k < xss.length
    · obtain ⟨b1, off1, ha1, hcell1⟩ := HC.out (by omega)
      subst ha1
      have hx1 := below_cell hw (hcell1 k hlt)
      have hlt' : (k : Int) < (xss.length : Int) := by omega
      obtain ⟨ra, rc, hrv, hrn, hrc⟩ := (HV.out k hlt).below hw
      rw [hrv] at hx1
      have HRC := Lib.hid hrc
      have HTU := Lib.hid (HR.out.2.2 k hlt).1
      have HTM := Lib.hid (mapped_tup HTO.out HTU.out)
      have hlen := HTU.out.len HR.out.2.1
      have HSET : Hid (setK y (mapG to xss) (k + 1) = putS (setK y (mapG to xss) k) (codeN y (mapped to (rowN xss k)))) := Lib.hid (by
        show putS _ _ = _
        rw [mapG_at _ _ _ hlt])
      have HEND : Hid (codeK y (mapped to (rowN xss k)) (rowN xss k).length = (codeN y (mapped to (rowN xss k)) : Int)) := Lib.hid (by
        have := codeN_cast HTM.out HY.out HR.out.2.1
        unfold code at this
        rwa [mapped_len] at this)
      have HB := Lib.hid hb
      have HB1 := Lib.hid hb1
      have HW := Lib.hid hw
      clear hcell1 hb hb1 hw hrv hrc
      go_wp2
      go_loop [10, 22] (fun m i => ∃ q : Nat, q ≤ (rowN xss k).length ∧ i = .int .i64 q ∧ m = .int .i64 (codeK y (mapped to (rowN xss k)) q)) (fun _ i => (rowN xss k).length - (intOf i).toNat)
      case atStart => exact ⟨0, Nat.zero_le _, rfl, rfl⟩
      case round =>
        obtain ⟨q, hq, rfl, hm⟩ := hrel
        by_cases hqt : q < (rowN xss k).length
        · subst hm
          obtain ⟨b2, off2, ha2, hcell2⟩ := HRC.out (by omega)
          subst ha2
          obtain ⟨g0, g1⟩ := HTU.out.2 q hqt
          have hto := HTO.out.1
          obtain ⟨b3, off3, ha3, hcell3⟩ := HCT.out (by omega)
          subst ha3
          have hy1' := hcell2 q hqt
          have hz1 := below_cell HW.out (hcell3 (intN (rowN xss k) q).toNat (by omega))
          have hqt' : (q : Int) < ((rowN xss k).length : Int) := by omega
          obtain ⟨r0, r1⟩ := codeK_lt (xs := mapped to (rowN xss k)) hy1 hy2 q (by omega) fun j hj => HTM.out.2 j (by rw [mapped_len]; omega)
          have hsm := HTO.out.2 (intN (rowN xss k) q).toNat (by omega)
          have hm0 : 0 ≤ codeK y (mapped to (rowN xss k)) q * y := Int.mul_nonneg r0 (by omega)
          have hm1 : codeK y (mapped to (rowN xss k)) q * y ≤ 1024 := by
            have : codeK y (mapped to (rowN xss k)) q * y ≤ codeK y (mapped to (rowN xss k)) q * 4 := Int.mul_le_mul_of_nonneg_left hy2 r0
            omega
          have HST : Hid (codeK y (mapped to (rowN xss k)) (q + 1) = codeK y (mapped to (rowN xss k)) q * y + intN to (intN (rowN xss k) q).toNat) := Lib.hid (by
            show _ * _ + _ = _
            rw [mapped_at _ _ _ hqt])
          obtain ⟨s0, s1⟩ := hsm
          clear hcell2 hcell3
          go_wp2
          go_round
          case rel => exact ⟨q + 1, by omega, by go_num, by rw [HST.out]⟩
          case measure => simp [intOf]; omega
        · obtain rfl : q = (rowN xss k).length := by omega
          rw [HEND.out] at hm
          subst hm
          go_wp2_with fail
          refine (putBit _ _ _ (codeN_lt HTM.out HY.out HR.out.2.1) _ HB.out).mono ?_
          rintro e w3 ⟨rfl, ho, hb3⟩
          rw [← HSET.out] at hb3
          have HB3 := Lib.hid hb3
          have HB4 : Hid (BitsBox w3 (w.heap.size + 1) (fun _ => false)) := by
            have h := HB1.out
            unfold BitsBox at h
            show w3.heap[_]? = _
            rw [ho.block _ HB1.out.lt (by omega)]; exact h
          have HW3 := Lib.hid (HW.out.trans (ho.below HW.out.size (fun k hk => by omega)))
          clear hb3 ho
          go_wp2
          go_roundw
          case rel => exact ⟨k + 1, by omega, by go_num, HB3.out, HB4.out, HW3.out⟩
          case measure => simp [intOf]; omega
    · obtain rfl : k = xss.length := by omega
      have c0 := hb.cell 0 (by omega)
      have c1 := hb.cell 1 (by omega)
      have c2 := hb.cell 2 (by omega)
      have c3 := hb.cell 3 (by omega)
      have d0 := hb1.cell 0 (by omega)
      have d1 := hb1.cell 1 (by omega)
      have d2 := hb1.cell 2 (by omega)
      have d3 := hb1.cell 3 (by omega)
      have f0 := hb1.free 0
      have f1 := hb1.free 1
      have f2 := hb1.free 2
      have f3 := hb1.free 3
      have HW := Lib.hid hw
      clear hb hb1 hw
      go_wp2
      refine bodyPost_ret (v := bitsV (setOf y (mapG to xss))) (by simp [results, Tryd.results39, go_sem, d0, d1, d2, d3, bitsV, bitsC, setOf, mapG_len]) rfl ⟨rfl, ?_⟩
      exact ((((HW.out.setCell (by simp) _).setCell (by simp) _).setCell (by simp) _).setCell (by simp) _)

end Go.Proofs.YtjkbffoaenhhgaaDoor
