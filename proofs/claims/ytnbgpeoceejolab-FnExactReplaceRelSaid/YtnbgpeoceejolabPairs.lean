/-
  Lists of what has a number and a row of integers: what they read as, and lists of their own.
-/
import Derived.Test.YtnbgpeoceejolabOpOk
import Derived.Test.YtnbgpeoceejolabGMaps
namespace Go.Proofs.Ytnbgpeoceejolab
open Go.RowKit

def arO (rs : List (Int × List Int)) (k : Nat) : Int := (rs.getD k (0, [])).1
def rowO (rs : List (Int × List Int)) (k : Nat) : List Int := (rs.getD k (0, [])).2

theorem ops_ext {rs qs : List (Int × List Int)} (hl : rs.length = qs.length) (h : ∀ i, i < rs.length → arO rs i = arO qs i ∧ rowO rs i = rowO qs i) : rs = qs := by
  apply List.ext_getElem hl
  intro i h1 h2
  obtain ⟨e1, e2⟩ := h i h1
  simp only [arO, rowO, List.getD, List.getElem?_eq_getElem h1, List.getElem?_eq_getElem h2, Option.getD_some] at e1 e2
  exact Prod.ext e1 e2

/-- v is a slice of what has a number and a row: two cells each. -/
def OpsAt (w : World) (v : Value) (rs : List (Int × List Int)) : Prop :=
  ∃ (a : Option Addr) (c : Nat), v = .slice a rs.length c ∧ rs.length ≤ 9223372036854775807 ∧ (0 < rs.length → ∃ b off, a = some ⟨b, off, none⟩ ∧ ∀ i, i < rs.length → OpAt w b (off + i * 2) (arO rs i) (rowO rs i))

theorem OpsAt.below {w w' : World} {v : Value} {rs : List (Int × List Int)} (h : OpsAt w v rs) (hb : Below w.heap.size w w') : OpsAt w' v rs := by
  obtain ⟨a, c, rfl, hn, h⟩ := h
  refine ⟨a, c, rfl, hn, fun h0 => ?_⟩
  obtain ⟨b, off, rfl, hc⟩ := h h0
  exact ⟨b, off, rfl, fun i hi => (hc i hi).below hb⟩

theorem OpsAt.nil (w : World) : OpsAt w (.slice none 0 0) [] := ⟨none, 0, rfl, by simp, fun h => absurd h (by simp)⟩

def partO (rs : List (Int × List Int)) : Nat → Nat
  | 0 => 0
  | k + 1 => partO rs k + (rowO rs k).length
def opsSize (rs : List (Int × List Int)) : Nat := rs.length + partO rs rs.length

theorem partO_succ (rs : List (Int × List Int)) (k : Nat) : partO rs (k + 1) = partO rs k + (rowO rs k).length := rfl
theorem partO_zero (rs : List (Int × List Int)) : partO rs 0 = 0 := rfl
theorem partO_le (rs : List (Int × List Int)) {k n : Nat} (h : k ≤ n) : partO rs k ≤ partO rs n := by
  induction n with
  | zero => obtain rfl : k = 0 := by omega
            exact Nat.le_refl _
  | succ n ih =>
    by_cases hk : k = n + 1
    · subst hk; exact Nat.le_refl _
    · have := ih (by omega)
      rw [partO_succ]; omega
theorem row_leO (rs : List (Int × List Int)) {k : Nat} (h : k < rs.length) : rs.length + (rowO rs k).length ≤ opsSize rs := by
  have := partO_le rs (k := k + 1) (n := rs.length) (by omega)
  rw [partO_succ] at this
  unfold opsSize
  omega

theorem lives_ops (v : Value) (rs : List (Int × List Int)) : Lives (fun w => OpsAt w v rs) := fun _ _ hb h => h.below hb
theorem Kept.ops {w w1 : World} {C : List (Addr × Value)} {R : List (World → Prop)} (h : Kept w C R w1) (i : Nat) {v : Value} {rs : List (Int × List Int)} (hi : R[i]? = some (fun w => OpsAt w v rs)) : OpsAt w1 v rs := h.reads i _ hi

/-- A list of its own: two cells for each, in a block of [B, E), the rows each in a block of its own there. -/
structure OwnOpsV (T : TypeId) (w : World) (B E : Nat) (v : Value) (n : Nat) (V : Nat → Value) (rs : List (Int × List Int)) : Prop where
  outer : ∃ xs, w.ownsRow B T 2 v n xs ∧ ∀ i, i < n → xs[i * 2]? = some (.int .i64 (arO rs i)) ∧ xs[i * 2 + 1]? = some (V i)
  le : E ≤ w.heap.size
  top : ∀ g, v.ownBlock = some g → g < E
  rows : ∀ i, i < n → OwnRow w B (V i) (rowO rs i)
  hi : ∀ i, i < n → ∀ g, (V i).ownBlock = some g → g < E
  apart : ∀ i j, i < j → j < n → ∀ g, (V i).ownBlock = some g → (V j).ownBlock ≠ some g
  top_ne : ∀ i, i < n → ∀ g, v.ownBlock = some g → (V i).ownBlock ≠ some g
def OwnOps (T : TypeId) (w : World) (B E : Nat) (v : Value) (rs : List (Int × List Int)) : Prop := ∃ V, OwnOpsV T w B E v rs.length V rs

theorem ownsRow2_parts {w : World} {B e n : Nat} {v : Value} {xs : List Value} (h : w.ownsRow B e 2 v n xs) :
    (v = .slice none 0 0 ∧ n = 0 ∧ xs = []) ∨ ∃ g c, v = .slice (some ⟨g, 0, none⟩) n c ∧ B ≤ g ∧ g < w.heap.size ∧ n ≤ c ∧ c ≤ maxLen ∧ ∀ i u, i < n * 2 → xs[i]? = some u → w.cell? ⟨g, i, none⟩ = some u := by
  have hl := h.1
  rcases h.2 with ⟨rfl, hn⟩ | ⟨g, c, cur, rfl, hb, hgg, h1, h2, h3, h4⟩
  · refine .inl ⟨rfl, hn, ?_⟩
    subst hn
    simpa using hl
  · refine .inr ⟨g, c, rfl, hb, (Array.getElem?_eq_some_iff.1 hgg).1, h1, h2, fun i u hi hu => ?_⟩
    rw [h.cellAt i hi]
    exact hu

theorem RowAt.slice {w : World} {v : Value} {xs : List Int} (h : RowAt w v xs) : ∃ a n c, v = .slice a n c ∧ RowAt w (.slice a n c) xs := by
  have h' := h
  obtain ⟨a, c, rfl, _⟩ := h'
  exact ⟨a, _, c, rfl, h⟩

theorem OwnOps.at {T : TypeId} {w : World} {B E : Nat} {v : Value} {rs : List (Int × List Int)} (h : OwnOps T w B E v rs) : OpsAt w v rs := by
  obtain ⟨V, h⟩ := h
  obtain ⟨xs, ho, hx⟩ := h.outer
  rcases ownsRow2_parts ho with ⟨rfl, hn, _⟩ | ⟨g, c, rfl, _, _, h1, h2, hc⟩
  · obtain rfl : rs = [] := List.length_eq_zero_iff.1 hn
    exact OpsAt.nil w
  · refine ⟨_, c, rfl, by unfold maxLen at h2; omega, fun _ => ⟨g, 0, rfl, fun i hi => ?_⟩⟩
    obtain ⟨e1, e2⟩ := hx i hi
    obtain ⟨a, m, c', he, hr⟩ := (h.rows i hi).rowAt.slice
    rw [Nat.zero_add]
    exact ⟨hc _ _ (by omega) e1, a, m, c', by rw [hc _ _ (by omega) e2, he], hr⟩
theorem OwnOps.same {T : TypeId} {w w' : World} {B E : Nat} {v : Value} {rs : List (Int × List Int)} (h : OwnOps T w B E v rs) (hs : E ≤ w'.heap.size) (hg : ∀ g, B ≤ g → g < E → w'.heap[g]? = w.heap[g]?) : OwnOps T w' B E v rs := by
  obtain ⟨V, h⟩ := h
  obtain ⟨xs, ho, hx⟩ := h.outer
  exact ⟨V, ⟨xs, ownsRow_same ho fun g hv => hg g (ho.lt g hv).1 (h.top g hv), hx⟩, hs, h.top, fun i hi => ownsRow_same (h.rows i hi) fun g hv => hg g ((h.rows i hi).lt g hv).1 (h.hi i hi g hv), h.hi, h.apart, h.top_ne⟩
theorem OwnOps.below {T : TypeId} {w w' : World} {B E : Nat} {v : Value} {rs : List (Int × List Int)} (h : OwnOps T w B E v rs) (hb : Below w.heap.size w w') : OwnOps T w' B E v rs := by
  have hle : E ≤ w.heap.size := by obtain ⟨V, h⟩ := h; exact h.le
  exact h.same (Nat.le_trans hle hb.size) fun g _ h2 => hb.block g (by omega)
theorem OwnOps.stored {T : TypeId} {w : World} {B E : Nat} {v : Value} {rs : List (Int × List Int)} (h : OwnOps T w B E v rs) {p : Addr} (hp : p.block < B) (u : Value) : OwnOps T (w.setCell p u) B E v rs := by
  have hle : E ≤ w.heap.size := by obtain ⟨V, h⟩ := h; exact h.le
  exact h.same (by simp [World.setCell]; omega) fun g h1 _ => Below.heap_setCell _ _ _ _ (by omega)
theorem OwnOps.full {T : TypeId} {w : World} {B E : Nat} {v : Value} {rs : List (Int × List Int)} (h : OwnOps T w B E v rs) : OwnOps T w B w.heap.size v rs := by
  obtain ⟨V, h⟩ := h
  exact ⟨V, h.outer, Nat.le_refl _, fun g hg => Nat.lt_of_lt_of_le (h.top g hg) h.le, h.rows, fun i hi g hg => Nat.lt_of_lt_of_le (h.hi i hi g hg) h.le, h.apart, h.top_ne⟩
theorem OwnOps.mono {T : TypeId} {w : World} {B B' E : Nat} {v : Value} {rs : List (Int × List Int)} (h : OwnOps T w B E v rs) (hB : B' ≤ B) : OwnOps T w B' E v rs := by
  obtain ⟨V, h⟩ := h
  obtain ⟨xs, ho, hx⟩ := h.outer
  exact ⟨V, ⟨xs, ownsRow_mono ho hB, hx⟩, h.le, h.top, fun i hi => (h.rows i hi).mono hB, h.hi, h.apart, h.top_ne⟩
theorem OwnOps.nil (T : TypeId) (w : World) (B E : Nat) (hE : E ≤ w.heap.size) : OwnOps T w B E (.slice none 0 0) [] :=
  ⟨fun _ => .slice none 0 0, ⟨[], World.ownsRow_nil w B _ 2, fun i hi => absurd hi (by simp)⟩, hE, fun g hg => by simp [Value.ownBlock] at hg, fun i hi => absurd hi (by simp), fun i hi => absurd hi (by simp), fun i j _ hj => absurd hj (by simp), fun i hi => absurd hi (by simp)⟩
theorem lives_ownOps (T : TypeId) (B E : Nat) (v : Value) (rs : List (Int × List Int)) : Lives (fun w => OwnOps T w B E v rs) := fun _ _ hb h => h.below hb
theorem stab_ownOps {T : TypeId} {w : World} {B E : Nat} {v : Value} {rs : List (Int × List Int)} (h : OwnOps T w B E v rs) : Stab B E (fun w => OwnOps T w B E v rs) w := fun _ h1 h2 => h.same (Nat.le_trans (by obtain ⟨V, h⟩ := h; exact h.le) h1) h2

/-- A list of which k are made. -/
structure OpsPart (T : TypeId) (w wr : World) (n k : Nat) (U : Nat → Value) (rs : List (Int × List Int)) : Prop where
  outer : ∃ xs, wr.ownsRow w.heap.size T 2 (.slice (some ⟨w.heap.size, 0, none⟩) n n) n xs ∧ ∀ i, i < k → xs[i * 2]? = some (.int .i64 (arO rs i)) ∧ xs[i * 2 + 1]? = some (U i)
  rows : ∀ i, i < k → OwnRow wr (w.heap.size + 1) (U i) (rowO rs i)
  apart : ∀ i j, i < j → j < k → ∀ g, (U i).ownBlock = some g → (U j).ownBlock ≠ some g
  below : Below w.heap.size w wr
  size : w.heap.size + 1 ≤ wr.heap.size

theorem OpsPart.step {T : TypeId} {w wr w2 : World} {n k : Nat} {U : Nat → Value} {rs : List (Int × List Int)} {a : Option Addr} {m c : Nat} (h : OpsPart T w wr n k U rs) (hk : k < n)
    (ho : OwnRowE w2 wr.heap.size w2.heap.size (.slice a m c) (rowO rs k)) (hb : Below wr.heap.size wr w2) :
    OpsPart T w ((w2.setCell ⟨w.heap.size, k * 2, none⟩ (.int .i64 (arO rs k))).setCell ⟨w.heap.size, k * 2 + 1, none⟩ (.slice a m c)) n (k + 1) (fun i => if i = k then .slice a m c else U i) rs := by
  have hs := hb.size
  have hsz := h.size
  obtain ⟨xs, h1, h2⟩ := h.outer
  have h3 := ((ownsRow_below h1 hb).stored (k * 2) (.int .i64 (arO rs k))).1.stored (k * 2 + 1) (.slice a m c)
  have hl := ownsRow_len h1
  have hz : ∀ (u : Value) (ys : List Int) (B : Nat), w.heap.size + 1 ≤ B → OwnRow w2 B u ys → OwnRow ((w2.setCell ⟨w.heap.size, k * 2, none⟩ (.int .i64 (arO rs k))).setCell ⟨w.heap.size, k * 2 + 1, none⟩ (.slice a m c)) (w.heap.size + 1) u ys := by
    intro u ys B hB hu
    exact ((hu.stored (p := ⟨w.heap.size, k * 2, none⟩) (by show w.heap.size < B; omega) _).stored (p := ⟨w.heap.size, k * 2 + 1, none⟩) (by show w.heap.size < B; omega) _).mono hB
  refine ⟨⟨_, h3.1, fun i hi => ?_⟩, fun i hi => ?_, fun i j hij hj g hg => ?_, ?_, ?_⟩
  · by_cases hik : i = k
    · subst hik
      simp [List.getElem?_set, hl]
      omega
    · obtain ⟨e1, e2⟩ := h2 i (by omega)
      simp only [hik, if_false]
      rw [List.getElem?_set_ne (by omega), List.getElem?_set_ne (by omega), List.getElem?_set_ne (by omega), List.getElem?_set_ne (by omega)]
      exact ⟨e1, e2⟩
  · by_cases hik : i = k
    · subst hik
      simp only [if_true]
      exact hz _ _ _ hsz ho.row
    · simp only [hik, if_false]
      exact hz _ _ _ (Nat.le_refl _) ((h.rows i (by omega)).below hb)
  · by_cases hjk : j = k
    · subst hjk
      simp only [show ¬ i = j by omega, if_false, if_true] at hg ⊢
      intro hg2
      have a1 := ((h.rows i hij).lt g hg).2
      have a2 := (ho.row.lt g hg2).1
      omega
    · simp only [show ¬ i = k by omega, hjk, if_false] at hg ⊢
      exact h.apart i j hij (by omega) g hg
  · exact ((h.below.trans (hb.mono (by omega))).setCell (Nat.le_refl _) _).setCell (Nat.le_refl _) _
  · simp [World.setCell]
    omega

theorem OpsPart.own {T : TypeId} {w wr : World} {U : Nat → Value} {rs : List (Int × List Int)} (h : OpsPart T w wr rs.length rs.length U rs) :
    OwnOps T wr w.heap.size wr.heap.size (.slice (some ⟨w.heap.size, 0, none⟩) rs.length rs.length) rs := by
  obtain ⟨xs, ho, hx⟩ := h.outer
  refine ⟨U, ⟨xs, ho, hx⟩, Nat.le_refl _, fun g hg => (ho.lt g hg).2, fun i hi => (h.rows i hi).mono (by omega), fun i hi g hg => ((h.rows i hi).lt g hg).2, h.apart, fun i hi g hg hg2 => ?_⟩
  simp only [Value.ownBlock, Option.some.injEq] at hg
  have := ((h.rows i hi).lt g hg2).1
  omega

/-- A list of its own, made by the call; nothing that was there has turned. -/
def MadeOps (T : TypeId) (w : World) (rs : List (Int × List Int)) (e : Ending) (w' : World) : Prop := ∃ a n c, e = .returned (.slice a n c) ∧ OwnOps T w' w.heap.size w'.heap.size (.slice a n c) rs ∧ Below w.heap.size w w'


end Go.Proofs.Ytnbgpeoceejolab
