/-
  A relation in a box that grows row by row in a loop of the model: what one appended row leaves; l00Own, the copy of a row.
-/
import Derived.Test.YtnbgpeoceejolabGBase
import Derived.Test.YtnbgpeoceejolabGSet
import Derived.Deep.AppendLies
namespace Go.Proofs.Ytnbgpeoceejolab
open Go.RowKit

theorem info_intO : (Try.prog.info? 2).map (fun i => (i.zero, i.size, i.bytes)) = some (some (.int .i64 0), 1, 8) := by kernel_rfl
theorem info_rowO : (Try.prog.info? 45).map (fun i => (i.zero, i.size, i.bytes)) = some (some (.slice none 0 0), 1, 24) := by kernel_rfl

/-- The relation in the box p: its arity x and the rows L, in memory from B on. -/
structure GrowAt (w0 : Nat) (B p : Nat) (x : Int) (L : List (List Int)) (a : Option Addr) (n c : Nat) (w : World) : Prop where
  box : RelBox w p (.int .i64 x) (.slice a n c)
  own : ∃ V, OwnGridV w B w.heap.size (.slice a n c) L.length V (rowN L)
  lt : p < B
  le : B ≤ w.heap.size
  base : w0 ≤ p

theorem GrowAt.start {w : World} {w0 B p : Nat} {x : Int} (h : RelBox w p (.int .i64 x) (.slice none 0 0)) (hlt : p < B) (hle : B ≤ w.heap.size) (hb : w0 ≤ p) : GrowAt w0 B p x [] none 0 0 w :=
  ⟨h, ⟨fun _ => .slice none 0 0, OwnGridV.none _ _ _ _⟩, hlt, hle, hb⟩
theorem GrowAt.len {w : World} {w0 B p : Nat} {x : Int} {L : List (List Int)} {a : Option Addr} {n c : Nat} (h : GrowAt w0 B p x L a n c w) : n = L.length := by
  obtain ⟨V, hV⟩ := h.own
  rcases ownsRow_parts hV.outer with ⟨hv, hn, _⟩ | ⟨g, c', hv, _⟩
  · simp only [Value.slice.injEq] at hv; omega
  · simp only [Value.slice.injEq] at hv; exact hv.2.1
theorem GrowAt.below {w w' : World} {w0 B p : Nat} {x : Int} {L : List (List Int)} {a : Option Addr} {n c : Nat} (h : GrowAt w0 B p x L a n c w) (hb : Below w.heap.size w w') : GrowAt w0 B p x L a n c w' := by
  obtain ⟨V, hV⟩ := h.own
  exact ⟨h.box.below hb, ⟨V, (hV.same hb.size fun g _ hg => hb.block g hg).full⟩, h.lt, Nat.le_trans h.le hb.size, h.base⟩
theorem GrowAt.grid {w : World} {w0 B p : Nat} {x : Int} {L : List (List Int)} {a : Option Addr} {n c : Nat} (h : GrowAt w0 B p x L a n c w) : OwnGrid w B w.heap.size (.slice a n c) L := h.own

/-- One row more. w: before the row was made; w2: behind it, with the cell that holds it; w5: behind append. -/
theorem GrowAt.more {w w2 w5 : World} {w0 B p : Nat} {x : Int} {L : List (List Int)} {a : Option Addr} {n c : Nat} {r : Value} {ys : List Int} {V : Nat → Value} {g5 c5 : Nat} {o : Obj}
    (h : GrowAt w0 B p x L a n c w) (hV : OwnGridV w B w.heap.size (.slice a n c) L.length V (rowN L)) (hb : Below w.heap.size w w2) (hr : OwnRow w2 w.heap.size r ys)
    (ho : w5.ownsRow B 45 1 (.slice (some ⟨g5, 0, none⟩) (L.length + 1) c5) (L.length + 1) ((List.range L.length).map V ++ [r])) (hg : (w2.alloc o).grownBy w5 (Value.slice a n c).ownBlock) :
    GrowAt w0 B p x (L ++ [ys]) (some ⟨g5, 0, none⟩) (L.length + 1) c5 (w5.setCell ⟨p, 1, none⟩ (.slice (some ⟨g5, 0, none⟩) (L.length + 1) c5)) ∧
    Below w0 w (w5.setCell ⟨p, 1, none⟩ (.slice (some ⟨g5, 0, none⟩) (L.length + 1) c5)) ∧
    ∀ q, q < B → q ≠ p → (w5.setCell ⟨p, 1, none⟩ (.slice (some ⟨g5, 0, none⟩) (L.length + 1) c5)).heap[q]? = w.heap[q]? := by
  have hbA : Below w.heap.size w (w2.alloc o) := hb.alloc hb.size o
  have hrA : OwnRow (w2.alloc o) w.heap.size r ys := hr.below ((Below.refl _ _).alloc (Nat.le_refl _) _)
  have hfar : ∀ q, q < B → (Value.slice a n c).ownBlock ≠ some q := fun q hq => hV.far q hq
  have hplt : p < w.heap.size := Nat.lt_of_lt_of_le h.lt h.le
  have hw5 : w.heap.size ≤ w5.heap.size := Nat.le_trans hbA.size hg.size
  have hG := hV.grow hbA hrA h.le ho hg
  have hsame : ∀ q, q < B → q ≠ p → (w5.setCell ⟨p, 1, none⟩ (.slice (some ⟨g5, 0, none⟩) (L.length + 1) c5)).heap[q]? = w.heap[q]? := fun q hq hqp => by
    rw [Below.heap_setCell _ _ _ _ (by show q ≠ p; exact hqp), hg.block q (by have := hbA.size; have := h.le; omega) (fun e => hfar q hq e.symm), hbA.block q (by have := h.le; omega)]
  have hbox5 : RelBox w5 p (.int .i64 x) (.slice a n c) := (h.box.below hbA).grown hg (hfar p h.lt)
  refine ⟨⟨hbox5.set1 _, ⟨fun i => if i = L.length then r else V i, ?_⟩, h.lt, by have := h.le; simp [World.setCell]; omega, h.base⟩, ?_, hsame⟩
  · rw [List.length_append]
    refine ((hG.same (by simp [World.setCell]) fun g hg1 _ => Below.heap_setCell _ _ _ _ (by show g ≠ p; have := h.lt; omega)).full).congr fun i hi => ?_
    rw [rowN_snoc _ _ _ hi]
  · refine Below.setCell ?_ (by show w0 ≤ p; exact h.base) _
    refine ((Below.mono hbA (by have := h.base; omega)).grown hg (by have := h.base; have := hbA.size; omega) fun q hq => ?_)
    have := (hV.outer.lt q hq).1
    have := h.base
    have := h.lt
    omega

set_option maxHeartbeats 1000000 in
theorem l00Own (a : Option Addr) (n c : Nat) (xs : List Int) (w : World) (h : RowAt w (.slice a n c) xs) (h1 : 1 ≤ xs.length) (h2 : xs.length ≤ 1000000) :
    Calls Try.prog 46 #[.slice a n c] w fun e w' => ∃ a' c', e = .returned (.slice a' xs.length c') ∧ OwnRow w' w.heap.size (.slice a' xs.length c') xs ∧ Below w.heap.size w w' := by
  obtain ⟨i0, hi, hz0, hz1, hz2⟩ := info_parts info_intO
  obtain ⟨a1, c1, hv, hn1, hc1⟩ := h
  simp only [Value.slice.injEq] at hv
  obtain ⟨rfl, rfl, rfl⟩ := hv
  obtain ⟨b, off, rfl, hcell⟩ := hc1 (by omega)
  have hown : World.ownsRow (w.alloc (.cells #[] 2)) w.heap.size 2 1 (.slice (some ⟨w.heap.size, 0, none⟩) 0 0) 0 [] := ownRow_lit w w.heap.size [] (Nat.le_refl _) (by simp)
  have HO := Lib.hid hown
  have hnews : ∀ j u, (xs.map (Value.int .i64))[j]? = some u → (w.alloc (.cells #[] 2)).cell? ((⟨b, off, none⟩ : Addr).add j) = some u := fun j u hu => by
    have hj : j < xs.length := by have := (List.getElem?_eq_some_iff.1 hu).1; simpa using this
    have hu2 : u = .int .i64 (intN xs j) := by
      rw [List.getElem?_map, List.getElem?_eq_getElem hj] at hu
      rw [intN_at _ _ hj]; simpa using hu.symm
    subst hu2
    have := below_cell ((Below.refl _ _).alloc (Nat.le_refl _) (.cells #[] 2)) (hcell j hj)
    rw [Addr.add_lit]; exact this
  have HNW := Lib.hid hnews
  have HW : Hid (Below w.heap.size w (w.alloc (.cells #[] 2))) := Lib.hid ((Below.refl _ _).alloc (Nat.le_refl _) _)
  clear hcell hc1 hown hnews
  go_enter Try.func46, Try.ntmps46
  go_wp2_with (at_builtin; refine wpList_append_own _ rfl _ _ 45 rfl w.heap.size 2 i0 (.int .i64 0) 1 8 Try.underlying45 hi hz0 hz1 hz2 rfl (by decide) (.slice (some ⟨w.heap.size, 0, none⟩) 0 0) 0 [] rfl HO.out ⟨b, off, none⟩ xs.length c (xs.map (Value.int .i64)) rfl (by simp) HNW.out (by simp [Value.oneCell']) (by unfold maxLen; omega) (by omega) (by simp) ?_; intro v' w3 hown' hgrow hnil)
  go_ret
  have hno : v' ≠ .slice none 0 0 := fun e => by have := hnil.1 e; omega
  simp only [Nat.zero_add, List.nil_append] at hown'
  obtain ⟨a', c', rfl⟩ : ∃ a' c', v' = .slice a' xs.length c' := by
    rcases ownsRow_parts hown' with ⟨rfl, hn, _⟩ | ⟨g, c', rfl, _⟩
    · omega
    · exact ⟨_, _, rfl⟩
  exact ⟨a', c', rfl, hown', HW.out.grown hgrow (by simp) fun q hq => by simp [Value.ownBlock] at hq; omega⟩

end Go.Proofs.Ytnbgpeoceejolab
