/-
  The model's set of a relation, and the tuples of one of two relations: l01SetOf and JoinRels of the model.
-/
import Derived.Test.YtoojgaaggdnpiaaMake
import Derived.Test.YtoojgaaggdnpiaaGRel
namespace Go.Proofs.Ytoojgaaggdnpiaa
open Go.RowKit

theorem tri_set {w1 : World} {p b c d : Addr} {x y z v : Value} (h : w1.cell? b = some x ∧ w1.cell? c = some y ∧ w1.cell? d = some z) (hb : b.block ≠ p.block) (hc : c.block ≠ p.block) (hd : d.block ≠ p.block) :
    (w1.setCell p v).cell? b = some x ∧ (w1.setCell p v).cell? c = some y ∧ (w1.setCell p v).cell? d = some z :=
  ⟨(World.cell?_of_block (Below.heap_setCell _ _ _ _ hb)).trans h.1, (World.cell?_of_block (Below.heap_setCell _ _ _ _ hc)).trans h.2.1, (World.cell?_of_block (Below.heap_setCell _ _ _ _ hd)).trans h.2.2⟩

set_option maxHeartbeats 4000000 in
set_option maxRecDepth 100000 in
theorem l01SetOf (s r : Nat) (pb po : Nat) (xs : List (List Int)) (w : World) (h1 : 1 ≤ s) (h2 : s ≤ 4) (h3 : 1 ≤ r) (h4 : r ≤ 4) (h : RelAt w pb po r xs) (ht : ∀ j, j < xs.length → TupP s r (rowN xs j)) :
    Calls Try.prog 135 #[.int .i64 s, .pointer (some ⟨pb, po, none⟩)] w fun e w' => ∃ p g, e = .returned (.pointer (some ⟨p, 0, none⟩)) ∧ LSetAt w' w.heap.size p g s r (setOf s xs) ∧ Below w.heap.size w w' := by
  obtain ⟨ha, a, n, c, hrow, hgrid⟩ := h
  obtain ⟨V, ⟨a', c', hv, hn, hc⟩, hV⟩ := hgrid
  simp only [Value.slice.injEq] at hv
  obtain ⟨rfl, rfl, rfl⟩ := hv
  have HC := Lib.hid hc
  have HV := Lib.hid hV
  have HT := Lib.hid ht
  have HROW := Lib.hid hrow
  have hpb : pb < w.heap.size := cell_block_lt hrow
  have HS : Hid (In14 (s : Int)) := ⟨by omega, by omega⟩
  have HA : Hid (In14 (r : Int)) := ⟨by omega, by omega⟩
  clear hc hV ht hrow
  go_enter Try.func135, Try.ntmps135
  go_wp2_with fail
  refine (l01Empty s r h1 h2 h4 _).mono ?_
  rintro e w2 ⟨p, g, rfl, hset, hb2⟩
  have hg := (hset.has.lt g rfl).1
  have hne1 := hset.ne
  have HSET := Lib.hid hset
  have HB2 := Lib.hid hb2
  clear hset hb2 ha
  go_wp2
  go_loopw [6] (fun i wr => ∃ k : Nat, k ≤ xs.length ∧ i = .int .i64 k ∧ LSetAt wr w.heap.size p g s r (setK s xs k) ∧ Below w.heap.size w wr) (fun i _ => xs.length - (intOf i).toNat)
  case atStart => exact ⟨0, Nat.zero_le _, rfl, HSET.out, HB2.out⟩
  case round =>
    obtain ⟨k, hk, rfl, hset, hw⟩ := hrel
    have hrow := below_cell hw HROW.out
    by_cases hlt : k < xs.length
    · obtain ⟨b1, off1, ha1, hcell1⟩ := HC.out (by omega)
      subst ha1
      have hb1 : b1 < w.heap.size := cell_block_lt (hcell1 k hlt)
      have hx1 := below_cell hw (hcell1 k hlt)
      have hcl := codeN_pow h1 (HT.out k hlt)
      have HROWK := Lib.hid ((HV.out k hlt).below hw)
      have HTK := Lib.hid (HT.out k hlt)
      have hput := hset.put (codeN s (rowN xs k))
      have hat := hset.at _ hcl
      have hfr := hset.has.frozenAt (codeN s (rowN xs k))
      have hcb := hset.c2
      have hlt' : (k : Int) < (xs.length : Int) := by omega
      have hne2 : pb ≠ g := by omega
      have hne3 : b1 ≠ g := by omega
      generalize hm : codeN s (rowN xs k) = m at *
      have HM := Lib.hid hm
      have HPUT := Lib.hid hput
      have HW3 : Hid (Below w.heap.size w (wr.setCell ⟨g, m, none⟩ (.bool true)).drew) := Lib.hid ((hw.setCell (p := ⟨g, m, none⟩) (by show w.heap.size ≤ g; omega) (.bool true)).drew)
      generalize s ^ r = N at *
      have hltI : (m : Int) < (N : Int) := by omega
      clear hset hw hput hm hcell1
      go_wp2
      go_region_held3 (fun w' => w'.cell? ⟨p, 2, none⟩ = some (.slice (some ⟨g, 0, none⟩) N N) ∧ w'.cell? ⟨pb, po + 1, none⟩ = some (.slice (some ⟨b1, off1, none⟩) xs.length c) ∧ w'.cell? ⟨b1, off1 + k, none⟩ = some (V k))
        (first | exact ⟨hcb, hrow, hx1⟩ | exact tri_set (by assumption) hne1 hne2 hne3 | go_keep)
        (first
          | (go_at_call 138; refine (l01CodeN _ _ r _ m _ (((QW.refl _).drew).row HROWK.out) HS.out HA.out HTK.out HM.out).mono ?_; rintro e w2 ⟨rfl, rfl⟩))
      go_wp2
      go_roundw
      case rel =>
        refine ⟨k + 1, by omega, by go_num, ?_, HW3.out⟩
        show LSetAt _ _ _ _ _ _ (putS (setK s xs k) (codeN s (rowN xs k)))
        rw [HM.out]
        exact HPUT.out.below ((QW.refl _).drew.bel)
      case measure => simp [intOf]; omega
    · obtain rfl : k = xs.length := by omega
      have HS2 := Lib.hid hset
      have HW := Lib.hid hw
      clear hset hw
      go_wp2
      go_ret
      exact ⟨p, g, rfl, HS2.out, HW.out⟩

theorem setK_left (size : Int) (xs ys : List (List Int)) : ∀ k, k ≤ xs.length → setK size (xs ++ ys) k = setK size xs k := by
  intro k
  induction k with
  | zero => intro _; rfl
  | succ k ih =>
    intro hk
    show putS _ _ = putS _ _
    rw [ih (by omega), rowN_at _ _ (by simp; omega), rowN_at _ _ (by omega), List.getElem_append_left (by omega)]
theorem setK_right (size : Int) (xs ys : List (List Int)) (k : Nat) (hk : k < ys.length) : setK size (xs ++ ys) (xs.length + (k + 1)) = putS (setK size (xs ++ ys) (xs.length + k)) (codeN size (rowN ys k)) := by
  have e : rowN (xs ++ ys) (xs.length + k) = rowN ys k := by
    rw [rowN_at _ _ (by simp; omega), rowN_at _ _ hk, List.getElem_append_right (by omega)]
    simp
  show putS (setK size (xs ++ ys) (xs.length + k)) (codeN size (rowN (xs ++ ys) (xs.length + k))) = _
  rw [e]
theorem join_tups {s r : Int} {xs ys : List (List Int)} (h1 : RelOk s r xs) (h2 : RelOk s r ys) : ∀ j, j < (xs ++ ys).length → TupP s r (rowN (xs ++ ys) j) := fun j hj => by
  have hm : rowN (xs ++ ys) j ∈ xs ++ ys := mem_rowN.2 ⟨j, hj, rfl⟩
  rcases List.mem_append.1 hm with h | h
  · exact h1.tups _ h
  · exact h2.tups _ h
theorem RelOk.rows {s r : Int} {xs : List (List Int)} (h1 : RelOk s r xs) : ∀ j, j < xs.length → TupP s r (rowN xs j) := fun j hj => (h1.2.2 j hj).1

/-- What JoinRels answers. -/
def JoinRelsIs (size x : Int) (xs : List (List Int)) (y : Int) (ys : List (List Int)) (ar : Int) (zs : List (List Int)) (cd : Int) : Prop :=
  TwoCode size x xs y ys cd ∧ ((cd = 0 ∧ ar = x ∧ zs = rowsS size.toNat x.toNat (setOf size (xs ++ ys)) 256) ∨ (cd ≠ 0 ∧ ar = 0 ∧ zs = []))
theorem JoinRelsIs.exists (size x : Int) (xs : List (List Int)) (y : Int) (ys : List (List Int)) : ∃ ar zs cd, JoinRelsIs size x xs y ys ar zs cd := by
  obtain ⟨c, hc⟩ := TwoCode.exists size x xs y ys
  by_cases h : c = 0
  · exact ⟨_, _, c, hc, .inl ⟨h, rfl, rfl⟩⟩
  · exact ⟨_, _, c, hc, .inr ⟨h, rfl, rfl⟩⟩
theorem JoinRelsIs.small {size x : Int} {xs : List (List Int)} {y : Int} {ys : List (List Int)} {ar : Int} {zs : List (List Int)} {cd : Int} (h : JoinRelsIs size x xs y ys ar zs cd) : (zs.map List.length).sum ≤ 1048576 := by
  obtain ⟨hc, ⟨rfl, rfl, rfl⟩ | ⟨_, _, rfl⟩⟩ := h
  · exact rowsS_small _ _ _ (by have := hc.ok.1.2.1.2; omega)
  · simp

end Go.Proofs.Ytoojgaaggdnpiaa
