/-
  Valid relations as sets of tuples: members of what is placed, projected, composed and mapped; two valid relations with the same members are the same. No program.
-/
import Derived.Test.YtoojgaaggdnpiaaGSet
import Derived.Test.YtoojgaaggdnpiaaPlace
import Derived.Test.YtoojgaaggdnpiaaProject
import Derived.Test.YtoojgaaggdnpiaaCompose
import Derived.Test.YtoojgaaggdnpiaaMapRel
import Derived.Test.YtoojgaaggdnpiaaEqualRel
import Derived.Test.YtoojgaaggdnpiaaPair
import Derived.Test.YtoojgaaggdnpiaaFix
namespace Go.Proofs.Ytoojgaaggdnpiaa
open Go.RowKit

theorem in14 {n : Nat} (h1 : 1 ≤ n) (h2 : n ≤ 4) : In14 (n : Int) := ⟨by omega, by omega⟩

theorem ltP_of_code {s r : Nat} {x y : List Int} (h1 : 1 ≤ s) (h2 : s ≤ 4) (h3 : 1 ≤ r) (h4 : r ≤ 4) (hx : TupP s r x) (hy : TupP s r y) (h : codeN s x < codeN s y) : LtP x y := by
  have hl : x.length = y.length := by have := hx.1; have := hy.1; omega
  have hne : x ≠ y := by rintro rfl; omega
  obtain ⟨k, hk, he, hd⟩ := first_apart hl hne
  by_cases hlt : intN x k < intN y k
  · exact ⟨k, hk, he, hlt⟩
  · have h' : LtP y x := ⟨k, by omega, fun j hj => (he j hj).symm, by omega⟩
    have := h'.code (in14 h1 h2) (in14 h3 h4) hy hx
    omega

theorem ok_of_asc {s r : Nat} {xss : List (List Int)} (h1 : 1 ≤ s) (h2 : s ≤ 4) (h3 : 1 ≤ r) (h4 : r ≤ 4) (ht : ∀ x, x ∈ xss → TupP s r x) (ha : AscC s xss) : RelOk s r xss := by
  refine ⟨in14 h1 h2, in14 h3 h4, fun k hk => ⟨ht _ (rowN_mem hk), fun h0 => ?_⟩⟩
  have h := List.pairwise_iff_getElem.1 ha (k - 1) k (by omega) hk (by omega)
  rw [← rowN_at xss (k - 1) (by omega), ← rowN_at xss k hk] at h
  exact ltP_of_code h1 h2 h3 h4 (ht _ (rowN_mem (by omega))) (ht _ (rowN_mem hk)) h

theorem rel_ext {s r : Nat} {xs ys : List (List Int)} (hx : RelOk s r xs) (hy : RelOk s r ys) (h : ∀ x, x ∈ xs ↔ x ∈ ys) : xs = ys := by
  have h1 : 1 ≤ s := by have := hx.1.1; omega
  have h2 : s ≤ 4 := by have := hx.1.2; omega
  have h3 : 1 ≤ r := by have := hx.2.1.1; omega
  have h4 : r ≤ 4 := by have := hx.2.1.2; omega
  rw [← rowsS_asc h1 h2 h3 h4 hx.tups hx.asc, ← rowsS_asc h1 h2 h3 h4 hy.tups hy.asc]
  have : setOf (s : Int) xs = setOf s ys := by
    funext n
    rw [Bool.eq_iff_iff, setOf_iff, setOf_iff]
    simp only [h]
  rw [this]

theorem mem_rowsS (s r : Nat) (S : Nat → Bool) (x : List Int) : x ∈ rowsS s r S 256 ↔ ∃ n, n < 256 ∧ S n = true ∧ digs s r n = x := by
  simp only [rowsS, List.mem_map, mem_memb, and_assoc]

theorem rowsS_tups {s r : Nat} (h1 : 1 ≤ s) (S : Nat → Bool) : ∀ x, x ∈ rowsS s r S 256 → TupP s r x := fun x hx => by
  obtain ⟨n, _, _, rfl⟩ := (mem_rowsS s r S x).1 hx
  exact digs_tup s r n h1

theorem rowsS_ok {s r : Nat} {S : Nat → Bool} (h1 : 1 ≤ s) (h2 : s ≤ 4) (h3 : 1 ≤ r) (h4 : r ≤ 4) (hS : ∀ n, S n = true → n < s ^ r) : RelOk s r (rowsS s r S 256) := by
  refine ok_of_asc h1 h2 h3 h4 (rowsS_tups h1 S) ?_
  refine List.pairwise_map.2 ((memb_sorted S 256).imp_of_mem ?_)
  intro a b ha hb hlt
  rw [digs_code s r a (hS a ((mem_memb _ _ _).1 ha).2), digs_code s r b (hS b ((mem_memb _ _ _).1 hb).2)]
  exact hlt

theorem setOf_lt {s r : Nat} {L : List (List Int)} (h1 : 1 ≤ s) (hL : ∀ x, x ∈ L → TupP s r x) : ∀ n, setOf s L n = true → n < s ^ r := fun n hn => by
  obtain ⟨x, hx, rfl⟩ := (setOf_iff n).1 hn
  exact codeN_pow h1 (hL x hx)

theorem rows_ok {s r : Nat} {L : List (List Int)} (h1 : 1 ≤ s) (h2 : s ≤ 4) (h3 : 1 ≤ r) (h4 : r ≤ 4) (hL : ∀ x, x ∈ L → TupP s r x) : RelOk s r (rowsS s r (setOf s L) 256) :=
  rowsS_ok h1 h2 h3 h4 (setOf_lt h1 hL)

theorem mem_rows {s r : Nat} {L : List (List Int)} (h1 : 1 ≤ s) (h2 : s ≤ 4) (h3 : 1 ≤ r) (h4 : r ≤ 4) (hL : ∀ x, x ∈ L → TupP s r x) (x : List Int) : x ∈ rowsS s r (setOf s L) 256 ↔ x ∈ L := by
  rw [mem_rowsS]
  constructor
  · rintro ⟨n, hn, hS, rfl⟩
    obtain ⟨y, hy, rfl⟩ := (setOf_iff n).1 hS
    rw [digs_of_code h1 h2 h3 h4 (hL y hy)]
    exact hy
  · intro hx
    refine ⟨codeN s x, codeN_lt (hL x hx) (in14 h1 h2) (in14 h3 h4), (setOf_iff _).2 ⟨x, hx, rfl⟩, digs_of_code h1 h2 h3 h4 (hL x hx)⟩

/-! what is placed -/
def placedL (s t : Nat) (ps : List Int) (xs : List (List Int)) : List (List Int) := rowsS s t (cutS (s ^ t) (plS s t ps xs)) 256
theorem placed_ok {s t : Nat} (h1 : 1 ≤ s) (h2 : s ≤ 4) (h3 : 1 ≤ t) (h4 : t ≤ 4) (ps : List Int) (xs : List (List Int)) : RelOk s t (placedL s t ps xs) :=
  rowsS_ok h1 h2 h3 h4 fun n hn => by simp only [cutS, Bool.and_eq_true, decide_eq_true_eq] at hn; exact hn.1
theorem mem_placed {s t : Nat} (h1 : 1 ≤ s) (h2 : s ≤ 4) (h3 : 1 ≤ t) (h4 : t ≤ 4) (ps : List Int) (xs : List (List Int)) (x : List Int) (hx : TupP s t x) : x ∈ placedL s t ps xs ↔ mapped x ps ∈ xs := by
  unfold placedL
  rw [mem_rowsS]
  constructor
  · rintro ⟨n, _, hS, rfl⟩
    simp only [cutS, plS, Bool.and_eq_true, decide_eq_true_eq] at hS
    exact hS.2
  · intro h
    refine ⟨codeN s x, codeN_lt hx (in14 h1 h2) (in14 h3 h4), ?_, digs_of_code h1 h2 h3 h4 hx⟩
    simp only [cutS, plS, Bool.and_eq_true, decide_eq_true_eq, digs_of_code h1 h2 h3 h4 hx]
    exact ⟨codeN_pow h1 hx, h⟩

/-! what is paired, and projected again -/
theorem pair_ok {s r q : Nat} {xs ys : List (List Int)} (h : r + q ≤ 4) (hx : RelOk s r xs) (hy : RelOk s q ys) : RelOk s (r + q : Nat) (pairL xs ys) := by
  have h1 : 1 ≤ s := by have := hx.1.1; omega
  have h2 : s ≤ 4 := by have := hx.1.2; omega
  have h3 : 1 ≤ r := by have := hx.2.1.1; omega
  exact ok_of_asc h1 h2 (by omega) h (fun t ht => by rw [Int.natCast_add]; exact pairL_tups hx.tups hy.tups t ht) (pairL_asc hx hy)
theorem tup_one {s : Nat} {x : List Int} (h : TupP s 1 x) : ∃ a, x = [a] ∧ 0 ≤ a ∧ a < s := by
  match x, h with
  | [a], h => exact ⟨a, rfl, h.2 0 (by simp)⟩
  | [], h => exact absurd h.1 (by simp)
  | _ :: _ :: _, h => exact absurd h.1 (by simp; omega)
theorem tup_two {s : Nat} {x : List Int} (h : TupP s 2 x) : ∃ a b, x = [a, b] ∧ (0 ≤ a ∧ a < s) ∧ (0 ≤ b ∧ b < s) := by
  match x, h with
  | [a, b], h => exact ⟨a, b, rfl, h.2 0 (by simp), h.2 1 (by simp)⟩
  | [], h => exact absurd h.1 (by simp)
  | [_], h => exact absurd h.1 (by simp)
  | _ :: _ :: _ :: _, h => exact absurd h.1 (by simp; omega)
theorem mem_pairL {xs ys : List (List Int)} {t : List Int} : t ∈ pairL xs ys ↔ ∃ a, a ∈ xs ∧ ∃ b, b ∈ ys ∧ a ++ b = t := by
  simp only [pairL, pairRow, List.mem_flatMap, List.mem_map]
theorem project_back {s r q : Nat} {xs ys : List (List Int)} (hr : r = 1) (hq : 1 + q ≤ 4) (hx : RelOk s r xs) (hy : RelOk s q ys) (hne : 0 < ys.length) :
    rowsS s 1 (setOf s (atL [0] (pairL xs ys))) 256 = xs := by
  subst hr
  have h1 : 1 ≤ s := by have := hx.1.1; omega
  have h2 : s ≤ 4 := by have := hx.1.2; omega
  have hp := pair_ok hq hx hy
  have ht : ∀ t, t ∈ atL [0] (pairL xs ys) → TupP s (1 : Nat) t := atL_tups (ps := [0]) hp.tups fun k hk => by
    obtain rfl : k = 0 := by simp at hk; omega
    simp only [intN, List.getD_cons_zero]
    omega
  refine rel_ext (rows_ok h1 h2 (by omega) (by omega) ht) hx fun x => ?_
  rw [mem_rows h1 h2 (by omega) (by omega) ht]
  simp only [atL, List.mem_map, mem_pairL]
  constructor
  · rintro ⟨t, ⟨a, ha, b, hb, rfl⟩, rfl⟩
    obtain ⟨c, rfl, _⟩ := tup_one (hx.tups a ha)
    simpa [mapped, mapK, intN] using ha
  · intro hm
    obtain ⟨c, rfl, _⟩ := tup_one (hx.tups x hm)
    exact ⟨[c] ++ rowN ys 0, ⟨[c], hm, _, rowN_mem hne, rfl⟩, by simp [mapped, mapK, intN]⟩

/-! what is composed -/
theorem mem_compL {xs ys : List (List Int)} {t : List Int} : t ∈ compL xs ys ↔ ∃ a, a ∈ xs ∧ ∃ b, b ∈ ys ∧ intN a 1 = intN b 0 ∧ [intN a 0, intN b 1] = t := by
  simp only [compL, compRow, List.mem_flatMap, List.mem_map, List.mem_filter, beq_iff_eq, and_assoc]
def compR (s : Nat) (xs ys : List (List Int)) : List (List Int) := rowsS s 2 (setOf s (compL xs ys)) 256
theorem comp_ok {s : Nat} {xs ys : List (List Int)} (hx : RelOk s 2 xs) (hy : RelOk s 2 ys) : RelOk s 2 (compR s xs ys) :=
  rows_ok (s := s) (r := 2) (by have := hx.1.1; omega) (by have := hx.1.2; omega) (by omega) (by omega) (compL_tups hx.tups hy.tups)
theorem mem_compR {s : Nat} {xs ys : List (List Int)} (hx : RelOk s 2 xs) (hy : RelOk s 2 ys) (t : List Int) : t ∈ compR s xs ys ↔ ∃ a b c, [a, b] ∈ xs ∧ [b, c] ∈ ys ∧ [a, c] = t := by
  unfold compR
  rw [mem_rows (s := s) (r := 2) (by have := hx.1.1; omega) (by have := hx.1.2; omega) (by omega) (by omega) (compL_tups hx.tups hy.tups), mem_compL]
  constructor
  · rintro ⟨u, hu, v, hv, he, rfl⟩
    obtain ⟨a, b, rfl, _⟩ := tup_two (hx.tups u hu)
    obtain ⟨b', c, rfl, _⟩ := tup_two (hy.tups v hv)
    simp only [intN, List.getD_cons_zero, List.getD_cons_succ] at he ⊢
    subst he
    exact ⟨a, b, c, hu, hv, rfl⟩
  · rintro ⟨a, b, c, hu, hv, rfl⟩
    exact ⟨[a, b], hu, [b, c], hv, rfl, rfl⟩
theorem comp_assoc {s : Nat} {A B C : List (List Int)} (ha : RelOk s 2 A) (hb : RelOk s 2 B) (hc : RelOk s 2 C) : compR s (compR s A B) C = compR s A (compR s B C) := by
  refine rel_ext (s := s) (r := 2) (comp_ok (comp_ok ha hb) hc) (comp_ok ha (comp_ok hb hc)) fun t => ?_
  rw [mem_compR (comp_ok ha hb) hc, mem_compR ha (comp_ok hb hc)]
  simp only [mem_compR ha hb, mem_compR hb hc]
  constructor
  · rintro ⟨a, b, c, ⟨a', d, b', h1, h2, h3⟩, h4, rfl⟩
    simp only [List.cons.injEq, and_true] at h3
    obtain ⟨rfl, rfl⟩ := h3
    exact ⟨a', d, c, h1, ⟨d, b', c, h2, h4, rfl⟩, rfl⟩
  · rintro ⟨a, b, c, h1, ⟨b', d, c', h2, h3, h4⟩, rfl⟩
    simp only [List.cons.injEq, and_true] at h4
    obtain ⟨rfl, rfl⟩ := h4
    exact ⟨a, d, c', ⟨a, b', d, h1, h2, rfl⟩, h3, rfl⟩
theorem equal_ok {s : Nat} (h1 : 1 ≤ s) (h2 : s ≤ 4) : RelOk s 2 (eqRows s) := by
  refine ok_of_asc (s := s) (r := 2) h1 h2 (by omega) (by omega) (fun x hx => ?_) ?_
  · simp only [eqRows, List.mem_map, List.mem_range] at hx
    obtain ⟨i, hi, rfl⟩ := hx
    exact pair_tup (by omega) (by omega)
  · refine List.pairwise_map.2 (List.pairwise_lt_range.imp ?_)
    intro a b hlt
    rw [pair_code, pair_code]
    have := Nat.mul_le_mul_right s (Nat.le_of_lt hlt)
    omega
theorem comp_equal {s : Nat} {A : List (List Int)} (ha : RelOk s 2 A) : compR s A (eqRows s) = A := by
  have h1 : 1 ≤ s := by have := ha.1.1; omega
  have h2 : s ≤ 4 := by have := ha.1.2; omega
  refine rel_ext (s := s) (r := 2) (comp_ok ha (equal_ok h1 h2)) ha fun t => ?_
  rw [mem_compR ha (equal_ok h1 h2)]
  simp only [eqRows, List.mem_map, List.mem_range]
  constructor
  · rintro ⟨a, b, c, h, ⟨i, hi, he⟩, rfl⟩
    simp only [List.cons.injEq, and_true] at he
    obtain ⟨rfl, rfl⟩ := he
    exact h
  · intro h
    obtain ⟨a, b, rfl, _, hb⟩ := tup_two (ha.tups t h)
    exact ⟨a, b, b, h, ⟨b.toNat, by omega, by simp; omega⟩, rfl⟩

/-! what is mapped there and back -/
def mapR (t r : Nat) (to : List Int) (xs : List (List Int)) : List (List Int) := rowsS t r (setOf t (mapG to xs)) 256
theorem map_ok {s t r : Nat} {to : List Int} {xs : List (List Int)} (h1 : 1 ≤ t) (h2 : t ≤ 4) (hx : RelOk s r xs) (ht : TupP t s to) : RelOk t r (mapR t r to xs) :=
  rows_ok h1 h2 (by have := hx.2.1.1; omega) (by have := hx.2.1.2; omega) (mapG_tups ht hx.tups)
theorem map_back {s r : Nat} {to back : List Int} {xs : List (List Int)} (hx : RelOk s r xs) (ht : TupP s s to) (hb : TupP s s back) (hi : ∀ v : Nat, v < s → intN back (intN to v).toNat = v) :
    mapR s r back (mapR s r to xs) = xs := by
  have h1 : 1 ≤ s := by have := hx.1.1; omega
  have h2 : s ≤ 4 := by have := hx.1.2; omega
  have h3 : 1 ≤ r := by have := hx.2.1.1; omega
  have h4 : r ≤ 4 := by have := hx.2.1.2; omega
  have hm := map_ok h1 h2 hx ht
  have hback : ∀ x, x ∈ xs → mapped back (mapped to x) = x := fun x hx' => by
    have hl : (mapped back (mapped to x)).length = x.length := by rw [mapped_len, mapped_len]
    refine List.ext_getElem hl fun k hk hk' => ?_
    have e1 := mapped_at back (mapped to x) k (by rw [mapped_len]; exact hk')
    have e2 := mapped_at to x k hk'
    rw [intN_at _ _ hk] at e1
    rw [e1, e2]
    have hv := (hx.tups x hx').2 k hk'
    have := hi (intN x k).toNat (by omega)
    rw [this, ← intN_at _ _ hk']
    omega
  refine rel_ext (map_ok h1 h2 hm hb) hx fun x => ?_
  show x ∈ rowsS s r (setOf s (mapG back (mapR s r to xs))) 256 ↔ _
  rw [mem_rows h1 h2 h3 h4 (mapG_tups hb hm.tups)]
  have hmm : ∀ y, y ∈ mapR s r to xs ↔ y ∈ mapG to xs := mem_rows h1 h2 h3 h4 (mapG_tups ht hx.tups)
  simp only [mapG, List.mem_map, hmm]
  constructor
  · rintro ⟨y, ⟨z, hz, rfl⟩, rfl⟩
    rw [hback z hz]
    exact hz
  · intro h
    exact ⟨mapped to x, ⟨x, h, rfl⟩, hback x h⟩

/-! what is fixed -/
theorem fix_rows {s r : Nat} {p : Nat} {v : Int} {xs : List (List Int)} (hx : RelOk s r xs) (i : Nat) (hi : i < (fixL p v xs).length) : (rowN (fixL p v xs) i).length = r ∧ intN (rowN (fixL p v xs) i) p = v := by
  have h := List.mem_filter.1 (show rowN (fixL p v xs) i ∈ xs.filter fun t => intN t p == v from rowN_mem hi)
  refine ⟨by have := (hx.tups _ h.1).1; omega, by simpa using h.2⟩

end Go.Proofs.Ytoojgaaggdnpiaa
