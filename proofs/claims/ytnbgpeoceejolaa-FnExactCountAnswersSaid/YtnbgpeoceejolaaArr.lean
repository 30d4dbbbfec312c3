/-
  The array of an elimination of the program as a whole block: so many numbers of a function, and how rows are laid into it.
-/
import Derived.Test.YtnbgpeoceejolaaReduceP
import Derived.Test.YtnbgpeoceejolaaMkRows
import Derived.Laws.CopyOwn
namespace Go.Proofs.Ytnbgpeoceejolaa
open Go.RowKit

/-- So many cells, with the numbers of a function. -/
def arrF (N : Nat) (F : Nat → Int) : List Value := (List.range N).map fun o => Value.int .i64 (F o)
theorem arrF_len (N : Nat) (F : Nat → Int) : (arrF N F).length = N := by simp [arrF]
theorem arrF_at {N : Nat} {F : Nat → Int} {i : Nat} (h : i < N) : (arrF N F)[i]? = some (.int .i64 (F i)) := by simp [arrF, h]
theorem arrF_out {N : Nat} {F : Nat → Int} {i : Nat} (h : N ≤ i) : (arrF N F)[i]? = none := by simp [arrF, h]
theorem arrF_ext {N : Nat} {F : Nat → Int} {xs : List Value} (hl : xs.length = N) (h : ∀ i, i < N → xs[i]? = some (.int .i64 (F i))) : xs = arrF N F := by
  apply List.ext_getElem?
  intro i
  by_cases hi : i < N
  · rw [h i hi, arrF_at hi]
  · rw [arrF_out (by omega), List.getElem?_eq_none (by omega)]
theorem arrF_set (N : Nat) (F : Nat → Int) (o : Nat) (x : Int) : (arrF N F).toArray.setIfInBounds o (.int .i64 x) = (arrF N (fun q => if q = o then x else F q)).toArray := by
  rw [List.setIfInBounds_toArray]
  congr 1
  refine arrF_ext (by rw [List.length_set, arrF_len]) fun i hi => ?_
  rw [List.getElem?_set]
  by_cases h : o = i
  · subst h
    simp [arrF_len, hi]
  · rw [if_neg h, arrF_at hi, if_neg (Ne.symm h)]
theorem arrF_splice {N off : Nat} {F : Nat → Int} {xs : List Int} (h : off + xs.length ≤ N) :
    (arrF N F).take off ++ (xs.map (Value.int .i64) ++ (arrF N F).drop (off + xs.length)) = arrF N (fun q => if off ≤ q ∧ q < off + xs.length then intN xs (q - off) else F q) := by
  refine arrF_ext (by simp [arrF_len]; omega) fun i hi => ?_
  by_cases h1 : i < off
  · rw [List.getElem?_append_left (by rw [List.length_take, arrF_len]; omega), List.getElem?_take, if_pos h1, arrF_at hi, if_neg (by omega)]
  · rw [List.getElem?_append_right (by rw [List.length_take, arrF_len]; omega), List.length_take, arrF_len, Nat.min_eq_left (by omega)]
    by_cases h2 : i < off + xs.length
    · rw [List.getElem?_append_left (by rw [List.length_map]; omega), List.getElem?_map, List.getElem?_eq_getElem (by omega), if_pos (by omega)]
      simp [intN_at _ _ (show i - off < xs.length by omega)]
    · rw [List.getElem?_append_right (by rw [List.length_map]; omega), List.length_map, List.getElem?_drop, if_neg (by omega), show off + xs.length + (i - off - xs.length) = i by omega, arrF_at hi]
theorem arrF_zero (N : Nat) : List.replicate N (Value.int .i64 0) = arrF N fun _ => 0 :=
  arrF_ext (by simp) fun i hi => by simp [hi]
theorem Box.flat {T : TypeId} {w : World} {g N : Nat} {F : Nat → Int} (h : Box T w g (arrF N F).toArray) : Flat w g N F :=
  ⟨fun o ho => h.c o (by rw [List.getElem?_toArray, arrF_at ho]), fun o => h.free o⟩
theorem Box.arr {T : TypeId} {w : World} {g N : Nat} {F : Nat → Int} (h : Box T w g (arrF N F).toArray) (o : Nat) (x : Int) : Box T (w.setCell ⟨g, o, none⟩ (.int .i64 x)) g (arrF N (fun q => if q = o then x else F q)).toArray := by
  rw [← arrF_set]
  exact h.set o _

/-- The numbers of the first k rows of a system, each of the length l. -/
def rowsF (rs : List (Int × List Int)) (l k : Nat) : Nat → Int := fun q => if q < k * l then intN (row0 rs (q / l)) (q % l) else 0
theorem rowsF_zero (rs : List (Int × List Int)) (l : Nat) : rowsF rs l 0 = fun _ => 0 := by
  funext q
  simp [rowsF]
theorem rowsF_in {rs : List (Int × List Int)} {l k i j : Nat} (hi : i < k) (hj : j < l) : rowsF rs l k (i * l + j) = intN (row0 rs i) j := by
  unfold rowsF
  have h1 : i * l + j < k * l := by
    have := Nat.mul_le_mul_right l (show i + 1 ≤ k from hi)
    rw [Nat.succ_mul] at this
    omega
  have h2 : (i * l + j) / l = i := by
    rw [Nat.mul_comm, Nat.mul_add_div (by omega), Nat.div_eq_of_lt hj, Nat.add_zero]
  have h3 : (i * l + j) % l = j := by
    rw [Nat.mul_comm, Nat.mul_add_mod, Nat.mod_eq_of_lt hj]
  rw [if_pos h1, h2, h3]
/-- One more row. -/
def fillF (rs : List (Int × List Int)) (u fo i : Nat) (F : Nat → Int) : Nat → Int := fun q =>
  if q = fo + (u + 1 + i) then 1 else if q = fo + u then arO rs i else if fo ≤ q ∧ q < fo + (rowO rs i).length then intN (rowO rs i) (q - fo) else F q
theorem row0_at {rs : List (Int × List Int)} {u i j : Nat} (hl : (rowO rs i).length = u) (hj : j < u + 1 + rs.length) : intN (row0 rs i) j = if j = u + 1 + i then 1 else if j = u then arO rs i else if j < u then intN (rowO rs i) j else 0 := by
  obtain ⟨h1, h2, h3, h4⟩ := row0_parts (rs := rs) hl
  by_cases h5 : j < u
  · rw [if_neg (by omega), if_neg (by omega), if_pos h5]
    have e := intN_take (x := row0 rs i) h5
    rw [h1] at e
    exact e.symm
  · by_cases h6 : j = u
    · subst h6
      rw [if_neg (by omega), if_pos rfl, h2]
    · have e := intN_drop (x := row0 rs i) (u := u + 1) (i := j - (u + 1))
      rw [h3, show u + 1 + (j - (u + 1)) = j by omega, intN_at _ _ (by simp [unitL]; omega)] at e
      simp only [unitL, List.getElem_map, List.getElem_range] at e
      rw [← e, if_neg h6, if_neg h5]
      by_cases h7 : j = u + 1 + i
      · rw [if_pos h7, if_pos (by omega)]
      · rw [if_neg h7, if_neg (by omega)]
theorem fillF_rows {rs : List (Int × List Int)} {u l i : Nat} (hl : (rowO rs i).length = u) (hu : l = u + 1 + rs.length) (hi : i < rs.length) : fillF rs u (i * l) i (rowsF rs l i) = rowsF rs l (i + 1) := by
  funext q
  by_cases h1 : q < i * l
  · have h2 : q < (i + 1) * l := by rw [Nat.succ_mul]; omega
    unfold fillF
    rw [if_neg (by omega), if_neg (by omega), if_neg (by omega)]
    unfold rowsF
    rw [if_pos h1, if_pos h2]
  · by_cases h2 : q < i * l + l
    · obtain ⟨j, rfl⟩ : ∃ j, q = i * l + j := ⟨q - i * l, by omega⟩
      have hj : j < l := by omega
      rw [rowsF_in (Nat.lt_succ_self i) hj, row0_at hl (by omega)]
      unfold fillF
      rw [hl, show i * l + j - i * l = j by omega]
      by_cases h3 : j = u + 1 + i
      · rw [if_pos (by omega), if_pos h3]
      · rw [if_neg (by omega), if_neg h3]
        by_cases h4 : j = u
        · rw [if_pos (by omega), if_pos h4]
        · rw [if_neg (by omega), if_neg h4]
          by_cases h5 : j < u
          · rw [if_pos (by omega), if_pos h5]
          · rw [if_neg (by omega), if_neg h5]
            unfold rowsF
            rw [if_neg (by omega)]
    · unfold fillF
      rw [if_neg (by omega), if_neg (by omega), if_neg (by omega)]
      unfold rowsF
      rw [if_neg h1, if_neg (by rw [Nat.succ_mul]; omega)]
theorem rowsF_low {p : Int} {rs : List (Int × List Int)} {u l : Nat} (hok : SysOk p u rs) : LowF p (rowsF rs l rs.length) := fun q => by
  have hp : 2 ≤ p := by rcases hok.1 with rfl | rfl <;> omega
  unfold rowsF
  by_cases h : q < rs.length * l
  · rw [if_pos h]
    have h1 : q / l < rs.length := Nat.div_lt_of_lt_mul (by rw [Nat.mul_comm]; exact h)
    exact ((row0_good hok) _ h1).2.any (by omega) _
  · rw [if_neg h]
    omega
theorem rowsF_row {rs : List (Int × List Int)} {u l i : Nat} (hl : (rowO rs i).length = u) (hu : l = u + 1 + rs.length) (hi : i < rs.length) : rowAtF (rowsF rs l rs.length) (fun i => i) l i = row0 rs i := by
  apply list_ext_intN
  · rw [rowAtF_len, (row0_parts (rs := rs) hl).2.2.2, hu]
  · intro j hj
    rw [rowAtF_len] at hj
    rw [rowAtF_at hj, rowsF_in hi hj]

end Go.Proofs.Ytnbgpeoceejolaa
