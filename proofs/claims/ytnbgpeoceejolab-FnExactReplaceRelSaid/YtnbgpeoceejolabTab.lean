/-
  Tables of bytes, each in a block of 64: newTable of the program; answers that are operations.
-/
import Derived.Test.YtnbgpeoceejolabBox
import Derived.Test.YtnbgpeoceejolabOpOk
import Derived.Test.YtnbgpeoceejolabReg
namespace Go.Proofs.Ytnbgpeoceejolab
open Go.RowKit

/-- The cells of a table. -/
def tabC (F : Nat → Int) : Array Value := ((List.range 64).map fun i => Value.int .u8 (F i)).toArray
theorem tabC_at (F : Nat → Int) (i : Nat) (h : i < 64) : (tabC F)[i]? = some (.int .u8 (F i)) := by simp [tabC, h]
theorem tabC_set (F : Nat → Int) (k : Nat) (x : Int) : (tabC F).setIfInBounds k (.int .u8 x) = tabC (fun i => if i = k then x else F i) := by
  unfold tabC
  rw [List.setIfInBounds_toArray]
  congr 1
  apply List.ext_getElem?
  intro j
  rw [List.getElem?_set]
  by_cases hj : k = j
  · subst hj
    by_cases h : k < 64 <;> simp [h]
  · rw [if_neg hj]
    by_cases h : j < 64
    · simp [h, show ¬ j = k from fun e => hj e.symm]
    · simp [h]

theorem pow_le3 {s r : Nat} (h1 : 1 ≤ s) (h2 : s ≤ 4) (h3 : r ≤ 3) : s ^ r ≤ 64 ∧ 1 ≤ s ^ r := by
  have hc : s = 1 ∨ s = 2 ∨ s = 3 ∨ s = 4 := by omega
  have hd : r = 0 ∨ r = 1 ∨ r = 2 ∨ r = 3 := by omega
  rcases hc with rfl | rfl | rfl | rfl <;> rcases hd with rfl | rfl | rfl | rfl <;> decide

/-- A list of numbers by their places. -/
def rowF (F : Nat → Int) (k : Nat) : List Int := (List.range k).map F
theorem rowF_len (F : Nat → Int) (k : Nat) : (rowF F k).length = k := by simp [rowF]
theorem rowF_succ (F : Nat → Int) (k : Nat) : (rowF F (k + 1)).map (Value.int .i64) = (rowF F k).map (Value.int .i64) ++ [.int .i64 (F k)] := by simp [rowF, List.range_succ]
theorem rowF_map (F : Nat → Int) (k : Nat) : (rowF F k).map (Value.int .i64) = (List.range k).map fun i => Value.int .i64 (F i) := by
  unfold rowF
  rw [List.map_map]
  rfl
theorem rowF_at (F : Nat → Int) (k i : Nat) (h : i < k) : intN (rowF F k) i = F i := by
  rw [intN_at _ _ (by rw [rowF_len]; exact h)]
  simp [rowF]
theorem rowF_congr {F G : Nat → Int} {k : Nat} (h : ∀ i, i < k → F i = G i) : rowF F k = rowF G k := by
  unfold rowF
  exact List.map_congr_left fun i hi => h i (List.mem_range.1 hi)

/-- An operation of its own, and a code. -/
def MadeOp2 (w : World) (ar : Int) (t : List Int) (cd : Int) (e : Ending) (w' : World) : Prop :=
  ∃ a n c, e = .returned (.tuple #[.agg #[.int .i64 ar, .slice a n c], .int .i64 cd]) ∧ OwnRowE w' w.heap.size w'.heap.size (.slice a n c) t ∧ Below w.heap.size w w'

/-- What a function answers that makes an operation. -/
def OpAns (ok1 ok2 : Prop) (x : Int) (row : List Int) (ar : Int) (t : List Int) (cd : Int) : Prop :=
  (ok1 ∧ ok2 ∧ ar = x ∧ t = row ∧ cd = 0) ∨ (ok1 ∧ ¬ ok2 ∧ ar = 0 ∧ t = [] ∧ cd = 2) ∨ (¬ ok1 ∧ ar = 0 ∧ t = [] ∧ cd = 1)
theorem OpAns.exists (ok1 ok2 : Prop) (x : Int) (row : List Int) : ∃ ar t cd, OpAns ok1 ok2 x row ar t cd := by
  by_cases h1 : ok1
  · by_cases h2 : ok2
    · exact ⟨_, _, _, .inl ⟨h1, h2, rfl, rfl, rfl⟩⟩
    · exact ⟨_, _, _, .inr (.inl ⟨h1, h2, rfl, rfl, rfl⟩)⟩
  · exact ⟨_, _, _, .inr (.inr ⟨h1, rfl, rfl, rfl⟩)⟩
theorem OpAns.small {ok1 ok2 : Prop} {x : Int} {row : List Int} {ar : Int} {t : List Int} {cd : Int} (h : OpAns ok1 ok2 x row ar t cd) (hr : ok1 → ok2 → row.length ≤ 1048576) : t.length ≤ 1048576 := by
  rcases h with ⟨h1, h2, rfl, rfl, rfl⟩ | ⟨_, _, rfl, rfl, rfl⟩ | ⟨_, rfl, rfl, rfl⟩
  · exact hr h1 h2
  · simp
  · simp

theorem Box.set {T : TypeId} {w : World} {p : Nat} {xs : Array Value} (h : Box T w p xs) (i : Nat) (u : Value) : Box T (w.setCell ⟨p, i, none⟩ u) p (xs.setIfInBounds i u) := by unfold Box; rw [heap_setCell_same w p i _ _ _ h]
theorem Box.other {T : TypeId} {w : World} {p : Nat} {xs : Array Value} (h : Box T w p xs) {a : Addr} (ha : p ≠ a.block) (u : Value) : Box T (w.setCell a u) p xs := h.same (heap_setCell_other w a p u ha)
theorem Box.grown {T : TypeId} {w w' : World} {p : Nat} {xs : Array Value} {row : Option Nat} (h : Box T w p xs) (hg : w.grownBy w' row) (hne : row ≠ some p) : Box T w' p xs := h.same (hg.block p h.lt fun e => hne e.symm)

theorem info_intT : (Try.prog.info? 2).map (fun i => (i.zero, i.size, i.bytes)) = some (some (.int .i64 0), 1, 8) := by kernel_rfl
theorem make_row (n : Nat) (hn : n ≤ 1000) (w : World) : (Instr.makeSlice 45 (.int .i64 n) (.int .i64 n)).run Try.prog w = .ok (.slice (some ⟨w.heap.size, 0, none⟩) n n) (w.alloc (.cells (Array.replicate n (Value.int .i64 0)) 2)) := by
  obtain ⟨i0, hi, hz0, hz1, hz2⟩ := info_parts info_intT
  have h := run_makeSlice (P := Try.prog) w 45 2 i0 (.int .i64 0) Try.underlying45 hi hz0 .i64 .i64 n n (by omega) (by omega) (by rw [hz1]; simp; omega) (by rw [hz2]; omega) (by omega)
  rw [h, hz1]
  have e : madeCells (Value.int .i64 0).cells (n * 1) = Array.replicate n (Value.int .i64 0) := by
    apply Array.ext'
    rw [Nat.mul_one]
    simpa [Value.cells] using toList_madeCells_one (.int .i64 0) n
  rw [Int.toNat_natCast, e]
theorem own_new (w : World) (B n : Nat) (z : Value) (hB : B ≤ w.heap.size) (hn : n ≤ 1000000) :
    (w.alloc (.cells (Array.replicate n z) 2)).ownsRow B 2 1 (.slice (some ⟨w.heap.size, 0, none⟩) n n) n (List.replicate n z) := by
  have := World.ownsRow_lit (e := 2) (size := 1) w (Array.replicate n z) n hB (by unfold maxLen; omega) (by simp)
  simpa using this

end Go.Proofs.Ytnbgpeoceejolab
