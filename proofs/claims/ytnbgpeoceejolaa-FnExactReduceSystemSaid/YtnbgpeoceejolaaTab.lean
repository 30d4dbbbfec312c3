/-
  Tables of bytes, each in a block of 64: newTable of the program; answers that are operations.
-/
import Derived.Test.YtnbgpeoceejolaaBox
import Derived.Test.YtnbgpeoceejolaaOpOk
import Derived.Test.YtnbgpeoceejolaaReg
namespace Go.Proofs.Ytnbgpeoceejolaa
open Go.RowKit

/-- The cells of a table. -/
def tabC (F : Nat → Int) : Array Value := ((List.range 64).map fun i => Value.int .u8 (F i)).toArray
theorem tabC_at (F : Nat → Int) (i : Nat) (h : i < 64) : (tabC F)[i]? = some (.int .u8 (F i)) := by simp [tabC, h]
theorem tabC_set (F : Nat → Int) (k : Nat) (x : Int) : (tabC F).setIfInBounds k (.int .u8 x) = tabC (fun i => if i = k then x else F i) := by
  unfold tabC
  rw [List.setIfInBounds_toArray]
  congr 1
  apply List.ext_getElem?
  intro j
  rw [List.getElem?_set]
  by_cases hj : k = j
  · subst hj
    by_cases h : k < 64 <;> simp [h]
  · rw [if_neg hj]
    by_cases h : j < 64
    · simp [h, show ¬ j = k from fun e => hj e.symm]
    · simp [h]

/-- A table lies in the block b. -/
def TabAt (w : World) (b : Nat) (F : Nat → Int) : Prop := Box 289 w b (tabC F)
theorem TabAt.c {w : World} {b : Nat} {F : Nat → Int} (h : TabAt w b F) (i : Nat) (hi : i < 64) : w.cell? ⟨b, i, none⟩ = some (.int .u8 (F i)) := Box.c h i (tabC_at F i hi)
theorem TabAt.free {w : World} {b : Nat} {F : Nat → Int} (h : TabAt w b F) (q : Nat) : w.frozen? ⟨b, q, none⟩ = false := Box.free h q
theorem TabAt.lt {w : World} {b : Nat} {F : Nat → Int} (h : TabAt w b F) : b < w.heap.size := Box.lt h
theorem TabAt.same {w w' : World} {b : Nat} {F : Nat → Int} (h : TabAt w b F) (hs : w'.heap[b]? = w.heap[b]?) : TabAt w' b F := Box.same h hs
theorem TabAt.below {w w' : World} {b : Nat} {F : Nat → Int} (h : TabAt w b F) (hb : Below w.heap.size w w') : TabAt w' b F := Box.below h hb
theorem lives_tab (b : Nat) (F : Nat → Int) : Lives (fun w => TabAt w b F) := fun _ _ hb h => h.below hb
theorem TabAt.set {w : World} {b : Nat} {F : Nat → Int} (h : TabAt w b F) (k : Nat) (x : Int) : TabAt (w.setCell ⟨b, k, none⟩ (.int .u8 x)) b (fun i => if i = k then x else F i) := by
  unfold TabAt Box
  rw [heap_setCell_same w b k _ _ _ h, tabC_set]
theorem TabAt.new (w : World) : TabAt (w.alloc (.cells (tabC fun _ => 0) 289)) w.heap.size (fun _ => 0) := Box.new _ _ _
theorem tabC_zero : tabC (fun _ => 0) = Array.replicate 64 (.int .u8 0) := by kernel_rfl

/-- A table of its own: q numbers G, for operations of the size s and the arity r. -/
def MadeTab (w : World) (s r q : Nat) (G : Nat → Int) (e : Ending) (w' : World) : Prop :=
  ∃ b F, e = .returned (.agg #[.int .i64 s, .int .i64 r, .slice (some ⟨b, 0, none⟩) q q]) ∧ TabAt w' b F ∧ (∀ i, i < q → F i = G i) ∧ w.heap.size ≤ b ∧ Below w.heap.size w w'

theorem tupleCount' (size ar p : Nat) (h1 : 1 ≤ size) (h2 : size ≤ 4) (h4 : ar ≤ 4) (hp : size ^ ar = p) (w : World) :
    Calls Try.prog 139 #[.int .i64 size, .int .i64 ar] w fun e w' => e = .returned (.int .i64 (p : Int)) ∧ w = w' := hp ▸ tupleCount size ar h1 h2 h4 w

theorem pow_le3 {s r : Nat} (h1 : 1 ≤ s) (h2 : s ≤ 4) (h3 : r ≤ 3) : s ^ r ≤ 64 ∧ 1 ≤ s ^ r := by
  have hc : s = 1 ∨ s = 2 ∨ s = 3 ∨ s = 4 := by omega
  have hd : r = 0 ∨ r = 1 ∨ r = 2 ∨ r = 3 := by omega
  rcases hc with rfl | rfl | rfl | rfl <;> rcases hd with rfl | rfl | rfl | rfl <;> decide

theorem slice64 (b q : Nat) (h64 : q ≤ 64) (w : World) : (Instr.sliceAt 289 (.pointer (some ⟨b, 0, none⟩)) none (some (.int .i64 (q : Int))) (some (.int .i64 (q : Int)))).run Try.prog w = .ok (.slice (some ⟨b, 0, none⟩) q q) w := by
  have e : Try.prog.arrayLen 289 = 64 := by kernel_rfl
  have hz : ∀ w', (Go.sizeOf (Try.prog.elem 289)).run Try.prog w' = .ok 1 w' := fun _ => by kernel_rfl
  rw [run_sliceAt_array_hm w 289 ⟨b, 0, none⟩ (by kernel_rfl) .i64 .i64 q q (by omega) (by omega) (by rw [e]; omega), hz]
  simp [slicedAt, Addr.add, Result.andThen]

set_option maxHeartbeats 400000 in
set_option maxRecDepth 100000 in
theorem newTable (s r q : Nat) (h1 : 1 ≤ s) (h2 : s ≤ 4) (h3 : r ≤ 3) (hq : s ^ r = q) (w : World) :
    Calls Try.prog 208 #[.int .i64 s, .int .i64 r] w (MadeTab w s r q (fun _ => 0)) := by
  have h64 : q ≤ 64 := by rw [← hq]; exact (pow_le3 h1 h2 h3).1
  have HQ := Lib.hid hq
  have hsl := slice64 (w.heap.size + 1) q h64
  clear hq
  go_enter Try.func208, Try.ntmps208
  go_wp2_with fail
  refine (tupleCount' s r q h1 h2 (by omega) HQ.out _).mono ?_
  rintro e w2 ⟨rfl, rfl⟩
  go_wp2
  refine bodyPost_ret (v := .agg #[.int .i64 s, .int .i64 r, .slice (some ⟨w.heap.size + 1, 0, none⟩) q q]) (by simp [results, Try.results208, go_sem]) rfl ⟨w.heap.size + 1, fun _ => 0, rfl, ?_, fun _ _ => rfl, by omega, ?_⟩
  · have h := TabAt.new (w.alloc (.cells #[.int .i64 s, .int .i64 r, .slice (some ⟨w.heap.size + 1, 0, none⟩) q q] 242))
    rw [World.size_alloc] at h
    exact h
  · exact ((Below.refl _ _).alloc (Nat.le_refl _) _).alloc (by simp) _

/-- A list of numbers by their places. -/
def rowF (F : Nat → Int) (k : Nat) : List Int := (List.range k).map F
theorem rowF_len (F : Nat → Int) (k : Nat) : (rowF F k).length = k := by simp [rowF]
theorem rowF_succ (F : Nat → Int) (k : Nat) : (rowF F (k + 1)).map (Value.int .i64) = (rowF F k).map (Value.int .i64) ++ [.int .i64 (F k)] := by simp [rowF, List.range_succ]
theorem rowF_map (F : Nat → Int) (k : Nat) : (rowF F k).map (Value.int .i64) = (List.range k).map fun i => Value.int .i64 (F i) := by
  unfold rowF
  rw [List.map_map]
  rfl
theorem rowF_at (F : Nat → Int) (k i : Nat) (h : i < k) : intN (rowF F k) i = F i := by
  rw [intN_at _ _ (by rw [rowF_len]; exact h)]
  simp [rowF]
theorem rowF_congr {F G : Nat → Int} {k : Nat} (h : ∀ i, i < k → F i = G i) : rowF F k = rowF G k := by
  unfold rowF
  exact List.map_congr_left fun i hi => h i (List.mem_range.1 hi)

/-- An operation of its own, and a code. -/
def MadeOp2 (w : World) (ar : Int) (t : List Int) (cd : Int) (e : Ending) (w' : World) : Prop :=
  ∃ a n c, e = .returned (.tuple #[.agg #[.int .i64 ar, .slice a n c], .int .i64 cd]) ∧ OwnRowE w' w.heap.size w'.heap.size (.slice a n c) t ∧ Below w.heap.size w w'

/-- What a function answers that makes an operation. -/
def OpAns (ok1 ok2 : Prop) (x : Int) (row : List Int) (ar : Int) (t : List Int) (cd : Int) : Prop :=
  (ok1 ∧ ok2 ∧ ar = x ∧ t = row ∧ cd = 0) ∨ (ok1 ∧ ¬ ok2 ∧ ar = 0 ∧ t = [] ∧ cd = 2) ∨ (¬ ok1 ∧ ar = 0 ∧ t = [] ∧ cd = 1)
theorem OpAns.exists (ok1 ok2 : Prop) (x : Int) (row : List Int) : ∃ ar t cd, OpAns ok1 ok2 x row ar t cd := by
  by_cases h1 : ok1
  · by_cases h2 : ok2
    · exact ⟨_, _, _, .inl ⟨h1, h2, rfl, rfl, rfl⟩⟩
    · exact ⟨_, _, _, .inr (.inl ⟨h1, h2, rfl, rfl, rfl⟩)⟩
  · exact ⟨_, _, _, .inr (.inr ⟨h1, rfl, rfl, rfl⟩)⟩
theorem OpAns.small {ok1 ok2 : Prop} {x : Int} {row : List Int} {ar : Int} {t : List Int} {cd : Int} (h : OpAns ok1 ok2 x row ar t cd) (hr : ok1 → ok2 → row.length ≤ 1048576) : t.length ≤ 1048576 := by
  rcases h with ⟨h1, h2, rfl, rfl, rfl⟩ | ⟨_, _, rfl, rfl, rfl⟩ | ⟨_, rfl, rfl, rfl⟩
  · exact hr h1 h2
  · simp
  · simp

theorem Box.set {T : TypeId} {w : World} {p : Nat} {xs : Array Value} (h : Box T w p xs) (i : Nat) (u : Value) : Box T (w.setCell ⟨p, i, none⟩ u) p (xs.setIfInBounds i u) := by unfold Box; rw [heap_setCell_same w p i _ _ _ h]
theorem Box.other {T : TypeId} {w : World} {p : Nat} {xs : Array Value} (h : Box T w p xs) {a : Addr} (ha : p ≠ a.block) (u : Value) : Box T (w.setCell a u) p xs := h.same (heap_setCell_other w a p u ha)
theorem Box.grown {T : TypeId} {w w' : World} {p : Nat} {xs : Array Value} {row : Option Nat} (h : Box T w p xs) (hg : w.grownBy w' row) (hne : row ≠ some p) : Box T w' p xs := h.same (hg.block p h.lt fun e => hne e.symm)

theorem info_intT : (Try.prog.info? 2).map (fun i => (i.zero, i.size, i.bytes)) = some (some (.int .i64 0), 1, 8) := by kernel_rfl
theorem make_row (n : Nat) (hn : n ≤ 1000) (w : World) : (Instr.makeSlice 34 (.int .i64 n) (.int .i64 n)).run Try.prog w = .ok (.slice (some ⟨w.heap.size, 0, none⟩) n n) (w.alloc (.cells (Array.replicate n (Value.int .i64 0)) 2)) := by
  obtain ⟨i0, hi, hz0, hz1, hz2⟩ := info_parts info_intT
  have h := run_makeSlice (P := Try.prog) w 34 2 i0 (.int .i64 0) Try.underlying34 hi hz0 .i64 .i64 n n (by omega) (by omega) (by rw [hz1]; simp; omega) (by rw [hz2]; omega) (by omega)
  rw [h, hz1]
  have e : madeCells (Value.int .i64 0).cells (n * 1) = Array.replicate n (Value.int .i64 0) := by
    apply Array.ext'
    rw [Nat.mul_one]
    simpa [Value.cells] using toList_madeCells_one (.int .i64 0) n
  rw [Int.toNat_natCast, e]
theorem own_new (w : World) (B n : Nat) (z : Value) (hB : B ≤ w.heap.size) (hn : n ≤ 1000000) :
    (w.alloc (.cells (Array.replicate n z) 2)).ownsRow B 2 1 (.slice (some ⟨w.heap.size, 0, none⟩) n n) n (List.replicate n z) := by
  have := World.ownsRow_lit (e := 2) (size := 1) w (Array.replicate n z) n hB (by unfold maxLen; omega) (by simp)
  simpa using this

end Go.Proofs.Ytnbgpeoceejolaa
