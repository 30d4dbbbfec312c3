/-
  Numbers of tuples, and the set of the numbers of a relation's tuples: numberOf and bitsOf of the program.
-/
import Derived.Test.YtbnmgonfmihicabDoorBits
import Derived.Test.YtbnmgonfmihicabDoorRelOk
namespace Go.Proofs.YtbnmgonfmihicabDoor
open Go.RowKit

/-- The number of a tuple's first k values, read as digits. -/
def codeK (size : Int) (xs : List Int) : Nat → Int
  | 0 => 0
  | k + 1 => codeK size xs k * size + intN xs k
def code (size : Int) (xs : List Int) : Int := codeK size xs xs.length

theorem codeK_range {size : Int} {xs : List Int} (hs : 1 ≤ size) : ∀ k, (∀ j, j < k → 0 ≤ intN xs j ∧ intN xs j < size) → 0 ≤ codeK size xs k ∧ codeK size xs k < size ^ k := by
  intro k
  induction k with
  | zero => intro _; simp [codeK]
  | succ k ih =>
    intro h
    obtain ⟨h0, h1⟩ := ih fun j hj => h j (by omega)
    obtain ⟨g0, g1⟩ := h k (by omega)
    have hm : (codeK size xs k + 1) * size ≤ size ^ k * size := Int.mul_le_mul_of_nonneg_right (by omega) (by omega)
    have hp : 0 ≤ codeK size xs k * size := Int.mul_nonneg h0 (by omega)
    rw [Int.add_mul, Int.one_mul] at hm
    rw [Int.pow_succ]
    show 0 ≤ codeK size xs k * size + intN xs k ∧ codeK size xs k * size + intN xs k < size ^ k * size
    omega

theorem pow_le_256 {size : Int} (h1 : 1 ≤ size) (h2 : size ≤ 4) (k : Nat) (hk : k ≤ 4) : size ^ k ≤ 256 := by
  have hc : size = 1 ∨ size = 2 ∨ size = 3 ∨ size = 4 := by omega
  have hd : k = 0 ∨ k = 1 ∨ k = 2 ∨ k = 3 ∨ k = 4 := by omega
  rcases hc with rfl | rfl | rfl | rfl <;> rcases hd with rfl | rfl | rfl | rfl | rfl <;> decide

theorem codeK_lt {size : Int} {xs : List Int} (h1 : 1 ≤ size) (h2 : size ≤ 4) (k : Nat) (hk : k ≤ 4) (h : ∀ j, j < k → 0 ≤ intN xs j ∧ intN xs j < size) : 0 ≤ codeK size xs k ∧ codeK size xs k < 256 := by
  have := codeK_range h1 k h
  have := pow_le_256 h1 h2 k hk
  omega

theorem codeK_inj {size : Int} {xs ys : List Int} (hs : 1 ≤ size) : ∀ k, (∀ j, j < k → 0 ≤ intN xs j ∧ intN xs j < size) → (∀ j, j < k → 0 ≤ intN ys j ∧ intN ys j < size) → codeK size xs k = codeK size ys k → ∀ j, j < k → intN xs j = intN ys j := by
  intro k
  induction k with
  | zero => intro _ _ _ j hj; omega
  | succ k ih =>
    intro h1 h2 he
    obtain ⟨a0, a1⟩ := h1 k (by omega)
    obtain ⟨b0, b1⟩ := h2 k (by omega)
    have he' : codeK size xs k * size + intN xs k = codeK size ys k * size + intN ys k := he
    have hd : codeK size xs k = codeK size ys k := by
      have e1 : (codeK size xs k * size + intN xs k) / size = codeK size xs k := by
        rw [Int.add_comm, Int.add_mul_ediv_right _ _ (by omega), Int.ediv_eq_zero_of_lt a0 a1, Int.zero_add]
      have e2 : (codeK size ys k * size + intN ys k) / size = codeK size ys k := by
        rw [Int.add_comm, Int.add_mul_ediv_right _ _ (by omega), Int.ediv_eq_zero_of_lt b0 b1, Int.zero_add]
      rw [← e1, he', e2]
    intro j hj
    by_cases hjk : j = k
    · subst hjk
      rw [hd] at he'
      omega
    · exact ih (fun j hj => h1 j (by omega)) (fun j hj => h2 j (by omega)) hd j (by omega)

theorem TupP.len {size ar : Int} {xs : List Int} (h : TupP size ar xs) (har : In14 ar) : xs.length ≤ 4 := by
  have := h.1
  have := har.2
  omega
theorem TupP.code {size ar : Int} {xs : List Int} (h : TupP size ar xs) (hs : In14 size) (har : In14 ar) : 0 ≤ code size xs ∧ Go.Proofs.YtbnmgonfmihicabDoor.code size xs < 256 := codeK_lt hs.1 hs.2 _ (h.len har) h.2
theorem code_inj {size ar : Int} {xs ys : List Int} (h : TupP size ar xs) (k : TupP size ar ys) (hs : In14 size) (he : code size xs = code size ys) : xs = ys := by
  have hl : xs.length = ys.length := by have := h.1; have := k.1; omega
  refine row_ext hl (codeK_inj hs.1 _ h.2 (by rw [hl]; exact k.2) ?_)
  unfold code at he
  rw [he, hl]

set_option maxHeartbeats 1000000 in
theorem numberOf (v : Value) (xs : List Int) (ar size : Int) (w : World) (h : RowAt w v xs) (hs : In14 size) (har : In14 ar) (ht : TupP size ar xs) :
    Calls Tryd.prog 48 #[.int .i64 size, v] w fun e w' => e = .returned (.int .i64 (code size xs)) ∧ w = w' := by
  obtain ⟨a, c, rfl, hn, hc⟩ := h
  have HC := Lib.hid hc
  have HT := Lib.hid ht
  have h1 : 1 ≤ size := hs.1
  have h2 : size ≤ 4 := hs.2
  have hlen := ht.len har
  clear hc ht hs har
  go_enter Tryd.func48, Tryd.ntmps48
  go_wp2
  go_loop [5, 10] (fun m i => ∃ k : Nat, k ≤ xs.length ∧ i = .int .i64 k ∧ m = .int .i64 (codeK size xs k)) (fun _ i => xs.length - (intOf i).toNat)
  case atStart => exact ⟨0, Nat.zero_le _, rfl, rfl⟩
  case round =>
    obtain ⟨k, hk, rfl, rfl⟩ := hrel
    by_cases hlt : k < xs.length
    · obtain ⟨b1, off1, ha1, hcell1⟩ := HC.out (by omega)
      subst ha1
      have hx1 := hcell1 k hlt
      have hlt' : (k : Int) < (xs.length : Int) := by omega
      obtain ⟨r0, r1⟩ := codeK_lt h1 h2 k (by omega) fun j hj => HT.out.2 j (by omega)
      obtain ⟨g0, g1⟩ := HT.out.2 k hlt
      have hm0 : 0 ≤ codeK size xs k * size := Int.mul_nonneg r0 (by omega)
      have hm1 : codeK size xs k * size ≤ 1024 := by
        have : codeK size xs k * size ≤ codeK size xs k * 4 := Int.mul_le_mul_of_nonneg_left h2 r0
        omega
      clear hcell1
      go_wp2
      go_round
      case rel => exact ⟨k + 1, by omega, by go_num, rfl⟩
      case measure => simp [intOf]; omega
    · obtain rfl : k = xs.length := by omega
      go_wp2
      go_ret
      exact ⟨rfl, rfl⟩

/-- The number of a tuple, as a number that is not negative. -/
def codeN (size : Int) (xs : List Int) : Nat := (code size xs).toNat
theorem codeN_lt {size ar : Int} {xs : List Int} (h : TupP size ar xs) (hs : In14 size) (har : In14 ar) : codeN size xs < 256 := by
  have := h.code hs har
  unfold codeN; omega
theorem codeN_cast {size ar : Int} {xs : List Int} (h : TupP size ar xs) (hs : In14 size) (har : In14 ar) : code size xs = (codeN size xs : Int) := by
  have := h.code hs har
  unfold codeN; omega
theorem codeN_inj {size ar : Int} {xs ys : List Int} (h : TupP size ar xs) (k : TupP size ar ys) (hs : In14 size) (har : In14 ar) (he : codeN size xs = codeN size ys) : xs = ys :=
  code_inj h k hs (by rw [codeN_cast h hs har, codeN_cast k hs har, he])

theorem numberOf' (v : Value) (xs : List Int) (ar size : Int) (w : World) (h : RowAt w v xs) (hs : In14 size) (har : In14 ar) (ht : TupP size ar xs) :
    Calls Tryd.prog 48 #[.int .i64 size, v] w fun e w' => e = .returned (.int .i64 (codeN size xs : Int)) ∧ w = w' := by
  have := numberOf v xs ar size w h hs har ht
  rwa [codeN_cast ht hs har] at this

/-- The numbers of the first k tuples. -/
def setK (size : Int) (xss : List (List Int)) : Nat → Nat → Bool
  | 0 => fun _ => false
  | k + 1 => putS (setK size xss k) (codeN size (rowN xss k))
def setOf (size : Int) (xss : List (List Int)) : Nat → Bool := setK size xss xss.length

theorem setK_iff {size : Int} {xss : List (List Int)} (k n : Nat) : setK size xss k n = true ↔ ∃ j, j < k ∧ codeN size (rowN xss j) = n := by
  induction k with
  | zero => simp [setK]
  | succ k ih =>
    unfold setK putS
    rw [Bool.or_eq_true, ih, beq_iff_eq]
    constructor
    · rintro (⟨j, hj, he⟩ | he)
      · exact ⟨j, by omega, he⟩
      · exact ⟨k, by omega, he.symm⟩
    · rintro ⟨j, hj, he⟩
      by_cases hjk : j = k
      · subst hjk; exact .inr he.symm
      · exact .inl ⟨j, by omega, he⟩

set_option maxHeartbeats 1000000 in
set_option maxRecDepth 100000 in
theorem bitsOf (size : Int) (ar : Int) (a : Option Addr) (n c : Nat) (xss : List (List Int)) (w : World) (h : GridAt w (.slice a n c) xss) (hr : RelOk size ar xss) :
    Calls Tryd.prog 35 #[.int .i64 size, .agg #[.int .i64 ar, .slice a n c]] w fun e w' => e = .returned (bitsV (setOf size xss)) ∧ Below w.heap.size w w' := by
  have H := Lib.hid h
  have HR := Lib.hid hr
  obtain ⟨V, ⟨a', c', hv, hn, hc⟩, hV⟩ := h
  simp only [Value.slice.injEq] at hv
  obtain ⟨rfl, rfl, rfl⟩ := hv
  have HC := Lib.hid hc
  have HV := Lib.hid hV
  clear hc hV hr
  go_enter Tryd.func35, Tryd.ntmps35
  go_wp2
  go_loopw [11] (fun i wr => ∃ k : Nat, k ≤ xss.length ∧ i = .int .i64 k ∧ BitsBox wr (w.heap.size + 1 + 1) (setK size xss k) ∧ BitsBox wr (w.heap.size + 1) (fun _ => false) ∧ Below w.heap.size w wr) (fun i _ => xss.length - (intOf i).toNat)
  case atStart =>
    refine ⟨0, by omega, rfl, ?_, ?_, (((Below.refl w.heap.size w).alloc (Nat.le_refl _) _).alloc (by simp) _).alloc (by simp; omega) _⟩
    · rw [bits_zero]
      have h := bits_new ((w.alloc (.cells #[.int .i64 ar, .slice a xss.length c] 27)).alloc (.cells (bitsC fun _ => false).toArray 56)) (fun _ => false)
      rw [World.size_alloc, World.size_alloc] at h
      exact h
    · rw [bits_zero]
      have h := (bits_new (w.alloc (.cells #[.int .i64 ar, .slice a xss.length c] 27)) (fun _ => false)).alloc (.cells (bitsC fun _ => false).toArray 56)
      rw [World.size_alloc] at h
      exact h
  case round =>
    obtain ⟨k, hk, rfl, hb, hb1, hw⟩ := hrel
    by_cases hlt : k < xss.length
    · obtain ⟨b1, off1, ha1, hcell1⟩ := HC.out (by omega)
      subst ha1
      have hx1 := below_cell hw (hcell1 k hlt)
      have hlt' : (k : Int) < (xss.length : Int) := by omega
      have HROW := Lib.hid ((HV.out k hlt).below hw)
      have HT := Lib.hid (HR.out.2.2 k hlt).1
      have HB := Lib.hid hb
      have HB1 := Lib.hid hb1
      have HW := Lib.hid hw
      clear hcell1 hb hb1 hw
      go_wp2_with fail
      refine (numberOf' _ _ ar _ _ HROW.out HR.out.1 HR.out.2.1 HT.out).mono ?_
      rintro e w2 ⟨rfl, rfl⟩
      go_wp2_with fail
      refine (putBit _ _ _ (codeN_lt HT.out HR.out.1 HR.out.2.1) _ HB.out).mono ?_
      rintro e w3 ⟨rfl, ho, hb3⟩
      have HB3 := Lib.hid hb3
      have HB4 : Hid (BitsBox w3 (w.heap.size + 1) (fun _ => false)) := by
        have h := HB1.out
        unfold BitsBox at h
        show w3.heap[_]? = _
        rw [ho.block _ HB1.out.lt (by omega)]; exact h
      have HW3 := Lib.hid (HW.out.trans (ho.below HW.out.size (fun k hk => by omega)))
      clear hb3 ho
      go_wp2
      go_roundw
      case rel => exact ⟨k + 1, by omega, by go_num, HB3.out, HB4.out, HW3.out⟩
      case measure => simp [intOf]; omega
    · obtain rfl : k = xss.length := by omega
      have c0 := hb.cell 0 (by omega)
      have c1 := hb.cell 1 (by omega)
      have c2 := hb.cell 2 (by omega)
      have c3 := hb.cell 3 (by omega)
      have d0 := hb1.cell 0 (by omega)
      have d1 := hb1.cell 1 (by omega)
      have d2 := hb1.cell 2 (by omega)
      have d3 := hb1.cell 3 (by omega)
      have f0 := hb1.free 0
      have f1 := hb1.free 1
      have f2 := hb1.free 2
      have f3 := hb1.free 3
      have HW := Lib.hid hw
      clear hb hb1 hw
      go_wp2
      refine bodyPost_ret (v := bitsV (setOf size xss)) (by simp [results, Tryd.results35, go_sem, d0, d1, d2, d3, bitsV, bitsC, setOf]) rfl ⟨rfl, ?_⟩
      exact ((((HW.out.setCell (by simp) _).setCell (by simp) _).setCell (by simp) _).setCell (by simp) _)

end Go.Proofs.YtbnmgonfmihicabDoor
