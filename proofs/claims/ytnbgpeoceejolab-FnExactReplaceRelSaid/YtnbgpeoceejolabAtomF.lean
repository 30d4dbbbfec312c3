/-
  AtomFormula of the model and of the program, with the numbers below a limit.
-/
import Derived.Test.YtnbgpeoceejolabFormOk2
import Derived.Test.YtnbgpeoceejolabBox
namespace Go.Proofs.Ytnbgpeoceejolab
open Go.RowKit

/-- The numbers below n. -/
def cnts (n : Nat) : List Int := (List.range n).map fun (i : Nat) => (i : Int)
theorem cnts_len (n : Nat) : (cnts n).length = n := by simp [cnts]
theorem cnts_at (n i : Nat) (h : i < n) : intN (cnts n) i = i := by
  rw [intN_at _ _ (by rw [cnts_len]; exact h)]
  simp [cnts]
theorem cnts_succ (n : Nat) : (cnts (n + 1)).map (Value.int .i64) = (cnts n).map (Value.int .i64) ++ [.int .i64 (n : Int)] := by simp [cnts, List.range_succ]
theorem cnts_map (n : Nat) : (cnts n).map (Value.int .i64) = (List.range n).map fun (i : Nat) => Value.int .i64 (i : Int) := by
  unfold cnts
  rw [List.map_map]
  rfl
def MadeCnts (w : World) (n : Nat) (e : Ending) (w' : World) : Prop := ∃ a c, e = .returned (.slice a n c) ∧ OwnRow w' w.heap.size (.slice a n c) (cnts n) ∧ Below w.heap.size w w'

set_option maxHeartbeats 400000 in
theorem numbersBelow (n : Nat) (hn : n ≤ 1000) (w : World) :
    Calls Try.prog 37 #[.int .i64 (n : Int)] w (MadeCnts w n) := by
  obtain ⟨i0, hi, hz0, hz1, hz2⟩ := info_parts info_int
  go_enter Try.func37, Try.ntmps37
  go_wp2_with (at_make; refine wpList_make_full _ rfl _ _ 45 rfl w.heap.size 2 i0 (.int .i64 0) 1 Try.underlying45 hi hz0 hz1 .i64 .i64 _ _ n rfl rfl rfl rfl (by rw [hz2]; omega) (by unfold maxLen; omega) (Nat.le_refl _) ?_; intro w1 hown hgrow)
  have hu := upto_zero n (fun i => .int .i64 (i : Int)) (.int .i64 0)
  have hown0 : w1.ownsRow w.heap.size 2 1 (.slice (some ⟨w.heap.size, 0, none⟩) n n) n (upto n 0 (fun i => .int .i64 (i : Int)) (.int .i64 0)) := by
    rw [hu, ← toList_madeCells_one]
    simpa [Value.cells] using hown
  have hb0 : Below w.heap.size w w1 := (Below.refl _ _).grown hgrow (Nat.le_refl _) (fun _ h => by simp at h)
  clear hu hown hgrow
  go_loopw [9] (fun i wr => ∃ k : Nat, k ≤ n ∧ i = .int .i64 k ∧ wr.ownsRow w.heap.size 2 1 (.slice (some ⟨w.heap.size, 0, none⟩) n n) n (upto n k (fun i => .int .i64 (i : Int)) (.int .i64 0)) ∧ Below w.heap.size w wr) (fun i _ => n - (intOf i).toNat)
  case atStart => exact ⟨0, Nat.zero_le _, rfl, hown0, hb0⟩
  case round =>
    obtain ⟨k, hk, rfl, hown, hbel⟩ := hrel
    by_cases hlt : k < n
    · have hc2 := hown.cellAt k (by omega)
      rw [upto_at _ _ _ _ _ hlt, if_neg (by omega)] at hc2
      have hf2 := hown.frozenAt k
      have hst := Lib.hid (hown.stored k (.int .i64 (k : Int)))
      have hbl := Lib.hid hbel
      have hlt' : (k : Int) < (n : Int) := by omega
      clear hown hbel hown0 hb0
      go_wp2
      go_roundw
      case rel => exact ⟨k + 1, by omega, by go_num, by have h := hst.out.1; rwa [upto_set _ _ _ _ _ rfl] at h, hbl.out.setCell (Nat.le_refl _) _⟩
      case measure => simp [intOf]; omega
    · obtain rfl : k = n := by omega
      clear hown0 hb0
      rw [upto_all, ← cnts_map] at hown
      have H : Hid (OwnRow wr w.heap.size (.slice (some ⟨w.heap.size, 0, none⟩) k k) (cnts k)) := by
        show World.ownsRow _ _ _ _ _ _ _
        rw [cnts_len]
        exact hown
      have HB := Lib.hid hbel
      clear hown hbel
      go_wp2
      go_ret
      exact ⟨_, _, rfl, H.out, HB.out⟩

theorem info_int3 : (Try.prog.info? 2).map (fun i => (i.zero, i.size, i.bytes)) = some (some (.int .i64 0), 1, 8) := by kernel_rfl

set_option maxHeartbeats 1000000 in
theorem l03Count (n : Nat) (hn : n ≤ 1000) (w : World) :
    Calls Try.prog 27 #[.int .i64 (n : Int)] w (MadeCnts w n) := by
  obtain ⟨i0, hi, hz0, hz1, hz2⟩ := info_parts info_int3
  go_enter Try.func27, Try.ntmps27
  go_wp2
  go_loopw [3, 4] (fun v i wr => ∃ (k : Nat) (a : Option Addr) (m c : Nat), k ≤ n ∧ i = .int .i64 k ∧ v = .slice a m c ∧ wr.ownsRow w.heap.size 2 1 (.slice a m c) k ((cnts k).map (Value.int .i64)) ∧ Below w.heap.size w wr) (fun _ i _ => n - (intOf i).toNat)
  case atStart => exact ⟨0, _, _, _, Nat.zero_le _, rfl, rfl, ownRow_lit w w.heap.size [] (Nat.le_refl _) (by simp), (Below.refl _ _).alloc (Nat.le_refl _) _⟩
  case round =>
    obtain ⟨k, a, m, c, hk, rfl, rfl, hown, hbel⟩ := hrel
    by_cases hlt : k < n
    · have hlt' : (k : Int) < (n : Int) := by omega
      have HO := Lib.hid hown
      have HW := Lib.hid hbel
      have HC1' := Lib.hid (cell_one_new wr (.int .i64 (k : Int)) 2)
      clear hown hbel
      go_wp2_with (at_builtin; refine wpList_append_own _ rfl _ _ 45 rfl w.heap.size 2 i0 (.int .i64 0) 1 8 Try.underlying45 hi hz0 hz1 hz2 rfl (by decide) (.slice a m c) k _ rfl (HO.out.alloc _) ⟨wr.heap.size, 0, none⟩ 1 1 [.int .i64 (k : Int)] rfl rfl HC1'.out (by simp [Value.oneCell']) (by unfold maxLen; omega) (by omega) (by have := HW.out.size; simp; omega) ?_; intro v' w3 hown' hgrow _; obtain ⟨g', c', rfl⟩ := ownsRow_succ hown'; have HG3 := Lib.hid hown'; have HR3 := Lib.hid hgrow; clear hown' hgrow)
      go_roundw
      case rel =>
        refine ⟨k + 1, _, _, _, by omega, by go_num, rfl, ?_, ((HW.out.alloc HW.out.size _).grown HR3.out (by have := HW.out.size; simp; omega) (fun q hq => (HO.out.lt q hq).1))⟩
        rw [cnts_succ]; exact HG3.out
      case measure => simp [intOf]; omega
    · obtain rfl : k = n := by omega
      have hm : m = k := by
        rcases ownsRow_parts hown with ⟨hv, h0, _⟩ | ⟨_, _, hv, _⟩ <;> simp only [Value.slice.injEq] at hv <;> omega
      subst hm
      have HE : Hid (OwnRow wr w.heap.size (.slice a m c) (cnts m)) := by
        show World.ownsRow _ _ _ _ _ _ _
        rw [cnts_len]
        exact hown
      have HW := Lib.hid hbel
      clear hown hbel
      go_wp2
      go_ret
      exact ⟨_, _, rfl, HE.out, HW.out⟩

/-- A formula of its own, and a code. -/
def MadeF (w : World) (x y : Int) (fs : List (Int × List Int)) (cd : Int) (e : Ending) (w' : World) : Prop :=
  ∃ a n c, e = .returned (.tuple #[.agg #[.int .i64 x, .int .i64 y, .slice a n c], .int .i64 cd]) ∧ OwnOps 83 w' w.heap.size w'.heap.size (.slice a n c) fs ∧ Below w.heap.size w w'

def AtomFormulaIs (sz : Int) (rs : List (Int × List (List Int))) (rel : Int) (x y : Int) (fs : List (Int × List Int)) (cd : Int) : Prop :=
  (∃ k : Nat, TplOk sz rs ∧ k < rs.length ∧ rel = k ∧ x = arN rs k ∧ y = x ∧ fs = [(rel, cnts x.toNat)] ∧ cd = 0)
  ∨ (TplOk sz rs ∧ ¬ (0 ≤ rel ∧ rel < rs.length) ∧ x = 0 ∧ y = 0 ∧ fs = [] ∧ cd = 2)
  ∨ (¬ TplOk sz rs ∧ x = 0 ∧ y = 0 ∧ fs = [] ∧ cd = 1)
theorem AtomFormulaIs.exists (sz : Int) (rs : List (Int × List (List Int))) (rel : Int) : ∃ x y fs cd, AtomFormulaIs sz rs rel x y fs cd := by
  by_cases h : TplOk sz rs
  · by_cases h2 : 0 ≤ rel ∧ rel < rs.length
    · exact ⟨_, _, _, _, .inl ⟨rel.toNat, h, by omega, by omega, rfl, rfl, rfl, rfl⟩⟩
    · exact ⟨_, _, _, _, .inr (.inl ⟨h, h2, rfl, rfl, rfl, rfl⟩)⟩
  · exact ⟨_, _, _, _, .inr (.inr ⟨h, rfl, rfl, rfl, rfl⟩)⟩
theorem AtomFormulaIs.small {sz : Int} {rs : List (Int × List (List Int))} {rel x y : Int} {fs : List (Int × List Int)} {cd : Int} (h : AtomFormulaIs sz rs rel x y fs cd) : opsSize fs ≤ 1048576 := by
  rcases h with ⟨k, h, hk, -, rfl, -, rfl, -⟩ | ⟨-, -, -, -, rfl, -⟩ | ⟨-, -, -, rfl, -⟩
  · have h1 := (h.2.2 k hk).2.1
    unfold In14 at h1
    simp [opsSize, partO, rowO, cnts]
    omega
  · simp [opsSize, partO]
  · simp [opsSize, partO]

/-- One atom in a block of its own, its row made before. -/
theorem own_one {w0 w' : World} {B g n : Nat} {T : TypeId} {rel : Int} {a : Option Addr} {c : Nat} {xs : List Int} (hr : OwnRow w0 B (.slice a n c) xs) (hg : g = w0.heap.size) (hB : B ≤ g)
    (hh : w'.heap[g]? = some (.cells #[.int .i64 rel, .slice a n c] T (0, 0))) (hs : ∀ b, (Value.slice a n c).ownBlock = some b → w'.heap[b]? = w0.heap[b]?) :
    OwnOps T w' B w'.heap.size (.slice (some ⟨g, 0, none⟩) 1 1) [(rel, xs)] := by
  subst hg
  have hlt := (Array.getElem?_eq_some_iff.1 hh).1
  have hb : ∀ b, (Value.slice a n c).ownBlock = some b → B ≤ b ∧ b < w0.heap.size := fun b h => hr.lt b h
  have hlit := World.ownsRow_lit (e := T) (size := 2) (base := B) w0 #[.int .i64 rel, .slice a n c] 1 hB (by unfold maxLen; omega) (by simp)
  refine ⟨fun _ => .slice a n c, ⟨_, ownsRow_same hlit fun b h => ?_, fun i hi => ?_⟩, Nat.le_refl _, fun b h => ?_, fun i hi => ?_, fun i hi b h => ?_, fun i j hij hj => ?_, fun i hi b h h2 => ?_⟩
  · obtain rfl : w0.heap.size = b := by simpa [Value.ownBlock] using h
    rw [hh, heap_alloc_new]
  · obtain rfl : i = 0 := by simp at hi; omega
    exact ⟨rfl, rfl⟩
  · obtain rfl : w0.heap.size = b := by simpa [Value.ownBlock] using h
    exact hlt
  · obtain rfl : i = 0 := by simp at hi; omega
    exact ownsRow_same hr fun b h => hs b h
  · have := (hb b h).2; omega
  · simp at hj; omega
  · obtain rfl : w0.heap.size = b := by simpa [Value.ownBlock] using h
    have := (hb _ h2).2
    omega

end Go.Proofs.Ytnbgpeoceejolab
