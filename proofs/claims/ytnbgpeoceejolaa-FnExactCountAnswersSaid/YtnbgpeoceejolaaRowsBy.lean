/-
  rowsBy of the program, with the closure of eliminationOf.
-/
import Derived.Test.YtnbgpeoceejolaaFillP
namespace Go.Proofs.Ytnbgpeoceejolaa
open Go.RowKit

/-- The slices of rows in one array, of which the first k have been cut. -/
def sliA (g l n k : Nat) : List Value := (List.range n).map fun j => if j < k then .slice (some ⟨g, j * l, none⟩) l l else .slice none 0 0
theorem sliA_zero (g l n : Nat) : List.replicate n (Value.slice none 0 0) = sliA g l n 0 := by
  apply List.ext_getElem?
  intro i
  unfold sliA
  by_cases h : i < n
  · simp [h]
  · simp [h]
theorem sliA_set (g l n k : Nat) : (sliA g l n k).toArray.setIfInBounds k (.slice (some ⟨g, k * l, none⟩) l l) = (sliA g l n (k + 1)).toArray := by
  rw [List.setIfInBounds_toArray]
  congr 1
  apply List.ext_getElem?
  intro i
  rw [List.getElem?_set]
  unfold sliA
  by_cases hn : i < n
  · by_cases h : k = i
    · subst h
      simp [hn]
    · rw [if_neg h]
      by_cases h2 : i < k
      · simp [hn, h2, show i < k + 1 by omega]
      · simp [hn, h2, show ¬ i < k + 1 by omega]
  · by_cases h : k = i
    · subst h
      simp [hn]
    · simp [hn, h]
theorem sliA_at {g l n k i : Nat} (hi : i < k) (hn : i < n) : (sliA g l n k).toArray[i]? = some (.slice (some ⟨g, i * l, none⟩) l l) := by
  simp [sliA, hn, hi]
theorem sliA_cell {g l n k i : Nat} (hn : i < n) : ∃ v, (sliA g l n k).toArray[i]? = some v := by
  simp [sliA, hn]
theorem zero888 : Try.zeroCells245 = (arrF 888 fun _ => 0).toArray := by kernel_rfl
set_option maxRecDepth 100000 in
theorem cut888 (g fo hi l : Nat) (h1 : fo + l = hi) (h2 : hi ≤ 888) (w : World) : (Instr.sliceAt 245 (.pointer (some ⟨g, 0, none⟩)) (some (.int .i64 (fo : Int))) (some (.int .i64 (hi : Int))) (some (.int .i64 (hi : Int)))).run Try.prog w = .ok (.slice (some (if l = 0 then ⟨g, 0, none⟩ else ⟨g, fo, none⟩)) l l) w := by
  have hal : Try.prog.arrayLen 245 = 888 := by kernel_rfl
  have hsz : (sizeOf (Try.prog.elem 245)).run Try.prog w = .ok 1 w := by kernel_rfl
  have h := run_sliceAt_array_lhm (P := Try.prog) w 245 ⟨g, 0, none⟩ (by kernel_rfl) .i64 .i64 .i64 (fo : Int) (hi : Int) (hi : Int) (by omega) (by omega) (by omega) (by rw [hal]; omega)
  rw [h, hsz]
  subst h1
  simp only [Result.andThen, slicedAt, Int.toNat_natCast, Nat.mul_one, Nat.add_sub_cancel_left]
  congr 2
  by_cases h0 : l = 0
  · subst h0; simp
  · rw [if_neg (by omega), if_neg h0, Addr.add_lit, Nat.zero_add]
theorem info_sliT : (Try.prog.info? 34).map (fun i => (i.zero, i.size, i.bytes)) = some (some (.slice none 0 0), 1, 24) := by kernel_rfl
theorem make_slices (n : Nat) (hn : n ≤ 1000) (w : World) : (Instr.makeSlice 53 (.int .i64 n) (.int .i64 n)).run Try.prog w = .ok (.slice (some ⟨w.heap.size, 0, none⟩) n n) (w.alloc (.cells (Array.replicate n (Value.slice none 0 0)) 34)) := by
  obtain ⟨i0, hi, hz0, hz1, hz2⟩ := info_parts info_sliT
  have h := run_makeSlice (P := Try.prog) w 53 34 i0 (.slice none 0 0) Try.underlying53 hi hz0 .i64 .i64 n n (by omega) (by omega) (by rw [hz1]; simp; omega) (by rw [hz2]; omega) (by omega)
  rw [h, hz1]
  have e : madeCells (Value.slice none 0 0).cells (n * 1) = Array.replicate n (Value.slice none 0 0) := by
    apply Array.ext'
    rw [Nat.mul_one]
    simpa [Value.cells] using toList_madeCells_one (.slice none 0 0) n
  rw [Int.toNat_natCast, e]

set_option linter.unusedSimpArgs false in
set_option maxHeartbeats 4000000 in
set_option maxRecDepth 100000 in
theorem rowsByC (sb u l : Nat) (p : Int) (rs : List (Int × List Int)) (w : World) (hs : SysAt w sb 0 p u rs) (hok : SysOk p u rs) (hl : l = u + 1 + rs.length) :
    Calls Try.prog 134 #[.int .i64 (rs.length : Int), .int .i64 (l : Int), .func (.func 135) #[] #[.pointer (some ⟨sb, 0, none⟩)]] w fun e w' => ∃ g rb, e = .returned (.slice (some ⟨rb, 0, none⟩) rs.length rs.length) ∧ PRows w' rb g 888 rs.length l (fun i => i) p (rowsF rs l rs.length) ∧ w.heap.size ≤ g ∧ w.heap.size ≤ rb ∧ rb < w'.heap.size ∧ Below w.heap.size w w' := by
  have hn24 := hok.2.2.1
  have hu12 : 1 ≤ u ∧ u ≤ 12 := by have := hok.2.1; unfold InP at this; omega
  have hl37 : l ≤ 37 := by omega
  have HS := Lib.hid hs
  have HOK := Lib.hid hok
  have HL := Lib.hid hl
  have hmk := make_slices rs.length (by omega)
  obtain ⟨n, hn⟩ : ∃ n, rs.length = n := ⟨_, rfl⟩
  have HNN := Lib.hid hn
  have HFITS : Hid (∀ k, k < n → k * l + l ≤ 888) := Lib.hid fun k hk => by
    have h1 := Nat.mul_le_mul (show k + 1 ≤ 24 by omega) hl37
    rw [Nat.succ_mul] at h1
    omega
  rw [hn] at hmk hn24 ⊢
  clear hs hok hl hn
  go_enter Try.func134, Try.ntmps134
  obtain ⟨g, hg⟩ : ∃ g, w.heap.size = g := ⟨_, rfl⟩
  have HB1 : Hid (Below w.heap.size w (w.alloc (.cells Try.zeroCells245 245))) := Lib.hid ((Below.refl _ _).alloc (Nat.le_refl _) _)
  have HBA : Hid (Box 245 (w.alloc (.cells Try.zeroCells245 245)) w.heap.size (arrF 888 (rowsF rs l 0)).toArray) := Lib.hid (by
    rw [rowsF_zero, ← zero888]
    exact Box.new _ _ _)
  have hsz : (w.alloc (.cells Try.zeroCells245 245)).heap.size = g + 1 := by simp [hg]
  go_wp2
  obtain ⟨w1, hw1⟩ : ∃ w1, w.alloc (.cells Try.zeroCells245 245) = w1 := ⟨_, rfl⟩
  rw [hw1] at HB1 HBA hsz ⊢
  rw [hg] at HBA
  have HW2 : Hid (Below w.heap.size w (w1.alloc (.cells (Array.replicate n (Value.slice none 0 0)) 34))) := Lib.hid (HB1.out.alloc HB1.out.size _)
  have HBR : Hid (Box 34 (w1.alloc (.cells (Array.replicate n (Value.slice none 0 0)) 34)) (g + 1) (sliA g l n 0).toArray) := Lib.hid (by
    rw [← sliA_zero, ← hsz]
    simp only [List.toArray_replicate]
    exact Box.new _ _ _)
  have HBG : Hid (Box 245 (w1.alloc (.cells (Array.replicate n (Value.slice none 0 0)) 34)) g (arrF 888 (rowsF rs l 0)).toArray) := Lib.hid (HBA.out.below ((Below.refl _ _).alloc (Nat.le_refl _) _))
  have HGE := Lib.hid hg
  have HSZ : Hid (g + 1 < (w1.alloc (.cells (Array.replicate n (Value.slice none 0 0)) 34)).heap.size) := Lib.hid (by simp [hsz])
  clear hw1 hsz hmk hg
  go_loopw [14] (fun v wr => ∃ k : Nat, k ≤ n ∧ v = .int .i64 k ∧ Box 245 wr g (arrF 888 (rowsF rs l k)).toArray ∧ Box 34 wr (g + 1) (sliA g l n k).toArray ∧ Below w.heap.size w wr) (fun v _ => n - (intOf v).toNat)
  case atStart => exact ⟨0, Nat.zero_le _, rfl, HBG.out, HBR.out, HW2.out⟩
  case round =>
    obtain ⟨k, hk, rfl, hbg, hbr, hbw⟩ := hrel
    have HG := Lib.hid hbg
    have HR := Lib.hid hbr
    have HW := Lib.hid hbw
    clear hbg hbr hbw
    by_cases hlt : k < n
    · have hkn : (k : Int) < (n : Int) := by omega
      obtain ⟨fo, hfo⟩ : ∃ fo, k * l = fo := ⟨_, rfl⟩
      have hfit := HFITS.out k hlt
      rw [hfo] at hfit
      have hm0 : (k : Int) * (l : Int) = (fo : Int) := by rw [← hfo, Int.natCast_mul]
      have hm1 : IntKind.i64.wrap (fo : Int) = (fo : Int) := IntWalk.i64_in _ (by omega)
      obtain ⟨hi, hhi⟩ : ∃ hi, fo + l = hi := ⟨_, rfl⟩
      have hm3 : wrap64 (((k : Int) + 1) * (l : Int)) = (hi : Int) := by
        have e : ((k : Int) + 1) * (l : Int) = (hi : Int) := by rw [Int.add_mul, Int.one_mul, hm0, ← hhi]; rfl
        rw [e]
        unfold wrap64
        omega
      have hcut := fun w => cut888 g fo hi l hhi (by omega) w
      have HHI := Lib.hid hhi
      clear hhi
      obtain ⟨v0, hv0⟩ := sliA_cell (g := g) (l := l) (k := k) hlt
      have c0 := HR.out.c k hv0
      have f0 := HR.out.free k
      have HFO := Lib.hid hfo
      clear hfo hv0
      have hl0 : ¬ l = 0 := by have := HL.out; omega
      have hkr : k < rs.length := by have := HNN.out; omega
      have HR2 : Hid (Box 34 (wr.setCell ⟨g + 1, k, none⟩ (.slice (some ⟨g, fo, none⟩) l l)) (g + 1) (sliA g l n (k + 1)).toArray) := Lib.hid (by
        rw [← sliA_set, ← HFO.out]
        exact HR.out.set k _)
      have HG2 : Hid (Box 245 (wr.setCell ⟨g + 1, k, none⟩ (.slice (some ⟨g, fo, none⟩) l l)) g (arrF 888 (rowsF rs l k)).toArray) := Lib.hid (HG.out.other (show g ≠ g + 1 by omega) _)
      have HW3 : Hid (Below w.heap.size w (wr.setCell ⟨g + 1, k, none⟩ (.slice (some ⟨g, fo, none⟩) l l))) := Lib.hid (HW.out.setCell (p := ⟨g + 1, k, none⟩) (by show w.heap.size ≤ g + 1; have := HGE.out; omega) _)
      have HXL : Hid ((rowO rs k).length = u) := Lib.hid (by have := (HOK.out.2.2.2 k hkr).1; omega)
      go_wp2_with fail
      refine (fillC sb g fo k l u 888 p rs (rowsF rs l k) 245 w _ HS.out HOK.out HW3.out (Nat.le_of_eq HGE.out) HG2.out hkr HL.out (by have := HHI.out; omega) (by decide)).mono ?_
      rintro e w4 ⟨rfl, hb4, ho4⟩
      have HG4 : Hid (Box 245 w4 g (arrF 888 (rowsF rs l (k + 1))).toArray) := Lib.hid (by
        rw [← fillF_rows HXL.out HL.out hkr, HFO.out]
        exact hb4)
      have HR4 := Lib.hid (HR2.out.same (ho4.block (g + 1) HR2.out.lt (show ¬ g + 1 = g by omega)))
      have HW4 := Lib.hid (HW3.out.trans (ho4.below HW3.out.size (fun q hq => by have := HGE.out; omega)))
      clear hb4 ho4
      go_wp2
      go_roundw
      case rel => exact ⟨k + 1, by omega, by go_num, HG4.out, HR4.out, HW4.out⟩
      case measure => simp [intOf]; omega
    · obtain rfl : k = n := by omega
      go_wp2
      go_ret
      have HXL : Hid (∀ i, i < rs.length → (rowO rs i).length = u) := Lib.hid fun i hi => by have := (HOK.out.2.2.2 i hi).1; omega
      have hgw := HG.out.lt
      refine ⟨g, g + 1, rfl, ⟨fun i hi => HR.out.c i (sliA_at hi hi), fun o => HR.out.free o, ?_, ?_, fun i hi => hi, fun i j _ _ h => h, by omega, ?_, hgw⟩, Nat.le_of_eq HGE.out, by have := HGE.out; omega, HR.out.lt, HW.out⟩
      · have := HG.out.flat
        rwa [← HNN.out] at this ⊢
      · rw [← HNN.out]; exact rowsF_low HOK.out
      · have := HFITS.out
        rcases Nat.eq_zero_or_pos k with h0 | h0
        · subst h0; omega
        · have h1 := this (k - 1) (by omega)
          rw [← Nat.succ_mul, Nat.succ_eq_add_one, Nat.sub_add_cancel h0] at h1
          exact h1

end Go.Proofs.Ytnbgpeoceejolaa
