/-
  The program's mappedBits, keepsTuples, IsMapOf.
-/
import Derived.Test.YtfjfkmoeaenlbabMaps4
namespace Go.Proofs.Ytfjfkmoeaenlbab
open Go.RowKit

def mapG (to : List Int) (xss : List (List Int)) : List (List Int) := xss.map (mapped to)
theorem mapG_len (to : List Int) (xss : List (List Int)) : (mapG to xss).length = xss.length := by simp [mapG]
theorem mapG_at (to : List Int) (xss : List (List Int)) (j : Nat) (h : j < xss.length) : rowN (mapG to xss) j = mapped to (rowN xss j) := by
  rw [rowN_at _ _ (by rw [mapG_len]; exact h), rowN_at _ _ h]
  simp [mapG]

theorem mapped_tup {x y ar : Int} {to xs : List Int} (ht : TupP y x to) (h : TupP x ar xs) : TupP y ar (mapped to xs) := by
  refine ⟨by rw [mapped_len]; exact h.1, fun k hk => ?_⟩
  rw [mapped_len] at hk
  rw [mapped_at _ _ _ hk]
  have h1 := h.2 k hk
  have h2 := ht.1
  exact ht.2 _ (by omega)

theorem part_mapped {size x : Int} {xs ys : List (List Int)} (h0 : In14 size) (h3 : In14 x) (h1 : ∀ j, j < xs.length → TupP size x (rowN xs j)) (h2 : RelOk size x ys) : SubP (setOf size xs) (setOf size ys) ↔ ∀ j, j < xs.length → HasP ys (rowN xs j) := by
  constructor
  · intro h j hj
    obtain ⟨i, hi, he⟩ := (setK_iff _ _).1 (h (codeN size (rowN xs j)) (codeN_lt (h1 j hj) h0 h3) ((setK_iff _ _).2 ⟨j, hj, rfl⟩))
    exact ⟨i, hi, codeN_inj (h2.2.2 i hi).1 (h1 j hj) h0 h3 he⟩
  · intro h n _ hs
    obtain ⟨j, hj, rfl⟩ := (setK_iff _ _).1 hs
    obtain ⟨i, hi, he⟩ := h j hj
    exact (setK_iff _ _).2 ⟨i, hi, by rw [he]⟩

set_option maxHeartbeats 2000000 in
set_option maxRecDepth 100000 in
theorem mappedBits (x y : Int) (ar : Int) (a : Option Addr) (n c : Nat) (xss : List (List Int)) (v : Value) (to : List Int) (w : World) (h : GridAt w (.slice a n c) xss) (hv0 : RowAt w v to) (hr : RelOk x ar xss) (hy : In14 y) (ht : TupP y x to) :
    Calls Try.prog 40 #[.agg #[.int .i64 ar, .slice a n c], v, .int .i64 y] w fun e w' => e = .returned (bitsV (setOf y (mapG to xss))) ∧ Below w.heap.size w w' := by
  have HR := Lib.hid hr
  have HTO := Lib.hid ht
  have HY := Lib.hid hy
  have hy1 : 1 ≤ y := hy.1
  have hy2 : y ≤ 4 := hy.2
  obtain ⟨at0, ct0, rfl, hnt, hct⟩ := hv0
  obtain ⟨V, ⟨a', c', hv, hn, hc⟩, hV⟩ := h
  simp only [Value.slice.injEq] at hv
  obtain ⟨rfl, rfl, rfl⟩ := hv
  have HC := Lib.hid hc
  have HV := Lib.hid hV
  have HCT := Lib.hid hct
  clear hc hV hr hct ht hy
  go_enter Try.func40, Try.ntmps40
  go_wp2
  go_loopw [16] (fun i wr => ∃ k : Nat, k ≤ xss.length ∧ i = .int .i64 k ∧ BitsBox wr (w.heap.size + 1 + 1) (setK y (mapG to xss) k) ∧ BitsBox wr (w.heap.size + 1) (fun _ => false) ∧ Below w.heap.size w wr) (fun i _ => xss.length - (intOf i).toNat)
  case atStart =>
    refine ⟨0, by omega, rfl, ?_, ?_, (((Below.refl w.heap.size w).alloc (Nat.le_refl _) _).alloc (by simp) _).alloc (by simp; omega) _⟩
    · rw [bits_zero]
      have h := bits_new ((w.alloc (.cells #[.int .i64 ar, .slice a xss.length c] 63)).alloc (.cells (bitsC fun _ => false).toArray 74)) (fun _ => false)
      rw [World.size_alloc, World.size_alloc] at h
      exact h
    · rw [bits_zero]
      have h := (bits_new (w.alloc (.cells #[.int .i64 ar, .slice a xss.length c] 63)) (fun _ => false)).alloc (.cells (bitsC fun _ => false).toArray 74)
      rw [World.size_alloc] at h
      exact h
  case round =>
    obtain ⟨k, hk, rfl, hb, hb1, hw⟩ := hrel
    by_cases hlt : k < xss.length
    · obtain ⟨b1, off1, ha1, hcell1⟩ := HC.out (by omega)
      subst ha1
      have hx1 := below_cell hw (hcell1 k hlt)
      have hlt' : (k : Int) < (xss.length : Int) := by omega
      obtain ⟨ra, rc, hrv, hrn, hrc⟩ := (HV.out k hlt).below hw
      rw [hrv] at hx1
      have HRC := Lib.hid hrc
      have HTU := Lib.hid (HR.out.2.2 k hlt).1
      have HTM := Lib.hid (mapped_tup HTO.out HTU.out)
      have hlen := HTU.out.len HR.out.2.1
      have HSET : Hid (setK y (mapG to xss) (k + 1) = putS (setK y (mapG to xss) k) (codeN y (mapped to (rowN xss k)))) := Lib.hid (by
        show putS _ _ = _
        rw [mapG_at _ _ _ hlt])
      have HEND : Hid (codeK y (mapped to (rowN xss k)) (rowN xss k).length = (codeN y (mapped to (rowN xss k)) : Int)) := Lib.hid (by
        have := codeN_cast HTM.out HY.out HR.out.2.1
        unfold code at this
        rwa [mapped_len] at this)
      have HB := Lib.hid hb
      have HB1 := Lib.hid hb1
      have HW := Lib.hid hw
      clear hcell1 hb hb1 hw hrv hrc
      go_wp2
      go_loop [10, 22] (fun m i => ∃ q : Nat, q ≤ (rowN xss k).length ∧ i = .int .i64 q ∧ m = .int .i64 (codeK y (mapped to (rowN xss k)) q)) (fun _ i => (rowN xss k).length - (intOf i).toNat)
      case atStart => exact ⟨0, Nat.zero_le _, rfl, rfl⟩
      case round =>
        obtain ⟨q, hq, rfl, hm⟩ := hrel
        by_cases hqt : q < (rowN xss k).length
        · subst hm
          obtain ⟨b2, off2, ha2, hcell2⟩ := HRC.out (by omega)
          subst ha2
          obtain ⟨g0, g1⟩ := HTU.out.2 q hqt
          have hto := HTO.out.1
          obtain ⟨b3, off3, ha3, hcell3⟩ := HCT.out (by omega)
          subst ha3
          have hy1' := hcell2 q hqt
          have hz1 := below_cell HW.out (hcell3 (intN (rowN xss k) q).toNat (by omega))
          have hqt' : (q : Int) < ((rowN xss k).length : Int) := by omega
          obtain ⟨r0, r1⟩ := codeK_lt (xs := mapped to (rowN xss k)) hy1 hy2 q (by omega) fun j hj => HTM.out.2 j (by rw [mapped_len]; omega)
          have hsm := HTO.out.2 (intN (rowN xss k) q).toNat (by omega)
          have hm0 : 0 ≤ codeK y (mapped to (rowN xss k)) q * y := Int.mul_nonneg r0 (by omega)
          have hm1 : codeK y (mapped to (rowN xss k)) q * y ≤ 1024 := by
            have : codeK y (mapped to (rowN xss k)) q * y ≤ codeK y (mapped to (rowN xss k)) q * 4 := Int.mul_le_mul_of_nonneg_left hy2 r0
            omega
          have HST : Hid (codeK y (mapped to (rowN xss k)) (q + 1) = codeK y (mapped to (rowN xss k)) q * y + intN to (intN (rowN xss k) q).toNat) := Lib.hid (by
            show _ * _ + _ = _
            rw [mapped_at _ _ _ hqt])
          obtain ⟨s0, s1⟩ := hsm
          clear hcell2 hcell3
          go_wp2
          go_round
          case rel => exact ⟨q + 1, by omega, by go_num, by rw [HST.out]⟩
          case measure => simp [intOf]; omega
        · obtain rfl : q = (rowN xss k).length := by omega
          rw [HEND.out] at hm
          subst hm
          go_wp2_with fail
          refine (putBit _ _ _ (codeN_lt HTM.out HY.out HR.out.2.1) _ HB.out).mono ?_
          rintro e w3 ⟨rfl, ho, hb3⟩
          rw [← HSET.out] at hb3
          have HB3 := Lib.hid hb3
          have HB4 : Hid (BitsBox w3 (w.heap.size + 1) (fun _ => false)) := by
            have h := HB1.out
            unfold BitsBox at h
            show w3.heap[_]? = _
            rw [ho.block _ HB1.out.lt (by omega)]; exact h
          have HW3 := Lib.hid (HW.out.trans (ho.below HW.out.size (fun k hk => by omega)))
          clear hb3 ho
          go_wp2
          go_roundw
          case rel => exact ⟨k + 1, by omega, by go_num, HB3.out, HB4.out, HW3.out⟩
          case measure => simp [intOf]; omega
    · obtain rfl : k = xss.length := by omega
      have c0 := hb.cell 0 (by omega)
      have c1 := hb.cell 1 (by omega)
      have c2 := hb.cell 2 (by omega)
      have c3 := hb.cell 3 (by omega)
      have d0 := hb1.cell 0 (by omega)
      have d1 := hb1.cell 1 (by omega)
      have d2 := hb1.cell 2 (by omega)
      have d3 := hb1.cell 3 (by omega)
      have f0 := hb1.free 0
      have f1 := hb1.free 1
      have f2 := hb1.free 2
      have f3 := hb1.free 3
      have HW := Lib.hid hw
      clear hb hb1 hw
      go_wp2
      refine bodyPost_ret (v := bitsV (setOf y (mapG to xss))) (by simp [results, Try.results40, go_sem, d0, d1, d2, d3, bitsV, bitsC, setOf, mapG_len]) rfl ⟨rfl, ?_⟩
      exact ((((HW.out.setCell (by simp) _).setCell (by simp) _).setCell (by simp) _).setCell (by simp) _)

end Go.Proofs.Ytfjfkmoeaenlbab
