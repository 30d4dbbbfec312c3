/-
  IsRefutation of the program.
-/
import Derived.Test.YtadpnckpgpamiaaIsRef1
namespace Go.Proofs.Ytadpnckpgpamiaa
open Go.RowKit

set_option linter.unusedSimpArgs false in
set_option maxHeartbeats 4000000 in
set_option maxRecDepth 100000 in
theorem isNonzeroC (x : Int) (w : World) : Calls Try.prog 88 #[.int .i64 x] w fun e w' => e = .returned (.bool (x != 0)) ∧ w = w' := by
  go_enter Try.func88, Try.ntmps88
  go_wp2
  go_ret
  exact ⟨rfl, rfl⟩

set_option linter.unusedSimpArgs false in
set_option maxHeartbeats 4000000 in
set_option maxRecDepth 100000 in
theorem indexNZ (v : Value) (xs : List Int) (w : World) (h : RowAt w v xs) :
    Calls Try.prog 134 #[v, .func (.func 88) #[] #[]] w fun e w' => ∃ m : Int, e = .returned (.int .i64 m) ∧ (0 ≤ m ↔ ¬ ∀ j, j < xs.length → intN xs j = 0) ∧ w = w' := by
  obtain ⟨a1, c1, rfl, hn1, hc1⟩ := h
  have HC1 := Lib.hid hc1
  clear hc1
  go_enter Try.func134, Try.ntmps134
  go_wp2
  go_loop [8] (fun i => ∃ k : Nat, k ≤ xs.length ∧ i = .int .i64 k ∧ (∀ j, j < k → intN xs j = 0)) (fun i => xs.length - (intOf i).toNat)
  case atStart => exact ⟨0, Nat.zero_le _, rfl, fun j hj => absurd hj (Nat.not_lt_zero _)⟩
  case round =>
    obtain ⟨k, hk, rfl, hall⟩ := hrel
    have HA := Lib.hid hall
    clear hall
    by_cases hlt : k < xs.length
    · obtain ⟨b1, off1, rfl, hd1⟩ := HC1.out (by omega)
      have e1 := hd1 k hlt
      obtain ⟨x, hx⟩ : ∃ x, intN xs k = x := ⟨_, rfl⟩
      have e2 : w.cell? ⟨b1, off1 + k, none⟩ = some (.int .i64 x) := by rw [← hx]; exact e1
      have HX := Lib.hid hx
      have hlt2 : (k : Int) < (xs.length : Int) := by omega
      clear hd1 e1 hx
      by_cases hz : x = 0
      · have HZ := Lib.hid hz
        have hzb : (x != 0) = false := by rw [hz]; rfl
        clear hz
        go_wp2_with fail
        refine (isNonzeroC x _).mono ?_
        rintro e w2 ⟨rfl, rfl⟩
        go_wp2
        go_round
        case rel =>
          refine ⟨k + 1, by omega, by go_num, fun j hj => ?_⟩
          by_cases hjk : j = k
          · subst hjk; rw [HX.out]; exact HZ.out
          · exact HA.out j (by omega)
        case measure => simp [intOf]; omega
      · have hzb : (x != 0) = true := bne_iff_ne.2 hz
        have HF : Hid (¬ ∀ j, j < xs.length → intN xs j = 0) := Lib.hid fun h => hz (by rw [← HX.out]; exact h k hlt)
        clear hz
        go_wp2_with fail
        refine (isNonzeroC x _).mono ?_
        rintro e w2 ⟨rfl, rfl⟩
        go_wp2
        go_ret
        exact ⟨_, rfl, ⟨fun _ => HF.out, fun _ => by omega⟩, rfl⟩
    · obtain rfl : k = xs.length := by omega
      go_wp2
      go_ret
      exact ⟨_, rfl, ⟨fun h => absurd h (by decide), by rintro ⟨x, h1, h2⟩; exact absurd (HA.out x h1) h2⟩, rfl⟩

set_option linter.unusedSimpArgs false in
set_option maxHeartbeats 4000000 in
set_option maxRecDepth 100000 in
theorem containsNZ (v : Value) (xs : List Int) (b : Bool) (w : World) (h : RowAt w v xs) (hb : Tells b (∀ j, j < xs.length → intN xs j = 0)) :
    Calls Try.prog 87 #[v, .func (.func 88) #[] #[]] w fun e w' => e = .returned (.bool (!b)) ∧ w = w' := by
  have H := Lib.hid h
  have HB := Lib.hid hb
  clear h hb
  go_enter Try.func87, Try.ntmps87
  go_wp2_with fail
  refine (indexNZ v xs _ H.out).mono ?_
  rintro e w2 ⟨m, rfl, hm, rfl⟩
  cases b with
  | true =>
    have hm0 : decide (m ≥ 0) = false := by
      have : ¬ 0 ≤ m := fun h => hm.1 h (HB.out.1 rfl)
      simpa using this
    have hm1 : ¬ m ≥ 0 := by simpa using hm0
    clear hm
    go_wp2
    go_ret
    exact ⟨by first | rfl | simp [hm0], rfl⟩
  | false =>
    have hm0 : decide (m ≥ 0) = true := by
      have : 0 ≤ m := hm.2 fun h => absurd (HB.out.2 h) (by simp)
      simpa using this
    have hm1 : m ≥ 0 := by simpa using hm0
    clear hm
    go_wp2
    go_ret
    exact ⟨by first | rfl | simp [hm0], rfl⟩

/-- The row of a round's sums, j of them already made with the next equation. -/
def partQ (p : Int) (rs : List (Int × List Int)) (bys : List Int) (n k j : Nat) : List Int := (List.range n).map fun u => if u < j then refL p rs bys u (k + 1) else refL p rs bys u k
theorem partQ_len (p : Int) (rs : List (Int × List Int)) (bys : List Int) (n k j : Nat) : (partQ p rs bys n k j).length = n := by simp [partQ]
theorem partQ_zero (p : Int) (rs : List (Int × List Int)) (bys : List Int) (n k : Nat) : partQ p rs bys n k 0 = refRow p rs bys n k := by simp [partQ, refRow]
theorem partQ_end (p : Int) (rs : List (Int × List Int)) (bys : List Int) (n k : Nat) : partQ p rs bys n k n = refRow p rs bys n (k + 1) := by
  apply List.ext_getElem
  · simp [partQ, refRow]
  · intro i h1 h2
    have hi : i < n := by simpa [refRow] using h2
    simp [partQ, refRow, hi]
theorem partQ_at (p : Int) (rs : List (Int × List Int)) (bys : List Int) (n k j : Nat) (h : j < n) : intN (partQ p rs bys n k j) j = refL p rs bys j k := by
  rw [intN_at _ _ (by rw [partQ_len]; exact h)]
  simp [partQ]
theorem partQ_set (p : Int) (rs : List (Int × List Int)) (bys : List Int) (n k j : Nat) : (partQ p rs bys n k j).set j (refL p rs bys j (k + 1)) = partQ p rs bys n k (j + 1) := by
  apply List.ext_getElem
  · simp [partQ]
  · intro i h1 h2
    rw [List.getElem_set]
    by_cases hik : j = i
    · subst hik
      simp [partQ]
    · rw [if_neg hik]
      have e : i < j + 1 ↔ i < j := by omega
      simp [partQ, e]

set_option linter.unusedSimpArgs false in
set_option maxHeartbeats 4000000 in
set_option maxRecDepth 100000 in
theorem implIsRef_in (p : Int) (un : Nat) (a : Option Addr) (n c : Nat) (rs : List (Int × List Int)) (v : Value) (bys : List Int) (b : Bool) (w : World) (h : EqsAt w (.slice a n c) rs) (hv : RowAt w v bys) (hok : SysOk p un rs) (ht : TupP p rs.length bys) (hb : Tells b (RefP p un rs bys)) :
    Calls Try.prog 26 #[.agg #[.int .i64 p, .int .i64 (un : Int), .slice a n c], v] w fun e w' => e = .returned (.tuple #[.bool b, .int .i64 0]) ∧ Below w.heap.size w w' := by
  obtain ⟨u, hu⟩ : ∃ u : Int, (un : Int) = u := ⟨_, rfl⟩
  rw [hu] at hok hb ⊢
  have HW : Hid (Below w.heap.size w (w.alloc (.cells #[.int .i64 p, .int .i64 u, .slice a n c] 29))) := Lib.hid ((Below.refl _ _).alloc (Nat.le_refl _) _)
  have HBX := Lib.hid (Box.new 29 w #[.int .i64 p, .int .i64 u, .slice a n c])
  have HV := Lib.hid (hv.below HW.out)
  have HOK := Lib.hid hok
  have HT := Lib.hid ht
  have HB := Lib.hid hb
  have HEQ := Lib.hid (h.below HW.out)
  obtain ⟨va, vc, rfl, hvn, -⟩ := hv
  have HU := Lib.hid hu
  have hu12 : un ≤ 12 := by have := hok.2.1.2; omega
  have hr24 : rs.length ≤ 24 := hok.2.2.1
  have hp2 := hok.1.le.1
  have hp3 := hok.1.le.2
  obtain rfl : n = rs.length := by obtain ⟨_, _, he, _⟩ := h; simp only [Value.slice.injEq] at he; exact he.2.1
  have HL : Hid (bys.length = rs.length) := Lib.hid (by have := ht.1; omega)
  clear h hok hb hu ht
  have x0 := HBX.out.c 0 rfl
  have x1 := HBX.out.c 1 rfl
  have x2 := HBX.out.c 2 rfl
  go_enter Try.func26, Try.ntmps26
  go_wp2_with fail
  refine (implValidSystem _ _ _ _ _ rs true _ HEQ.out (Tells.yes HOK.out)).mono ?_
  rintro e w2 ⟨rfl, hb2⟩
  have HB2 := Lib.hid hb2
  have y0 := below_cell hb2 x0
  have y1 := below_cell hb2 x1
  have y2 := below_cell hb2 x2
  rw [← HU.out] at y1
  clear hb2 x0 x1 x2
  go_wp2_with fail
  refine (isListBelow _ bys _ _ true _ (HV.out.below HB2.out) (Tells.yes HT.out)).mono ?_
  rintro e w2' ⟨rfl, rfl⟩
  have hmk := make_row un (by omega) w2
  have y2b := below_cell ((Below.refl _ _).alloc (Nat.le_refl _) (.cells (Array.replicate un (Value.int .i64 0)) 2)) y2
  obtain ⟨wz, hwz⟩ : ∃ wz, w2.heap.size = wz := ⟨_, rfl⟩
  have HWZ := Lib.hid hwz
  clear hwz
  go_wp2
  rw [HWZ.out]
  clear hmk
  have HWW : Hid (Below w.heap.size w w2) := Lib.hid (HW.out.trans (HB2.out.mono HW.out.size))
  have HWL : Hid (w.heap.size < wz) := Lib.hid (by rw [← HWZ.out]; exact cell_block_lt y0)
  have HOL : Hid (OwnRow (w2.alloc (.cells (Array.replicate un (Value.int .i64 0)) 2)) wz (.slice (some ⟨wz, 0, none⟩) un un) (refRow p rs bys un 0)) := Lib.hid (by
    have h1 := own_new w2 wz un (.int .i64 0) (by rw [HWZ.out]; exact Nat.le_refl _) (by omega)
    rw [HWZ.out] at h1
    unfold OwnRow
    rw [refRow_zero, refRow_len]
    exact h1)
  have HB3 : Hid (Below wz w2 (w2.alloc (.cells (Array.replicate un (Value.int .i64 0)) 2))) := Lib.hid ((Below.refl _ _).alloc (by rw [HWZ.out]; exact Nat.le_refl _) _)
  obtain ⟨w3, hw3⟩ : ∃ w3, w2.alloc (.cells (Array.replicate un (Value.int .i64 0)) 2) = w3 := ⟨_, rfl⟩
  rw [hw3] at HOL HB3 ⊢
  have HY0 := Lib.hid y0
  have HY2 := Lib.hid y2
  have HV2 := Lib.hid (HV.out.below HB2.out)
  have HE2 := Lib.hid (HEQ.out.below HB2.out)
  have z2 := below_cell (by rw [HWZ.out]; exact HB3.out) y2
  clear hw3 y0 y1 y2 y2b
  go_loopw [7, 29] (fun s i wr => ∃ k : Nat, k ≤ rs.length ∧ i = .int .i64 k ∧ s = .int .i64 (refR p rs bys k) ∧ OwnRow wr wz (.slice (some ⟨wz, 0, none⟩) un un) (refRow p rs bys un k) ∧ Below wz w2 wr) (fun _ i _ => rs.length - (intOf i).toNat)
  case atStart => exact ⟨0, Nat.zero_le _, rfl, rfl, HOL.out, HB3.out⟩
  case round =>
    obtain ⟨k, hk, rfl, rfl, hown, hbl⟩ := hrel
    have HOW := Lib.hid hown
    have HBL := Lib.hid hbl
    have HBX2 : Hid (Below w2.heap.size w2 wr) := Lib.hid (by rw [HWZ.out]; exact hbl)
    have HV3 := Lib.hid (HV2.out.below HBX2.out)
    have hsz : wz < wr.heap.size := by
      rcases HOW.out.rowIn with ⟨h1, _⟩ | ⟨g, c', hv, _, hg, _⟩
      · simp at h1
      · simp only [Value.slice.injEq, Option.some.injEq, Addr.mk.injEq] at hv
        omega
    clear hown hbl
    by_cases hlt : k < rs.length
    · obtain ⟨a', c', he, hn, hc⟩ := HE2.out
      simp only [Value.slice.injEq] at he
      obtain ⟨rfl, -, rfl⟩ := he
      obtain ⟨b1, off1, rfl, hd1⟩ := hc (by omega)
      obtain ⟨va2, vc2, hv2, hvn2, hvc⟩ := HV2.out
      simp only [Value.slice.injEq] at hv2
      obtain ⟨rfl, -, rfl⟩ := hv2
      obtain ⟨bv, offv, rfl, hvd2⟩ := hvc (by have := HL.out; omega)
      have HEQN := Lib.hid (hd1 k hlt)
      have hlt2 : (k : Int) < (rs.length : Int) := by omega
      have hltv : (k : Int) < (bys.length : Int) := by have := HL.out; omega
      have HEO := Lib.hid (HOK.out.2.2.2 k hlt)
      have hxb := HT.out.2 k (by have := HL.out; omega)
      obtain ⟨x, hxe⟩ : ∃ x, intN bys k = x := ⟨_, rfl⟩
      rw [hxe] at hxb
      have HX := Lib.hid hxe
      have HEV : Hid (w2.cell? ⟨bv, offv + k, none⟩ = some (.int .i64 x)) := Lib.hid (by rw [← HX.out]; exact hvd2 k (by have := HL.out; omega))
      clear hd1 hvd2 hc hvc hxe hvn2 hn
      obtain ⟨row, hrow⟩ : ∃ row, rowO rs k = row := ⟨_, rfl⟩
      obtain ⟨q, hqe⟩ : ∃ q, arO rs k = q := ⟨_, rfl⟩
      have HRO := Lib.hid hrow
      have HQE := Lib.hid hqe
      have heqn := HEQN.out
      rw [hrow, hqe] at heqn
      obtain ⟨f1', ra, rn, rc, f0', hrr⟩ := heqn
      have f1 := below_cell HBX2.out f1'
      have f0 := below_cell HBX2.out f0'
      obtain ⟨ra', rc', hre, hrn, hrc⟩ := hrr
      simp only [Value.slice.injEq] at hre
      obtain ⟨rfl, rfl, rfl⟩ := hre
      have HRR : Hid (RowAt w2 (.slice ra row.length rc) row) := Lib.hid ⟨ra, rc, rfl, hrn, hrc⟩
      have HLY : Hid (Low3 row) := Lib.hid (by have := HEO.out.low HOK.out.1; rw [HRO.out] at this; exact this)
      have HQB : Hid (0 ≤ q ∧ q ≤ 2) := Lib.hid (by have := HEO.out.2.1; rw [HQE.out] at this; exact ⟨this.1, by have := this.2; omega⟩)
      have HLEN : Hid (row.length = un) := Lib.hid (by have := HEO.out.1; rw [HRO.out] at this; have := HU.out; omega)
      clear hrn hrc f0' f1' hrow hqe
      have HBE : Hid (Box 104 (wr.alloc (.cells #[.slice ra row.length rc, .int .i64 q] 104)) wr.heap.size #[.slice ra row.length rc, .int .i64 q]) := Lib.hid (Box.new _ _ _)
      have HAL : Hid (Below wr.heap.size wr (wr.alloc (.cells #[.slice ra row.length rc, .int .i64 q] 104))) := Lib.hid ((Below.refl _ _).alloc (Nat.le_refl _) _)
      have HOW4 : Hid (OwnRow (wr.alloc (.cells #[.slice ra row.length rc, .int .i64 q] 104)) wz (.slice (some ⟨wz, 0, none⟩) un un) (partQ p rs bys un k 0)) := Lib.hid (by
        have h1 := ownsRow_same HOW.out fun g' hg' => (HAL.out.block g' (by
          have hgw : g' = wz := by simpa [Value.ownBlock] using hg'.symm
          omega))
        rw [partQ_zero]
        exact h1)
      have HBL4 : Hid (Below wz w2 (wr.alloc (.cells #[.slice ra row.length rc, .int .i64 q] 104))) := Lib.hid (HBL.out.trans (HAL.out.mono (by omega)))
      go_wp2
      obtain ⟨w4, hw4⟩ : ∃ w4, wr.alloc (.cells #[.slice ra row.length rc, .int .i64 q] 104) = w4 := ⟨_, rfl⟩
      rw [hw4] at HBE HOW4 HBL4 ⊢
      obtain ⟨g, hg⟩ : ∃ g, wr.heap.size = g := ⟨_, rfl⟩
      rw [hg] at HBE hsz ⊢
      clear hw4 HAL hg f0 f1
      obtain ⟨wo, rfl⟩ : ∃ wo, wo = wr := ⟨_, rfl⟩
      go_loopw [37] (fun i wi => ∃ j : Nat, j ≤ row.length ∧ i = .int .i64 j ∧ OwnRow wi wz (.slice (some ⟨wz, 0, none⟩) un un) (partQ p rs bys un k j) ∧ Below wz w2 wi ∧ Box 104 wi g #[.slice ra row.length rc, .int .i64 q]) (fun i _ => row.length - (intOf i).toNat)
      case atStart => exact ⟨0, Nat.zero_le _, rfl, HOW4.out, HBL4.out, HBE.out⟩
      case round =>
        obtain ⟨j, hj, rfl, ho, hb, hbx⟩ := hrel
        have HOI := Lib.hid ho
        have HBI := Lib.hid hb
        have HXI := Lib.hid hbx
        have HBI2 : Hid (Below w2.heap.size w2 wr) := Lib.hid (by rw [HWZ.out]; exact hb)
        clear ho hb hbx
        have d1 := below_cell HBI2.out HEV.out
        have d2 := below_cell HBI2.out HY0.out
        have hp0 : ¬ p = 0 := by omega
        have hp0b : (p == 0) = false := beq_eq_false_iff_ne.2 hp0
        have hx2 : 0 ≤ x ∧ x ≤ 2 := by omega
        by_cases hjl : j < row.length
        · obtain ⟨ra', rc', hre, hrn, hrc⟩ := HRR.out
          simp only [Value.slice.injEq] at hre
          obtain ⟨rfl, -, rfl⟩ := hre
          obtain ⟨b2, off2, rfl, hrd⟩ := hrc (by omega)
          have er : wr.cell? ⟨b2, off2 + j, none⟩ = some (.int .i64 (intN row j)) := below_cell HBI2.out (hrd j hjl)
          have hju : j < un := by have := HLEN.out; omega
          have d0 : wr.cell? ⟨wz, j, none⟩ = some (.int .i64 (refL p rs bys j k)) := by
            have h := HOI.out.cell_of j (by rw [partQ_len]; exact hju)
            rwa [partQ_at _ _ _ _ _ _ hju] at h
          have hfr : wr.frozen? ⟨wz, j, none⟩ = false := HOI.out.free j
          have hlb := refL_low (rs := rs) (bys := bys) (u := j) HOK.out.1 k
          have hyb := HLY.out j
          obtain ⟨y, hye⟩ : ∃ y, intN row j = y := ⟨_, rfl⟩
          rw [hye] at er hyb
          obtain ⟨l, hle⟩ : ∃ l, refL p rs bys j k = l := ⟨_, rfl⟩
          rw [hle] at d0 hlb
          have hmb := prod3 hx2 hyb
          obtain ⟨s, hse⟩ : ∃ s, l + x * y = s := ⟨_, rfl⟩
          have hs0 : 0 ≤ s := by omega
          obtain ⟨z, hze⟩ : ∃ z, s % p = z := ⟨_, rfl⟩
          have HZE : Hid (refL p rs bys j (k + 1) = z) := Lib.hid (by rw [← hze, ← hse, ← hle, ← hye, ← HX.out, ← HRO.out]; rfl)
          have hw1 : IntKind.i64.wrap (x * y) = x * y := IntWalk.i64_in _ (by omega)
          have hw2 : IntKind.i64.wrap (l + x * y) = s := by rw [hse]; exact IntWalk.i64_in _ (by omega)
          have hm1 : Int.tmod s p = z := by rw [Int.tmod_eq_emod_of_nonneg hs0]; exact hze
          have hz3 : 0 ≤ z ∧ z ≤ 2 := by rw [← hze]; exact mod_low HOK.out.1
          have hw3 : IntKind.i64.wrap z = z := IntWalk.i64_in _ (by omega)
          have hjr : (j : Int) < (row.length : Int) := by omega
          have hjn : (j : Int) < (un : Int) := by omega
          clear hrd hrc hrn hye hle hse hze hlb hyb hmb hs0 hz3
          go_wp2
          refine wp_region_noPanic ?_
          refine wp_region_late (S := (fun w' => w'.cell? ⟨wz, j, none⟩ = some (.int .i64 l) ∧ w'.cell? ⟨bv, offv + k, none⟩ = some (.int .i64 x) ∧ w'.cell? ⟨w.heap.size, 0, none⟩ = some (.int .i64 p))) [17] (by kernel_rfl) ?_ (fun hHeld => ?_)
          · exact ⟨d0, d1, d2⟩
          refine wpAnyL_free (i := 0) (v := ?_) (some 42) rfl rfl (by kernel_rfl) (by kernel_rfl) (by kernel_rfl) (by decide) (fun _ _ _ h => h) (Or.inl ⟨by rfl, ?_⟩) (fun h0 => by assumption) ?_
          rotate_left
          · intro wS
            go_simp
            try with_reducible rfl
          try simp only [Act.put, List.setIfInBounds_toArray, List.set_cons_zero, List.set_cons_succ]
          refine wpAnyL_free (i := 1) (v := ?_) (some 43) rfl rfl (by kernel_rfl) (by kernel_rfl) (by kernel_rfl) (by decide) (fun _ _ _ h => h) (Or.inl ⟨by rfl, ?_⟩) (fun h0 => by assumption) ?_
          rotate_left
          · intro wS
            go_simp
            try with_reducible rfl
          try simp only [Act.put, List.setIfInBounds_toArray, List.set_cons_zero, List.set_cons_succ]
          refine wpAnyL_free (i := 2) (v := ?_) (some 44) rfl rfl (by kernel_rfl) (by kernel_rfl) (by kernel_rfl) (by decide) (fun _ _ _ h => h) (Or.inl ⟨by rfl, ?_⟩) (fun h0 => by assumption) ?_
          rotate_left
          · intro wS
            go_simp
            try with_reducible rfl
          try simp only [Act.put, List.setIfInBounds_toArray, List.set_cons_zero, List.set_cons_succ]
          refine wpAnyL_free (i := 3) (v := ?_) (some 45) rfl rfl (by kernel_rfl) (by kernel_rfl) (by kernel_rfl) (by decide) (fun _ _ _ h => h) (Or.inl ⟨by rfl, ?_⟩) (fun h0 => by assumption) ?_
          rotate_left
          · intro wS
            go_simp
            try with_reducible rfl
          try simp only [Act.put, List.setIfInBounds_toArray, List.set_cons_zero, List.set_cons_succ]
          refine wpAnyL_free (i := 4) (v := ?_) (some 46) rfl rfl (by kernel_rfl) (by kernel_rfl) (by kernel_rfl) (by decide) (fun _ _ _ h => h) (Or.inl ⟨by rfl, ?_⟩) (fun h0 => by assumption) ?_
          rotate_left
          · intro wS
            go_simp
            try with_reducible rfl
          try simp only [Act.put, List.setIfInBounds_toArray, List.set_cons_zero, List.set_cons_succ]
          refine wpAnyL_take (i := 5) (v := ?_) (some 47) rfl rfl (by kernel_rfl) (by kernel_rfl) (by kernel_rfl) (by kernel_rfl) (by kernel_rfl) (fun _ _ _ h => h) (Or.inl ⟨by rfl, ?_⟩) (by assumption) ?_
          rotate_left
          · intro wS hSw
            try dsimp only at hSw
            go_simp
            try with_reducible rfl
          try simp only [Act.put, List.setIfInBounds_toArray, List.set_cons_zero, List.set_cons_succ]
          refine wpAnyL_free (i := 6) (v := ?_) (some 48) rfl rfl (by kernel_rfl) (by kernel_rfl) (by kernel_rfl) (by decide) (fun _ _ _ h => h) (Or.inl ⟨by rfl, ?_⟩) (fun h0 => by assumption) ?_
          rotate_left
          · intro wS
            go_simp
            try with_reducible rfl
          try simp only [Act.put, List.setIfInBounds_toArray, List.set_cons_zero, List.set_cons_succ]
          refine wpAnyL_free (i := 7) (v := ?_) (some 49) rfl rfl (by kernel_rfl) (by kernel_rfl) (by kernel_rfl) (by decide) (fun _ _ _ h => h) (Or.inl ⟨by rfl, ?_⟩) (fun h0 => by assumption) ?_
          rotate_left
          · intro wS
            go_simp
            try with_reducible rfl
          try simp only [Act.put, List.setIfInBounds_toArray, List.set_cons_zero, List.set_cons_succ]
          refine wpAnyL_free (i := 8) (v := ?_) (some 50) rfl rfl (by kernel_rfl) (by kernel_rfl) (by kernel_rfl) (by decide) (fun _ _ _ h => h) (Or.inl ⟨by rfl, ?_⟩) (fun h0 => by assumption) ?_
          rotate_left
          · intro wS
            go_simp
            try with_reducible rfl
          try simp only [Act.put, List.setIfInBounds_toArray, List.set_cons_zero, List.set_cons_succ]
          refine wpAnyL_take (i := 9) (v := ?_) (some 51) rfl rfl (by kernel_rfl) (by kernel_rfl) (by kernel_rfl) (by kernel_rfl) (by kernel_rfl) (fun _ _ _ h => h) (Or.inl ⟨by rfl, ?_⟩) (by assumption) ?_
          rotate_left
          · intro wS hSw
            try dsimp only at hSw
            go_simp
            try with_reducible rfl
          try simp only [Act.put, List.setIfInBounds_toArray, List.set_cons_zero, List.set_cons_succ]
          refine wpAnyL_free (i := 10) (v := ?_) (some 52) rfl rfl (by kernel_rfl) (by kernel_rfl) (by kernel_rfl) (by decide) (fun _ _ _ h => h) (Or.inl ⟨by rfl, ?_⟩) (fun h0 => by assumption) ?_
          rotate_left
          · intro wS
            go_simp
            try with_reducible rfl
          try simp only [Act.put, List.setIfInBounds_toArray, List.set_cons_zero, List.set_cons_succ]
          refine wpAnyL_free (i := 11) (v := ?_) (some 53) rfl rfl (by kernel_rfl) (by kernel_rfl) (by kernel_rfl) (by decide) (fun _ _ _ h => h) (Or.inl ⟨by rfl, ?_⟩) (fun h0 => by assumption) ?_
          rotate_left
          · intro wS
            go_simp
            try with_reducible rfl
          try simp only [Act.put, List.setIfInBounds_toArray, List.set_cons_zero, List.set_cons_succ]
          refine wpAnyL_free (i := 12) (v := ?_) (some 54) rfl rfl (by kernel_rfl) (by kernel_rfl) (by kernel_rfl) (by decide) (fun _ _ _ h => h) (Or.inl ⟨by rfl, ?_⟩) (fun h0 => by assumption) ?_
          rotate_left
          · intro wS
            go_simp
            try with_reducible rfl
          try simp only [Act.put, List.setIfInBounds_toArray, List.set_cons_zero, List.set_cons_succ]
          refine wpAnyL_free (i := 13) (v := ?_) (some 55) rfl rfl (by kernel_rfl) (by kernel_rfl) (by kernel_rfl) (by decide) (fun _ _ _ h => h) (Or.inl ⟨by rfl, ?_⟩) (fun h0 => by assumption) ?_
          rotate_left
          · intro wS
            go_simp
            try with_reducible rfl
          try simp only [Act.put, List.setIfInBounds_toArray, List.set_cons_zero, List.set_cons_succ]
          refine wpAnyL_take (i := 14) (v := ?_) (some 56) rfl rfl (by kernel_rfl) (by kernel_rfl) (by kernel_rfl) (by kernel_rfl) (by kernel_rfl) (fun _ _ _ h => h) (Or.inl ⟨by rfl, ?_⟩) (by assumption) ?_
          rotate_left
          · intro wS hSw
            try dsimp only at hSw
            go_simp
            try with_reducible rfl
          try simp only [Act.put, List.setIfInBounds_toArray, List.set_cons_zero, List.set_cons_succ]
          refine wpAnyL_free (i := 15) (v := ?_) (some 57) rfl rfl (by kernel_rfl) (by kernel_rfl) (by kernel_rfl) (by decide) (fun _ _ _ h => h) (Or.inl ⟨by rfl, ?_⟩) (fun h0 => by assumption) ?_
          rotate_left
          · intro wS
            go_simp
            try with_reducible rfl
          try simp only [Act.put, List.setIfInBounds_toArray, List.set_cons_zero, List.set_cons_succ]
          refine wpAnyL_free (i := 16) (v := ?_) (some 58) rfl rfl (by kernel_rfl) (by kernel_rfl) (by kernel_rfl) (by decide) (fun _ _ _ h => h) (Or.inl ⟨by rfl, ?_⟩) (fun h0 => by assumption) ?_
          rotate_left
          · intro wS
            go_simp
            try with_reducible rfl
          try simp only [Act.put, List.setIfInBounds_toArray, List.set_cons_zero, List.set_cons_succ]
          refine wpAnyL_ready (rs := [17]) (by kernel_rfl) (by simp) ?_
          refine AllReadyL.last rfl (by kernel_rfl) (fun K hK => ?_) AllReadyL.nil
          go_simp
          refine hK.out _ _ ?_
          clear hK K
          try simp only [Act.put, List.setIfInBounds_toArray, List.set_cons_zero, List.set_cons_succ]
          refine wpAnyL_done (by kernel_rfl) ?_ _
          refine NoPanic.normal ?_
          have HOR2 := Lib.hid (HOI.out.set j z)
          have HBL2 := Lib.hid (HBI.out.setCell (p := ⟨wz, j, none⟩) (by exact Nat.le_refl _) (.int .i64 z))
          clear hHeld d0 d1 d2 hm1
          go_wp2
          go_roundw
          case rel => exact ⟨j + 1, by omega, by go_num, (by
            have h := HOR2.out
            have e : (partQ p rs bys un k j).set j z = partQ p rs bys un k (j + 1) := by rw [← HZE.out]; exact partQ_set _ _ _ _ _ _
            rw [e] at h
            exact h), HBL2.out.drew, (HXI.out.other (a := ⟨wz, j, none⟩) (by show g ≠ wz; omega) _)⟩
          case measure => simp [intOf]; omega

        · obtain rfl : j = row.length := by omega
          have f1 := HXI.out.c 1 rfl
          have hqb := HQB.out
          have hrb := refR_low (rs := rs) (bys := bys) HOK.out.1 k
          obtain ⟨r, hre⟩ : ∃ r, refR p rs bys k = r := ⟨_, rfl⟩
          rw [hre] at hrb ⊢
          have hmb := prod3 hx2 hqb
          obtain ⟨s, hse⟩ : ∃ s, r + x * q = s := ⟨_, rfl⟩
          have hs0 : 0 ≤ s := by omega
          obtain ⟨z, hze⟩ : ∃ z, s % p = z := ⟨_, rfl⟩
          have HZE : Hid (refR p rs bys (k + 1) = z) := Lib.hid (by rw [← hze, ← hse, ← hre, ← HX.out, ← HQE.out]; rfl)
          have hw1 : IntKind.i64.wrap (x * q) = x * q := IntWalk.i64_in _ (by omega)
          have hw2 : IntKind.i64.wrap (r + x * q) = s := by rw [hse]; exact IntWalk.i64_in _ (by omega)
          have hm1 : Int.tmod s p = z := by rw [Int.tmod_eq_emod_of_nonneg hs0]; exact hze
          have hz3 : 0 ≤ z ∧ z ≤ 2 := by rw [← hze]; exact mod_low HOK.out.1
          have hw3 : IntKind.i64.wrap z = z := IntWalk.i64_in _ (by omega)
          have HR0 := Lib.hid hre
          clear hse hze hmb hs0 hz3 hqb hrb hre
          go_wp2
          go_quiet (fail)
          clear hw1 hw2 hm1 hw3
          go_wp2
          go_roundw
          case rel => exact ⟨k + 1, by omega, by go_num, by rw [HZE.out], (by
            have h := HOI.out
            rw [show row.length = un from HLEN.out, partQ_end] at h
            exact h), HBI.out.trans (((QW.refl _).drewN _).below _)⟩
          case measure => simp [intOf]; omega
    · obtain rfl : k = rs.length := by omega
      have HRW := Lib.hid HOW.out.rowAt
      obtain ⟨r, hr⟩ : ∃ r, refR p rs bys rs.length = r := ⟨_, rfl⟩
      rw [hr]
      obtain ⟨A, hA⟩ : ∃ A : Prop, (∀ j, j < (refRow p rs bys un rs.length).length → intN (refRow p rs bys un rs.length) j = 0) = A := ⟨_, rfl⟩
      have HALL : Hid (A ↔ ∀ j, j < u.toNat → refL p rs bys j rs.length = 0) := Lib.hid (by
        rw [← hA, refRow_len, show u.toNat = un by have := HU.out; omega]
        exact ⟨fun h j hj => by have := h j hj; rwa [refRow_at _ _ _ _ _ _ hj] at this, fun h j hj => by rw [refRow_at _ _ _ _ _ _ hj]; exact h j hj⟩)
      have HAQ := Lib.hid hA
      have HR := Lib.hid hr
      clear hr hA
      have HPOST := Lib.hid (HWW.out.trans (HBL.out.mono (Nat.le_of_lt HWL.out)))
      by_cases hz : A
      · have HTE := Lib.hid (Tells.yes hz)
        by_cases hr0 : r = 0
        · have hv := HB.out.is_false fun h => h.2.2 (by rw [HR.out]; exact hr0)
          subst hv
          subst hr0
          clear hz
          go_wp2_with fail
          refine (containsNZ _ _ true _ HRW.out (by rw [HAQ.out]; exact HTE.out)).mono ?_
          rintro e w' ⟨rfl, rfl⟩
          go_wp2
          go_ret2
          exact ⟨rfl, HPOST.out⟩
        · have hv := HB.out.is_true ⟨HT.out, HALL.out.1 hz, fun h => hr0 (by rw [← HR.out]; exact h)⟩
          have hr1 : (r != 0) = true := bne_iff_ne.2 hr0
          subst hv
          clear hr0 hz
          go_wp2_with fail
          refine (containsNZ _ _ true _ HRW.out (by rw [HAQ.out]; exact HTE.out)).mono ?_
          rintro e w' ⟨rfl, rfl⟩
          go_wp2
          go_ret2
          exact ⟨rfl, HPOST.out⟩
      · have HTE := Lib.hid (Tells.no hz)
        have hv := HB.out.is_false fun h => hz (HALL.out.2 h.2.1)
        subst hv
        clear hz
        go_wp2_with fail
        refine (containsNZ _ _ false _ HRW.out (by rw [HAQ.out]; exact HTE.out)).mono ?_
        rintro e w' ⟨rfl, rfl⟩
        go_wp2
        go_ret2
        exact ⟨rfl, HPOST.out⟩

set_option linter.unusedSimpArgs false in
set_option maxHeartbeats 4000000 in
set_option maxRecDepth 100000 in
theorem implIsRefutation (p u : Int) (a : Option Addr) (n c : Nat) (rs : List (Int × List Int)) (v : Value) (bys : List Int) (b : Bool) (cd : Int) (w : World) (h : EqsAt w (.slice a n c) rs) (hv : RowAt w v bys) (hi : IsRefutationIs p u rs bys b cd) :
    Calls Try.prog 26 #[.agg #[.int .i64 p, .int .i64 u, .slice a n c], v] w fun e w' => e = .returned (.tuple #[.bool b, .int .i64 cd]) ∧ Below w.heap.size w w' := by
  rcases hi with ⟨h1, rfl, h3⟩ | ⟨h1, rfl, rfl⟩
  · obtain ⟨un, rfl⟩ : ∃ un : Nat, u = (un : Int) := ⟨u.toNat, by have := h1.2.1.1; omega⟩
    by_cases ht : TupP p rs.length bys
    · exact implIsRef_in p un a n c rs v bys b w h hv h1 ht h3
    have hvb := h3.is_false fun h => ht h.1
    subst hvb
    have HW : Hid (Below w.heap.size w (w.alloc (.cells #[.int .i64 p, .int .i64 (un : Int), .slice a n c] 29))) := Lib.hid ((Below.refl _ _).alloc (Nat.le_refl _) _)
    have HBX := Lib.hid (Box.new 29 w #[.int .i64 p, .int .i64 (un : Int), .slice a n c])
    have H := Lib.hid (h.below HW.out)
    have HV := Lib.hid (hv.below HW.out)
    obtain ⟨va, vc, rfl, hvn, -⟩ := hv
    obtain rfl : n = rs.length := by obtain ⟨_, _, he, _⟩ := h; simp only [Value.slice.injEq] at he; exact he.2.1
    have hr24 : rs.length ≤ 24 := h1.2.2.1
    have HOK := Lib.hid h1
    have HT := Lib.hid (Tells.no ht)
    have x0 := HBX.out.c 0 rfl
    have x2 := HBX.out.c 2 rfl
    clear h h1 h3 ht
    go_enter Try.func26, Try.ntmps26
    go_wp2_with fail
    refine (implValidSystem _ _ _ _ _ rs true _ H.out (Tells.yes HOK.out)).mono ?_
    rintro e w2 ⟨rfl, hb2⟩
    have HB2 := Lib.hid hb2
    have y0 := below_cell hb2 x0
    have y2 := below_cell hb2 x2
    clear hb2 x0 x2
    go_wp2_with fail
    refine (isListBelow _ bys _ _ false _ (HV.out.below HB2.out) HT.out).mono ?_
    rintro e w3 ⟨rfl, rfl⟩
    go_wp2
    go_ret2
    exact ⟨rfl, HW.out.trans (HB2.out.mono HW.out.size)⟩
  · have HW : Hid (Below w.heap.size w (w.alloc (.cells #[.int .i64 p, .int .i64 u, .slice a n c] 29))) := Lib.hid ((Below.refl _ _).alloc (Nat.le_refl _) _)
    have H := Lib.hid (h.below HW.out)
    have HOK := Lib.hid h1
    obtain ⟨va, vc, rfl, hvn, -⟩ := hv
    have HBX := Lib.hid (Box.new 29 w #[.int .i64 p, .int .i64 u, .slice a n c])
    have x0 := HBX.out.c 0 rfl
    clear h h1
    go_enter Try.func26, Try.ntmps26
    go_wp2_with fail
    refine (implValidSystem _ _ _ _ _ rs false _ H.out (Tells.no HOK.out)).mono ?_
    rintro e w2 ⟨rfl, hb2⟩
    have HB2 := Lib.hid hb2
    clear hb2
    go_wp2
    go_ret2
    exact ⟨rfl, HW.out.trans (HB2.out.mono HW.out.size)⟩

set_option linter.unusedSimpArgs false in
set_option maxHeartbeats 4000000 in
set_option maxRecDepth 100000 in
theorem specIsRefutation (p u : Int) (a : Option Addr) (n c : Nat) (rs : List (Int × List Int)) (v : Value) (bys : List Int) (b : Bool) (cd : Int) (w : World) (h : EqsAt w (.slice a n c) rs) (hv : RowAt w v bys) (hi : IsRefutationIs p u rs bys b cd) :
    Calls Try.prog 25 #[.agg #[.int .i64 p, .int .i64 u, .slice a n c], v] w fun e w' => e = .returned (.tuple #[.bool b, .int .i64 cd]) ∧ Below w.heap.size w w' := by
  rcases hi with ⟨h1, rfl, h3⟩ | ⟨h1, rfl, rfl⟩
  · obtain ⟨un, rfl⟩ : ∃ un : Nat, u = (un : Int) := ⟨u.toNat, by have := h1.2.1.1; omega⟩
    exact specIsRef_in p un a n c rs v bys b w h hv h1 h3
  · have HS := Lib.hid (SysAt.new w p u a n c rs 29 h)
    have HW : Hid (Below w.heap.size w (w.alloc (.cells #[.int .i64 p, .int .i64 u, .slice a n c] 29))) := Lib.hid ((Below.refl _ _).alloc (Nat.le_refl _) _)
    obtain ⟨va, vc, rfl, hvn, -⟩ := hv
    have HOK := Lib.hid h1
    clear h1
    go_enter Try.func25, Try.ntmps25
    go_wp2_with fail
    refine (l07Ok _ _ _ _ rs false _ HS.out (Tells.no HOK.out)).mono ?_
    rintro e w2 ⟨rfl, hq⟩
    have HQ := Lib.hid hq
    clear hq
    go_wp2
    go_ret2
    exact ⟨rfl, HW.out.trans (HQ.out.below _)⟩

end Go.Proofs.Ytadpnckpgpamiaa
