/-
  IsRefutation of the model.
-/
import Derived.Test.YtadpnckpgpamiaaLess
import Derived.Test.YtadpnckpgpamiaaHoldsIn
import Derived.Deep.CutRange
namespace Go.Proofs.Ytadpnckpgpamiaa
open Go.RowKit

/-- What so many times the first k equations make at an unknown, and on the right. -/
def refL (p : Int) (rs : List (Int × List Int)) (bys : List Int) (u : Nat) : Nat → Int
  | 0 => 0
  | k + 1 => (refL p rs bys u k + intN bys k * intN (rowO rs k) u) % p
def refR (p : Int) (rs : List (Int × List Int)) (bys : List Int) : Nat → Int
  | 0 => 0
  | k + 1 => (refR p rs bys k + intN bys k * arO rs k) % p
def refRow (p : Int) (rs : List (Int × List Int)) (bys : List Int) (n k : Nat) : List Int := (List.range n).map fun u => refL p rs bys u k
theorem refRow_len (p : Int) (rs : List (Int × List Int)) (bys : List Int) (n k : Nat) : (refRow p rs bys n k).length = n := by simp [refRow]
theorem refRow_at (p : Int) (rs : List (Int × List Int)) (bys : List Int) (n k u : Nat) (h : u < n) : intN (refRow p rs bys n k) u = refL p rs bys u k := by
  rw [intN_at _ _ (by rw [refRow_len]; exact h)]
  simp [refRow]
theorem mod_less {p x y b : Int} (hp : PrimeP p) (hy : 0 ≤ y ∧ y ≤ 2) : (x - (p - b) * y) % p = (x + b * y) % p := by
  obtain ⟨h1, h2⟩ := hy
  obtain rfl | rfl | rfl : y = 0 ∨ y = 1 ∨ y = 2 := by omega
  all_goals rcases hp with rfl | rfl <;> omega
theorem less_ref {p : Int} {rs : List (Int × List Int)} {bys row : List Int} {n k : Nat} (hp : PrimeP p) (hr : rowO rs k = row) (hy : Low3 row) : lessK p (p - intN bys k) (refRow p rs bys n k) row (refRow p rs bys n k).length = refRow p rs bys n (k + 1) := by
  apply List.ext_getElem
  · simp [lessK, refRow]
  · intro i h1 h2
    have hi : i < n := by simpa [refRow] using h2
    have e1 := lessK_at p (p - intN bys k) (refRow p rs bys n k) row (refRow p rs bys n k).length i (by rw [refRow_len]; exact hi)
    rw [intN_at _ _ h1, if_pos (by rw [refRow_len]; exact hi), refRow_at _ _ _ _ _ _ hi, mod_less hp (hy i)] at e1
    rw [e1]
    simp [refRow, refL, hr]
theorem mod_low {p a : Int} (hp : PrimeP p) : 0 ≤ a % p ∧ a % p ≤ 2 := by rcases hp with rfl | rfl <;> omega
theorem refL_low {p : Int} {rs : List (Int × List Int)} {bys : List Int} {u : Nat} (hp : PrimeP p) : ∀ k, 0 ≤ refL p rs bys u k ∧ refL p rs bys u k ≤ 2
  | 0 => ⟨Int.le_refl _, by show (0 : Int) ≤ 2; decide⟩
  | k + 1 => mod_low hp
theorem refR_low {p : Int} {rs : List (Int × List Int)} {bys : List Int} (hp : PrimeP p) : ∀ k, 0 ≤ refR p rs bys k ∧ refR p rs bys k ≤ 2
  | 0 => ⟨Int.le_refl _, by show (0 : Int) ≤ 2; decide⟩
  | k + 1 => mod_low hp
theorem refRow_low {p : Int} {rs : List (Int × List Int)} {bys : List Int} {n : Nat} (hp : PrimeP p) (k : Nat) : Low3 (refRow p rs bys n k) :=
  low3_of fun j hj => by rw [refRow_at _ _ _ _ _ _ (by simpa [refRow] using hj)]; exact refL_low hp k
theorem refRow_zero (p : Int) (rs : List (Int × List Int)) (bys : List Int) (n : Nat) : (refRow p rs bys n 0).map (Value.int .i64) = List.replicate n (.int .i64 0) := by
  apply List.ext_getElem?
  intro j
  by_cases h : j < n <;> simp [refRow, refL, h]

/-- What is kept of a row where only the old blocks are kept. -/
theorem rowAt_keep {w w' : World} {v : Value} {xs : List Int} (h : RowAt w v xs) (hk : ∀ k, k < w.heap.size → w'.heap[k]? = w.heap[k]?) : RowAt w' v xs :=
  SlAt.mono h fun _ _ e => (World.cell?_of_block (hk _ (cell_block_lt e))).trans e
theorem RowSt.below {w w' : World} {rb ro B : Nat} {vl vb : Value} {xs bs : List Int} {r : Int} (h : RowSt w rb ro B vl xs r vb bs) (hb : Below w.heap.size w w') : RowSt w' rb ro B vl xs r vb bs := by
  have hl : rb < w.heap.size := cell_block_lt h.left
  have own : ∀ {v : Value} {ys : List Int}, OwnRow w B v ys → OwnRow w' B v ys := fun {v ys} ho => ownsRow_same ho fun g hg => by
    rcases ho.rowIn with ⟨rfl, _⟩ | ⟨g', c', rfl, _, hgs, _⟩
    · simp [Value.ownBlock] at hg
    · have hgg : g' = g := by simpa [Value.ownBlock] using hg
      exact hb.block _ (by omega)
  exact ⟨below_cell hb h.left, below_cell hb h.right, below_cell hb h.by_, (World.frozen?_of_block (hb.block _ hl)).trans h.free, own h.ownL, own h.ownB, h.neL, h.neB, h.apart⟩

/-- A refutation: so many times the equations make 0 = r with another r. -/
def RefP (p u : Int) (rs : List (Int × List Int)) (bys : List Int) : Prop := TupP p rs.length bys ∧ (∀ j, j < u.toNat → refL p rs bys j rs.length = 0) ∧ refR p rs bys rs.length ≠ 0
/-- What IsRefutation answers. -/
def IsRefutationIs (p u : Int) (rs : List (Int × List Int)) (bys : List Int) (b : Bool) (cd : Int) : Prop := (SysOk p u rs ∧ cd = 0 ∧ Tells b (RefP p u rs bys)) ∨ (¬ SysOk p u rs ∧ cd = 1 ∧ b = false)
theorem IsRefutationIs.exists (p u : Int) (rs : List (Int × List Int)) (bys : List Int) : ∃ b cd, IsRefutationIs p u rs bys b cd := by
  by_cases h1 : SysOk p u rs
  · by_cases h3 : RefP p u rs bys
    · exact ⟨true, 0, .inl ⟨h1, rfl, Tells.yes h3⟩⟩
    · exact ⟨false, 0, .inl ⟨h1, rfl, Tells.no h3⟩⟩
  · exact ⟨false, 1, .inr ⟨h1, rfl, rfl⟩⟩

set_option linter.unusedSimpArgs false in
set_option maxHeartbeats 4000000 in
set_option maxRecDepth 100000 in
theorem specIsRef_in (p : Int) (un : Nat) (a : Option Addr) (n c : Nat) (rs : List (Int × List Int)) (v : Value) (bys : List Int) (b : Bool) (w : World) (h : EqsAt w (.slice a n c) rs) (hv : RowAt w v bys) (hok : SysOk p un rs) (hb : Tells b (RefP p un rs bys)) :
    Calls Try.prog 25 #[.agg #[.int .i64 p, .int .i64 (un : Int), .slice a n c], v] w fun e w' => e = .returned (.tuple #[.bool b, .int .i64 0]) ∧ Below w.heap.size w w' := by
  obtain ⟨u, hu⟩ : ∃ u : Int, (un : Int) = u := ⟨_, rfl⟩
  rw [hu] at hok hb ⊢
  have HS := Lib.hid (SysAt.new w p u a n c rs 29 h)
  have HW : Hid (Below w.heap.size w (w.alloc (.cells #[.int .i64 p, .int .i64 u, .slice a n c] 29))) := Lib.hid ((Below.refl _ _).alloc (Nat.le_refl _) _)
  have HBX := Lib.hid (Box.new 29 w #[.int .i64 p, .int .i64 u, .slice a n c])
  have HV := Lib.hid (hv.below HW.out)
  have HOK := Lib.hid hok
  have HB := Lib.hid hb
  have HEQ := Lib.hid (h.below HW.out)
  obtain ⟨va, vc, rfl, hvn, -⟩ := hv
  have HU := Lib.hid hu
  have hu12 : un ≤ 12 := by have := hok.2.1.2; omega
  have hr24 : rs.length ≤ 24 := hok.2.2.1
  have hp2 := hok.1.le.1
  have hp3 := hok.1.le.2
  obtain rfl : n = rs.length := by obtain ⟨_, _, he, _⟩ := h; simp only [Value.slice.injEq] at he; exact he.2.1
  clear h hok hb hu
  by_cases hl : bys.length = rs.length
  case neg =>
    have hlb : ((bys.length : Int) != (rs.length : Int)) = true := bne_iff_ne.2 (by omega)
    have HF := Lib.hid (HB.out.is_false fun h => hl (by have := h.1.1; omega))
    have x2 := HBX.out.c 2 rfl
    clear hl
    go_enter Try.func25, Try.ntmps25
    go_wp2_with fail
    refine (l07Ok _ _ _ _ rs true _ HS.out (Tells.yes HOK.out)).mono ?_
    rintro e w2 ⟨rfl, hq⟩
    have HQ := Lib.hid hq
    have y2 := hq.cell x2
    clear hq x2
    go_wp2
    go_ret2
    exact ⟨(by have hv := HF.out; subst hv; rfl), HW.out.trans (HQ.out.below _)⟩
  have HL := Lib.hid hl
  have hlb : ((bys.length : Int) != (rs.length : Int)) = false := by simp [hl]
  have x2 := HBX.out.c 2 rfl
  have x1 := HBX.out.c 1 rfl
  clear hl
  go_enter Try.func25, Try.ntmps25
  go_wp2_with fail
  refine (l07Ok _ _ _ _ rs true _ HS.out (Tells.yes HOK.out)).mono ?_
  rintro e w2 ⟨rfl, hq⟩
  have HQ := Lib.hid hq
  have y2 := hq.cell x2
  have y1 := hq.cell x1
  rw [← HU.out] at y1
  have hmk := make_row un (by omega) w2
  obtain ⟨wz, hwz⟩ : ∃ wz, w2.heap.size = wz := ⟨_, rfl⟩
  have HWZ := Lib.hid hwz
  clear hq x2 x1 hwz
  go_wp2
  rw [HWZ.out]
  clear hmk
  have hsz : (w2.alloc (.cells (Array.replicate un (Value.int .i64 0)) 2)).heap.size = wz + 1 := by rw [← HWZ.out]; simp
  obtain ⟨w3, hw3⟩ : ∃ w3, (w2.alloc (.cells (Array.replicate un (Value.int .i64 0)) 2)).alloc (.cells #[.slice (some ⟨wz, 0, none⟩) un un, .int .i64 0, .slice none 0 0] 116) = w3 := ⟨_, rfl⟩
  have HB3 : Hid (Below wz w2 w3) := Lib.hid (by rw [← hw3]; exact ((Below.refl _ _).alloc (by rw [← HWZ.out]; exact Nat.le_refl _) _).alloc (by rw [hsz]; omega) _)
  have HBR : Hid (Box 116 w3 (wz + 1) #[.slice (some ⟨wz, 0, none⟩) un un, .int .i64 0, .slice none 0 0]) := Lib.hid (by rw [← hw3, ← hsz]; exact Box.new _ _ _)
  have HOL : Hid (OwnRow w3 wz (.slice (some ⟨wz, 0, none⟩) un un) (refRow p rs bys un 0)) := Lib.hid (by
    have h1 := own_new w2 wz un (.int .i64 0) (by rw [HWZ.out]; exact Nat.le_refl _) (by omega)
    rw [HWZ.out] at h1
    unfold OwnRow
    rw [refRow_zero, refRow_len, ← hw3]
    exact ownsRow_same h1 fun g hg => by
      have hgw : g = wz := by simpa [Value.ownBlock] using hg.symm
      rw [hgw]
      exact ((Below.refl (wz + 1) _).alloc (by rw [hsz]; exact Nat.le_refl _) _).block _ (by omega))
  have S0 : Hid (RowSt w3 (wz + 1) 0 wz (.slice (some ⟨wz, 0, none⟩) un un) (refRow p rs bys un 0) (refR p rs bys 0) (.slice none 0 0) []) := Lib.hid
    ⟨HBR.out.c 0 rfl, HBR.out.c 1 rfl, HBR.out.c 2 rfl, HBR.out.free 1, HOL.out, World.ownsRow_nil w3 wz _ 1, by simp [Value.ownBlock], by simp [Value.ownBlock], fun g _ => by simp [Value.ownBlock]⟩
  have HV2 := Lib.hid (HV.out.below HQ.out.bel)
  have HS2 := Lib.hid (HS.out.below HQ.out.bel)
  have HWW : Hid (Below w.heap.size w w2) := Lib.hid (HW.out.trans (HQ.out.below _))
  have HWL : Hid (w.heap.size ≤ wz) := Lib.hid (by rw [← HWZ.out]; exact HWW.out.size)
  rw [hw3]
  clear hw3 hsz HBR HOL y1 y2
  go_loopw [7] (fun i wr => ∃ k : Nat, k ≤ rs.length ∧ i = .int .i64 k ∧ (∀ j, j < k → 0 ≤ intN bys j ∧ intN bys j < p) ∧ RowSt wr (wz + 1) 0 wz (.slice (some ⟨wz, 0, none⟩) un un) (refRow p rs bys un k) (refR p rs bys k) (.slice none 0 0) [] ∧ Below wz w2 wr) (fun i _ => rs.length - (intOf i).toNat)
  case atStart => exact ⟨0, Nat.zero_le _, rfl, fun j hj => absurd hj (Nat.not_lt_zero _), S0.out, HB3.out⟩
  case round =>
    obtain ⟨k, hk, rfl, hall, hst, hbl⟩ := hrel
    have HA := Lib.hid hall
    have HST := Lib.hid hst
    have HBL := Lib.hid hbl
    have HB2 : Hid (Below w2.heap.size w2 wr) := Lib.hid (by rw [HWZ.out]; exact hbl)
    have HV3 := Lib.hid (HV2.out.below HB2.out)
    have HS3 := Lib.hid (HS2.out.below HB2.out)
    clear hall hst hbl
    by_cases hlt : k < rs.length
    · obtain ⟨e0', e1', a0, n0, c0, e2', heq⟩ := HS2.out
      obtain ⟨a', c', he, hn, hc⟩ := heq
      simp only [Value.slice.injEq] at he
      obtain ⟨rfl, rfl, rfl⟩ := he
      obtain ⟨b1, off1, rfl, hd1⟩ := hc (by omega)
      have e0 := below_cell HB2.out e0'
      have e2 := below_cell HB2.out e2'
      obtain ⟨va2, vc2, hv2, hvn2, hvc⟩ := HV3.out
      simp only [Value.slice.injEq] at hv2
      obtain ⟨rfl, hvl, rfl⟩ := hv2
      obtain ⟨bv, offv, rfl, hvd⟩ := hvc (by have := HL.out; omega)
      have ev : wr.cell? ⟨bv, offv + k, none⟩ = some (.int .i64 (intN bys k)) := hvd k (by have := HL.out; omega)
      have HEQN := Lib.hid (hd1 k hlt)
      have hlt2 : (k : Int) < (rs.length : Int) := by omega
      have hltv : (k : Int) < (bys.length : Int) := by have := HL.out; omega
      have HEO := Lib.hid (HOK.out.2.2.2 k hlt)
      obtain ⟨x, hxe⟩ : ∃ x, intN bys k = x := ⟨_, rfl⟩
      rw [hxe] at ev
      have HX := Lib.hid hxe
      have hw1 : IntKind.i64.wrap (p - 1) = p - 1 := IntWalk.i64_in _ (by omega)
      clear hd1 hvd hc hvc hxe hvl hvn2 hn e0' e1' e2'
      by_cases hin : InP x 0 (p - 1)
      · have HT := Lib.hid (Tells.yes hin)
        have HTH : Hid (0 ≤ intN bys k ∧ intN bys k < p) := Lib.hid (by rw [HX.out]; exact ⟨hin.1, by have := hin.2; omega⟩)
        clear hin
        go_wp2
        go_quiet ((go_at_call 84; exact QW.calls_same (l00In _ _ _ true _ HT.out)))
        clear hw1
        go_wp2
        have HQ4 := Lib.hid ((QW.refl wr).drewN nq)
        have HST4 := Lib.hid (HST.out.drewN nq)
        have HBL4 := Lib.hid (HBL.out.trans (HQ4.out.below _))
        obtain ⟨w4, hw4⟩ : ∃ w4, wr.drewN nq = w4 := ⟨_, rfl⟩
        rw [hw4]
        rw [hw4] at HST4 HBL4
        have hq4 := HQ4.out
        rw [hw4] at hq4
        obtain ⟨row, hrow⟩ : ∃ row, rowO rs k = row := ⟨_, rfl⟩
        obtain ⟨q, hqe⟩ : ∃ q, arO rs k = q := ⟨_, rfl⟩
        have HRO := Lib.hid hrow
        have HQE := Lib.hid hqe
        have heqn := HEQN.out
        rw [hrow, hqe] at heqn
        obtain ⟨f1', ra, rn, rc, f0', hrr⟩ := heqn
        have f1 := below_cell HB2.out f1'
        have f0 := below_cell HB2.out f0'
        obtain ⟨ra', rc', hre, hrn, hrc⟩ := hrr
        simp only [Value.slice.injEq] at hre
        obtain ⟨rfl, rfl, rfl⟩ := hre
        have HRR : Hid (RowAt w2 (.slice ra row.length rc) row) := Lib.hid ⟨ra, rc, rfl, hrn, hrc⟩
        have d0 := hq4.cell e2
        have d1 := hq4.cell f0
        have d2 := hq4.cell f1
        have ev4 := Lib.hid (hq4.cell ev)
        have e04 := Lib.hid (hq4.cell e0)
        clear hrn hrc f0 f1 f0' f1' hrow hqe hq4 hw4 e0 ev e2
        refine wp_region_noPanic ?_
        refine wp_region_late (S := (fun w' => w'.cell? ⟨w.heap.size, 2, none⟩ = some (.slice (some ⟨b1, off1, none⟩) rs.length c0) ∧ w'.cell? ⟨b1, off1 + k * 2, none⟩ = some (.slice ra row.length rc) ∧ w'.cell? ⟨b1, off1 + k * 2 + 1, none⟩ = some (.int .i64 q) ∧ Below w4.heap.size w4 w')) [14] (by kernel_rfl) ?_ (fun hHeld => ?_)
        · exact ⟨d0, d1, d2, (QW.refl _).drew.below _⟩
        refine wpAnyL_free (i := 0) (v := ?_) (some 36) rfl rfl (by kernel_rfl) (by kernel_rfl) (by kernel_rfl) (by decide) (fun _ _ _ h => h) (Or.inl ⟨by rfl, ?_⟩) (fun h0 => by assumption) ?_
        rotate_left
        · intro wS
          go_simp
          try with_reducible rfl
        try simp only [Act.put, List.setIfInBounds_toArray, List.set_cons_zero, List.set_cons_succ]
        refine wpAnyL_take (i := 1) (v := ?_) (some 37) rfl rfl (by kernel_rfl) (by kernel_rfl) (by kernel_rfl) (by kernel_rfl) (by kernel_rfl) (fun _ _ _ h => h) (Or.inl ⟨by rfl, ?_⟩) (by assumption) ?_
        rotate_left
        · intro wS hSw
          try dsimp only at hSw
          go_simp
          try with_reducible rfl
        try simp only [Act.put, List.setIfInBounds_toArray, List.set_cons_zero, List.set_cons_succ]
        refine wpAnyL_free (i := 2) (v := ?_) (some 38) rfl rfl (by kernel_rfl) (by kernel_rfl) (by kernel_rfl) (by decide) (fun _ _ _ h => h) (Or.inl ⟨by rfl, ?_⟩) (fun h0 => by assumption) ?_
        rotate_left
        · intro wS
          go_simp
          try with_reducible rfl
        try simp only [Act.put, List.setIfInBounds_toArray, List.set_cons_zero, List.set_cons_succ]
        refine wpAnyL_free (i := 3) (v := ?_) (some 39) rfl rfl (by kernel_rfl) (by kernel_rfl) (by kernel_rfl) (by decide) (fun _ _ _ h => h) (Or.inl ⟨by rfl, ?_⟩) (fun h0 => by assumption) ?_
        rotate_left
        · intro wS
          go_simp
          try with_reducible rfl
        try simp only [Act.put, List.setIfInBounds_toArray, List.set_cons_zero, List.set_cons_succ]
        refine wpAnyL_free (i := 4) (v := ?_) (some 40) rfl rfl (by kernel_rfl) (by kernel_rfl) (by kernel_rfl) (by decide) (fun _ _ _ h => h) (Or.inl ⟨by rfl, ?_⟩) (fun h0 => by assumption) ?_
        rotate_left
        · intro wS
          go_simp
          try with_reducible rfl
        try simp only [Act.put, List.setIfInBounds_toArray, List.set_cons_zero, List.set_cons_succ]
        refine wpAnyL_take (i := 5) (v := ?_) (some 41) rfl rfl (by kernel_rfl) (by kernel_rfl) (by kernel_rfl) (by kernel_rfl) (by kernel_rfl) (fun _ _ _ h => h) (Or.inl ⟨by rfl, ?_⟩) (by assumption) ?_
        rotate_left
        · intro wS hSw
          try dsimp only at hSw
          go_simp
          try with_reducible rfl
        try simp only [Act.put, List.setIfInBounds_toArray, List.set_cons_zero, List.set_cons_succ]
        refine wpAnyL_free (i := 6) (v := ?_) (some 42) rfl rfl (by kernel_rfl) (by kernel_rfl) (by kernel_rfl) (by decide) (fun _ _ _ h => h) (Or.inl ⟨by rfl, ?_⟩) (fun h0 => by assumption) ?_
        rotate_left
        · intro wS
          go_simp
          try with_reducible rfl
        try simp only [Act.put, List.setIfInBounds_toArray, List.set_cons_zero, List.set_cons_succ]
        refine wpAnyL_take (i := 7) (v := ?_) (some 43) rfl rfl (by kernel_rfl) (by kernel_rfl) (by kernel_rfl) (by kernel_rfl) (by kernel_rfl) (fun _ _ _ h => h) (Or.inl ⟨by rfl, ?_⟩) (by assumption) ?_
        rotate_left
        · intro wS hSw
          try dsimp only at hSw
          go_simp
          try with_reducible rfl
        try simp only [Act.put, List.setIfInBounds_toArray, List.set_cons_zero, List.set_cons_succ]
        refine wpAnyL_free (i := 8) (v := ?_) (some 44) rfl rfl (by kernel_rfl) (by kernel_rfl) (by kernel_rfl) (by decide) (fun _ _ _ h => h) (Or.inl ⟨by rfl, ?_⟩) (fun h0 => by assumption) ?_
        rotate_left
        · intro wS
          go_simp
          try with_reducible rfl
        try simp only [Act.put, List.setIfInBounds_toArray, List.set_cons_zero, List.set_cons_succ]
        refine wpAnyL_free (i := 9) (v := ?_) (some 45) rfl rfl (by kernel_rfl) (by kernel_rfl) (by kernel_rfl) (by decide) (fun _ _ _ h => h) (Or.inl ⟨by rfl, ?_⟩) (fun h0 => by assumption) ?_
        rotate_left
        · intro wS
          go_simp
          try with_reducible rfl
        try simp only [Act.put, List.setIfInBounds_toArray, List.set_cons_zero, List.set_cons_succ]
        refine wpAnyL_free (i := 10) (v := ?_) (some 46) rfl rfl (by kernel_rfl) (by kernel_rfl) (by kernel_rfl) (by decide) (fun _ _ _ h => h) (Or.inl ⟨by rfl, ?_⟩) (fun h0 => by assumption) ?_
        rotate_left
        · intro wS
          go_simp
          try with_reducible rfl
        try simp only [Act.put, List.setIfInBounds_toArray, List.set_cons_zero, List.set_cons_succ]
        refine wpAnyL_take (i := 11) (v := ?_) (some 47) rfl rfl (by kernel_rfl) (by kernel_rfl) (by kernel_rfl) (by kernel_rfl) (by kernel_rfl) (fun _ _ _ h => h) (Or.inl ⟨by rfl, ?_⟩) (by assumption) ?_
        rotate_left
        · intro wS hSw
          try dsimp only at hSw
          go_simp
          try with_reducible rfl
        try simp only [Act.put, List.setIfInBounds_toArray, List.set_cons_zero, List.set_cons_succ]
        refine wpAnyL_free (i := 12) (v := ?_) (some 48) rfl rfl (by kernel_rfl) (by kernel_rfl) (by kernel_rfl) (by decide) (fun _ _ _ h => h) (Or.inl ⟨by rfl, ?_⟩) (fun h0 => by assumption) ?_
        rotate_left
        · intro wS
          go_simp
          try with_reducible rfl
        try simp only [Act.put, List.setIfInBounds_toArray, List.set_cons_zero, List.set_cons_succ]
        refine wpAnyL_ready (rs := [13]) (by kernel_rfl) (by simp) ?_
        refine AllReadyL.cons rfl (fun K hK => ?_) AllReadyL.nil
        go_simp
        refine hK.out _ _ ?_ (fun hHeld => ?_)
        · exact ⟨below_cell ((Below.refl _ _).alloc (Nat.le_refl _) _) hHeld.1, below_cell ((Below.refl _ _).alloc (Nat.le_refl _) _) hHeld.2.1, below_cell ((Below.refl _ _).alloc (Nat.le_refl _) _) hHeld.2.2.1, hHeld.2.2.2.trans (((Below.refl _ _).alloc (Nat.le_refl _) _).mono hHeld.2.2.2.size)⟩
        clear hK K
        try simp only [Act.put, List.setIfInBounds_toArray, List.set_cons_zero, List.set_cons_succ]
        refine wpAnyL_ready (rs := [14]) (by kernel_rfl) (by simp) ?_
        refine AllReadyL.last rfl (by kernel_rfl) (fun K hK => ?_) AllReadyL.nil
        go_simp
        refine hK.out _ _ ?_
        clear hK K
        try simp only [Act.put, List.setIfInBounds_toArray, List.set_cons_zero, List.set_cons_succ]
        refine wpAnyL_done (by kernel_rfl) ?_ _
        refine NoPanic.normal ?_
        clear hHeld d0 d1 d2
        obtain ⟨ob, hob⟩ : ∃ ob, w4.heap.size = ob := ⟨_, rfl⟩
        have HBX5 := Lib.hid (Box.new 116 w4 #[.slice ra row.length rc, .int .i64 q, .slice none 0 0])
        have HB45 : Hid (Below w4.heap.size w4 (w4.alloc (.cells #[.slice ra row.length rc, .int .i64 q, .slice none 0 0] 116)).drew) := Lib.hid ((Below.refl _ _).alloc (Nat.le_refl _) _).drew
        have HST5 := Lib.hid (HST4.out.below HB45.out)
        have HWZ4 : Hid (wz + 1 < w4.heap.size) := Lib.hid (cell_block_lt HST4.out.left)
        obtain ⟨w5, hw5⟩ : ∃ w5, (w4.alloc (.cells #[.slice ra row.length rc, .int .i64 q, .slice none 0 0] 116)).drew = w5 := ⟨_, rfl⟩
        have HBX6 : Hid (Box 116 w5 w4.heap.size #[.slice ra row.length rc, .int .i64 q, .slice none 0 0]) := Lib.hid (by rw [← hw5]; exact HBX5.out)
        rw [hw5] at HB45 HST5 ⊢
        have HBL5 : Hid (Below wz w2 w5) := Lib.hid (HBL4.out.trans (HB45.out.mono (by have := HWZ4.out; omega)))
        have HOO : Hid (∀ w', RestK (wz + 1) (Value.slice (some ⟨wz, 0, none⟩) un un).ownBlock (Value.slice none 0 0).ownBlock w5 w' → RowRd w' w4.heap.size 0 row q []) := Lib.hid (by
          intro w' hw'
          have hsz5 : w4.heap.size < w5.heap.size := HBX6.out.lt
          have hob' : w'.heap[w4.heap.size]? = w5.heap[w4.heap.size]? := hw'.2 _ hsz5 (by have := HWZ4.out; omega) (by have := HWZ4.out; simp [Value.ownBlock]; omega) (by simp [Value.ownBlock])
          have hbx : Box 116 w' w4.heap.size #[.slice ra row.length rc, .int .i64 q, .slice none 0 0] := HBX6.out.same hob'
          have hrow : RowAt w' (.slice ra row.length rc) row := rowAt_keep HRR.out fun k hk => by
            rw [HWZ.out] at hk
            rw [hw'.2 k (by have := HWZ4.out; omega) (by omega) (by simp [Value.ownBlock]; omega) (by simp [Value.ownBlock])]
            exact HBL5.out.block k hk
          exact ⟨⟨ra, rc, hbx.c 0 rfl, hrow⟩, hbx.c 1 rfl, ⟨none, 0, hbx.c 2 rfl, ⟨none, 0, rfl, by simp, fun h => absurd h (by simp)⟩⟩⟩)
        have d0 := below_cell HB45.out e04.out
        have d1 := below_cell HB45.out ev4.out
        have hx0 : 0 ≤ x := by have := HTH.out.1; rw [HX.out] at this; exact this
        have hxp : x < p := by have := HTH.out.2; rw [HX.out] at this; exact this
        have hw1 : IntKind.i64.wrap (p - x) = p - x := IntWalk.i64_in _ (by omega)
        have HLY : Hid (Low3 row) := Lib.hid (by have := HEO.out.low HOK.out.1; rw [HRO.out] at this; exact this)
        have HQB : Hid (0 ≤ q ∧ q ≤ 2) := Lib.hid (by have := HEO.out.2.1; rw [HQE.out] at this; exact ⟨this.1, by have := this.2; omega⟩)
        have HLEN : Hid ((refRow p rs bys un k).length = row.length) := Lib.hid (by have := HEO.out.1; rw [HRO.out] at this; have := HU.out; rw [refRow_len]; omega)
        have HLN : Hid ((refRow p rs bys un k).length ≤ 1000) := Lib.hid (by rw [refRow_len]; omega)
        have HL0 : Hid (Low3 []) := Lib.hid (low3_of fun j hj => absurd hj (Nat.not_lt_zero _))
        clear hw5 hob HBX5
        go_wp2
        refine wp_region_noPanic ?_
        refine wp_region_late (S := (fun w' => w'.cell? ⟨w.heap.size, 0, none⟩ = some (.int .i64 p) ∧ w'.cell? ⟨bv, offv + k, none⟩ = some (.int .i64 x))) [9] (by kernel_rfl) ?_ (fun hHeld => ?_)
        · exact ⟨d0, d1⟩
        refine wpAnyL_free (i := 0) (v := ?_) (some 49) rfl rfl (by kernel_rfl) (by kernel_rfl) (by kernel_rfl) (by decide) (fun _ _ _ h => h) (Or.inl ⟨by rfl, ?_⟩) (fun h0 => by assumption) ?_
        rotate_left
        · intro wS
          go_simp
          try with_reducible rfl
        try simp only [Act.put, List.setIfInBounds_toArray, List.set_cons_zero, List.set_cons_succ]
        refine wpAnyL_take (i := 1) (v := ?_) (some 50) rfl rfl (by kernel_rfl) (by kernel_rfl) (by kernel_rfl) (by kernel_rfl) (by kernel_rfl) (fun _ _ _ h => h) (Or.inl ⟨by rfl, ?_⟩) (by assumption) ?_
        rotate_left
        · intro wS hSw
          try dsimp only at hSw
          go_simp
          try with_reducible rfl
        try simp only [Act.put, List.setIfInBounds_toArray, List.set_cons_zero, List.set_cons_succ]
        refine wpAnyL_free (i := 2) (v := ?_) (some 51) rfl rfl (by kernel_rfl) (by kernel_rfl) (by kernel_rfl) (by decide) (fun _ _ _ h => h) (Or.inl ⟨by rfl, ?_⟩) (fun h0 => by assumption) ?_
        rotate_left
        · intro wS
          go_simp
          try with_reducible rfl
        try simp only [Act.put, List.setIfInBounds_toArray, List.set_cons_zero, List.set_cons_succ]
        refine wpAnyL_free (i := 3) (v := ?_) (some 52) rfl rfl (by kernel_rfl) (by kernel_rfl) (by kernel_rfl) (by decide) (fun _ _ _ h => h) (Or.inl ⟨by rfl, ?_⟩) (fun h0 => by assumption) ?_
        rotate_left
        · intro wS
          go_simp
          try with_reducible rfl
        try simp only [Act.put, List.setIfInBounds_toArray, List.set_cons_zero, List.set_cons_succ]
        refine wpAnyL_free (i := 4) (v := ?_) (some 53) rfl rfl (by kernel_rfl) (by kernel_rfl) (by kernel_rfl) (by decide) (fun _ _ _ h => h) (Or.inl ⟨by rfl, ?_⟩) (fun h0 => by assumption) ?_
        rotate_left
        · intro wS
          go_simp
          try with_reducible rfl
        try simp only [Act.put, List.setIfInBounds_toArray, List.set_cons_zero, List.set_cons_succ]
        refine wpAnyL_take (i := 5) (v := ?_) (some 54) rfl rfl (by kernel_rfl) (by kernel_rfl) (by kernel_rfl) (by kernel_rfl) (by kernel_rfl) (fun _ _ _ h => h) (Or.inl ⟨by rfl, ?_⟩) (by assumption) ?_
        rotate_left
        · intro wS hSw
          try dsimp only at hSw
          go_simp
          try with_reducible rfl
        try simp only [Act.put, List.setIfInBounds_toArray, List.set_cons_zero, List.set_cons_succ]
        refine wpAnyL_free (i := 6) (v := ?_) (some 55) rfl rfl (by kernel_rfl) (by kernel_rfl) (by kernel_rfl) (by decide) (fun _ _ _ h => h) (Or.inl ⟨by rfl, ?_⟩) (fun h0 => by assumption) ?_
        rotate_left
        · intro wS
          go_simp
          try with_reducible rfl
        try simp only [Act.put, List.setIfInBounds_toArray, List.set_cons_zero, List.set_cons_succ]
        refine wpAnyL_free (i := 7) (v := ?_) (some 56) rfl rfl (by kernel_rfl) (by kernel_rfl) (by kernel_rfl) (by decide) (fun _ _ _ h => h) (Or.inl ⟨by rfl, ?_⟩) (fun h0 => by assumption) ?_
        rotate_left
        · intro wS
          go_simp
          try with_reducible rfl
        try simp only [Act.put, List.setIfInBounds_toArray, List.set_cons_zero, List.set_cons_succ]
        refine wpAnyL_take (i := 8) (v := ?_) (some 57) rfl rfl (by kernel_rfl) (by kernel_rfl) (by kernel_rfl) (by kernel_rfl) (by kernel_rfl) (fun _ _ _ h => h) (Or.inl ⟨by rfl, ?_⟩) (by assumption) ?_
        rotate_left
        · intro wS hSw
          try dsimp only at hSw
          go_simp
          try with_reducible rfl
        try simp only [Act.put, List.setIfInBounds_toArray, List.set_cons_zero, List.set_cons_succ]
        refine wpAnyL_ready (rs := [9]) (by kernel_rfl) (by simp) ?_
        refine AllReadyL.last rfl (by kernel_rfl) (fun K hK => ?_) AllReadyL.nil
        go_simp; go_at_call 85; refine (less (wz + 1) 0 _ 0 wz p (p - x) _ _ _ _ _ row q [] _ (HST5.out.drewN 1) (fun w' hw' => HOO.out w' hw') HOK.out.1 (by omega) (refRow_low HOK.out.1 k) HLY.out HL0.out HL0.out (refR_low HOK.out.1 k) HQB.out HLEN.out rfl (by omega) HLN.out (by decide)).mono ?_; rintro e w7 ⟨rfl, hst7, hbl7, hrs7⟩
        refine hK.out _ _ ?_
        clear hK K
        try simp only [Act.put, List.setIfInBounds_toArray, List.set_cons_zero, List.set_cons_succ]
        refine wpAnyL_done (by kernel_rfl) ?_ _
        refine NoPanic.normal ?_
        have HS7 := Lib.hid hst7
        have HB7 := Lib.hid hbl7
        clear hst7 hbl7 hrs7 hHeld
        go_wp2
        go_roundw
        case rel => exact ⟨k + 1, by omega, by go_num, fun j hj => (by
          by_cases hjk : j = k
          · subst hjk; exact HTH.out
          · exact HA.out j (by omega)), (by
          have h := HS7.out
          have e1 := less_ref (n := un) (bys := bys) HOK.out.1 HRO.out HLY.out
          have e2 := mod_less (x := refR p rs bys k) (b := x) HOK.out.1 HQB.out
          rw [HX.out] at e1
          rw [e1, e2] at h
          have e3 : (refR p rs bys k + x * q) % p = refR p rs bys (k + 1) := by rw [← HX.out, ← HQE.out]; rfl
          rw [e3] at h
          exact h), HBL5.out.trans ((((QW.refl _).drewN 1).below _).trans HB7.out)⟩
        case measure => simp [intOf]; omega
        

      · have HT := Lib.hid (Tells.no hin)
        have HF := Lib.hid (HB.out.is_false fun h => hin (by have := h.1.2 k (by have := HL.out; omega); rw [HX.out] at this; exact ⟨this.1, by omega⟩))
        clear hin
        go_wp2
        go_quiet ((go_at_call 84; exact QW.calls_same (l00In _ _ _ false _ HT.out)))
        clear hw1
        go_wp2
        go_ret2
        exact ⟨(by have hv := HF.out; subst hv; rfl), HWW.out.trans (HBL.out.mono HWL.out |>.trans (((QW.refl _).drewN _).below _))⟩
    · obtain rfl : k = rs.length := by omega
      have hdl : decide (rs.length < bys.length) = false := decide_eq_false (by have := HL.out; omega)
      have c0 := HST.out.left
      have c1 := HST.out.right
      have HRW := Lib.hid HST.out.ownL.rowAt
      have HTUP : Hid (TupP p rs.length bys) := Lib.hid ⟨by rw [HL.out], fun j hj => HA.out j (by have := HL.out; omega)⟩
      obtain ⟨f, hf⟩ : ∃ f, firstV (refRow p rs bys un rs.length) = f := ⟨_, rfl⟩
      obtain ⟨r, hr⟩ : ∃ r, refR p rs bys rs.length = r := ⟨_, rfl⟩
      rw [hr] at c1
      have HALL : Hid (f < 0 ↔ ∀ j, j < u.toNat → refL p rs bys j rs.length = 0) := Lib.hid (by
        rw [← hf, firstV_neg, refRow_len, show u.toNat = un by have := HU.out; omega]
        exact ⟨fun h j hj => by have := h j hj; rwa [refRow_at _ _ _ _ _ _ hj] at this, fun h j hj => by rw [refRow_at _ _ _ _ _ _ hj]; exact h j hj⟩)
      have HF := Lib.hid hf
      have HR := Lib.hid hr
      clear hf hr
      have HPOST := Lib.hid (HWW.out.trans (HBL.out.mono HWL.out))
      by_cases hz : f < 0
      · by_cases hr0 : r = 0
        · have hv := HB.out.is_false fun h => h.2.2 (by rw [HR.out]; exact hr0)
          subst hv
          subst hr0
          go_wp2_with fail
          refine (l07First _ _ _ HRW.out).mono ?_
          rw [HF.out]
          rintro e w' ⟨rfl, rfl⟩
          go_wp2
          go_ret2
          exact ⟨rfl, HPOST.out⟩
        · have hv := HB.out.is_true ⟨HTUP.out, HALL.out.1 hz, fun h => hr0 (by rw [← HR.out]; exact h)⟩
          have hr1 : (r != 0) = true := bne_iff_ne.2 hr0
          subst hv
          clear hr0
          go_wp2_with fail
          refine (l07First _ _ _ HRW.out).mono ?_
          rw [HF.out]
          rintro e w' ⟨rfl, rfl⟩
          go_wp2
          go_ret2
          exact ⟨rfl, HPOST.out⟩
      · have hv := HB.out.is_false fun h => hz (HALL.out.2 h.2.1)
        subst hv
        go_wp2_with fail
        refine (l07First _ _ _ HRW.out).mono ?_
        rw [HF.out]
        rintro e w' ⟨rfl, rfl⟩
        go_wp2
        go_ret2
        exact ⟨rfl, HPOST.out⟩

end Go.Proofs.Ytadpnckpgpamiaa
