/-
  SolveSystem of the model.
-/
import Derived.Test.YtnbgpeoceejolaaBegin
import Derived.Test.YtnbgpeoceejolaaRefuteS
namespace Go.Proofs.Ytnbgpeoceejolaa
open Go.RowKit

/-- What SolveSystem answers. -/
def SolveSystemIs (p u : Int) (rs : List (Int × List Int)) (zs : List Int) (cd : Int) : Prop :=
  (SysOk p u rs ∧ ¬ NoAns p u.toNat rs ∧ zs = solV (elimE p rs.length (row0 rs) u.toNat).1 (pivE (elimE p rs.length (row0 rs) u.toNat).1 u.toNat) u.toNat (elimE p rs.length (row0 rs) u.toNat).2 ∧ cd = 0) ∨ (SysOk p u rs ∧ NoAns p u.toNat rs ∧ zs = [] ∧ cd = 6) ∨ (¬ SysOk p u rs ∧ zs = [] ∧ cd = 1)
theorem SolveSystemIs.exists (p u : Int) (rs : List (Int × List Int)) : ∃ zs cd, SolveSystemIs p u rs zs cd := by
  by_cases h1 : SysOk p u rs
  · by_cases h2 : NoAns p u.toNat rs
    · exact ⟨[], 6, .inr (.inl ⟨h1, h2, rfl, rfl⟩)⟩
    · exact ⟨_, 0, .inl ⟨h1, h2, rfl, rfl⟩⟩
  · exact ⟨[], 1, .inr (.inr ⟨h1, rfl, rfl⟩)⟩
theorem SolveSystemIs.small {p u : Int} {rs : List (Int × List Int)} {zs : List Int} {cd : Int} (h : SolveSystemIs p u rs zs cd) : zs.length ≤ 1048576 := by
  rcases h with ⟨h1, _, rfl, _⟩ | ⟨_, _, rfl, _⟩ | ⟨_, rfl, _⟩
  · rw [solV_len]
    have := h1.2.1
    unfold InP at this
    omega
  · simp
  · simp

set_option linter.unusedSimpArgs false in
set_option maxHeartbeats 4000000 in
set_option maxRecDepth 100000 in
theorem specSolveSystem (p u : Int) (a : Option Addr) (n c : Nat) (rs : List (Int × List Int)) (zs : List Int) (cd : Int) (w : World) (h : EqsAt w (.slice a n c) rs) (hi : SolveSystemIs p u rs zs cd) :
    Calls Try.prog 31 #[.agg #[.int .i64 p, .int .i64 u, .slice a n c]] w (MadeRow2 w zs cd) := by
  have HS := Lib.hid (SysAt.new w p u a n c rs 30 h)
  have HW : Hid (Below w.heap.size w (w.alloc (.cells #[.int .i64 p, .int .i64 u, .slice a n c] 30))) := Lib.hid ((Below.refl _ _).alloc (Nat.le_refl _) _)
  have HI := Lib.hid hi
  clear h hi
  go_enter Try.func31, Try.ntmps31
  by_cases hok : SysOk p u rs
  · have HOK := Lib.hid hok
    obtain ⟨un, rfl⟩ := hok.unat
    have hn24 := hok.2.2.1
    have hu12 : un ≤ 12 := by have := hok.2.1; unfold InP at this; omega
    clear hok
    go_wp2_with fail
    refine (l07Ok _ _ _ _ rs true _ HS.out (Tells.yes HOK.out)).mono ?_
    rintro e w2 ⟨rfl, hq⟩
    have HS2 := Lib.hid (HS.out.below hq.bel)
    have HW2 := Lib.hid (HW.out.trans (hq.bel.mono HW.out.size))
    clear hq
    go_wp2_with fail
    refine (l07ReduceC _ _ p un rs _ HS2.out HOK.out).mono ?_
    rintro e w3 ⟨a3, c3, rfl, hmr, hb3⟩
    have HW3 := Lib.hid (HW2.out.trans (hb3.mono HW2.out.size))
    have xu : w3.cell? ⟨w.heap.size, 1, none⟩ = some (.int .i64 (un : Int)) := below_cell hb3 HS2.out.unknowns
    obtain ⟨m, hm⟩ := FalseAt.exists (elimE p rs.length (row0 rs) un).1 un (elimE p rs.length (row0 rs) un).2 rs.length HOK.out.dn
    have HM := Lib.hid hm
    have HMR : Hid (∃ rb VL VB, 0 < rs.length → a3 = some ⟨rb, 0, none⟩ ∧ MRows w3 rb w2.heap.size rs.length un VL VB (elimE p rs.length (row0 rs) un).1 ∧ rb < w3.heap.size) := Lib.hid (by
      by_cases h0 : 0 < rs.length
      · obtain ⟨rb, VL, VB, h1, _, h3, h2⟩ := hmr h0
        exact ⟨rb, VL, VB, fun _ => ⟨h1, h2, h3⟩⟩
      · exact ⟨0, fun _ => .slice none 0 0, fun _ => .slice none 0 0, fun h => absurd h h0⟩)
    have HGD := Lib.hid HOK.out.good
    have HPV := Lib.hid (sysOk_piv HOK.out)
    have hdn := HOK.out.dn
    have HI2 : Hid ((NoAns p un rs → cd = 6 ∧ zs = []) ∧ (¬ NoAns p un rs → cd = 0 ∧ zs = solV (elimE p rs.length (row0 rs) un).1 (pivE (elimE p rs.length (row0 rs) un).1 un) un (elimE p rs.length (row0 rs) un).2)) := Lib.hid (by
      rcases HI.out with ⟨_, h2, rfl, rfl⟩ | ⟨_, h2, rfl, rfl⟩ | ⟨h1, _⟩
      · exact ⟨fun h => absurd h h2, fun _ => ⟨rfl, rfl⟩⟩
      · exact ⟨fun _ => ⟨rfl, rfl⟩, fun h => absurd h2 h⟩
      · exact absurd HOK.out h1)
    have hp3 : 2 ≤ p ∧ p ≤ 3 := by rcases HOK.out.1 with rfl | rfl <;> omega
    unfold NoAns at HI2
    clear hmr hb3 hm
    obtain ⟨S, hS⟩ : ∃ S, elimE p rs.length (row0 rs) un = S := ⟨_, rfl⟩
    obtain ⟨R, d⟩ := S
    rw [hS] at HMR HM hdn HGD HPV HI2 ⊢
    clear hS
    obtain ⟨rb, VL, VB, hmm⟩ := HMR.out
    have HMM := Lib.hid hmm
    clear hmm
    go_wp2_with fail
    refine (l07FalseC a3 c3 rs.length d rb w2.heap.size un VL VB R m _ (fun h => ⟨(HMM.out h).1, (HMM.out h).2.1⟩) (by omega) hdn HM.out).mono ?_
    rintro e w3' ⟨rfl, rfl⟩
    have HNG := Lib.hid HM.out.neg
    by_cases hmz : m < 0
    · obtain ⟨hcd, hzs⟩ := HI2.out.2 (HNG.out.1 hmz)
      have HCD := Lib.hid hcd
      have HZS := Lib.hid hzs
      have hge : ¬ (m ≥ 0) := by omega
      have hmk := make_row un (by omega) w3
      have hOZ := own_zeros w3 w3.heap.size un (Nat.le_refl _) (by omega)
      have HVZ : Hid (OwnRow (w3.alloc (.cells (Array.replicate un (Value.int .i64 0)) 2)) w3.heap.size (.slice (some ⟨w3.heap.size, 0, none⟩) un un) (solV R (pivE R un) un 0)) := Lib.hid hOZ
      have HBZ := Lib.hid ((Below.refl w3.heap.size w3).alloc (Nat.le_refl _) (.cells (Array.replicate un (Value.int .i64 0)) 2))
      clear hcd hzs hOZ
      go_wp2
      obtain ⟨wz, hwz⟩ : ∃ wz, w3.alloc (.cells (Array.replicate un (Value.int .i64 0)) 2) = wz := ⟨_, rfl⟩
      rw [hwz] at HVZ HBZ ⊢
      have HVL0 : Hid (w3.heap.size < wz.heap.size) := Lib.hid (by rw [← hwz]; simp)
      clear hwz hmk
      obtain ⟨vb, hvb⟩ : ∃ vb, w3.heap.size = vb := ⟨_, rfl⟩
      rw [hvb] at HVZ HVL0 ⊢
      have HVE := Lib.hid hvb
      clear hvb
      go_loopw [7] (fun v wr => ∃ k : Nat, k ≤ d ∧ v = .int .i64 k ∧ OwnRow wr vb (.slice (some ⟨vb, 0, none⟩) un un) (solV R (pivE R un) un k) ∧ Below w3.heap.size w3 wr) (fun v _ => d - (intOf v).toNat)
      case atStart => exact ⟨0, Nat.zero_le _, rfl, HVZ.out, HBZ.out⟩
      case round =>
        obtain ⟨k, hk, rfl, hv, hbl⟩ := hrel
        have HV := Lib.hid hv
        have HBL := Lib.hid hbl
        have HVB : Hid (w3.heap.size ≤ vb) := Lib.hid (Nat.le_of_eq HVE.out)
        have HVL : Hid (vb < wr.heap.size) := Lib.hid (hv.lt vb (by simp [Value.ownBlock])).2
        clear hv hbl
        by_cases hlt : k < d
        · have hkd : (k : Int) < (d : Int) := by omega
          have hkn : (k : Int) < (rs.length : Int) := by omega
          obtain ⟨rfl, hM, hrb⟩ := HMM.out (by omega)
          have hrow := (hM.below HBL.out hrb).row k (by omega)
          obtain ⟨la, lc, hvl⟩ : ∃ la lc, VL k = .slice la ((R k).take un).length lc := by obtain ⟨a, c, he, _⟩ := hrow.ownL.rowAt; exact ⟨a, c, he⟩
          obtain ⟨hgl, hlow⟩ := HGD.out k (by omega)
          have HROW := Lib.hid hrow.ownL.rowAt
          obtain ⟨lnn, hlnn⟩ : ∃ lnn, ((R k).take un).length = lnn := ⟨_, rfl⟩
          rw [hvl, hlnn] at HROW
          have x0 := hrow.left
          rw [hvl, hlnn] at x0
          have x1 := hrow.right
          obtain ⟨r, hr⟩ : ∃ r, intN (R k) un = r := ⟨_, rfl⟩
          rw [hr] at x1
          obtain ⟨ck, hck⟩ : ∃ ck, pivE R un k = ck := ⟨_, rfl⟩
          have HFV : Hid (firstV ((R k).take un) = (ck : Int)) := Lib.hid (by rw [HPV.out.first hdn hlt (by omega), hck])
          have hckn : ck < un := by rw [← hck]; exact HPV.out.lt k hlt
          have hcki : (ck : Int) < (un : Int) := by omega
          have HSV : Hid ((solV R (pivE R un) un k).set ck r = solV R (pivE R un) un (k + 1)) := Lib.hid (by rw [← hr, ← hck]; rfl)
          clear hM hrow hvl hgl hlow hlnn hr hck
          go_wp2
          refine wp_region_noPanic ?_
          refine wp_region_late (S := (fun w' => w'.cell? ⟨rb, k * 3, none⟩ = some (.slice la lnn lc) ∧ w'.cell? ⟨rb, k * 3 + 1, none⟩ = some (.int .i64 r) ∧ Below wr.heap.size wr w')) [13] (by kernel_rfl) ?_ (fun hHeld => ?_)
          · exact ⟨x0, x1, (QW.refl _).drew.below _⟩
          refine wpAnyL_free (i := 0) (v := ?_) (some 28) rfl rfl (by kernel_rfl) (by kernel_rfl) (by kernel_rfl) (by decide) (fun _ _ _ h => h) (Or.inl ⟨by rfl, ?_⟩) (fun h0 => by assumption) ?_
          rotate_left
          · intro wS
            go_simp
            try with_reducible rfl
          try simp only [Act.put, List.setIfInBounds_toArray, List.set_cons_zero, List.set_cons_succ]
          refine wpAnyL_free (i := 1) (v := ?_) (some 29) rfl rfl (by kernel_rfl) (by kernel_rfl) (by kernel_rfl) (by decide) (fun _ _ _ h => h) (Or.inl ⟨by rfl, ?_⟩) (fun h0 => by assumption) ?_
          rotate_left
          · intro wS
            go_simp
            try with_reducible rfl
          try simp only [Act.put, List.setIfInBounds_toArray, List.set_cons_zero, List.set_cons_succ]
          refine wpAnyL_free (i := 2) (v := ?_) (some 30) rfl rfl (by kernel_rfl) (by kernel_rfl) (by kernel_rfl) (by decide) (fun _ _ _ h => h) (Or.inl ⟨by rfl, ?_⟩) (fun h0 => by assumption) ?_
          rotate_left
          · intro wS
            go_simp
            try with_reducible rfl
          try simp only [Act.put, List.setIfInBounds_toArray, List.set_cons_zero, List.set_cons_succ]
          refine wpAnyL_free (i := 3) (v := ?_) (some 31) rfl rfl (by kernel_rfl) (by kernel_rfl) (by kernel_rfl) (by decide) (fun _ _ _ h => h) (Or.inl ⟨by rfl, ?_⟩) (fun h0 => by assumption) ?_
          rotate_left
          · intro wS
            go_simp
            try with_reducible rfl
          try simp only [Act.put, List.setIfInBounds_toArray, List.set_cons_zero, List.set_cons_succ]
          refine wpAnyL_free (i := 4) (v := ?_) (some 32) rfl rfl (by kernel_rfl) (by kernel_rfl) (by kernel_rfl) (by decide) (fun _ _ _ h => h) (Or.inl ⟨by rfl, ?_⟩) (fun h0 => by assumption) ?_
          rotate_left
          · intro wS
            go_simp
            try with_reducible rfl
          try simp only [Act.put, List.setIfInBounds_toArray, List.set_cons_zero, List.set_cons_succ]
          refine wpAnyL_take (i := 5) (v := ?_) (some 33) rfl rfl (by kernel_rfl) (by kernel_rfl) (by kernel_rfl) (by kernel_rfl) (by kernel_rfl) (fun _ _ _ h => h) (Or.inl ⟨by rfl, ?_⟩) (by assumption) ?_
          rotate_left
          · intro wS hSw
            try dsimp only at hSw
            go_simp
            try with_reducible rfl
          try simp only [Act.put, List.setIfInBounds_toArray, List.set_cons_zero, List.set_cons_succ]
          refine wpAnyL_free (i := 7) (v := ?_) (some 35) rfl rfl (by kernel_rfl) (by kernel_rfl) (by kernel_rfl) (by decide) (fun _ _ _ h => h) (Or.inl ⟨by rfl, ?_⟩) (fun h0 => by assumption) ?_
          rotate_left
          · intro wS
            go_simp
            try with_reducible rfl
          try simp only [Act.put, List.setIfInBounds_toArray, List.set_cons_zero, List.set_cons_succ]
          refine wpAnyL_free (i := 8) (v := ?_) (some 36) rfl rfl (by kernel_rfl) (by kernel_rfl) (by kernel_rfl) (by decide) (fun _ _ _ h => h) (Or.inl ⟨by rfl, ?_⟩) (fun h0 => by assumption) ?_
          rotate_left
          · intro wS
            go_simp
            try with_reducible rfl
          try simp only [Act.put, List.setIfInBounds_toArray, List.set_cons_zero, List.set_cons_succ]
          refine wpAnyL_free (i := 9) (v := ?_) (some 37) rfl rfl (by kernel_rfl) (by kernel_rfl) (by kernel_rfl) (by decide) (fun _ _ _ h => h) (Or.inl ⟨by rfl, ?_⟩) (fun h0 => by assumption) ?_
          rotate_left
          · intro wS
            go_simp
            try with_reducible rfl
          try simp only [Act.put, List.setIfInBounds_toArray, List.set_cons_zero, List.set_cons_succ]
          refine wpAnyL_free (i := 10) (v := ?_) (some 38) rfl rfl (by kernel_rfl) (by kernel_rfl) (by kernel_rfl) (by decide) (fun _ _ _ h => h) (Or.inl ⟨by rfl, ?_⟩) (fun h0 => by assumption) ?_
          rotate_left
          · intro wS
            go_simp
            try with_reducible rfl
          try simp only [Act.put, List.setIfInBounds_toArray, List.set_cons_zero, List.set_cons_succ]
          refine wpAnyL_take (i := 11) (v := ?_) (some 39) rfl rfl (by kernel_rfl) (by kernel_rfl) (by kernel_rfl) (by kernel_rfl) (by kernel_rfl) (fun _ _ _ h => h) (Or.inl ⟨by rfl, ?_⟩) (by assumption) ?_
          rotate_left
          · intro wS hSw
            try dsimp only at hSw
            go_simp
            try with_reducible rfl
          try simp only [Act.put, List.setIfInBounds_toArray, List.set_cons_zero, List.set_cons_succ]
          refine wpAnyL_ready (rs := [6]) (by kernel_rfl) (by simp) ?_
          refine AllReadyL.cons rfl (fun K hK => ?_) AllReadyL.nil
          go_simp; go_at_call 91; refine (l07First _ _ _ (HROW.out.below hHeld.2.2)).mono ?_; rw [HFV.out]; rintro e w4 ⟨rfl, rfl⟩
          refine hK.out _ _ ?_ (fun hHeld => ?_)
          · exact hHeld
          clear hK K
          try simp only [Act.put, List.setIfInBounds_toArray, List.set_cons_zero, List.set_cons_succ]
          refine wpAnyL_free (i := 12) (v := ?_) (some 40) rfl rfl (by kernel_rfl) (by kernel_rfl) (by kernel_rfl) (by decide) (fun _ _ _ h => h) (Or.inl ⟨by rfl, ?_⟩) (fun h0 => by assumption) ?_
          rotate_left
          · intro wS
            go_simp
            try with_reducible rfl
          try simp only [Act.put, List.setIfInBounds_toArray, List.set_cons_zero, List.set_cons_succ]
          refine wpAnyL_ready (rs := [13]) (by kernel_rfl) (by simp) ?_
          refine AllReadyL.last rfl (by kernel_rfl) (fun K hK => ?_) AllReadyL.nil
          have HB5 := Lib.hid hHeld.2.2
          have hfl5 := HV.out.below HB5.out
          have ex5 := hfl5.cell_of ck (by rw [solV_len]; exact hckn)
          have fz5 := hfl5.free ck
          have HF5 := Lib.hid (hfl5.set ck r)
          clear hfl5
          go_simp
          refine hK.out _ _ ?_
          clear hK K
          try simp only [Act.put, List.setIfInBounds_toArray, List.set_cons_zero, List.set_cons_succ]
          refine wpAnyL_done (by kernel_rfl) ?_ _
          refine NoPanic.normal ?_
          have HB6 := Lib.hid ((HBL.out.trans (HB5.out.mono (Nat.le_trans HVB.out (Nat.le_of_lt HVL.out)))).setCell (p := ⟨vb, ck, none⟩) HVB.out (.int .i64 r))
          clear hHeld ex5 fz5 x0 x1
          go_wp2
          go_roundw
          case rel => exact ⟨k + 1, by omega, by go_num, by rw [← HSV.out]; exact HF5.out, HB6.out⟩
          case measure => simp [intOf]; omega
        · obtain rfl : k = d := by omega
          have HFF : Hid (OwnRow wr vb (.slice (some ⟨vb, 0, none⟩) un un) zs) := Lib.hid (by rw [HZS.out]; exact HV.out)
          have HWF := Lib.hid (HW3.out.trans (HBL.out.mono HW3.out.size))
          have HBB : Hid (w.heap.size ≤ vb) := Lib.hid (Nat.le_trans HW3.out.size HVB.out)
          go_wp2
          go_ret2
          exact ⟨some ⟨vb, 0, none⟩, un, un, by rw [HCD.out]; rfl, (HFF.out.mono HBB.out).full, HWF.out⟩
    · have hnn : ∃ j, d ≤ j ∧ j < rs.length ∧ intN (R j) un ≠ 0 := Classical.not_not.1 fun h => hmz (HNG.out.2 h)
      obtain ⟨rfl, rfl⟩ := HI2.out.1 hnn
      have hge : m ≥ 0 := by omega
      clear xu hnn
      go_wp2
      go_ret2
      exact ⟨_, _, _, rfl, ownE_new _ _ HW3.out.size, HW3.out.alloc HW3.out.size _⟩
  · have HOK := Lib.hid hok
    obtain ⟨rfl, rfl⟩ : zs = [] ∧ cd = 1 := by
      rcases HI.out with ⟨h1, _⟩ | ⟨h1, _⟩ | ⟨_, rfl, rfl⟩
      · exact absurd h1 hok
      · exact absurd h1 hok
      · exact ⟨rfl, rfl⟩
    clear hok
    go_wp2_with fail
    refine (l07Ok _ _ _ _ rs false _ HS.out (Tells.no HOK.out)).mono ?_
    rintro e w2 ⟨rfl, hq⟩
    have HW2 := Lib.hid (HW.out.trans (hq.bel.mono HW.out.size))
    clear hq
    go_wp2
    go_ret2
    exact ⟨_, _, _, rfl, ownE_new _ _ HW2.out.size, HW2.out.alloc HW2.out.size _⟩

end Go.Proofs.Ytnbgpeoceejolaa
