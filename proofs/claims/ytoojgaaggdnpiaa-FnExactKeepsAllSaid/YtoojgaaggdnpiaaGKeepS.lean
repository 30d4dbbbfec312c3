/-  Whether an operation breaks a relation: l02Breaks of the model. Keeps of the model. The first relation of a template that an operation breaks, in the model. KeepsAll and IsPolymorphism of the model. -/
import Derived.Test.YtoojgaaggdnpiaaKeepM
import Derived.Test.YtoojgaaggdnpiaaGSet
import Derived.Test.YtoojgaaggdnpiaaJoinS
import Derived.Test.YtoojgaaggdnpiaaApplyOp
import Derived.Test.YtoojgaaggdnpiaaGrowAt
import Derived.Test.YtoojgaaggdnpiaaDrawn
import Derived.OwnWalk
import Derived.Test.YtoojgaaggdnpiaaGMaps
namespace Go.Proofs.Ytoojgaaggdnpiaa
open Go.RowKit

theorem pow_le256 {n k : Nat} (h : n ≤ 256) (hk : k ≤ 3) : n ^ k ≤ 16777216 := by
  have h1 := Nat.pow_le_pow_left h k
  have h2 := Nat.pow_le_pow_right (show 0 < 256 by decide) hk
  exact Nat.le_trans h1 (Nat.le_trans h2 (by decide))

set_option maxHeartbeats 1000000 in
theorem powerB (size ar : Nat) (h2 : size ≤ 256) (h4 : ar ≤ 3) (w : World) :
    Calls Try.prog 130 #[.int .i64 size, .int .i64 ar] w fun e w' => e = .returned (.int .i64 ((size ^ ar : Nat) : Int)) ∧ w = w' := by
  go_enter Try.func130, Try.ntmps130
  go_wp2
  go_loop [1, 5] (fun i p => ∃ k : Nat, k ≤ ar ∧ i = .int .i64 ((ar - k : Nat) : Int) ∧ p = .int .i64 ((size ^ k : Nat) : Int)) (fun i _ => (intOf i).toNat)
  case atStart => exact ⟨0, Nat.zero_le _, rfl, rfl⟩
  case round =>
    obtain ⟨k, hk, rfl, rfl⟩ := hrel
    by_cases hlt : k < ar
    · have hlt' : (0 : Int) < ((ar - k : Nat) : Int) := by omega
      have hp := pow_le256 h2 (show k ≤ 3 by omega)
      have hs := Nat.pow_succ (n := size) (m := k)
      have hs2 := pow_le256 h2 (show k + 1 ≤ 3 by omega)
      generalize size ^ k = p at *
      generalize hqq : size ^ (k + 1) = q at *
      have hm : (p : Int) * (size : Int) = (q : Int) := by rw [hs, Int.natCast_mul]
      have HQ := Lib.hid hqq
      have HD : Hid (((ar - k : Nat) : Int) - 1 = ((ar - (k + 1) : Nat) : Int)) := by show _ = _; omega
      clear hs hqq
      go_wp2
      go_round
      case rel => exact ⟨k + 1, by omega, by rw [HD.out], by rw [HQ.out]⟩
      case measure => simp [intOf]; omega
    · obtain rfl : k = ar := by omega
      have hz : k - k = 0 := Nat.sub_self k
      go_wp2
      go_ret
      exact ⟨rfl, rfl⟩


/-- Some of the tuples. -/
def pickN (rs : List (List Int)) (is : List Nat) : List (List Int) := is.map (rowN rs)
theorem pickN_len (rs : List (List Int)) (is : List Nat) : (pickN rs is).length = is.length := by simp [pickN]
/-- A list of its own of rows that lie somewhere. -/
theorem grid_own {w : World} {B n : Nat} {v : Value} {V : Nat → Value} {xss : List (List Int)} (h : w.ownsRow B 22 1 v n ((List.range n).map V)) (hl : xss.length = n) (hr : ∀ i, i < n → RowAt w (V i) (rowN xss i)) : GridAt w v xss := by
  subst hl
  refine ⟨V, ?_, hr⟩
  rcases ownsRow_parts h with ⟨rfl, hn, _⟩ | ⟨g, c, rfl, _, _, h1, h2, _, hc⟩
  · exact ⟨none, 0, by rw [hn], by omega, fun h0 => by omega⟩
  · refine ⟨some ⟨g, 0, none⟩, c, rfl, by unfold maxLen at h2; omega, fun _ => ⟨g, 0, rfl, fun i hi => ?_⟩⟩
    rw [Nat.zero_add]
    exact hc i _ (range_map_at hi)
theorem pickN_at (rs : List (List Int)) (n m j t : Nat) (h : t < m) : rowN (pickN rs (digL n m j)) t = rowN rs (digN n m j t) := by
  rw [rowN_at _ _ (by rw [pickN_len, digL_len]; exact h)]
  simp [pickN, digL, digN]
theorem pickN_tups {s q m j : Nat} {rs : List (List Int)} (hn : 1 ≤ rs.length) (h : ∀ i, i < rs.length → TupP s q (rowN rs i)) : ∀ t, t < m → TupP s q (rowN (pickN rs (digL rs.length m j)) t) := fun t ht => by
  rw [pickN_at _ _ _ _ _ ht]
  exact h _ (Nat.mod_lt _ hn)
theorem pickN_zero {s q m j : Nat} {rs : List (List Int)} (hm : 1 ≤ m) (hn : 1 ≤ rs.length) (h : ∀ i, i < rs.length → TupP s q (rowN rs i)) : (rowN (pickN rs (digL rs.length m j)) 0).length = q := by
  have := (pickN_tups (j := j) hn h 0 hm).1
  omega
theorem pickN_sum {s q m j : Nat} {rs : List (List Int)} (hn : 1 ≤ rs.length) (h : ∀ i, i < rs.length → TupP s q (rowN rs i)) : ((pickN rs (digL rs.length m j)).map List.length).sum = m * q := by
  have e : (pickN rs (digL rs.length m j)).map List.length = List.replicate m q := by
    rw [List.eq_replicate_iff]
    refine ⟨by rw [List.length_map, pickN_len, digL_len], fun x hx => ?_⟩
    obtain ⟨r, hr, rfl⟩ := List.mem_map.1 hx
    obtain ⟨d, hd, rfl⟩ := List.mem_map.1 hr
    have := (h d (digL_lt hn d hd)).1
    omega
  rw [e, List.sum_replicate_nat]
theorem made_tup {s ar q : Nat} {tab : List Int} {xss : List (List Int)} (h1 : 1 ≤ s) (ho : OpOk s ar tab) (ht : TupsP s ar xss) (hq : (rowN xss 0).length = q) : TupP s q (madeN s tab xss q) := by
  refine ⟨by rw [made_len], fun p hp => ?_⟩
  rw [made_len] at hp
  rw [made_at _ _ _ _ _ hp]
  have hc := codeN_pow h1 (ht.col p (by omega))
  have hl := ho.2.2.1
  rw [Int.toNat_natCast, Int.toNat_natCast] at hl
  have hl2 : tab.length = s ^ ar := Int.ofNat_inj.1 hl
  exact ho.2.2.2 _ (by rw [hl2]; exact hc)

/-- What the operation makes of the tuples of a number is none of the relation's. -/
def BrkAt (s ar q : Nat) (tab : List Int) (rs : List (List Int)) (j : Nat) : Prop := setOf s rs (codeN s (madeN s tab (pickN rs (digL rs.length ar j)) q)) = false
/-- The operation breaks the relation. -/
def Brk (s ar q : Nat) (tab : List Int) (rs : List (List Int)) : Prop := ∃ j, j < rs.length ^ ar ∧ BrkAt s ar q tab rs j

set_option linter.unusedSimpArgs false in
set_option maxHeartbeats 4000000 in
set_option maxRecDepth 100000 in
theorem l02BreaksC (s ar q : Nat) (fb fo rb ro : Nat) (tab : List Int) (rs : List (List Int)) (b : Bool) (w : World) (hf : OpAt w fb fo ar tab) (ho : OpOk s ar tab) (hr : RelAt w rb ro q rs) (hk : RelOk s q rs) (hl : rs.length ≤ 256) (hb : Tells b (Brk s ar q tab rs)) :
    Calls Try.prog 85 #[.int .i64 s, .pointer (some ⟨fb, fo, none⟩), .pointer (some ⟨rb, ro, none⟩)] w fun e w' => ∃ v1 v2, e = .returned (.tuple #[v1, v2, .bool b]) ∧ Below w.heap.size w w' := by
  obtain ⟨i0, hi0, hz0, hz1, hz2⟩ := info_parts info_rowO
  have HF := Lib.hid hf
  have HOK := Lib.hid ho
  have HR := Lib.hid hr
  have HK := Lib.hid hk
  have HB := Lib.hid hb
  have hs := hk.1
  have hq := hk.2.1
  have har := ho.2.1
  simp only [In14, In13] at hs hq har
  have hs1 : 1 ≤ s := by omega
  have hs4 : s ≤ 4 := by omega
  have hq1 : 1 ≤ q := by omega
  have hq4 : q ≤ 4 := by omega
  have ha1 : 1 ≤ ar := by omega
  have ha3 : ar ≤ 3 := by omega
  have f0 := hf.arity
  obtain ⟨r0, ra, rn, rc, r1, hgrid⟩ := hr
  have HG := Lib.hid hgrid
  obtain ⟨V, ⟨ra', rc', hre, hrn, hrc⟩, hV⟩ := hgrid
  simp only [Value.slice.injEq] at hre
  obtain ⟨rfl, rfl, rfl⟩ := hre
  have HV := Lib.hid hV
  have HRC := Lib.hid hrc
  have htup : ∀ j, j < rs.length → TupP s q (rowN rs j) := fun j hj => (hk.2.2 j hj).1
  have HTUP := Lib.hid htup
  clear hf ho hk hb hs hq har hV hrc hrn htup
  go_enter Try.func85, Try.ntmps85
  go_wp2_with fail
  refine (l01SetOf s q rb ro rs w hs1 hs4 hq1 hq4 HR.out HTUP.out).mono ?_
  rintro e w1 ⟨sp, sg, rfl, hset, hb1⟩
  have HS1 := Lib.hid hset
  have HB1 := Lib.hid hb1
  have f01 := below_cell hb1 f0
  have r11 := below_cell hb1 r1
  clear hset hb1 f0 r1
  have hN := pow_le256 hl ha3
  obtain ⟨N, hNe⟩ : ∃ N, rs.length ^ ar = N := ⟨_, rfl⟩
  rw [hNe] at hN
  have HN := Lib.hid hNe
  clear hNe
  go_wp2_with fail
  refine (powerB rs.length ar hl ha3 _).mono ?_
  rw [HN.out]
  rintro e w1' ⟨rfl, rfl⟩
  have HF1 := Lib.hid f01
  have HR1 := Lib.hid r11
  clear f01 r11
  go_wp2
  go_loopw [12] (fun i wr => ∃ j : Nat, j ≤ N ∧ i = .int .i64 j ∧ (∀ j', j' < j → ¬ BrkAt s ar q tab rs j') ∧ Below w1.heap.size w1 wr) (fun i _ => N - (intOf i).toNat)
  case atStart => exact ⟨0, Nat.zero_le _, rfl, fun j hj => absurd hj (Nat.not_lt_zero _), Below.refl _ _⟩
  case round =>
    obtain ⟨j, hj, rfl, hall, hbl⟩ := hrel
    have HA := Lib.hid hall
    have HBL := Lib.hid hbl
    have f02 := below_cell hbl HF1.out
    have r12 := below_cell hbl HR1.out
    clear hall hbl
    by_cases hlt : j < N
    · have hlt2 : (j : Int) < (N : Int) := by omega
      have hn1 : 1 ≤ rs.length := by
        rcases Nat.eq_zero_or_pos rs.length with h0 | h0
        · exfalso
          have := HN.out
          rw [h0, Nat.zero_pow (by omega)] at this
          omega
        · exact h0
      go_wp2_with fail
      refine (l01Digits rs.length ar j hn1 (by omega) (by omega) (by omega) _).mono ?_
      rintro e w3 ⟨da, dc, rfl, hd, hb3⟩
      have HD := Lib.hid hd.rowAt
      have HB3 := Lib.hid hb3
      have r13 := below_cell hb3 r12
      have f03 := below_cell hb3 f02
      clear hd hb3 f02 r12
      go_wp2
      obtain ⟨gb, goff, rfl, hgc⟩ := HRC.out hn1
      obtain ⟨U, hU⟩ : ∃ U : Nat → Value, (fun t => V (digN rs.length ar j t)) = U := ⟨_, rfl⟩
      have HU := Lib.hid hU
      have HB03 : Hid (Below w.heap.size w w3) := Lib.hid (HB1.out.trans ((HBL.out.mono HB1.out.size).trans (HB3.out.mono (by have := HB1.out.size; have := HBL.out.size; omega))))
      have HGC : Hid (∀ i, i < rs.length → w3.cell? ⟨gb, goff + i, none⟩ = some (V i)) := Lib.hid fun i hi => below_cell HB03.out (hgc i hi)
      have HVR : Hid (∀ i, i < rs.length → RowAt w3 (V i) (rowN rs i)) := Lib.hid fun i hi => (HV.out i hi).below HB03.out
      have HR3 := Lib.hid r13
      have HF3 := Lib.hid f03
      have HL0 : Hid ((w3.alloc (.cells #[] 22)).ownsRow w3.heap.size 22 1 (.slice (some ⟨w3.heap.size, 0, none⟩) 0 0) 0 ((List.range 0).map U)) := Lib.hid (World.ownsRow_lit (e := 22) (size := 1) w3 #[] 0 (Nat.le_refl _) (by unfold maxLen; omega) (by simp))
      clear hgc hU r13 f03
      obtain ⟨wo, rfl⟩ : ∃ wo, wo = wr := ⟨_, rfl⟩
      go_loopw [14, 15] (fun v i wr => ∃ (k : Nat) (la : Option Addr) (lc : Nat), k ≤ ar ∧ i = .int .i64 k ∧ v = .slice la k lc ∧ wr.ownsRow w3.heap.size 22 1 (.slice la k lc) k ((List.range k).map U) ∧ Below w3.heap.size w3 wr) (fun _ i _ => ar - (intOf i).toNat)
      case atStart => exact ⟨0, _, _, Nat.zero_le _, rfl, rfl, HL0.out, (Below.refl _ _).alloc (Nat.le_refl _) _⟩
      case round =>
        obtain ⟨k, la, lc, hk, rfl, rfl, hown, hbw⟩ := hrel
        have HLS := Lib.hid hown
        have HBW := Lib.hid hbw
        clear hown hbw
        by_cases hkl : k < ar
        · have hka : (k : Int) < (ar : Int) := by omega
          obtain ⟨da', dc', hde, hdn, hdc⟩ := HD.out
          rw [digs_len] at hde hdc
          simp only [Value.slice.injEq] at hde
          obtain ⟨rfl, -, rfl⟩ := hde
          obtain ⟨db, doff, rfl, hdd⟩ := hdc (by omega)
          obtain ⟨d, hd⟩ : ∃ d, digN rs.length ar j k = d := ⟨_, rfl⟩
          have hdl : d < rs.length := by rw [← hd]; exact Nat.mod_lt _ hn1
          have d1 : wr.cell? ⟨db, doff + k, none⟩ = some (.int .i64 (d : Int)) := by
            have h : wr.cell? ⟨db, doff + k, none⟩ = some (.int .i64 (intN (digs rs.length ar j) k)) := below_cell HBW.out (hdd k hkl)
            rw [digs_at _ _ _ _ hkl, hd] at h
            exact h
          obtain ⟨va, vc, hvv, -⟩ := HVR.out d hdl
          obtain ⟨vn, hvn⟩ : ∃ vn, (rowN rs d).length = vn := ⟨_, rfl⟩
          rw [hvn] at hvv
          have d2 : wr.cell? ⟨gb, goff + d, none⟩ = some (.slice va vn vc) := by rw [← hvv]; exact below_cell HBW.out (HGC.out d hdl)
          have d0 := below_cell HBW.out HR3.out
          have HUK : Hid (U k = .slice va vn vc) := Lib.hid (by rw [← hvv, ← HU.out, ← hd])
          have hdI : (d : Int) < (rs.length : Int) := by omega
          clear hvn hvv hdd hdc hdn hd
          go_wp2
          refine wp_region_noPanic ?_
          refine wp_region_late (S := (fun w' => w'.cell? ⟨rb, ro + 1, none⟩ = some (.slice (some ⟨gb, goff, none⟩) rs.length rc) ∧ w'.cell? ⟨db, doff + k, none⟩ = some (.int .i64 (d : Int)) ∧ w'.cell? ⟨gb, goff + d, none⟩ = some (.slice va vn vc) ∧ Below w3.heap.size w3 w' ∧ w'.ownsRow w3.heap.size 22 1 (.slice la k lc) k ((List.range k).map U))) [12] (by kernel_rfl) ?_ (fun hHeld => ?_)
          · exact ⟨d0, d1, d2, HBW.out.drew, HLS.out⟩
          refine wpAnyL_free (i := 0) (v := ?_) (some 52) rfl rfl (by kernel_rfl) (by kernel_rfl) (by kernel_rfl) (by decide) (fun _ _ _ h => h) (Or.inl ⟨by rfl, ?_⟩) (fun h0 => by assumption) ?_
          rotate_left
          · intro wS
            go_simp
            try with_reducible rfl
          try simp only [Act.put, List.setIfInBounds_toArray, List.set_cons_zero, List.set_cons_succ]
          refine wpAnyL_free (i := 1) (v := ?_) (some 53) rfl rfl (by kernel_rfl) (by kernel_rfl) (by kernel_rfl) (by decide) (fun _ _ _ h => h) (Or.inl ⟨by rfl, ?_⟩) (fun h0 => by assumption) ?_
          rotate_left
          · intro wS
            go_simp
            try with_reducible rfl
          try simp only [Act.put, List.setIfInBounds_toArray, List.set_cons_zero, List.set_cons_succ]
          refine wpAnyL_free (i := 2) (v := ?_) (some 54) rfl rfl (by kernel_rfl) (by kernel_rfl) (by kernel_rfl) (by decide) (fun _ _ _ h => h) (Or.inl ⟨by rfl, ?_⟩) (fun h0 => by assumption) ?_
          rotate_left
          · intro wS
            go_simp
            try with_reducible rfl
          try simp only [Act.put, List.setIfInBounds_toArray, List.set_cons_zero, List.set_cons_succ]
          refine wpAnyL_free (i := 3) (v := ?_) (some 55) rfl rfl (by kernel_rfl) (by kernel_rfl) (by kernel_rfl) (by decide) (fun _ _ _ h => h) (Or.inl ⟨by rfl, ?_⟩) (fun h0 => by assumption) ?_
          rotate_left
          · intro wS
            go_simp
            try with_reducible rfl
          try simp only [Act.put, List.setIfInBounds_toArray, List.set_cons_zero, List.set_cons_succ]
          refine wpAnyL_take (i := 4) (v := ?_) (some 56) rfl rfl (by kernel_rfl) (by kernel_rfl) (by kernel_rfl) (by kernel_rfl) (by kernel_rfl) (fun _ _ _ h => h) (Or.inl ⟨by rfl, ?_⟩) (by assumption) ?_
          rotate_left
          · intro wS hSw
            try dsimp only at hSw
            go_simp
            try with_reducible rfl
          try simp only [Act.put, List.setIfInBounds_toArray, List.set_cons_zero, List.set_cons_succ]
          refine wpAnyL_free (i := 5) (v := ?_) (some 57) rfl rfl (by kernel_rfl) (by kernel_rfl) (by kernel_rfl) (by decide) (fun _ _ _ h => h) (Or.inl ⟨by rfl, ?_⟩) (fun h0 => by assumption) ?_
          rotate_left
          · intro wS
            go_simp
            try with_reducible rfl
          try simp only [Act.put, List.setIfInBounds_toArray, List.set_cons_zero, List.set_cons_succ]
          refine wpAnyL_free (i := 6) (v := ?_) (some 58) rfl rfl (by kernel_rfl) (by kernel_rfl) (by kernel_rfl) (by decide) (fun _ _ _ h => h) (Or.inl ⟨by rfl, ?_⟩) (fun h0 => by assumption) ?_
          rotate_left
          · intro wS
            go_simp
            try with_reducible rfl
          try simp only [Act.put, List.setIfInBounds_toArray, List.set_cons_zero, List.set_cons_succ]
          refine wpAnyL_free (i := 7) (v := ?_) (some 59) rfl rfl (by kernel_rfl) (by kernel_rfl) (by kernel_rfl) (by decide) (fun _ _ _ h => h) (Or.inl ⟨by rfl, ?_⟩) (fun h0 => by assumption) ?_
          rotate_left
          · intro wS
            go_simp
            try with_reducible rfl
          try simp only [Act.put, List.setIfInBounds_toArray, List.set_cons_zero, List.set_cons_succ]
          refine wpAnyL_take (i := 8) (v := ?_) (some 60) rfl rfl (by kernel_rfl) (by kernel_rfl) (by kernel_rfl) (by kernel_rfl) (by kernel_rfl) (fun _ _ _ h => h) (Or.inl ⟨by rfl, ?_⟩) (by assumption) ?_
          rotate_left
          · intro wS hSw
            try dsimp only at hSw
            go_simp
            try with_reducible rfl
          try simp only [Act.put, List.setIfInBounds_toArray, List.set_cons_zero, List.set_cons_succ]
          refine wpAnyL_free (i := 9) (v := ?_) (some 61) rfl rfl (by kernel_rfl) (by kernel_rfl) (by kernel_rfl) (by decide) (fun _ _ _ h => h) (Or.inl ⟨by rfl, ?_⟩) (fun h0 => by assumption) ?_
          rotate_left
          · intro wS
            go_simp
            try with_reducible rfl
          try simp only [Act.put, List.setIfInBounds_toArray, List.set_cons_zero, List.set_cons_succ]
          refine wpAnyL_take (i := 10) (v := ?_) (some 62) rfl rfl (by kernel_rfl) (by kernel_rfl) (by kernel_rfl) (by kernel_rfl) (by kernel_rfl) (fun _ _ _ h => h) (Or.inl ⟨by rfl, ?_⟩) (by assumption) ?_
          rotate_left
          · intro wS hSw
            try dsimp only at hSw
            go_simp
            try with_reducible rfl
          try simp only [Act.put, List.setIfInBounds_toArray, List.set_cons_zero, List.set_cons_succ]
          refine wpAnyL_ready (rs := [11]) (by kernel_rfl) (by simp) ?_
          refine AllReadyL.cons rfl (fun K hK => ?_) AllReadyL.nil
          go_simp
          refine hK.out _ _ ?_ (fun hHeld => ?_)
          · exact ⟨below_cell ((Below.refl _ _).alloc (Nat.le_refl _) _) hHeld.1, below_cell ((Below.refl _ _).alloc (Nat.le_refl _) _) hHeld.2.1, below_cell ((Below.refl _ _).alloc (Nat.le_refl _) _) hHeld.2.2.1, hHeld.2.2.2.1.trans (((Below.refl _ _).alloc (Nat.le_refl _) _).mono hHeld.2.2.2.1.size), hHeld.2.2.2.2.alloc _⟩
          clear hK K
          try simp only [Act.put, List.setIfInBounds_toArray, List.set_cons_zero, List.set_cons_succ]
          refine wpAnyL_ready (rs := [12]) (by kernel_rfl) (by simp) ?_
          refine AllReadyL.last rfl (by kernel_rfl) (fun K hK => ?_) AllReadyL.nil
          refine step_append_lies _ (by rfl) _ _ 25 (by rfl) w3.heap.size 22 i0 (.slice none 0 0) 1 24 Try.underlying25 hi0 hz0 hz1 hz2 (by rfl) (by decide) (.slice la k lc) k _ (by rfl) hHeld.2.2.2.2 _ 1 1 [.slice va vn vc] (by rfl) (by rfl) (cell_one_new _ _ _) (by simp [Value.oneCell']) (by omega) (by unfold maxLen; omega) (by omega) hHeld.2.2.2.1.size _ rfl ?_; intro g5 cap5 w5 hown5 hgrow5 hat5 hlt5
          have HO5 := Lib.hid hown5
          have HB5 := Lib.hid (hHeld.2.2.2.1.grown hgrow5 hHeld.2.2.2.1.size (fun g hg => (hHeld.2.2.2.2.lt g hg).1))
          clear hown5 hgrow5 hat5 hlt5
          refine hK.out _ _ ?_
          clear hK K
          try simp only [Act.put, List.setIfInBounds_toArray, List.set_cons_zero, List.set_cons_succ]
          refine wpAnyL_free (i := 13) (v := ?_) (some 14) rfl rfl (by kernel_rfl) (by kernel_rfl) (by kernel_rfl) (by decide) (fun _ _ _ h => h) (Or.inl ⟨by rfl, ?_⟩) (fun h0 => absurd h0 (by decide)) ?_
          rotate_left
          · intro wS
            go_simp
            try with_reducible rfl
          try simp only [Act.put, List.setIfInBounds_toArray, List.set_cons_zero, List.set_cons_succ]
          refine wpAnyL_done (by kernel_rfl) ?_ _
          refine NoPanic.normal ?_
          clear hHeld d0 d1 d2
          go_wp2
          go_roundw
          case rel => exact ⟨k + 1, _, _, by omega, by go_num, rfl, (by
            have h := HO5.out
            rw [show ((List.range k).map U ++ [Value.slice va vn vc]) = (List.range (k + 1)).map U by rw [List.range_succ, List.map_append, ← HUK.out]; rfl] at h
            exact h), HB5.out⟩
          case measure => simp [intOf]; omega

        · obtain rfl : ar = k := by omega
          obtain ⟨X, hX⟩ : ∃ X, pickN rs (digL rs.length ar j) = X := ⟨_, rfl⟩
          have hXl : X.length = ar := by rw [← hX, pickN_len, digL_len]
          have hX0 : (rowN X 0).length = q := by rw [← hX]; exact pickN_zero ha1 hn1 HTUP.out
          have hXt : ∀ t, t < ar → TupP s q (rowN X t) := by rw [← hX]; exact pickN_tups hn1 HTUP.out
          have hXr : ∀ t, t < ar → rowN X t = rowN rs (digN rs.length ar j t) := fun t ht => by rw [← hX]; exact pickN_at _ _ _ _ _ ht
          have hXs : X.length + (X.map List.length).sum ≤ 1048576 := by
            have h1 := pickN_sum (m := ar) (j := j) hn1 HTUP.out
            rw [hX] at h1
            rw [h1, hXl]
            have h2 : ar * q ≤ 3 * 4 := Nat.mul_le_mul ha3 hq4
            omega
          have HXE := Lib.hid hX
          have HXL := Lib.hid hXl
          have HXT := Lib.hid hXt
          have HTS : Hid (TupsP s ar X) := Lib.hid ⟨by rw [hXl], fun t ht => by rw [hX0]; exact hXt t (by omega)⟩
          have HURW : Hid (∀ t, t < ar → RowAt w3 (U t) (rowN X t)) := Lib.hid fun t ht => by
            rw [hXr t ht, ← HU.out]
            exact HVR.out _ (Nat.mod_lt _ hn1)
          have HGR : Hid (GridAt wr (.slice la ar lc) X) := Lib.hid (grid_own HLS.out hXl fun t ht => (HURW.out t ht).below HBW.out)
          have HFA : Hid (OpAt wr fb fo ar tab) := Lib.hid (HF.out.below (HB03.out.trans (HBW.out.mono HB03.out.size)))
          obtain ⟨M, hM⟩ : ∃ M, madeN s tab X q = M := ⟨_, rfl⟩
          have HMT : Hid (TupP s q M) := Lib.hid (by rw [← hM]; exact made_tup hs1 HOK.out HTS.out hX0)
          have HME := Lib.hid hM
          have HX0 := Lib.hid hX0
          clear hX hXl hX0 hXt hXr hM
          go_wp2_with fail
          refine (l02Make s ar fb fo tab _ X _ HFA.out HGR.out HOK.out HTS.out hXs).mono ?_
          rw [HX0.out, HME.out]
          rintro e w6 ⟨ma, mn, mc, rfl, hm, hb6⟩
          have HMR := Lib.hid hm.row.rowAt
          have HB6 := Lib.hid hb6
          have HB36 : Hid (Below w3.heap.size w3 w6) := Lib.hid (HBW.out.trans (hb6.mono HBW.out.size))
          have HB16 : Hid (Below w1.heap.size w1 w6) := Lib.hid (HBL.out.trans ((HB3.out.trans (HB36.out.mono HB3.out.size)).mono HBL.out.size))
          have HS6 := Lib.hid (HS1.out.below HB16.out)
          obtain ⟨m, hme⟩ : ∃ m, codeN s M = m := ⟨_, rfl⟩
          have hmq : m < s ^ q := by rw [← hme]; exact codeN_pow hs1 HMT.out
          have c2 := HS6.out.c2
          have cm := HS6.out.at m hmq
          obtain ⟨bv, hbv⟩ : ∃ bv, setOf s rs m = bv := ⟨_, rfl⟩
          rw [hbv] at cm
          have hmI : (m : Int) < ((s ^ q : Nat) : Int) := by omega
          obtain ⟨sq, hsq⟩ : ∃ sq, s ^ q = sq := ⟨_, rfl⟩
          rw [hsq] at c2 hmI hmq
          have HMC := Lib.hid hme
          have HBV : Hid (setOf s rs (codeN s (madeN s tab (pickN rs (digL rs.length ar j)) q)) = bv) := Lib.hid (by rw [HXE.out, HME.out, hme]; exact hbv)
          have HIS : Hid (In14 (s : Int)) := Lib.hid (show In14 (s : Int) from ⟨by omega, by omega⟩)
          have HIQ : Hid (In14 (q : Int)) := Lib.hid (show In14 (q : Int) from ⟨by omega, by omega⟩)
          clear hm hb6 hme hbv hsq hmq hXs
          go_wp2
          go_quiet ((go_at_call 138; exact QW.calls_same (l01CodeN _ M q s m _ (HMR.out.below (((QW.refl _).drewN _).bel)) HIS.out HIQ.out HMT.out HMC.out)))
          cases bv with
          | true =>
            have HNB : Hid (¬ BrkAt s ar q tab rs j) := Lib.hid fun h => by unfold BrkAt at h; rw [HBV.out] at h; exact absurd h (by simp)
            go_wp2
            go_roundw
            case rel =>
              refine ⟨j + 1, by omega, by go_num, fun j' hj' => ?_, HB16.out.trans (((QW.refl _).drewN _).below _)⟩
              by_cases hjj : j' = j
              · subst hjj; exact HNB.out
              · exact HA.out j' (by omega)
            case measure => simp [intOf]; omega
          | false =>
            have hv := HB.out.is_true ⟨j, by rw [HN.out]; exact hlt, HBV.out⟩
            subst hv
            have HB67 := Lib.hid (((QW.refl w6).drewN nq).bel)
            obtain ⟨w7, hw7⟩ : ∃ w7, w6.drewN nq = w7 := ⟨_, rfl⟩
            rw [hw7] at HB67 ⊢
            have HB37 : Hid (Below w3.heap.size w3 w7) := Lib.hid (HB36.out.trans (HB67.out.mono HB36.out.size))
            have HLS7 : Hid (GridAt w7 (.slice la ar lc) X) := Lib.hid ((HGR.out.below HB6.out).below HB67.out)
            have HB07 : Hid (Below w.heap.size w w7) := Lib.hid (HB03.out.trans (HB37.out.mono HB03.out.size))
            clear hw7 c2 cm
            go_wp2
            clear HLS HGR HS6 HMR HFA HBW HB6
            obtain ⟨wo2, rfl⟩ : ∃ wo2, wo2 = wr := ⟨_, rfl⟩
            obtain ⟨V2, ⟨la', lc', hle, -, hlc⟩, hV2⟩ := HLS7.out
            rw [HXL.out] at hle hlc hV2
            simp only [Value.slice.injEq] at hle
            obtain ⟨rfl, -, rfl⟩ := hle
            obtain ⟨lb, loff, rfl, hlcc⟩ := hlc ha1
            have HLC := Lib.hid hlcc
            have HV2 := Lib.hid hV2
            have HL1 : Hid ((w7.alloc (.cells #[] 22)).ownsRow w7.heap.size 22 1 (.slice (some ⟨w7.heap.size, 0, none⟩) 0 0) 0 []) := Lib.hid (World.ownsRow_lit (e := 22) (size := 1) w7 #[] 0 (Nat.le_refl _) (by unfold maxLen; omega) (by simp))
            clear hlc hlcc hV2
            go_loopw [17, 18] (fun v i wr => ∃ (k : Nat) (oa : Option Addr) (oc : Nat) (vs : List Value), k ≤ ar ∧ i = .int .i64 k ∧ v = .slice oa k oc ∧ wr.ownsRow w7.heap.size 22 1 (.slice oa k oc) k vs ∧ Below w7.heap.size w7 wr) (fun _ i _ => ar - (intOf i).toNat)
            case atStart => exact ⟨0, _, _, _, Nat.zero_le _, rfl, rfl, HL1.out, (Below.refl _ _).alloc (Nat.le_refl _) _⟩
            case round =>
              obtain ⟨k, oa, oc, vs, hk, rfl, rfl, hown, hbw⟩ := hrel
              have HO2 := Lib.hid hown
              have HW2 := Lib.hid hbw
              clear hown hbw
              by_cases hkl : k < ar
              · have hka : (k : Int) < (ar : Int) := by omega
                have hx := below_cell HW2.out (HLC.out k hkl)
                obtain ⟨va, vc, hvv, hvn, hvc⟩ := HV2.out k hkl
                have hrl : (rowN X k).length = q := by have := (HXT.out k hkl).1; omega
                rw [hvv] at hx
                have HRW : Hid (RowAt wr (.slice va (rowN X k).length vc) (rowN X k)) := Lib.hid (RowAt.below ⟨va, vc, rfl, hvn, hvc⟩ HW2.out)
                obtain ⟨vn, hvne⟩ : ∃ vn, (rowN X k).length = vn := ⟨_, rfl⟩
                rw [hvne] at hx HRW
                have HVN := Lib.hid hvne
                have HVQ : Hid (vn = q) := Lib.hid (by rw [← hvne]; exact hrl)
                clear hvv hvn hvc hrl hvne
                go_wp2_with (first | (go_at_call 139; refine (l00Own _ _ _ (rowN X k) _ HRW.out (by rw [HVN.out, HVQ.out]; exact hq1) (by rw [HVN.out, HVQ.out]; omega)).mono ?_; rintro e w9 ⟨a9, c9, rfl, ho9, hb9⟩; have HB9 := Lib.hid hb9; have HC9 := Lib.hid (cell_one_new w9 (.slice a9 (rowN X k).length c9) 22); clear ho9 hb9) | (at_builtin; refine wpList_append_own _ rfl _ _ 25 rfl w7.heap.size 22 i0 (.slice none 0 0) 1 24 Try.underlying25 hi0 hz0 hz1 hz2 rfl (by decide) (.slice oa k oc) k _ rfl ((ownsRow_below HO2.out HB9.out).alloc _) ⟨w9.heap.size, 0, none⟩ 1 1 [.slice a9 (rowN X k).length c9] rfl rfl HC9.out (by simp [Value.oneCell']) (by unfold maxLen; omega) (by omega) (by have := HW2.out.size; have := HB9.out.size; simp; omega) ?_; intro v' w10 hown' hgrow _; obtain ⟨g', c', rfl⟩ := ownsRow_succ hown'; have HG3 := Lib.hid hown'; have HR3 := Lib.hid hgrow; clear hown' hgrow))
                go_roundw
                case rel => refine ⟨_, _, _, _, _, _, _, _, _, _, _, _, _, _, _, _, ?_, rfl⟩; exact ⟨k + 1, _, _, _, by omega, by go_num, rfl, HG3.out, (((HW2.out.trans (HB9.out.mono HW2.out.size)).alloc (by have := HW2.out.size; have := HB9.out.size; omega) _).grown HR3.out (by have := HW2.out.size; have := HB9.out.size; simp; omega) (fun q hq => (HO2.out.lt q hq).1))⟩
                case measure => simp [intOf]; omega
              · obtain rfl : ar = k := by omega
                go_wp2
                go_ret3
                exact ⟨_, _, rfl, HB07.out.trans (HW2.out.mono HB07.out.size)⟩
    · obtain rfl : j = N := by omega
      have hv := HB.out.is_false fun ⟨j', h1, h2⟩ => HA.out j' (by rw [← HN.out]; exact h1) h2
      subst hv
      go_wp2
      go_ret3
      exact ⟨_, _, rfl, HB1.out.trans ((HBL.out.mono HB1.out.size).trans ((((Below.refl _ _).alloc (Nat.le_refl _) _).mono (by have := HB1.out.size; have := HBL.out.size; omega)).alloc (by have := HB1.out.size; have := HBL.out.size; simp; omega) _))⟩

end Go.Proofs.Ytoojgaaggdnpiaa

namespace Go.Proofs.Ytoojgaaggdnpiaa
open Go.RowKit

theorem RelOk.fewK {size ar : Int} {xss : List (List Int)} (h : RelOk size ar xss) : xss.length ≤ 256 := h.few

theorem RelAt.newK (w : World) (ar : Int) (a : Option Addr) (n c : Nat) (xs : List (List Int)) (t : TypeId) (h : GridAt w (.slice a n c) xs) : RelAt (w.alloc (.cells #[.int .i64 ar, .slice a n c] t)) w.heap.size 0 ar xs :=
  ⟨by simp [World.cell?_alloc_new], a, n, c, by simp [World.cell?_alloc_new], h.below ((Below.refl _ _).alloc (Nat.le_refl _) _)⟩

set_option linter.unusedSimpArgs false in
set_option maxHeartbeats 4000000 in
set_option maxRecDepth 100000 in
theorem l02KeepsC (s ar q : Nat) (fb fo rb ro : Nat) (tab : List Int) (rs : List (List Int)) (b : Bool) (w : World) (hf : OpAt w fb fo ar tab) (ho : OpOk s ar tab) (hr : RelAt w rb ro q rs) (hk : RelOk s q rs) (hb : Tells b (¬ Brk s ar q tab rs)) :
    Calls Try.prog 68 #[.int .i64 s, .pointer (some ⟨fb, fo, none⟩), .pointer (some ⟨rb, ro, none⟩)] w fun e w' => e = .returned (.bool b) ∧ Below w.heap.size w w' := by
  have HF := Lib.hid hf
  have HO := Lib.hid ho
  have HR := Lib.hid hr
  have HK := Lib.hid hk
  have HL := Lib.hid hk.fewK
  by_cases h : Brk s ar q tab rs
  · have hv := hb.is_false fun k => k h
    subst hv
    have HT := Lib.hid (Tells.yes h)
    clear hf ho hr hk hb h
    go_enter Try.func68, Try.ntmps68
    go_wp2_with fail
    refine (l02BreaksC s ar q fb fo rb ro tab rs true _ HF.out HO.out HR.out HK.out HL.out HT.out).mono ?_
    rintro e w2 ⟨v1, v2, rfl, hb2⟩
    go_wp2
    go_ret
    exact ⟨rfl, hb2⟩
  · have hv := hb.is_true h
    subst hv
    have HT := Lib.hid (Tells.no h)
    clear hf ho hr hk hb h
    go_enter Try.func68, Try.ntmps68
    go_wp2_with fail
    refine (l02BreaksC s ar q fb fo rb ro tab rs false _ HF.out HO.out HR.out HK.out HL.out HT.out).mono ?_
    rintro e w2 ⟨v1, v2, rfl, hb2⟩
    go_wp2
    go_ret
    exact ⟨rfl, hb2⟩

set_option linter.unusedSimpArgs false in
set_option maxHeartbeats 4000000 in
set_option maxRecDepth 100000 in
theorem l02BothC (size : Int) (fb fo rb ro : Nat) (ar q : Int) (tab : List Int) (rs : List (List Int)) (cd : Int) (w : World) (hf : OpAt w fb fo ar tab) (hr : RelAt w rb ro q rs) (hc : (OpOk size ar tab ∧ RelOk size q rs ∧ cd = 0) ∨ (¬ (OpOk size ar tab ∧ RelOk size q rs) ∧ cd = 1)) :
    Calls Try.prog 67 #[.int .i64 size, .pointer (some ⟨fb, fo, none⟩), .pointer (some ⟨rb, ro, none⟩)] w fun e w' => e = .returned (.int .i64 cd) ∧ Below w.heap.size w w' := by
  have HF := Lib.hid hf
  have HR := Lib.hid hr
  by_cases h1 : OpOk size ar tab
  · have HO := Lib.hid (Tells.yes h1)
    by_cases h2 : RelOk size q rs
    · have HK := Lib.hid (Tells.yes h2)
      obtain rfl : cd = 0 := by rcases hc with ⟨_, _, h⟩ | ⟨h, _⟩; exact h; exact absurd ⟨h1, h2⟩ h
      clear hf hr hc h1 h2
      go_enter Try.func67, Try.ntmps67
      go_wp2_with fail
      refine (l02Ok _ _ _ _ _ true _ HF.out HO.out).mono ?_
      rintro e w1 ⟨rfl, hq1⟩
      have HQ1 := Lib.hid hq1
      clear hq1
      go_wp2_with fail
      refine (l01Ok _ _ _ _ _ true _ (HR.out.below HQ1.out.bel) HK.out).mono ?_
      rintro e w2 ⟨rfl, hq2⟩
      go_wp2
      go_ret
      exact ⟨rfl, HQ1.out.bel.trans (hq2.below _)⟩
    · have HK := Lib.hid (Tells.no h2)
      obtain rfl : cd = 1 := by rcases hc with ⟨_, h, _⟩ | ⟨_, h⟩; exact absurd h h2; exact h
      clear hf hr hc h1 h2
      go_enter Try.func67, Try.ntmps67
      go_wp2_with fail
      refine (l02Ok _ _ _ _ _ true _ HF.out HO.out).mono ?_
      rintro e w1 ⟨rfl, hq1⟩
      have HQ1 := Lib.hid hq1
      clear hq1
      go_wp2_with fail
      refine (l01Ok _ _ _ _ _ false _ (HR.out.below HQ1.out.bel) HK.out).mono ?_
      rintro e w2 ⟨rfl, hq2⟩
      go_wp2
      go_ret
      exact ⟨rfl, HQ1.out.bel.trans (hq2.below _)⟩
  · have HO := Lib.hid (Tells.no h1)
    obtain rfl : cd = 1 := by rcases hc with ⟨h, _, _⟩ | ⟨_, h⟩; exact absurd h h1; exact h
    clear hf hr hc h1
    go_enter Try.func67, Try.ntmps67
    go_wp2_with fail
    refine (l02Ok _ _ _ _ _ false _ HF.out HO.out).mono ?_
    rintro e w1 ⟨rfl, hq1⟩
    go_wp2
    go_ret
    exact ⟨rfl, hq1.below _⟩

/-- What Keeps answers. -/
def KeepsIs (size ar : Int) (tab : List Int) (q : Int) (rs : List (List Int)) (b : Bool) (cd : Int) : Prop :=
  (OpOk size ar tab ∧ RelOk size q rs ∧ cd = 0 ∧ Tells b (¬ Brk size.toNat ar.toNat q.toNat tab rs)) ∨ (¬ (OpOk size ar tab ∧ RelOk size q rs) ∧ cd = 1 ∧ b = false)
theorem KeepsIs.exists (size ar : Int) (tab : List Int) (q : Int) (rs : List (List Int)) : ∃ b cd, KeepsIs size ar tab q rs b cd := by
  by_cases h1 : OpOk size ar tab ∧ RelOk size q rs
  · by_cases h3 : Brk size.toNat ar.toNat q.toNat tab rs
    · exact ⟨false, 0, .inl ⟨h1.1, h1.2, rfl, Tells.no fun k => k h3⟩⟩
    · exact ⟨true, 0, .inl ⟨h1.1, h1.2, rfl, Tells.yes h3⟩⟩
  · exact ⟨false, 1, .inr ⟨h1, rfl, rfl⟩⟩

set_option linter.unusedSimpArgs false in
set_option maxHeartbeats 4000000 in
set_option maxRecDepth 100000 in
theorem specKeeps (size ar : Int) (a : Option Addr) (n c : Nat) (tab : List Int) (q : Int) (a2 : Option Addr) (n2 c2 : Nat) (rs : List (List Int)) (b : Bool) (cd : Int) (w : World) (h : RowAt w (.slice a n c) tab) (hr : GridAt w (.slice a2 n2 c2) rs) (hi : KeepsIs size ar tab q rs b cd) :
    Calls Try.prog 17 #[.int .i64 size, .agg #[.int .i64 ar, .slice a n c], .agg #[.int .i64 q, .slice a2 n2 c2]] w fun e w' => e = .returned (.tuple #[.bool b, .int .i64 cd]) ∧ Below w.heap.size w w' := by
  have hb1 : Below w.heap.size w (w.alloc (.cells #[.int .i64 ar, .slice a n c] 32)) := (Below.refl _ _).alloc (Nat.le_refl _) _
  have hb2 : Below (w.alloc (.cells #[.int .i64 ar, .slice a n c] 32)).heap.size (w.alloc (.cells #[.int .i64 ar, .slice a n c] 32)) ((w.alloc (.cells #[.int .i64 ar, .slice a n c] 32)).alloc (.cells #[.int .i64 q, .slice a2 n2 c2] 34)) := (Below.refl _ _).alloc (Nat.le_refl _) _
  have HF := Lib.hid ((OpAt.new w ar a n c tab 32 h).below hb2)
  have hrr := RelAt.newK (w.alloc (.cells #[.int .i64 ar, .slice a n c] 32)) q a2 n2 c2 rs 34 (hr.below hb1)
  rw [World.size_alloc] at hrr
  have HR := Lib.hid hrr
  have HW : Hid (Below w.heap.size w ((w.alloc (.cells #[.int .i64 ar, .slice a n c] 32)).alloc (.cells #[.int .i64 q, .slice a2 n2 c2] 34))) := Lib.hid (hb1.trans (hb2.mono (by simp)))
  clear h hr hb1 hb2 hrr
  rcases hi with ⟨h1, h2, rfl, h3⟩ | ⟨h1, rfl, rfl⟩
  · obtain ⟨s, rfl⟩ : ∃ s : Nat, size = (s : Int) := ⟨size.toNat, by have := h1.1.1; omega⟩
    obtain ⟨ar, rfl⟩ : ∃ k : Nat, ar = (k : Int) := ⟨ar.toNat, by have := h1.2.1.1; omega⟩
    obtain ⟨q, rfl⟩ : ∃ k : Nat, q = (k : Int) := ⟨q.toNat, by have := h2.2.1.1; omega⟩
    rw [Int.toNat_natCast, Int.toNat_natCast, Int.toNat_natCast] at h3
    have H1 := Lib.hid h1
    have H2 := Lib.hid h2
    have H3 := Lib.hid h3
    clear h1 h2 h3
    go_enter Try.func17, Try.ntmps17
    go_wp2_with fail
    refine (l02BothC _ _ _ _ _ _ _ tab rs 0 _ HF.out HR.out (.inl ⟨H1.out, H2.out, rfl⟩)).mono ?_
    rintro e w2 ⟨rfl, hb2⟩
    have HB2 := Lib.hid hb2
    clear hb2
    go_wp2_with fail
    refine (l02KeepsC s ar q _ _ _ _ tab rs b _ (HF.out.below HB2.out) H1.out (HR.out.below HB2.out) H2.out H3.out).mono ?_
    rintro e w3 ⟨rfl, hb3⟩
    go_wp2
    go_ret2
    exact ⟨rfl, HW.out.trans ((HB2.out.trans (hb3.mono HB2.out.size)).mono HW.out.size)⟩
  · have H1 := Lib.hid h1
    clear h1
    go_enter Try.func17, Try.ntmps17
    go_wp2_with fail
    refine (l02BothC _ _ _ _ _ _ _ tab rs 1 _ HF.out HR.out (.inr ⟨H1.out, rfl⟩)).mono ?_
    rintro e w2 ⟨rfl, hb2⟩
    go_wp2
    go_ret2
    exact ⟨rfl, HW.out.trans (hb2.mono HW.out.size)⟩

end Go.Proofs.Ytoojgaaggdnpiaa

namespace Go.Proofs.Ytoojgaaggdnpiaa
open Go.RowKit

/-- The k-th relation of a template is broken. -/
def BrkN (s ar : Nat) (tab : List Int) (rs : List (Int × List (List Int))) (k : Nat) : Prop := Brk s ar (arN rs k).toNat tab (gridN rs k)
/-- The first relation that is broken, or -1. -/
def FirstB (s ar : Nat) (tab : List Int) (rs : List (Int × List (List Int))) (m : Int) : Prop :=
  (∃ k : Nat, k < rs.length ∧ m = k ∧ BrkN s ar tab rs k ∧ ∀ j, j < k → ¬ BrkN s ar tab rs j) ∨ (m = -1 ∧ ∀ j, j < rs.length → ¬ BrkN s ar tab rs j)
theorem FirstB.some {s ar : Nat} {tab : List Int} {rs : List (Int × List (List Int))} {m : Int} {k : Nat} (h : FirstB s ar tab rs m) (hk : k < rs.length) (hb : BrkN s ar tab rs k) (hn : ∀ j, j < k → ¬ BrkN s ar tab rs j) : m = k := by
  rcases h with ⟨k', h1, h2, h3, h4⟩ | ⟨_, h2⟩
  · rcases Nat.lt_trichotomy k k' with hl | rfl | hl
    · exact absurd hb (h4 k hl)
    · exact h2
    · exact absurd h3 (hn k' hl)
  · exact absurd hb (h2 k hk)
theorem FirstB.none {s ar : Nat} {tab : List Int} {rs : List (Int × List (List Int))} {m : Int} (h : FirstB s ar tab rs m) (hn : ∀ j, j < rs.length → ¬ BrkN s ar tab rs j) : m = -1 := by
  rcases h with ⟨k', h1, h2, h3, h4⟩ | ⟨h1, _⟩
  · exact absurd h3 (hn k' h1)
  · exact h1
theorem FirstB.exists (s ar : Nat) (tab : List Int) (rs : List (Int × List (List Int))) : ∃ m, FirstB s ar tab rs m := by
  obtain ⟨o, ho⟩ := FirstJ.exists (BrkN s ar tab rs) rs.length
  cases o with
  | none => exact ⟨-1, .inr ⟨rfl, ho⟩⟩
  | some k => exact ⟨k, .inl ⟨k, ho.1, rfl, ho.2.1, ho.2.2⟩⟩

set_option linter.unusedSimpArgs false in
set_option maxHeartbeats 4000000 in
set_option maxRecDepth 100000 in
theorem l02FirstC (s ar : Nat) (fb fo tb to : Nat) (tab : List Int) (rs : List (Int × List (List Int))) (m : Int) (w : World) (hf : OpAt w fb fo ar tab) (ho : OpOk s ar tab) (hr : TplAt w tb to s rs) (hk : TplOk s rs) (hm : FirstB s ar tab rs m) :
    Calls Try.prog 77 #[.pointer (some ⟨tb, to, none⟩), .pointer (some ⟨fb, fo, none⟩)] w fun e w' => e = .returned (.int .i64 m) ∧ Below w.heap.size w w' := by
  have HF := Lib.hid hf
  have HOK := Lib.hid ho
  have HTK := Lib.hid hk
  have HMM := Lib.hid hm
  obtain ⟨t0, a, n, c, t1, a', c', hv, hn, hc⟩ := hr
  simp only [Value.slice.injEq] at hv
  obtain ⟨rfl, rfl, rfl⟩ := hv
  have HC := Lib.hid hc
  have hl6 := hk.2.1
  have HT0 := Lib.hid t0
  have HT1 := Lib.hid t1
  clear hf ho hk hm hc hn t0 t1
  go_enter Try.func77, Try.ntmps77
  go_wp2
  go_loopw [5] (fun i wr => ∃ k : Nat, k ≤ rs.length ∧ i = .int .i64 k ∧ (∀ j, j < k → ¬ BrkN s ar tab rs j) ∧ Below w.heap.size w wr) (fun i _ => rs.length - (intOf i).toNat)
  case atStart => exact ⟨0, Nat.zero_le _, rfl, fun j hj => absurd hj (Nat.not_lt_zero _), Below.refl _ _⟩
  case round =>
    obtain ⟨k, hkk, rfl, hall, hw⟩ := hrel
    have HA := Lib.hid hall
    have HW := Lib.hid hw
    have d0 := below_cell hw HT0.out
    have d1 := below_cell hw HT1.out
    clear hall hw
    by_cases hlt : k < rs.length
    · obtain ⟨b1, off1, rfl, hcl⟩ := HC.out (by omega)
      have hlt2 : (k : Int) < (rs.length : Int) := by omega
      have hrk := HTK.out.2.2 k hlt
      obtain ⟨qn, hq⟩ : ∃ qn : Nat, arN rs k = (qn : Int) := ⟨(arN rs k).toNat, by have := hrk.2.1.1; omega⟩
      have hra := hcl k hlt
      rw [hq] at hra hrk
      have HRK := Lib.hid (hra.below HW.out)
      have HKK := Lib.hid hrk
      have HF3 := Lib.hid (HF.out.below HW.out)
      have HQ := Lib.hid hq
      clear hcl hra hrk hq
      by_cases hb : Brk s ar qn tab (gridN rs k)
      · have HTB : Hid (Tells false (¬ Brk s ar qn tab (gridN rs k))) := Lib.hid (Tells.no fun h => h hb)
        have HM : Hid (m = (k : Int)) := Lib.hid (HMM.out.some hlt (by unfold BrkN; rw [HQ.out, Int.toNat_natCast]; exact hb) HA.out)
        clear hb
        go_wp2
        refine wp_region_noPanic ?_
        refine wp_region_late (S := (fun w' => w'.cell? ⟨tb, to, none⟩ = some (.int .i64 (s : Int)) ∧ w'.cell? ⟨tb, to + 1, none⟩ = some (.slice (some ⟨b1, off1, none⟩) rs.length c))) [11] (by kernel_rfl) ?_ (fun hHeld => ?_)
        · exact ⟨d0, d1⟩
        refine wpAnyL_free (i := 0) (v := ?_) (some 15) rfl rfl (by kernel_rfl) (by kernel_rfl) (by kernel_rfl) (by decide) (fun _ _ _ h => h) (Or.inl ⟨by rfl, ?_⟩) (fun h0 => by assumption) ?_
        rotate_left
        · intro wS
          go_simp
          try with_reducible rfl
        try simp only [Act.put, List.setIfInBounds_toArray, List.set_cons_zero, List.set_cons_succ]
        refine wpAnyL_free (i := 1) (v := ?_) (some 16) rfl rfl (by kernel_rfl) (by kernel_rfl) (by kernel_rfl) (by decide) (fun _ _ _ h => h) (Or.inl ⟨by rfl, ?_⟩) (fun h0 => by assumption) ?_
        rotate_left
        · intro wS
          go_simp
          try with_reducible rfl
        try simp only [Act.put, List.setIfInBounds_toArray, List.set_cons_zero, List.set_cons_succ]
        refine wpAnyL_free (i := 2) (v := ?_) (some 17) rfl rfl (by kernel_rfl) (by kernel_rfl) (by kernel_rfl) (by decide) (fun _ _ _ h => h) (Or.inl ⟨by rfl, ?_⟩) (fun h0 => by assumption) ?_
        rotate_left
        · intro wS
          go_simp
          try with_reducible rfl
        try simp only [Act.put, List.setIfInBounds_toArray, List.set_cons_zero, List.set_cons_succ]
        refine wpAnyL_take (i := 3) (v := ?_) (some 18) rfl rfl (by kernel_rfl) (by kernel_rfl) (by kernel_rfl) (by kernel_rfl) (by kernel_rfl) (fun _ _ _ h => h) (Or.inl ⟨by rfl, ?_⟩) (by assumption) ?_
        rotate_left
        · intro wS hSw
          try dsimp only at hSw
          go_simp
          try with_reducible rfl
        try simp only [Act.put, List.setIfInBounds_toArray, List.set_cons_zero, List.set_cons_succ]
        refine wpAnyL_free (i := 4) (v := ?_) (some 19) rfl rfl (by kernel_rfl) (by kernel_rfl) (by kernel_rfl) (by decide) (fun _ _ _ h => h) (Or.inl ⟨by rfl, ?_⟩) (fun h0 => by assumption) ?_
        rotate_left
        · intro wS
          go_simp
          try with_reducible rfl
        try simp only [Act.put, List.setIfInBounds_toArray, List.set_cons_zero, List.set_cons_succ]
        refine wpAnyL_free (i := 5) (v := ?_) (some 20) rfl rfl (by kernel_rfl) (by kernel_rfl) (by kernel_rfl) (by decide) (fun _ _ _ h => h) (Or.inl ⟨by rfl, ?_⟩) (fun h0 => by assumption) ?_
        rotate_left
        · intro wS
          go_simp
          try with_reducible rfl
        try simp only [Act.put, List.setIfInBounds_toArray, List.set_cons_zero, List.set_cons_succ]
        refine wpAnyL_free (i := 6) (v := ?_) (some 21) rfl rfl (by kernel_rfl) (by kernel_rfl) (by kernel_rfl) (by decide) (fun _ _ _ h => h) (Or.inl ⟨by rfl, ?_⟩) (fun h0 => by assumption) ?_
        rotate_left
        · intro wS
          go_simp
          try with_reducible rfl
        try simp only [Act.put, List.setIfInBounds_toArray, List.set_cons_zero, List.set_cons_succ]
        refine wpAnyL_free (i := 7) (v := ?_) (some 22) rfl rfl (by kernel_rfl) (by kernel_rfl) (by kernel_rfl) (by decide) (fun _ _ _ h => h) (Or.inl ⟨by rfl, ?_⟩) (fun h0 => by assumption) ?_
        rotate_left
        · intro wS
          go_simp
          try with_reducible rfl
        try simp only [Act.put, List.setIfInBounds_toArray, List.set_cons_zero, List.set_cons_succ]
        refine wpAnyL_take (i := 8) (v := ?_) (some 23) rfl rfl (by kernel_rfl) (by kernel_rfl) (by kernel_rfl) (by kernel_rfl) (by kernel_rfl) (fun _ _ _ h => h) (Or.inl ⟨by rfl, ?_⟩) (by assumption) ?_
        rotate_left
        · intro wS hSw
          try dsimp only at hSw
          go_simp
          try with_reducible rfl
        try simp only [Act.put, List.setIfInBounds_toArray, List.set_cons_zero, List.set_cons_succ]
        refine wpAnyL_free (i := 9) (v := ?_) (some 24) rfl rfl (by kernel_rfl) (by kernel_rfl) (by kernel_rfl) (by decide) (fun _ _ _ h => h) (Or.inl ⟨by rfl, ?_⟩) (fun h0 => by assumption) ?_
        rotate_left
        · intro wS
          go_simp
          try with_reducible rfl
        try simp only [Act.put, List.setIfInBounds_toArray, List.set_cons_zero, List.set_cons_succ]
        refine wpAnyL_free (i := 10) (v := ?_) (some 25) rfl rfl (by kernel_rfl) (by kernel_rfl) (by kernel_rfl) (by decide) (fun _ _ _ h => h) (Or.inl ⟨by rfl, ?_⟩) (fun h0 => by assumption) ?_
        rotate_left
        · intro wS
          go_simp
          try with_reducible rfl
        try simp only [Act.put, List.setIfInBounds_toArray, List.set_cons_zero, List.set_cons_succ]
        refine wpAnyL_ready (rs := [11]) (by kernel_rfl) (by simp) ?_
        refine AllReadyL.last rfl (by kernel_rfl) (fun K hK => ?_) AllReadyL.nil
        go_simp; go_at_call 68; refine (l02KeepsC s ar qn fb fo b1 (off1 + k * 2) tab (gridN rs k) false _ (HF3.out.below ((QW.refl _).drew.bel)) HOK.out (HRK.out.below ((QW.refl _).drew.bel)) HKK.out HTB.out).mono ?_; rintro e w5 ⟨rfl, hb5⟩; have HB5 := Lib.hid hb5; clear hb5
        refine hK.out _ _ ?_
        clear hK K
        try simp only [Act.put, List.setIfInBounds_toArray, List.set_cons_zero, List.set_cons_succ]
        refine wpAnyL_free (i := 12) (v := ?_) (some 27) rfl rfl (by kernel_rfl) (by kernel_rfl) (by kernel_rfl) (by decide) (fun _ _ _ h => h) (Or.inl ⟨by rfl, ?_⟩) (fun h0 => absurd h0 (by decide)) ?_
        rotate_left
        · intro wS
          go_simp
          try with_reducible rfl
        try simp only [Act.put, List.setIfInBounds_toArray, List.set_cons_zero, List.set_cons_succ]
        refine wpAnyL_done (by kernel_rfl) ?_ _
        refine NoPanic.normal ?_
        clear hHeld
        go_wp2
        go_ret
        exact ⟨by rw [HM.out]; rfl, HW.out.trans (((QW.refl wr).drew.below _).trans (HB5.out.mono HW.out.size))⟩

      · have HTB : Hid (Tells true (¬ Brk s ar qn tab (gridN rs k))) := Lib.hid (Tells.yes hb)
        have HNB : Hid (¬ BrkN s ar tab rs k) := Lib.hid (by unfold BrkN; rw [HQ.out, Int.toNat_natCast]; exact hb)
        clear hb
        go_wp2
        refine wp_region_noPanic ?_
        refine wp_region_late (S := (fun w' => w'.cell? ⟨tb, to, none⟩ = some (.int .i64 (s : Int)) ∧ w'.cell? ⟨tb, to + 1, none⟩ = some (.slice (some ⟨b1, off1, none⟩) rs.length c))) [11] (by kernel_rfl) ?_ (fun hHeld => ?_)
        · exact ⟨d0, d1⟩
        refine wpAnyL_free (i := 0) (v := ?_) (some 15) rfl rfl (by kernel_rfl) (by kernel_rfl) (by kernel_rfl) (by decide) (fun _ _ _ h => h) (Or.inl ⟨by rfl, ?_⟩) (fun h0 => by assumption) ?_
        rotate_left
        · intro wS
          go_simp
          try with_reducible rfl
        try simp only [Act.put, List.setIfInBounds_toArray, List.set_cons_zero, List.set_cons_succ]
        refine wpAnyL_free (i := 1) (v := ?_) (some 16) rfl rfl (by kernel_rfl) (by kernel_rfl) (by kernel_rfl) (by decide) (fun _ _ _ h => h) (Or.inl ⟨by rfl, ?_⟩) (fun h0 => by assumption) ?_
        rotate_left
        · intro wS
          go_simp
          try with_reducible rfl
        try simp only [Act.put, List.setIfInBounds_toArray, List.set_cons_zero, List.set_cons_succ]
        refine wpAnyL_free (i := 2) (v := ?_) (some 17) rfl rfl (by kernel_rfl) (by kernel_rfl) (by kernel_rfl) (by decide) (fun _ _ _ h => h) (Or.inl ⟨by rfl, ?_⟩) (fun h0 => by assumption) ?_
        rotate_left
        · intro wS
          go_simp
          try with_reducible rfl
        try simp only [Act.put, List.setIfInBounds_toArray, List.set_cons_zero, List.set_cons_succ]
        refine wpAnyL_take (i := 3) (v := ?_) (some 18) rfl rfl (by kernel_rfl) (by kernel_rfl) (by kernel_rfl) (by kernel_rfl) (by kernel_rfl) (fun _ _ _ h => h) (Or.inl ⟨by rfl, ?_⟩) (by assumption) ?_
        rotate_left
        · intro wS hSw
          try dsimp only at hSw
          go_simp
          try with_reducible rfl
        try simp only [Act.put, List.setIfInBounds_toArray, List.set_cons_zero, List.set_cons_succ]
        refine wpAnyL_free (i := 4) (v := ?_) (some 19) rfl rfl (by kernel_rfl) (by kernel_rfl) (by kernel_rfl) (by decide) (fun _ _ _ h => h) (Or.inl ⟨by rfl, ?_⟩) (fun h0 => by assumption) ?_
        rotate_left
        · intro wS
          go_simp
          try with_reducible rfl
        try simp only [Act.put, List.setIfInBounds_toArray, List.set_cons_zero, List.set_cons_succ]
        refine wpAnyL_free (i := 5) (v := ?_) (some 20) rfl rfl (by kernel_rfl) (by kernel_rfl) (by kernel_rfl) (by decide) (fun _ _ _ h => h) (Or.inl ⟨by rfl, ?_⟩) (fun h0 => by assumption) ?_
        rotate_left
        · intro wS
          go_simp
          try with_reducible rfl
        try simp only [Act.put, List.setIfInBounds_toArray, List.set_cons_zero, List.set_cons_succ]
        refine wpAnyL_free (i := 6) (v := ?_) (some 21) rfl rfl (by kernel_rfl) (by kernel_rfl) (by kernel_rfl) (by decide) (fun _ _ _ h => h) (Or.inl ⟨by rfl, ?_⟩) (fun h0 => by assumption) ?_
        rotate_left
        · intro wS
          go_simp
          try with_reducible rfl
        try simp only [Act.put, List.setIfInBounds_toArray, List.set_cons_zero, List.set_cons_succ]
        refine wpAnyL_free (i := 7) (v := ?_) (some 22) rfl rfl (by kernel_rfl) (by kernel_rfl) (by kernel_rfl) (by decide) (fun _ _ _ h => h) (Or.inl ⟨by rfl, ?_⟩) (fun h0 => by assumption) ?_
        rotate_left
        · intro wS
          go_simp
          try with_reducible rfl
        try simp only [Act.put, List.setIfInBounds_toArray, List.set_cons_zero, List.set_cons_succ]
        refine wpAnyL_take (i := 8) (v := ?_) (some 23) rfl rfl (by kernel_rfl) (by kernel_rfl) (by kernel_rfl) (by kernel_rfl) (by kernel_rfl) (fun _ _ _ h => h) (Or.inl ⟨by rfl, ?_⟩) (by assumption) ?_
        rotate_left
        · intro wS hSw
          try dsimp only at hSw
          go_simp
          try with_reducible rfl
        try simp only [Act.put, List.setIfInBounds_toArray, List.set_cons_zero, List.set_cons_succ]
        refine wpAnyL_free (i := 9) (v := ?_) (some 24) rfl rfl (by kernel_rfl) (by kernel_rfl) (by kernel_rfl) (by decide) (fun _ _ _ h => h) (Or.inl ⟨by rfl, ?_⟩) (fun h0 => by assumption) ?_
        rotate_left
        · intro wS
          go_simp
          try with_reducible rfl
        try simp only [Act.put, List.setIfInBounds_toArray, List.set_cons_zero, List.set_cons_succ]
        refine wpAnyL_free (i := 10) (v := ?_) (some 25) rfl rfl (by kernel_rfl) (by kernel_rfl) (by kernel_rfl) (by decide) (fun _ _ _ h => h) (Or.inl ⟨by rfl, ?_⟩) (fun h0 => by assumption) ?_
        rotate_left
        · intro wS
          go_simp
          try with_reducible rfl
        try simp only [Act.put, List.setIfInBounds_toArray, List.set_cons_zero, List.set_cons_succ]
        refine wpAnyL_ready (rs := [11]) (by kernel_rfl) (by simp) ?_
        refine AllReadyL.last rfl (by kernel_rfl) (fun K hK => ?_) AllReadyL.nil
        go_simp; go_at_call 68; refine (l02KeepsC s ar qn fb fo b1 (off1 + k * 2) tab (gridN rs k) true _ (HF3.out.below ((QW.refl _).drew.bel)) HOK.out (HRK.out.below ((QW.refl _).drew.bel)) HKK.out HTB.out).mono ?_; rintro e w5 ⟨rfl, hb5⟩; have HB5 := Lib.hid hb5; clear hb5
        refine hK.out _ _ ?_
        clear hK K
        try simp only [Act.put, List.setIfInBounds_toArray, List.set_cons_zero, List.set_cons_succ]
        refine wpAnyL_free (i := 12) (v := ?_) (some 27) rfl rfl (by kernel_rfl) (by kernel_rfl) (by kernel_rfl) (by decide) (fun _ _ _ h => h) (Or.inl ⟨by rfl, ?_⟩) (fun h0 => absurd h0 (by decide)) ?_
        rotate_left
        · intro wS
          go_simp
          try with_reducible rfl
        try simp only [Act.put, List.setIfInBounds_toArray, List.set_cons_zero, List.set_cons_succ]
        refine wpAnyL_done (by kernel_rfl) ?_ _
        refine NoPanic.normal ?_
        clear hHeld
        go_wp2
        go_roundw
        case rel =>
          refine ⟨k + 1, by omega, by go_num, fun j hj => ?_, HW.out.trans (((QW.refl wr).drew.below _).trans (HB5.out.mono HW.out.size))⟩
          by_cases hjk : j = k
          · subst hjk; exact HNB.out
          · exact HA.out j (by omega)
        case measure => simp [intOf]; omega

    · obtain rfl : k = rs.length := by omega
      have HM := Lib.hid (HMM.out.none HA.out)
      go_wp2
      go_ret
      exact ⟨by rw [HM.out]; rfl, HW.out⟩

end Go.Proofs.Ytoojgaaggdnpiaa

namespace Go.Proofs.Ytoojgaaggdnpiaa
open Go.RowKit

theorem TplAt.newK (w : World) (sz : Int) (a : Option Addr) (n c : Nat) (rs : List (Int × List (List Int))) (t : TypeId) (h : RelsAt w (.slice a n c) rs) : TplAt (w.alloc (.cells #[.int .i64 sz, .slice a n c] t)) w.heap.size 0 sz rs :=
  ⟨by simp [World.cell?_alloc_new], a, n, c, by simp [World.cell?_alloc_new], h.below ((Below.refl _ _).alloc (Nat.le_refl _) _)⟩
/-- What KeepsAll answers. -/
def KeepsAllIs (sz : Int) (rs : List (Int × List (List Int))) (ar : Int) (tab : List Int) (m cd : Int) : Prop :=
  (TplOk sz rs ∧ OpOk sz ar tab ∧ cd = 0 ∧ FirstB sz.toNat ar.toNat tab rs m) ∨ (¬ (TplOk sz rs ∧ OpOk sz ar tab) ∧ m = 0 ∧ cd = 1)
theorem KeepsAllIs.exists (sz : Int) (rs : List (Int × List (List Int))) (ar : Int) (tab : List Int) : ∃ m cd, KeepsAllIs sz rs ar tab m cd := by
  by_cases h : TplOk sz rs ∧ OpOk sz ar tab
  · obtain ⟨m, hm⟩ := FirstB.exists sz.toNat ar.toNat tab rs
    exact ⟨m, 0, .inl ⟨h.1, h.2, rfl, hm⟩⟩
  · exact ⟨0, 1, .inr ⟨h, rfl, rfl⟩⟩
/-- What IsPolymorphism answers. -/
def IsPolymorphismIs (sz : Int) (rs : List (Int × List (List Int))) (ar : Int) (tab : List Int) (b : Bool) (cd : Int) : Prop := ∃ m, KeepsAllIs sz rs ar tab m cd ∧ b = (m == -1 && cd == 0)
theorem IsPolymorphismIs.exists (sz : Int) (rs : List (Int × List (List Int))) (ar : Int) (tab : List Int) : ∃ b cd, IsPolymorphismIs sz rs ar tab b cd := by
  obtain ⟨m, cd, h⟩ := KeepsAllIs.exists sz rs ar tab
  exact ⟨_, cd, m, h, rfl⟩

set_option linter.unusedSimpArgs false in
set_option maxHeartbeats 4000000 in
set_option maxRecDepth 100000 in
theorem specKeepsAll (sz : Int) (a : Option Addr) (n c : Nat) (rs : List (Int × List (List Int))) (ar : Int) (a2 : Option Addr) (n2 c2 : Nat) (tab : List Int) (m cd : Int) (w : World) (h : RelsAt w (.slice a n c) rs) (hf : RowAt w (.slice a2 n2 c2) tab) (hi : KeepsAllIs sz rs ar tab m cd) :
    Calls Try.prog 24 #[.agg #[.int .i64 sz, .slice a n c], .agg #[.int .i64 ar, .slice a2 n2 c2]] w fun e w' => e = .returned (.tuple #[.int .i64 m, .int .i64 cd]) ∧ Below w.heap.size w w' := by
  have hb1 : Below w.heap.size w (w.alloc (.cells #[.int .i64 sz, .slice a n c] 47)) := (Below.refl _ _).alloc (Nat.le_refl _) _
  have hb2 : Below (w.alloc (.cells #[.int .i64 sz, .slice a n c] 47)).heap.size (w.alloc (.cells #[.int .i64 sz, .slice a n c] 47)) ((w.alloc (.cells #[.int .i64 sz, .slice a n c] 47)).alloc (.cells #[.int .i64 ar, .slice a2 n2 c2] 32)) := (Below.refl _ _).alloc (Nat.le_refl _) _
  have hrr := (TplAt.newK w sz a n c rs 47 h).below hb2
  have HR := Lib.hid hrr
  have hff := OpAt.new (w.alloc (.cells #[.int .i64 sz, .slice a n c] 47)) ar a2 n2 c2 tab 32 (hf.below hb1)
  rw [World.size_alloc] at hff
  have HF := Lib.hid hff
  have HW : Hid (Below w.heap.size w ((w.alloc (.cells #[.int .i64 sz, .slice a n c] 47)).alloc (.cells #[.int .i64 ar, .slice a2 n2 c2] 32))) := Lib.hid (hb1.trans (hb2.mono (by simp)))
  have d0 := hrr.size
  clear h hf hb1 hb2 hrr hff
  rcases hi with ⟨h1, h2, rfl, h3⟩ | ⟨h1, rfl, rfl⟩
  · obtain ⟨s, rfl⟩ : ∃ s : Nat, sz = (s : Int) := ⟨sz.toNat, by have := h1.1.1; omega⟩
    obtain ⟨k, rfl⟩ : ∃ k : Nat, ar = (k : Int) := ⟨ar.toNat, by have := h2.2.1.1; omega⟩
    rw [Int.toNat_natCast, Int.toNat_natCast] at h3
    have HT := Lib.hid h1
    have HO := Lib.hid h2
    have HM := Lib.hid h3
    have HTT := Lib.hid (Tells.yes h1)
    have HOT := Lib.hid (Tells.yes h2)
    clear h1 h2 h3
    go_enter Try.func24, Try.ntmps24
    go_wp2_with fail
    refine (l01Template _ _ _ _ true _ HR.out HTT.out).mono ?_
    rintro e w1 ⟨rfl, hq1⟩
    have HQ1 := Lib.hid hq1
    have d1 := hq1.cell d0
    clear hq1
    go_wp2_with fail
    refine (l02Ok _ _ _ _ _ true _ (HF.out.below HQ1.out.bel) HOT.out).mono ?_
    rintro e w2 ⟨rfl, hq2⟩
    have HQ2 := Lib.hid (HQ1.out.trans hq2)
    clear hq2 d1
    go_wp2_with fail
    refine (l02FirstC s k _ _ _ _ tab rs m _ (HF.out.below HQ2.out.bel) HO.out (HR.out.below HQ2.out.bel) HT.out HM.out).mono ?_
    rintro e w3 ⟨rfl, hb3⟩
    go_wp2
    go_ret2
    exact ⟨rfl, HW.out.trans ((HQ2.out.bel.trans (hb3.mono HQ2.out.bel.size)).mono HW.out.size)⟩
  · by_cases ht : TplOk sz rs
    · have HTT := Lib.hid (Tells.yes ht)
      have HOT := Lib.hid (Tells.no fun h => h1 ⟨ht, h⟩)
      clear h1 ht
      go_enter Try.func24, Try.ntmps24
      go_wp2_with fail
      refine (l01Template _ _ _ _ true _ HR.out HTT.out).mono ?_
      rintro e w1 ⟨rfl, hq1⟩
      have HQ1 := Lib.hid hq1
      have d1 := hq1.cell d0
      clear hq1
      go_wp2_with fail
      refine (l02Ok _ _ _ _ _ false _ (HF.out.below HQ1.out.bel) HOT.out).mono ?_
      rintro e w2 ⟨rfl, hq2⟩
      have HQ2 := Lib.hid (HQ1.out.trans hq2)
      clear hq2 d1
      go_wp2
      go_ret2
      exact ⟨rfl, HW.out.trans (HQ2.out.below _)⟩
    · have HTT := Lib.hid (Tells.no ht)
      clear h1 ht
      go_enter Try.func24, Try.ntmps24
      go_wp2_with fail
      refine (l01Template _ _ _ _ false _ HR.out HTT.out).mono ?_
      rintro e w1 ⟨rfl, hq1⟩
      have HQ1 := Lib.hid hq1
      have d1 := hq1.cell d0
      clear hq1
      have HQ2 := HQ1
      clear d1
      go_wp2
      go_ret2
      exact ⟨rfl, HW.out.trans (HQ2.out.below _)⟩

set_option linter.unusedSimpArgs false in
set_option maxHeartbeats 4000000 in
set_option maxRecDepth 100000 in
theorem specIsPolymorphism (sz : Int) (a : Option Addr) (n c : Nat) (rs : List (Int × List (List Int))) (ar : Int) (a2 : Option Addr) (n2 c2 : Nat) (tab : List Int) (b : Bool) (cd : Int) (w : World) (h : RelsAt w (.slice a n c) rs) (hf : RowAt w (.slice a2 n2 c2) tab) (hi : IsPolymorphismIs sz rs ar tab b cd) :
    Calls Try.prog 28 #[.agg #[.int .i64 sz, .slice a n c], .agg #[.int .i64 ar, .slice a2 n2 c2]] w fun e w' => e = .returned (.tuple #[.bool b, .int .i64 cd]) ∧ Below w.heap.size w w' := by
  have hb1 : Below w.heap.size w (w.alloc (.cells #[.int .i64 sz, .slice a n c] 47)) := (Below.refl _ _).alloc (Nat.le_refl _) _
  have hb2 : Below (w.alloc (.cells #[.int .i64 sz, .slice a n c] 47)).heap.size (w.alloc (.cells #[.int .i64 sz, .slice a n c] 47)) ((w.alloc (.cells #[.int .i64 sz, .slice a n c] 47)).alloc (.cells #[.int .i64 ar, .slice a2 n2 c2] 32)) := (Below.refl _ _).alloc (Nat.le_refl _) _
  have hrr := (TplAt.newK w sz a n c rs 47 h).below hb2
  have HR := Lib.hid hrr
  have hff := OpAt.new (w.alloc (.cells #[.int .i64 sz, .slice a n c] 47)) ar a2 n2 c2 tab 32 (hf.below hb1)
  rw [World.size_alloc] at hff
  have HF := Lib.hid hff
  have HW : Hid (Below w.heap.size w ((w.alloc (.cells #[.int .i64 sz, .slice a n c] 47)).alloc (.cells #[.int .i64 ar, .slice a2 n2 c2] 32))) := Lib.hid (hb1.trans (hb2.mono (by simp)))
  have d0 := hrr.size
  clear h hf hb1 hb2 hrr hff
  obtain ⟨m, hi, rfl⟩ := hi
  rcases hi with ⟨h1, h2, rfl, h3⟩ | ⟨h1, rfl, rfl⟩
  · obtain ⟨s, rfl⟩ : ∃ s : Nat, sz = (s : Int) := ⟨sz.toNat, by have := h1.1.1; omega⟩
    obtain ⟨k, rfl⟩ : ∃ k : Nat, ar = (k : Int) := ⟨ar.toNat, by have := h2.2.1.1; omega⟩
    rw [Int.toNat_natCast, Int.toNat_natCast] at h3
    have HT := Lib.hid h1
    have HO := Lib.hid h2
    have HM := Lib.hid h3
    have HTT := Lib.hid (Tells.yes h1)
    have HOT := Lib.hid (Tells.yes h2)
    clear h1 h2 h3
    go_enter Try.func28, Try.ntmps28
    go_wp2_with fail
    refine (l01Template _ _ _ _ true _ HR.out HTT.out).mono ?_
    rintro e w1 ⟨rfl, hq1⟩
    have HQ1 := Lib.hid hq1
    have d1 := hq1.cell d0
    clear hq1
    go_wp2_with fail
    refine (l02Ok _ _ _ _ _ true _ (HF.out.below HQ1.out.bel) HOT.out).mono ?_
    rintro e w2 ⟨rfl, hq2⟩
    have HQ2 := Lib.hid (HQ1.out.trans hq2)
    clear hq2 d1
    go_wp2_with fail
    refine (l02FirstC s k _ _ _ _ tab rs m _ (HF.out.below HQ2.out.bel) HO.out (HR.out.below HQ2.out.bel) HT.out HM.out).mono ?_
    rintro e w3 ⟨rfl, hb3⟩
    go_wp2
    go_ret2
    exact ⟨by simp, HW.out.trans ((HQ2.out.bel.trans (hb3.mono HQ2.out.bel.size)).mono HW.out.size)⟩
  · by_cases ht : TplOk sz rs
    · have HTT := Lib.hid (Tells.yes ht)
      have HOT := Lib.hid (Tells.no fun h => h1 ⟨ht, h⟩)
      clear h1 ht
      go_enter Try.func28, Try.ntmps28
      go_wp2_with fail
      refine (l01Template _ _ _ _ true _ HR.out HTT.out).mono ?_
      rintro e w1 ⟨rfl, hq1⟩
      have HQ1 := Lib.hid hq1
      have d1 := hq1.cell d0
      clear hq1
      go_wp2_with fail
      refine (l02Ok _ _ _ _ _ false _ (HF.out.below HQ1.out.bel) HOT.out).mono ?_
      rintro e w2 ⟨rfl, hq2⟩
      have HQ2 := Lib.hid (HQ1.out.trans hq2)
      clear hq2 d1
      go_wp2
      go_ret2
      exact ⟨rfl, HW.out.trans (HQ2.out.below _)⟩
    · have HTT := Lib.hid (Tells.no ht)
      clear h1 ht
      go_enter Try.func28, Try.ntmps28
      go_wp2_with fail
      refine (l01Template _ _ _ _ false _ HR.out HTT.out).mono ?_
      rintro e w1 ⟨rfl, hq1⟩
      have HQ1 := Lib.hid hq1
      have d1 := hq1.cell d0
      clear hq1
      have HQ2 := HQ1
      clear d1
      go_wp2
      go_ret2
      exact ⟨rfl, HW.out.trans (HQ2.out.below _)⟩

end Go.Proofs.Ytoojgaaggdnpiaa
