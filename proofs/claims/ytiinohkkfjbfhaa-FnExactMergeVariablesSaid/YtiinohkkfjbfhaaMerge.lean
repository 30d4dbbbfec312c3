/-
  MergeVariables of the model and of the program.
-/
import Derived.Test.YtiinohkkfjbfhaaRestrict
import Derived.Test.YtiinohkkfjbfhaaPairIx
import Derived.Test.YtiinohkkfjbfhaaMoved5
import Derived.Test.YtiinohkkfjbfhaaRenamed
import Derived.Test.YtiinohkkfjbfhaaAtomF
import Derived.Test.YtiinohkkfjbfhaaDepends
namespace Go.Proofs.Ytiinohkkfjbfhaa
open Go.RowKit

/-- What a variable becomes when p becomes q; so far as the first k are done. -/
def mrgR (q p v : Nat) : Int := if v = p then (q : Int) else if p < v then (v : Int) - 1 else (v : Int)
def mrgK (q p k v : Nat) : Int := if v = p then (q : Int) else if p < v ∧ v < k then (v : Int) - 1 else (v : Int)
theorem mrgK_self (q p k : Nat) (h : p < k) : mrgK q p k k = (k : Int) := by unfold mrgK; rw [if_neg (by omega), if_neg (by omega)]
theorem rowF_setM (G : Nat → Int) (n k : Nat) (x : Int) : (rowF G n).set k x = rowF (fun i => if i = k then x else G i) n := by
  unfold rowF
  apply List.ext_getElem?
  intro j
  rw [List.getElem?_set]
  by_cases hj : k = j
  · subst hj
    by_cases h : k < n <;> simp [h]
  · rw [if_neg hj]
    by_cases h : j < n
    · simp [h, show ¬ j = k from fun e => hj e.symm]
    · simp [h]
theorem mrgK_start (q p m : Nat) : (cnts m).set p (q : Int) = rowF (mrgK q p (p + 1)) m := by
  have h : cnts m = rowF (fun i => (i : Int)) m := rfl
  rw [h, rowF_setM]
  refine rowF_congr fun i _ => ?_
  unfold mrgK
  by_cases hip : i = p
  · rw [if_pos hip, if_pos hip]
  · rw [if_neg hip, if_neg hip, if_neg (by omega)]
theorem mrgK_step (q p k : Nat) (h : p + 1 ≤ k) {m : Nat} : ∀ i, i < m → (if i = k then (k : Int) - 1 else mrgK q p k i) = mrgK q p (k + 1) i := by
  intro i _
  unfold mrgK
  by_cases hik : i = k
  · subst hik; rw [if_pos rfl, if_neg (by omega), if_pos ⟨by omega, by omega⟩]
  · rw [if_neg hik]
    by_cases hip : i = p
    · rw [if_pos hip, if_pos hip]
    · rw [if_neg hip, if_neg hip]
      by_cases h2 : p < i ∧ i < k
      · rw [if_pos h2, if_pos ⟨h2.1, by omega⟩]
      · rw [if_neg h2, if_neg (by omega)]
theorem mrgK_end (q p m : Nat) : ∀ i, i < m → mrgK q p m i = mrgR q p i := by
  intro i hi
  unfold mrgK mrgR
  by_cases hip : i = p
  · rw [if_pos hip, if_pos hip]
  · rw [if_neg hip, if_neg hip]
    by_cases h2 : p < i
    · rw [if_pos ⟨h2, hi⟩, if_pos h2]
    · rw [if_neg (fun h => h2 h.1), if_neg h2]
theorem rowO_movedM (rs : List (Int × List Int)) (q : List Int) (k : Nat) (h : k < rs.length) : rowO (movedL rs q) k = mapped q (rowO rs k) := by
  simp [rowO, movedL, List.getD, h]

def MergeVariablesIs (sz : Int) (rs : List (Int × List (List Int))) (va : Int) (cs : List (Int × List Int)) (u v x : Int) (zs : List (Int × List Int)) (cd : Int) : Prop :=
  (InstOk sz rs va cs ∧ TwoOf va u v ∧ x = va - 1 ∧ zs = movedL cs (rowF (mrgR (min u v).toNat (max u v).toNat) va.toNat) ∧ cd = 0)
  ∨ (InstOk sz rs va cs ∧ ¬ TwoOf va u v ∧ x = 0 ∧ zs = [] ∧ cd = 2)
  ∨ (¬ InstOk sz rs va cs ∧ x = 0 ∧ zs = [] ∧ cd = 1)
theorem MergeVariablesIs.exists (sz : Int) (rs : List (Int × List (List Int))) (va : Int) (cs : List (Int × List Int)) (u v : Int) : ∃ x zs cd, MergeVariablesIs sz rs va cs u v x zs cd := by
  by_cases h : InstOk sz rs va cs
  · by_cases h2 : TwoOf va u v
    · exact ⟨_, _, _, .inl ⟨h, h2, rfl, rfl, rfl⟩⟩
    · exact ⟨_, _, _, .inr (.inl ⟨h, h2, rfl, rfl, rfl⟩)⟩
  · exact ⟨_, _, _, .inr (.inr ⟨h, rfl, rfl, rfl⟩)⟩
theorem MergeVariablesIs.small {sz : Int} {rs : List (Int × List (List Int))} {va : Int} {cs : List (Int × List Int)} {u v x : Int} {zs : List (Int × List Int)} {cd : Int} (h : MergeVariablesIs sz rs va cs u v x zs cd) : opsSize zs ≤ 1048576 := by
  rcases h with ⟨h, -, -, rfl, -⟩ | ⟨-, -, -, rfl, -⟩ | ⟨-, -, rfl, -⟩
  · have hc := h.2.2.1
    have h1 := partO_mulI (movedL cs (rowF (mrgR (min u v).toNat (max u v).toNat) va.toNat)) 4 cs.length fun k hk => by
      rw [rowO_movedM _ _ _ hk, mapped_len]
      have := (h.text.2.2 k hk).2.1.2
      omega
    unfold opsSize
    rw [movedL_len]
    omega
  · simp [opsSize, partO]
  · simp [opsSize, partO]

set_option linter.unusedSimpArgs false in
set_option maxHeartbeats 4000000 in
set_option maxRecDepth 100000 in
theorem implMergeVariables (sz : Int) (a1 : Option Addr) (n1 c1 : Nat) (rs : List (Int × List (List Int))) (va : Int) (a2 : Option Addr) (n2 c2 : Nat) (cs : List (Int × List Int)) (u v : Int) (x : Int) (zs : List (Int × List Int)) (cd : Int) (w : World) (h1 : RelsAt w (.slice a1 n1 c1) rs) (h2 : OpsAt w (.slice a2 n2 c2) cs) (hi : MergeVariablesIs sz rs va cs u v x zs cd) :
    Calls Try.prog 49 #[.agg #[.int .i64 sz, .slice a1 n1 c1], .agg #[.int .i64 va, .slice a2 n2 c2], .int .i64 u, .int .i64 v] w (MadeI w x zs cd) := by
  obtain rfl : n2 = cs.length := by obtain ⟨_, _, hv, _⟩ := h2; simp only [Value.slice.injEq] at hv; exact hv.2.1
  have hcl : cs.length ≤ 9223372036854775807 := by obtain ⟨_, _, _, hn, _⟩ := h2; exact hn
  have HRB : Hid (Box 37 (((w.alloc (.cells #[.int .i64 sz, .slice a1 n1 c1] 33)).alloc (.cells #[.int .i64 va, .slice a2 cs.length c2] 37)).alloc (.cells #[.int .i64 0, .slice none 0 0] 37)) (w.heap.size + 2) #[.int .i64 0, .slice none 0 0]) := Lib.hid (by
    have h := Box.new 37 ((w.alloc (.cells #[.int .i64 sz, .slice a1 n1 c1] 33)).alloc (.cells #[.int .i64 va, .slice a2 cs.length c2] 37)) #[.int .i64 0, .slice none 0 0]
    simp only [World.size_alloc] at h
    exact h)
  have K0 := Lib.hid ((((((Kept.start w).read (lives_rels _ _) h1).read (lives_ops _ _) h2).box w.heap.size rfl (.int .i64 sz) (.slice a1 n1 c1) 33).box (w.heap.size + 1) (by simp) (.int .i64 va) (.slice a2 cs.length c2) 37).below ((Below.refl _ _).alloc (Nat.le_refl _) (.cells #[.int .i64 0, .slice none 0 0] 37)))
  clear h1 h2
  rcases hi with ⟨h1, h2, rfl, rfl, rfl⟩ | ⟨h1, h2, rfl, rfl, rfl⟩ | ⟨h1, rfl, rfl, rfl⟩
  · skip
    have H1 := Lib.hid (Tells.yes h1)
    obtain ⟨m, rfl⟩ : ∃ m : Nat, va = m := ⟨va.toNat, by have := h1.2.1.1; omega⟩
    have hm10 : m ≤ 10 := by have := h1.2.1.2; omega
    have hcm : cs.length ≤ 1000 := by have := h1.2.2.1; omega
    have HLEN : Hid (∀ k, k < cs.length → (rowO cs k).length ≤ 4) := Lib.hid (fun k hk => by have := (h1.text.2.2 k hk).2.1.2; omega)
    by_cases hUV0 : u < v
    · have hUV := hUV0
      clear hUV0
      obtain ⟨q, rfl⟩ : ∃ q : Nat, u = q := ⟨u.toNat, by have := h2.2.1.1; omega⟩
      obtain ⟨p, rfl⟩ : ∃ p : Nat, v = p := ⟨v.toNat, by have := h2.2.2.1; omega⟩
      have hpm : p < m := by have := h2.2.2.2; omega
      have hqp : q < p := by omega
      have HRNG : Hid (∀ k, k < cs.length → ∀ i, i < (rowO cs k).length → 0 ≤ intN (rowO cs k) i ∧ intN (rowO cs k) i < ((rowF (mrgR q p) m).length : Int)) := Lib.hid (fun k hk i hi => by
        rw [rowF_len]
        exact (h1.text.2.2 k hk).2.2.2 i hi)
      have e1 : (min (q : Int) (p : Int)).toNat = q := by omega
      have e2 : (max (q : Int) (p : Int)).toNat = p := by omega
      rw [e1, e2, Int.toNat_natCast]
      clear e1 e2
      have HTW := Lib.hid (Tells.yes h2)
      have hmx : max (q : Int) (p : Int) = (p : Int) := by omega
      have hmn : min (q : Int) (p : Int) = (q : Int) := by omega
      clear h1 h2
      go_enter Try.func49, Try.ntmps49
      go_wp2_with fail
      refine (implValidInstance _ _ _ _ _ _ _ _ _ _ true _ (K0.out.r 1 rfl :) (K0.out.r 0 rfl :) H1.out).mono ?_
      rintro e w1 ⟨rfl, hb1⟩
      have K1 := Lib.hid (K0.out.below hb1)
      have HR1 := Lib.hid (HRB.out.below hb1)
      have hz : w.heap.size + 3 ≤ w1.heap.size := by have := hb1.size; simpa using this
      have c0' := K1.out.c 0 rfl
      have c1' := K1.out.c 1 rfl
      clear hb1
      have e0 := HR1.out.c 0 rfl
      have f0 := HR1.out.free 0
      have e1 := HR1.out.c 1 rfl
      have f1 := HR1.out.free 1
      clear e0 f0 e1 f1
      go_wp2_with fail
      refine (areTwoOf _ _ _ true _ HTW.out).mono ?_
      rintro e w2 ⟨rfl, hb2⟩
      have K2 := Lib.hid (K1.out.below hb2)
      have HR2 := Lib.hid (HR1.out.below hb2)
      have hz2 : w.heap.size + 3 ≤ w2.heap.size := by (have := hb2.size; omega)
      clear c0' c1' hb2
      have c0' := K2.out.c 0 rfl
      go_wp2_with fail
      refine (numbersBelow m (by omega) _).mono ?_
      rintro e w3 ⟨a3, c3, rfl, ho3, hb3⟩
      obtain ⟨g, rfl, hgl⟩ : ∃ g, a3 = some ⟨g, 0, none⟩ ∧ w2.heap.size ≤ g := by
        rcases ownsRow_parts ho3 with ⟨hv, h0, _⟩ | ⟨g, c', hv, hg, _⟩
        · rw [cnts_len] at h0; omega
        · simp only [Value.slice.injEq] at hv; exact ⟨g, hv.1, hg⟩
      have hx0 := (show OwnRow _ _ _ (cnts m) from ho3).cell_of p (by rw [cnts_len]; exact hpm)
      have hfz := (show OwnRow _ _ _ (cnts m) from ho3).free p
      have HRO : Hid (OwnRow (w3.setCell ⟨g, p, none⟩ (.int .i64 (q : Int))) w2.heap.size (.slice (some ⟨g, 0, none⟩) m c3) (rowF (mrgK q p (p + 1)) m)) := Lib.hid (by
        have h := (show OwnRow _ _ _ (cnts m) from ho3).set p (q : Int)
        rwa [mrgK_start q p m] at h)
      have HB12 := Lib.hid (hb3.setCell (p := ⟨g, p, none⟩) hgl (.int .i64 (q : Int)))
      have hpm' : (p : Int) < (m : Int) := by omega
      clear ho3 hb3 c0'
      go_wp2
      clear hx0 hfz
      go_loopw [11] (fun i wr => ∃ k : Nat, p + 1 ≤ k ∧ k ≤ m ∧ i = .int .i64 k ∧ OwnRow wr w2.heap.size (.slice (some ⟨g, 0, none⟩) m c3) (rowF (mrgK q p k) m) ∧ Below w2.heap.size w2 wr) (fun i _ => m - (intOf i).toNat)
      case atStart => exact ⟨p + 1, Nat.le_refl _, by omega, by go_num, HRO.out, HB12.out⟩
      case round =>
        obtain ⟨k, hpk, hk, rfl, hown, hbel⟩ := hrel
        have HO := Lib.hid hown
        have HW := Lib.hid hbel
        have KR0 := Lib.hid (K2.out.below hbel)
        have g0 := KR0.out.c 0 rfl
        clear hown hbel
        by_cases hlt : k < m
        · have hx := HO.out.cell_of k (by rw [rowF_len]; exact hlt)
          rw [rowF_at _ _ _ hlt, mrgK_self q p k (by omega)] at hx
          have hfz := HO.out.free k
          have hlt' : (k : Int) < (m : Int) := by omega
          have HST := Lib.hid (HO.out.set k ((k : Int) - 1))
          go_wp2
          go_roundw
          case rel =>
            refine ⟨k + 1, by omega, by omega, by go_num, ?_, HW.out.setCell (by show w2.heap.size ≤ g; omega) _⟩
            have h := HST.out
            rwa [rowF_setM, rowF_congr (mrgK_step q p k hpk)] at h
          case measure => simp [intOf]; omega
        · obtain rfl : k = m := by omega
          obtain ⟨ws, rfl⟩ : ∃ ws : World, ws = wr := ⟨_, rfl⟩
          have HTO0 : Hid (RowAt ws (.slice (some ⟨g, 0, none⟩) k c3) (rowF (mrgR q p) k)) := Lib.hid (by
            have h := HO.out.rowAt
            rwa [rowF_congr (mrgK_end q p k)] at h)
          have HRR0 := Lib.hid (HR2.out.below HW.out)
          have hszr : w.heap.size + 3 ≤ ws.heap.size := by have := HW.out.size; omega
          have g1 := KR0.out.c 1 rfl
          have hwr : IntKind.i64.wrap ((k : Int) - 1) = (k : Int) - 1 := IntWalk.i64_in _ (by omega)
          have c1n : (ws.alloc (.cells #[.int .i64 ((k : Int) - 1), .slice none 0 0] 37)).cell? ⟨w.heap.size + 1, 1, none⟩ = some (.slice a2 cs.length c2) := below_cell ((Below.refl _ _).alloc (Nat.le_refl _) _) g1
          obtain ⟨tos, htos⟩ : ∃ tos, rowF (mrgR q p) k = tos := ⟨_, rfl⟩
          rw [htos] at HTO0 HRNG
          have HTOS := Lib.hid htos
          clear htos
          obtain ⟨i0, hi, hz0, hz1, hz2'⟩ := info_parts info_Con
          have hz2 := hz2'
          obtain ⟨m, rfl⟩ : ∃ m : Nat, m = k := ⟨_, rfl⟩
          clear hlt
          go_wp2
          clear c1n g0 g1
          go_loopw [61] (fun i wr => ∃ (k : Nat) (a : Option Addr) (n c : Nat), k ≤ cs.length ∧ i = .int .i64 k ∧ Box 37 wr ws.heap.size #[.int .i64 ((m : Int) - 1), .slice a n c] ∧ OwnOps 95 wr (ws.heap.size + 1) wr.heap.size (.slice a n c) (movedK cs tos k) ∧ Below ws.heap.size ws wr ∧ ws.heap.size + 1 ≤ wr.heap.size) (fun i _ => cs.length - (intOf i).toNat)
          case atStart => exact ⟨0, none, 0, 0, Nat.zero_le _, rfl, Box.new _ _ _, OwnOps.nil _ _ _ _ (Nat.le_refl _), (Below.refl _ _).alloc (Nat.le_refl _) _, by simp⟩
          case round =>
            obtain ⟨k, a, n, c, hk, rfl, hbx, hg, hbr, hsz⟩ := hrel
            by_cases hlt : k < cs.length
            · have hlt' : (k : Int) < (cs.length : Int) := by omega
              have KR := Lib.hid (KR0.out.below hbr)
              obtain ⟨ca, cc, hcv, hcn, hcc⟩ := (KR.out.r 0 rfl : OpsAt wr (.slice a2 cs.length c2) cs)
              simp only [Value.slice.injEq] at hcv
              obtain ⟨rfl, _, rfl⟩ := hcv
              obtain ⟨b1, off1, ha1, hcell1⟩ := hcc (by omega)
              subst ha1
              obtain ⟨z0, a4, n4, c4, z1, hr⟩ := hcell1 k hlt
              have hr4 : (rowO cs k).length ≤ 1000 := by have := HLEN.out k hlt; omega
              have hn4 : n4 = (rowO cs k).length := by obtain ⟨_, _, hv, _⟩ := hr; simp only [Value.slice.injEq] at hv; exact hv.2.1
              subst hn4
              have HLN : Hid ((movedK cs tos k).length = k) := Lib.hid (movedK_len _ _ _ hk)
              have HRG := Lib.hid (HRNG.out k hlt)
              have hkm : k ≤ 1000 := by omega
              have hal := (Below.refl wr.heap.size wr).alloc (Nat.le_refl _) (.cells #[.int .i64 (arO cs k), .slice a4 (rowO cs k).length c4] 95)
              have HTO := Lib.hid ((HTO0.out.below hbr).below hal)
              have HBX := Lib.hid (hbx.below hal)
              have HG := Lib.hid ((hg.below hal).full)
              have HROW := Lib.hid (hr.below hal)
              have HBW : Hid (Below ws.heap.size ws (wr.alloc (.cells #[.int .i64 (arO cs k), .slice a4 (rowO cs k).length c4] 95))) := Lib.hid (hbr.alloc hbr.size _)
              have HSZ : Hid (ws.heap.size + 1 ≤ (wr.alloc (.cells #[.int .i64 (arO cs k), .slice a4 (rowO cs k).length c4] 95)).heap.size) := Lib.hid (by simp; omega)
              have BC := Box.new 95 wr #[.int .i64 (arO cs k), .slice a4 (rowO cs k).length c4]
              have y0 := BC.c 0 rfl
              have y1 := BC.c 1 rfl
              have g1 := HBX.out.c 1 rfl
              clear hbx hg hr hbr BC hal hcell1 hcc
              go_wp2
              refine wp_region_noPanic ?_
              refine wp_region_late (S := (fun w' => w'.cell? ⟨ws.heap.size, 1, none⟩ = some (.slice a n c) ∧ w'.cell? ⟨wr.heap.size, 0, none⟩ = some (.int .i64 (arO cs k)) ∧ w'.cell? ⟨wr.heap.size, 1, none⟩ = some (.slice a4 (rowO cs k).length c4) ∧ Below (wr.alloc (.cells #[.int .i64 (arO cs k), .slice a4 (rowO cs k).length c4] 95)).heap.size (wr.alloc (.cells #[.int .i64 (arO cs k), .slice a4 (rowO cs k).length c4] 95)) w')) [10, 12] (by kernel_rfl) ?_ (fun hHeld => ?_)
              · exact ⟨g1, y0, y1, (QW.refl _).drew.below _⟩
              refine wpAnyL_free (i := 0) (v := ?_) (some 65) rfl rfl (by kernel_rfl) (by kernel_rfl) (by kernel_rfl) (by decide) (fun _ _ _ h => h) (Or.inl ⟨by rfl, ?_⟩) (fun h0 => by assumption) ?_
              rotate_left
              · intro wS
                go_simp
                try with_reducible rfl
              try simp only [Act.put, List.setIfInBounds_toArray, List.set_cons_zero, List.set_cons_succ]
              refine wpAnyL_take (i := 1) (v := ?_) (some 66) rfl rfl (by kernel_rfl) (by kernel_rfl) (by kernel_rfl) (by kernel_rfl) (by kernel_rfl) (fun _ _ _ h => h) (Or.inl ⟨by rfl, ?_⟩) (by assumption) ?_
              rotate_left
              · intro wS hSw
                try dsimp only at hSw
                go_simp
                try with_reducible rfl
              try simp only [Act.put, List.setIfInBounds_toArray, List.set_cons_zero, List.set_cons_succ]
              refine wpAnyL_free (i := 2) (v := ?_) (some 67) rfl rfl (by kernel_rfl) (by kernel_rfl) (by kernel_rfl) (by decide) (fun _ _ _ h => h) (Or.inl ⟨by rfl, ?_⟩) (fun h0 => by assumption) ?_
              rotate_left
              · intro wS
                go_simp
                try with_reducible rfl
              try simp only [Act.put, List.setIfInBounds_toArray, List.set_cons_zero, List.set_cons_succ]
              refine wpAnyL_take (i := 3) (v := ?_) (some 68) rfl rfl (by kernel_rfl) (by kernel_rfl) (by kernel_rfl) (by kernel_rfl) (by kernel_rfl) (fun _ _ _ h => h) (Or.inl ⟨by rfl, ?_⟩) (by assumption) ?_
              rotate_left
              · intro wS hSw
                try dsimp only at hSw
                go_simp
                try with_reducible rfl
              try simp only [Act.put, List.setIfInBounds_toArray, List.set_cons_zero, List.set_cons_succ]
              refine wpAnyL_free (i := 4) (v := ?_) (some 69) rfl rfl (by kernel_rfl) (by kernel_rfl) (by kernel_rfl) (by decide) (fun _ _ _ h => h) (Or.inl ⟨by rfl, ?_⟩) (fun h0 => by assumption) ?_
              rotate_left
              · intro wS
                go_simp
                try with_reducible rfl
              try simp only [Act.put, List.setIfInBounds_toArray, List.set_cons_zero, List.set_cons_succ]
              refine wpAnyL_take (i := 5) (v := ?_) (some 70) rfl rfl (by kernel_rfl) (by kernel_rfl) (by kernel_rfl) (by kernel_rfl) (by kernel_rfl) (fun _ _ _ h => h) (Or.inl ⟨by rfl, ?_⟩) (by assumption) ?_
              rotate_left
              · intro wS hSw
                try dsimp only at hSw
                go_simp
                try with_reducible rfl
              try simp only [Act.put, List.setIfInBounds_toArray, List.set_cons_zero, List.set_cons_succ]
              refine wpAnyL_free (i := 6) (v := ?_) (some 71) rfl rfl (by kernel_rfl) (by kernel_rfl) (by kernel_rfl) (by decide) (fun _ _ _ h => h) (Or.inl ⟨by rfl, ?_⟩) (fun h0 => by assumption) ?_
              rotate_left
              · intro wS
                go_simp
                try with_reducible rfl
              try simp only [Act.put, List.setIfInBounds_toArray, List.set_cons_zero, List.set_cons_succ]
              refine wpAnyL_ready (rs := [7]) (by kernel_rfl) (by simp) ?_
              refine AllReadyL.cons rfl (fun K hK => ?_) AllReadyL.nil
              go_simp; go_at_call 100; refine (replaced _ _ (rowO cs k) tos _ (HROW.out.below hHeld.2.2.2) (HTO.out.below hHeld.2.2.2) hr4 HRG.out).mono ?_; rintro e w3 ⟨g3, rfl, ho3, hb3⟩
              have HO3 := Lib.hid (ho3.mono (B' := (wr.alloc (.cells #[.int .i64 (arO cs k), .slice a4 (rowO cs k).length c4] 95)).heap.size) hHeld.2.2.2.size)
              have HB3 := Lib.hid (hHeld.2.2.2.trans (hb3.mono hHeld.2.2.2.size))
              refine hK.out _ _ ?_ (fun hHeld => ?_)
              · exact ⟨below_cell hb3 hHeld.1, below_cell hb3 hHeld.2.1, below_cell hb3 hHeld.2.2.1, hHeld.2.2.2.trans (hb3.mono hHeld.2.2.2.size)⟩
              clear hK K
              try simp only [Act.put, List.setIfInBounds_toArray, List.set_cons_zero, List.set_cons_succ]
              refine wpAnyL_free (i := 8) (v := ?_) (some 73) rfl rfl (by kernel_rfl) (by kernel_rfl) (by kernel_rfl) (by decide) (fun _ _ _ h => h) (Or.inl ⟨by rfl, ?_⟩) (fun h0 => by assumption) ?_
              rotate_left
              · intro wS
                go_simp
                try with_reducible rfl
              try simp only [Act.put, List.setIfInBounds_toArray, List.set_cons_zero, List.set_cons_succ]
              refine wpAnyL_ready (rs := [9]) (by kernel_rfl) (by simp) ?_
              refine AllReadyL.cons rfl (fun K hK => ?_) AllReadyL.nil
              go_simp
              refine hK.out _ _ ?_ (fun hHeld => ?_)
              · exact ⟨below_cell ((Below.refl _ _).alloc (Nat.le_refl _) _) hHeld.1, below_cell ((Below.refl _ _).alloc (Nat.le_refl _) _) hHeld.2.1, below_cell ((Below.refl _ _).alloc (Nat.le_refl _) _) hHeld.2.2.1, hHeld.2.2.2.trans (((Below.refl _ _).alloc (Nat.le_refl _) _).mono hHeld.2.2.2.size)⟩
              clear hK K
              try simp only [Act.put, List.setIfInBounds_toArray, List.set_cons_zero, List.set_cons_succ]
              refine wpAnyL_ready (rs := [10]) (by kernel_rfl) (by simp) ?_
              refine AllReadyL.last rfl (by kernel_rfl) (fun K hK => ?_) AllReadyL.nil
              obtain ⟨V, hV⟩ := HG.out
              have hV' := hV
              obtain ⟨xs, hxo, hxx⟩ := hV'.outer
              have HV := Lib.hid hV
              have HX := Lib.hid hxx
              have hxl := ownsRow_len hxo
              have HXL := Lib.hid hxl
              have hal := (Below.refl w3.heap.size w3).alloc (Nat.le_refl _) (.cells #[.int .i64 (arO cs k), .slice (some ⟨g3, 0, none⟩) (rowO cs k).length (rowO cs k).length] 95)
              have HAL := Lib.hid hal
              clear hV hV' hxx hxl hal
              refine step_append_lies _ (by rfl) _ _ 35 (by rfl) (ws.heap.size + 1) 95 i0 (.agg #[.int .i64 0, .slice none 0 0]) 2 32 Try.underlying35 hi hz0 hz1 hz2 (by rfl) (by decide) (.slice a n c) (movedK cs tos k).length _ (by rfl) ((ownsRow_below hxo (HB3.out)).alloc _) _ 1 1 [.int .i64 (arO cs k), .slice (some ⟨g3, 0, none⟩) (rowO cs k).length (rowO cs k).length] (by rfl) (by rfl) (fun j u hu => World.news_of_block (heap_alloc_new w3 _) j u (by simpa using hu)) (by simp [Value.oneCell']) (by omega) (by rw [HLN.out]; unfold maxLen; omega) (by rw [HLN.out]; omega) (by have := HB3.out.size; have := HSZ.out; simp; omega) _ rfl ?_; intro g5 cap5 w5 hown5 hgrow5 hat5 hlt5
              have HGM := Lib.hid (OwnOpsV.grow HV.out rfl HXL.out HX.out (HB3.out.trans (HAL.out.mono HB3.out.size)) (OwnRow.below HO3.out HAL.out) HSZ.out hown5 hgrow5 (fun g hg => by
                obtain rfl : g5 = g := by simpa [Value.ownBlock] using hg
                rcases hat5 with e | e
                · exact .inl e
                · exact .inr (by omega)))
              have HB5 := Lib.hid (((HB3.out.trans (HAL.out.mono HB3.out.size)).mono HSZ.out).grown hgrow5 (by have := HB3.out.size; have := HSZ.out; simp; omega) (fun q hq => (hxo.lt q hq).1))
              have hb5 := HBX.out.same (HB5.out.block ws.heap.size (Nat.lt_succ_self _))
              have k2 : w5.cell? ⟨ws.heap.size, 1, none⟩ = some (.slice a n c) := hb5.c 1 rfl
              have z2 := hb5.free 1
              have HB6 := Lib.hid (hb5.set 1 (.slice (some ⟨g5, 0, none⟩) ((movedK cs tos k).length + 1) cap5))
              have hG2 : OwnOps 95 w5 (ws.heap.size + 1) w5.heap.size (.slice (some ⟨g5, 0, none⟩) ((movedK cs tos k).length + 1) cap5) ((movedK cs tos k) ++ [(arO cs k, mapped tos (rowO cs k))]) := by
                have e : ((movedK cs tos k) ++ [(arO cs k, mapped tos (rowO cs k))]).length = (movedK cs tos k).length + 1 := by simp
                show ∃ V, OwnOpsV _ _ _ _ _ ((movedK cs tos k) ++ [(arO cs k, mapped tos (rowO cs k))]).length V _
                rw [e]
                exact ⟨_, HGM.out⟩
              have HG6 := Lib.hid ((hG2.stored (p := ⟨ws.heap.size, 1, none⟩) (Nat.lt_succ_self _) (.slice (some ⟨g5, 0, none⟩) ((movedK cs tos k).length + 1) cap5)).full)
              have HBE := Lib.hid ((HBW.out.trans (HB5.out.mono (Nat.le_succ _))).setCell (p := ⟨ws.heap.size, 1, none⟩) (Nat.le_refl _) (.slice (some ⟨g5, 0, none⟩) ((movedK cs tos k).length + 1) cap5))
              have HZ6 : Hid (ws.heap.size + 1 ≤ (w5.setCell ⟨ws.heap.size, 1, none⟩ (.slice (some ⟨g5, 0, none⟩) ((movedK cs tos k).length + 1) cap5)).heap.size) := Lib.hid (by have := HB5.out.size; have := HSZ.out; simp [World.setCell]; omega)
              clear hown5 hgrow5 hat5 hlt5 hxo hb5 hG2
              refine hK.out _ _ ?_
              clear hK K
              try simp only [Act.put, List.setIfInBounds_toArray, List.set_cons_zero, List.set_cons_succ]
              refine wpAnyL_free (i := 11) (v := ?_) (some 76) rfl rfl (by kernel_rfl) (by kernel_rfl) (by kernel_rfl) (by decide) (fun _ _ _ h => h) (Or.inl ⟨by rfl, ?_⟩) (fun h0 => absurd h0 (by decide)) ?_
              rotate_left
              · intro wS
                go_simp
                try with_reducible rfl
              try simp only [Act.put, List.setIfInBounds_toArray, List.set_cons_zero, List.set_cons_succ]
              refine wpAnyL_ready (rs := [12]) (by kernel_rfl) (by simp) ?_
              refine AllReadyL.last rfl (by kernel_rfl) (fun K hK => ?_) AllReadyL.nil
              go_simp
              refine hK.out _ _ ?_
              clear hK K
              try simp only [Act.put, List.setIfInBounds_toArray, List.set_cons_zero, List.set_cons_succ]
              refine wpAnyL_done (by kernel_rfl) ?_ _
              refine NoPanic.normal ?_
              go_wp2
              go_roundw
              case rel =>
                refine ⟨k + 1, _, _, _, by omega, by go_num, HB6.out, ?_, HBE.out, HZ6.out⟩
                rw [movedK_succ _ _ _ hlt]
                have h := HG6.out
                exact h
              case measure => simp [intOf]; omega
            · obtain rfl : k = cs.length := by omega
              have KR := Lib.hid (KR0.out.below hbr)
              have HRR := Lib.hid (HRR0.out.same (hbr.block _ HRR0.out.lt))
              have g0 := hbx.c 0 rfl
              have g1 := hbx.c 1 rfl
              have HG := Lib.hid (show OwnOps 95 wr (w.heap.size + 3) wr.heap.size (.slice a n c) (movedL cs tos) from hg.mono (by omega))
              clear hbx hg hbr
              have e0 := HRR.out.c 0 rfl
              have f0 := HRR.out.free 0
              have e1 := HRR.out.c 1 rfl
              have f1 := HRR.out.free 1
              go_wp2
              refine bodyPost_ret (v := .tuple #[.agg #[.int .i64 ((m : Int) - 1), .slice a n c], .int .i64 0]) (by simp [results, Try.results49, go_sem, e0, e1, hwr]) rfl ⟨_, _, _, rfl, ?_, ?_⟩
              · rw [HTOS.out]
                exact (((HG.out.stored (by show w.heap.size + 2 < w.heap.size + 3; omega) _).stored (by show w.heap.size + 2 < w.heap.size + 3; omega) _).mono (by omega)).full
              · exact ((KR.out.bel.setCell (by show w.heap.size ≤ w.heap.size + 2; omega) _).setCell (by show w.heap.size ≤ w.heap.size + 2; omega) _)
    · have hUV : v < u := by have := h2.1; omega
      clear hUV0
      obtain ⟨q, rfl⟩ : ∃ q : Nat, v = q := ⟨v.toNat, by have := h2.2.2.1; omega⟩
      obtain ⟨p, rfl⟩ : ∃ p : Nat, u = p := ⟨u.toNat, by have := h2.2.1.1; omega⟩
      have hpm : p < m := by have := h2.2.1.2; omega
      have hqp : q < p := by omega
      have HRNG : Hid (∀ k, k < cs.length → ∀ i, i < (rowO cs k).length → 0 ≤ intN (rowO cs k) i ∧ intN (rowO cs k) i < ((rowF (mrgR q p) m).length : Int)) := Lib.hid (fun k hk i hi => by
        rw [rowF_len]
        exact (h1.text.2.2 k hk).2.2.2 i hi)
      have e1 : (min (p : Int) (q : Int)).toNat = q := by omega
      have e2 : (max (p : Int) (q : Int)).toNat = p := by omega
      rw [e1, e2, Int.toNat_natCast]
      clear e1 e2
      have HTW := Lib.hid (Tells.yes h2)
      have hmx : max (p : Int) (q : Int) = (p : Int) := by omega
      have hmn : min (p : Int) (q : Int) = (q : Int) := by omega
      clear h1 h2
      go_enter Try.func49, Try.ntmps49
      go_wp2_with fail
      refine (implValidInstance _ _ _ _ _ _ _ _ _ _ true _ (K0.out.r 1 rfl :) (K0.out.r 0 rfl :) H1.out).mono ?_
      rintro e w1 ⟨rfl, hb1⟩
      have K1 := Lib.hid (K0.out.below hb1)
      have HR1 := Lib.hid (HRB.out.below hb1)
      have hz : w.heap.size + 3 ≤ w1.heap.size := by have := hb1.size; simpa using this
      have c0' := K1.out.c 0 rfl
      have c1' := K1.out.c 1 rfl
      clear hb1
      have e0 := HR1.out.c 0 rfl
      have f0 := HR1.out.free 0
      have e1 := HR1.out.c 1 rfl
      have f1 := HR1.out.free 1
      clear e0 f0 e1 f1
      go_wp2_with fail
      refine (areTwoOf _ _ _ true _ HTW.out).mono ?_
      rintro e w2 ⟨rfl, hb2⟩
      have K2 := Lib.hid (K1.out.below hb2)
      have HR2 := Lib.hid (HR1.out.below hb2)
      have hz2 : w.heap.size + 3 ≤ w2.heap.size := by (have := hb2.size; omega)
      clear c0' c1' hb2
      have c0' := K2.out.c 0 rfl
      go_wp2_with fail
      refine (numbersBelow m (by omega) _).mono ?_
      rintro e w3 ⟨a3, c3, rfl, ho3, hb3⟩
      obtain ⟨g, rfl, hgl⟩ : ∃ g, a3 = some ⟨g, 0, none⟩ ∧ w2.heap.size ≤ g := by
        rcases ownsRow_parts ho3 with ⟨hv, h0, _⟩ | ⟨g, c', hv, hg, _⟩
        · rw [cnts_len] at h0; omega
        · simp only [Value.slice.injEq] at hv; exact ⟨g, hv.1, hg⟩
      have hx0 := (show OwnRow _ _ _ (cnts m) from ho3).cell_of p (by rw [cnts_len]; exact hpm)
      have hfz := (show OwnRow _ _ _ (cnts m) from ho3).free p
      have HRO : Hid (OwnRow (w3.setCell ⟨g, p, none⟩ (.int .i64 (q : Int))) w2.heap.size (.slice (some ⟨g, 0, none⟩) m c3) (rowF (mrgK q p (p + 1)) m)) := Lib.hid (by
        have h := (show OwnRow _ _ _ (cnts m) from ho3).set p (q : Int)
        rwa [mrgK_start q p m] at h)
      have HB12 := Lib.hid (hb3.setCell (p := ⟨g, p, none⟩) hgl (.int .i64 (q : Int)))
      have hpm' : (p : Int) < (m : Int) := by omega
      clear ho3 hb3 c0'
      go_wp2
      clear hx0 hfz
      go_loopw [11] (fun i wr => ∃ k : Nat, p + 1 ≤ k ∧ k ≤ m ∧ i = .int .i64 k ∧ OwnRow wr w2.heap.size (.slice (some ⟨g, 0, none⟩) m c3) (rowF (mrgK q p k) m) ∧ Below w2.heap.size w2 wr) (fun i _ => m - (intOf i).toNat)
      case atStart => exact ⟨p + 1, Nat.le_refl _, by omega, by go_num, HRO.out, HB12.out⟩
      case round =>
        obtain ⟨k, hpk, hk, rfl, hown, hbel⟩ := hrel
        have HO := Lib.hid hown
        have HW := Lib.hid hbel
        have KR0 := Lib.hid (K2.out.below hbel)
        have g0 := KR0.out.c 0 rfl
        clear hown hbel
        by_cases hlt : k < m
        · have hx := HO.out.cell_of k (by rw [rowF_len]; exact hlt)
          rw [rowF_at _ _ _ hlt, mrgK_self q p k (by omega)] at hx
          have hfz := HO.out.free k
          have hlt' : (k : Int) < (m : Int) := by omega
          have HST := Lib.hid (HO.out.set k ((k : Int) - 1))
          go_wp2
          go_roundw
          case rel =>
            refine ⟨k + 1, by omega, by omega, by go_num, ?_, HW.out.setCell (by show w2.heap.size ≤ g; omega) _⟩
            have h := HST.out
            rwa [rowF_setM, rowF_congr (mrgK_step q p k hpk)] at h
          case measure => simp [intOf]; omega
        · obtain rfl : k = m := by omega
          obtain ⟨ws, rfl⟩ : ∃ ws : World, ws = wr := ⟨_, rfl⟩
          have HTO0 : Hid (RowAt ws (.slice (some ⟨g, 0, none⟩) k c3) (rowF (mrgR q p) k)) := Lib.hid (by
            have h := HO.out.rowAt
            rwa [rowF_congr (mrgK_end q p k)] at h)
          have HRR0 := Lib.hid (HR2.out.below HW.out)
          have hszr : w.heap.size + 3 ≤ ws.heap.size := by have := HW.out.size; omega
          have g1 := KR0.out.c 1 rfl
          have hwr : IntKind.i64.wrap ((k : Int) - 1) = (k : Int) - 1 := IntWalk.i64_in _ (by omega)
          have c1n : (ws.alloc (.cells #[.int .i64 ((k : Int) - 1), .slice none 0 0] 37)).cell? ⟨w.heap.size + 1, 1, none⟩ = some (.slice a2 cs.length c2) := below_cell ((Below.refl _ _).alloc (Nat.le_refl _) _) g1
          obtain ⟨tos, htos⟩ : ∃ tos, rowF (mrgR q p) k = tos := ⟨_, rfl⟩
          rw [htos] at HTO0 HRNG
          have HTOS := Lib.hid htos
          clear htos
          obtain ⟨i0, hi, hz0, hz1, hz2'⟩ := info_parts info_Con
          have hz2 := hz2'
          obtain ⟨m, rfl⟩ : ∃ m : Nat, m = k := ⟨_, rfl⟩
          clear hlt
          go_wp2
          clear c1n g0 g1
          go_loopw [61] (fun i wr => ∃ (k : Nat) (a : Option Addr) (n c : Nat), k ≤ cs.length ∧ i = .int .i64 k ∧ Box 37 wr ws.heap.size #[.int .i64 ((m : Int) - 1), .slice a n c] ∧ OwnOps 95 wr (ws.heap.size + 1) wr.heap.size (.slice a n c) (movedK cs tos k) ∧ Below ws.heap.size ws wr ∧ ws.heap.size + 1 ≤ wr.heap.size) (fun i _ => cs.length - (intOf i).toNat)
          case atStart => exact ⟨0, none, 0, 0, Nat.zero_le _, rfl, Box.new _ _ _, OwnOps.nil _ _ _ _ (Nat.le_refl _), (Below.refl _ _).alloc (Nat.le_refl _) _, by simp⟩
          case round =>
            obtain ⟨k, a, n, c, hk, rfl, hbx, hg, hbr, hsz⟩ := hrel
            by_cases hlt : k < cs.length
            · have hlt' : (k : Int) < (cs.length : Int) := by omega
              have KR := Lib.hid (KR0.out.below hbr)
              obtain ⟨ca, cc, hcv, hcn, hcc⟩ := (KR.out.r 0 rfl : OpsAt wr (.slice a2 cs.length c2) cs)
              simp only [Value.slice.injEq] at hcv
              obtain ⟨rfl, _, rfl⟩ := hcv
              obtain ⟨b1, off1, ha1, hcell1⟩ := hcc (by omega)
              subst ha1
              obtain ⟨z0, a4, n4, c4, z1, hr⟩ := hcell1 k hlt
              have hr4 : (rowO cs k).length ≤ 1000 := by have := HLEN.out k hlt; omega
              have hn4 : n4 = (rowO cs k).length := by obtain ⟨_, _, hv, _⟩ := hr; simp only [Value.slice.injEq] at hv; exact hv.2.1
              subst hn4
              have HLN : Hid ((movedK cs tos k).length = k) := Lib.hid (movedK_len _ _ _ hk)
              have HRG := Lib.hid (HRNG.out k hlt)
              have hkm : k ≤ 1000 := by omega
              have hal := (Below.refl wr.heap.size wr).alloc (Nat.le_refl _) (.cells #[.int .i64 (arO cs k), .slice a4 (rowO cs k).length c4] 95)
              have HTO := Lib.hid ((HTO0.out.below hbr).below hal)
              have HBX := Lib.hid (hbx.below hal)
              have HG := Lib.hid ((hg.below hal).full)
              have HROW := Lib.hid (hr.below hal)
              have HBW : Hid (Below ws.heap.size ws (wr.alloc (.cells #[.int .i64 (arO cs k), .slice a4 (rowO cs k).length c4] 95))) := Lib.hid (hbr.alloc hbr.size _)
              have HSZ : Hid (ws.heap.size + 1 ≤ (wr.alloc (.cells #[.int .i64 (arO cs k), .slice a4 (rowO cs k).length c4] 95)).heap.size) := Lib.hid (by simp; omega)
              have BC := Box.new 95 wr #[.int .i64 (arO cs k), .slice a4 (rowO cs k).length c4]
              have y0 := BC.c 0 rfl
              have y1 := BC.c 1 rfl
              have g1 := HBX.out.c 1 rfl
              clear hbx hg hr hbr BC hal hcell1 hcc
              go_wp2
              refine wp_region_noPanic ?_
              refine wp_region_late (S := (fun w' => w'.cell? ⟨ws.heap.size, 1, none⟩ = some (.slice a n c) ∧ w'.cell? ⟨wr.heap.size, 0, none⟩ = some (.int .i64 (arO cs k)) ∧ w'.cell? ⟨wr.heap.size, 1, none⟩ = some (.slice a4 (rowO cs k).length c4) ∧ Below (wr.alloc (.cells #[.int .i64 (arO cs k), .slice a4 (rowO cs k).length c4] 95)).heap.size (wr.alloc (.cells #[.int .i64 (arO cs k), .slice a4 (rowO cs k).length c4] 95)) w')) [10, 12] (by kernel_rfl) ?_ (fun hHeld => ?_)
              · exact ⟨g1, y0, y1, (QW.refl _).drew.below _⟩
              refine wpAnyL_free (i := 0) (v := ?_) (some 65) rfl rfl (by kernel_rfl) (by kernel_rfl) (by kernel_rfl) (by decide) (fun _ _ _ h => h) (Or.inl ⟨by rfl, ?_⟩) (fun h0 => by assumption) ?_
              rotate_left
              · intro wS
                go_simp
                try with_reducible rfl
              try simp only [Act.put, List.setIfInBounds_toArray, List.set_cons_zero, List.set_cons_succ]
              refine wpAnyL_take (i := 1) (v := ?_) (some 66) rfl rfl (by kernel_rfl) (by kernel_rfl) (by kernel_rfl) (by kernel_rfl) (by kernel_rfl) (fun _ _ _ h => h) (Or.inl ⟨by rfl, ?_⟩) (by assumption) ?_
              rotate_left
              · intro wS hSw
                try dsimp only at hSw
                go_simp
                try with_reducible rfl
              try simp only [Act.put, List.setIfInBounds_toArray, List.set_cons_zero, List.set_cons_succ]
              refine wpAnyL_free (i := 2) (v := ?_) (some 67) rfl rfl (by kernel_rfl) (by kernel_rfl) (by kernel_rfl) (by decide) (fun _ _ _ h => h) (Or.inl ⟨by rfl, ?_⟩) (fun h0 => by assumption) ?_
              rotate_left
              · intro wS
                go_simp
                try with_reducible rfl
              try simp only [Act.put, List.setIfInBounds_toArray, List.set_cons_zero, List.set_cons_succ]
              refine wpAnyL_take (i := 3) (v := ?_) (some 68) rfl rfl (by kernel_rfl) (by kernel_rfl) (by kernel_rfl) (by kernel_rfl) (by kernel_rfl) (fun _ _ _ h => h) (Or.inl ⟨by rfl, ?_⟩) (by assumption) ?_
              rotate_left
              · intro wS hSw
                try dsimp only at hSw
                go_simp
                try with_reducible rfl
              try simp only [Act.put, List.setIfInBounds_toArray, List.set_cons_zero, List.set_cons_succ]
              refine wpAnyL_free (i := 4) (v := ?_) (some 69) rfl rfl (by kernel_rfl) (by kernel_rfl) (by kernel_rfl) (by decide) (fun _ _ _ h => h) (Or.inl ⟨by rfl, ?_⟩) (fun h0 => by assumption) ?_
              rotate_left
              · intro wS
                go_simp
                try with_reducible rfl
              try simp only [Act.put, List.setIfInBounds_toArray, List.set_cons_zero, List.set_cons_succ]
              refine wpAnyL_take (i := 5) (v := ?_) (some 70) rfl rfl (by kernel_rfl) (by kernel_rfl) (by kernel_rfl) (by kernel_rfl) (by kernel_rfl) (fun _ _ _ h => h) (Or.inl ⟨by rfl, ?_⟩) (by assumption) ?_
              rotate_left
              · intro wS hSw
                try dsimp only at hSw
                go_simp
                try with_reducible rfl
              try simp only [Act.put, List.setIfInBounds_toArray, List.set_cons_zero, List.set_cons_succ]
              refine wpAnyL_free (i := 6) (v := ?_) (some 71) rfl rfl (by kernel_rfl) (by kernel_rfl) (by kernel_rfl) (by decide) (fun _ _ _ h => h) (Or.inl ⟨by rfl, ?_⟩) (fun h0 => by assumption) ?_
              rotate_left
              · intro wS
                go_simp
                try with_reducible rfl
              try simp only [Act.put, List.setIfInBounds_toArray, List.set_cons_zero, List.set_cons_succ]
              refine wpAnyL_ready (rs := [7]) (by kernel_rfl) (by simp) ?_
              refine AllReadyL.cons rfl (fun K hK => ?_) AllReadyL.nil
              go_simp; go_at_call 100; refine (replaced _ _ (rowO cs k) tos _ (HROW.out.below hHeld.2.2.2) (HTO.out.below hHeld.2.2.2) hr4 HRG.out).mono ?_; rintro e w3 ⟨g3, rfl, ho3, hb3⟩
              have HO3 := Lib.hid (ho3.mono (B' := (wr.alloc (.cells #[.int .i64 (arO cs k), .slice a4 (rowO cs k).length c4] 95)).heap.size) hHeld.2.2.2.size)
              have HB3 := Lib.hid (hHeld.2.2.2.trans (hb3.mono hHeld.2.2.2.size))
              refine hK.out _ _ ?_ (fun hHeld => ?_)
              · exact ⟨below_cell hb3 hHeld.1, below_cell hb3 hHeld.2.1, below_cell hb3 hHeld.2.2.1, hHeld.2.2.2.trans (hb3.mono hHeld.2.2.2.size)⟩
              clear hK K
              try simp only [Act.put, List.setIfInBounds_toArray, List.set_cons_zero, List.set_cons_succ]
              refine wpAnyL_free (i := 8) (v := ?_) (some 73) rfl rfl (by kernel_rfl) (by kernel_rfl) (by kernel_rfl) (by decide) (fun _ _ _ h => h) (Or.inl ⟨by rfl, ?_⟩) (fun h0 => by assumption) ?_
              rotate_left
              · intro wS
                go_simp
                try with_reducible rfl
              try simp only [Act.put, List.setIfInBounds_toArray, List.set_cons_zero, List.set_cons_succ]
              refine wpAnyL_ready (rs := [9]) (by kernel_rfl) (by simp) ?_
              refine AllReadyL.cons rfl (fun K hK => ?_) AllReadyL.nil
              go_simp
              refine hK.out _ _ ?_ (fun hHeld => ?_)
              · exact ⟨below_cell ((Below.refl _ _).alloc (Nat.le_refl _) _) hHeld.1, below_cell ((Below.refl _ _).alloc (Nat.le_refl _) _) hHeld.2.1, below_cell ((Below.refl _ _).alloc (Nat.le_refl _) _) hHeld.2.2.1, hHeld.2.2.2.trans (((Below.refl _ _).alloc (Nat.le_refl _) _).mono hHeld.2.2.2.size)⟩
              clear hK K
              try simp only [Act.put, List.setIfInBounds_toArray, List.set_cons_zero, List.set_cons_succ]
              refine wpAnyL_ready (rs := [10]) (by kernel_rfl) (by simp) ?_
              refine AllReadyL.last rfl (by kernel_rfl) (fun K hK => ?_) AllReadyL.nil
              obtain ⟨V, hV⟩ := HG.out
              have hV' := hV
              obtain ⟨xs, hxo, hxx⟩ := hV'.outer
              have HV := Lib.hid hV
              have HX := Lib.hid hxx
              have hxl := ownsRow_len hxo
              have HXL := Lib.hid hxl
              have hal := (Below.refl w3.heap.size w3).alloc (Nat.le_refl _) (.cells #[.int .i64 (arO cs k), .slice (some ⟨g3, 0, none⟩) (rowO cs k).length (rowO cs k).length] 95)
              have HAL := Lib.hid hal
              clear hV hV' hxx hxl hal
              refine step_append_lies _ (by rfl) _ _ 35 (by rfl) (ws.heap.size + 1) 95 i0 (.agg #[.int .i64 0, .slice none 0 0]) 2 32 Try.underlying35 hi hz0 hz1 hz2 (by rfl) (by decide) (.slice a n c) (movedK cs tos k).length _ (by rfl) ((ownsRow_below hxo (HB3.out)).alloc _) _ 1 1 [.int .i64 (arO cs k), .slice (some ⟨g3, 0, none⟩) (rowO cs k).length (rowO cs k).length] (by rfl) (by rfl) (fun j u hu => World.news_of_block (heap_alloc_new w3 _) j u (by simpa using hu)) (by simp [Value.oneCell']) (by omega) (by rw [HLN.out]; unfold maxLen; omega) (by rw [HLN.out]; omega) (by have := HB3.out.size; have := HSZ.out; simp; omega) _ rfl ?_; intro g5 cap5 w5 hown5 hgrow5 hat5 hlt5
              have HGM := Lib.hid (OwnOpsV.grow HV.out rfl HXL.out HX.out (HB3.out.trans (HAL.out.mono HB3.out.size)) (OwnRow.below HO3.out HAL.out) HSZ.out hown5 hgrow5 (fun g hg => by
                obtain rfl : g5 = g := by simpa [Value.ownBlock] using hg
                rcases hat5 with e | e
                · exact .inl e
                · exact .inr (by omega)))
              have HB5 := Lib.hid (((HB3.out.trans (HAL.out.mono HB3.out.size)).mono HSZ.out).grown hgrow5 (by have := HB3.out.size; have := HSZ.out; simp; omega) (fun q hq => (hxo.lt q hq).1))
              have hb5 := HBX.out.same (HB5.out.block ws.heap.size (Nat.lt_succ_self _))
              have k2 : w5.cell? ⟨ws.heap.size, 1, none⟩ = some (.slice a n c) := hb5.c 1 rfl
              have z2 := hb5.free 1
              have HB6 := Lib.hid (hb5.set 1 (.slice (some ⟨g5, 0, none⟩) ((movedK cs tos k).length + 1) cap5))
              have hG2 : OwnOps 95 w5 (ws.heap.size + 1) w5.heap.size (.slice (some ⟨g5, 0, none⟩) ((movedK cs tos k).length + 1) cap5) ((movedK cs tos k) ++ [(arO cs k, mapped tos (rowO cs k))]) := by
                have e : ((movedK cs tos k) ++ [(arO cs k, mapped tos (rowO cs k))]).length = (movedK cs tos k).length + 1 := by simp
                show ∃ V, OwnOpsV _ _ _ _ _ ((movedK cs tos k) ++ [(arO cs k, mapped tos (rowO cs k))]).length V _
                rw [e]
                exact ⟨_, HGM.out⟩
              have HG6 := Lib.hid ((hG2.stored (p := ⟨ws.heap.size, 1, none⟩) (Nat.lt_succ_self _) (.slice (some ⟨g5, 0, none⟩) ((movedK cs tos k).length + 1) cap5)).full)
              have HBE := Lib.hid ((HBW.out.trans (HB5.out.mono (Nat.le_succ _))).setCell (p := ⟨ws.heap.size, 1, none⟩) (Nat.le_refl _) (.slice (some ⟨g5, 0, none⟩) ((movedK cs tos k).length + 1) cap5))
              have HZ6 : Hid (ws.heap.size + 1 ≤ (w5.setCell ⟨ws.heap.size, 1, none⟩ (.slice (some ⟨g5, 0, none⟩) ((movedK cs tos k).length + 1) cap5)).heap.size) := Lib.hid (by have := HB5.out.size; have := HSZ.out; simp [World.setCell]; omega)
              clear hown5 hgrow5 hat5 hlt5 hxo hb5 hG2
              refine hK.out _ _ ?_
              clear hK K
              try simp only [Act.put, List.setIfInBounds_toArray, List.set_cons_zero, List.set_cons_succ]
              refine wpAnyL_free (i := 11) (v := ?_) (some 76) rfl rfl (by kernel_rfl) (by kernel_rfl) (by kernel_rfl) (by decide) (fun _ _ _ h => h) (Or.inl ⟨by rfl, ?_⟩) (fun h0 => absurd h0 (by decide)) ?_
              rotate_left
              · intro wS
                go_simp
                try with_reducible rfl
              try simp only [Act.put, List.setIfInBounds_toArray, List.set_cons_zero, List.set_cons_succ]
              refine wpAnyL_ready (rs := [12]) (by kernel_rfl) (by simp) ?_
              refine AllReadyL.last rfl (by kernel_rfl) (fun K hK => ?_) AllReadyL.nil
              go_simp
              refine hK.out _ _ ?_
              clear hK K
              try simp only [Act.put, List.setIfInBounds_toArray, List.set_cons_zero, List.set_cons_succ]
              refine wpAnyL_done (by kernel_rfl) ?_ _
              refine NoPanic.normal ?_
              go_wp2
              go_roundw
              case rel =>
                refine ⟨k + 1, _, _, _, by omega, by go_num, HB6.out, ?_, HBE.out, HZ6.out⟩
                rw [movedK_succ _ _ _ hlt]
                have h := HG6.out
                exact h
              case measure => simp [intOf]; omega
            · obtain rfl : k = cs.length := by omega
              have KR := Lib.hid (KR0.out.below hbr)
              have HRR := Lib.hid (HRR0.out.same (hbr.block _ HRR0.out.lt))
              have g0 := hbx.c 0 rfl
              have g1 := hbx.c 1 rfl
              have HG := Lib.hid (show OwnOps 95 wr (w.heap.size + 3) wr.heap.size (.slice a n c) (movedL cs tos) from hg.mono (by omega))
              clear hbx hg hbr
              have e0 := HRR.out.c 0 rfl
              have f0 := HRR.out.free 0
              have e1 := HRR.out.c 1 rfl
              have f1 := HRR.out.free 1
              go_wp2
              refine bodyPost_ret (v := .tuple #[.agg #[.int .i64 ((m : Int) - 1), .slice a n c], .int .i64 0]) (by simp [results, Try.results49, go_sem, e0, e1, hwr]) rfl ⟨_, _, _, rfl, ?_, ?_⟩
              · rw [HTOS.out]
                exact (((HG.out.stored (by show w.heap.size + 2 < w.heap.size + 3; omega) _).stored (by show w.heap.size + 2 < w.heap.size + 3; omega) _).mono (by omega)).full
              · exact ((KR.out.bel.setCell (by show w.heap.size ≤ w.heap.size + 2; omega) _).setCell (by show w.heap.size ≤ w.heap.size + 2; omega) _)
  · skip
    have H1 := Lib.hid (Tells.yes h1)
    have HTW := Lib.hid (Tells.no h2)
    clear h1 h2
    go_enter Try.func49, Try.ntmps49
    go_wp2_with fail
    refine (implValidInstance _ _ _ _ _ _ _ _ _ _ true _ (K0.out.r 1 rfl :) (K0.out.r 0 rfl :) H1.out).mono ?_
    rintro e w1 ⟨rfl, hb1⟩
    have K1 := Lib.hid (K0.out.below hb1)
    have HR1 := Lib.hid (HRB.out.below hb1)
    have hz : w.heap.size + 3 ≤ w1.heap.size := by have := hb1.size; simpa using this
    have c0' := K1.out.c 0 rfl
    have c1' := K1.out.c 1 rfl
    clear hb1
    have e0 := HR1.out.c 0 rfl
    have f0 := HR1.out.free 0
    have e1 := HR1.out.c 1 rfl
    have f1 := HR1.out.free 1
    clear e0 f0 e1 f1
    go_wp2_with (go_at_call 80; refine (areTwoOf _ _ _ false _ HTW.out).mono ?_; rintro e w2 ⟨rfl, hb2⟩; have K2 := Lib.hid (K1.out.below hb2); have HR2 := Lib.hid (HR1.out.below hb2); have e0 := HR2.out.c 0 rfl; have f0 := HR2.out.free 0; have e1 := HR2.out.c 1 rfl; have f1 := HR2.out.free 1; clear hb2)
    try go_wp2
    refine bodyPost_ret (v := .tuple #[.agg #[.int .i64 0, .slice none 0 0], .int .i64 2]) (by simp [results, Try.results49, go_sem, e0, e1]) rfl ⟨_, _, _, rfl, OwnOps.nil _ _ _ _ (Nat.le_refl _), ?_⟩
    exact ((K2.out.bel.setCell (by show w.heap.size ≤ w.heap.size + 2; omega) _).setCell (by show w.heap.size ≤ w.heap.size + 2; omega) _)
  · have H1 := Lib.hid (Tells.no h1)
    clear h1
    go_enter Try.func49, Try.ntmps49
    go_wp2_with fail
    refine (implValidInstance _ _ _ _ _ _ _ _ _ _ false _ (K0.out.r 1 rfl :) (K0.out.r 0 rfl :) H1.out).mono ?_
    rintro e w1 ⟨rfl, hb1⟩
    have K1 := Lib.hid (K0.out.below hb1)
    have HR1 := Lib.hid (HRB.out.below hb1)
    have hz : w.heap.size + 3 ≤ w1.heap.size := by have := hb1.size; simpa using this
    have c0' := K1.out.c 0 rfl
    have c1' := K1.out.c 1 rfl
    clear hb1
    have e0 := HR1.out.c 0 rfl
    have f0 := HR1.out.free 0
    have e1 := HR1.out.c 1 rfl
    have f1 := HR1.out.free 1
    try go_wp2
    refine bodyPost_ret (v := .tuple #[.agg #[.int .i64 0, .slice none 0 0], .int .i64 1]) (by simp [results, Try.results49, go_sem, e0, e1]) rfl ⟨_, _, _, rfl, OwnOps.nil _ _ _ _ (Nat.le_refl _), ?_⟩
    exact ((K1.out.bel.setCell (by show w.heap.size ≤ w.heap.size + 2; omega) _).setCell (by show w.heap.size ≤ w.heap.size + 2; omega) _)

set_option linter.unusedSimpArgs false in
set_option maxHeartbeats 4000000 in
set_option maxRecDepth 100000 in
theorem specMergeVariables (sz : Int) (a1 : Option Addr) (n1 c1 : Nat) (rs : List (Int × List (List Int))) (va : Int) (a2 : Option Addr) (n2 c2 : Nat) (cs : List (Int × List Int)) (u v : Int) (x : Int) (zs : List (Int × List Int)) (cd : Int) (w : World) (h1 : RelsAt w (.slice a1 n1 c1) rs) (h2 : OpsAt w (.slice a2 n2 c2) cs) (hi : MergeVariablesIs sz rs va cs u v x zs cd) :
    Calls Try.prog 48 #[.agg #[.int .i64 sz, .slice a1 n1 c1], .agg #[.int .i64 va, .slice a2 n2 c2], .int .i64 u, .int .i64 v] w (MadeI w x zs cd) := by
  obtain rfl : n2 = cs.length := by obtain ⟨_, _, hv, _⟩ := h2; simp only [Value.slice.injEq] at hv; exact hv.2.1
  have hcl : cs.length ≤ 9223372036854775807 := by obtain ⟨_, _, _, hn, _⟩ := h2; exact hn
  have HRB : Hid (Box 37 (((w.alloc (.cells #[.int .i64 sz, .slice a1 n1 c1] 33)).alloc (.cells #[.int .i64 va, .slice a2 cs.length c2] 37)).alloc (.cells #[.int .i64 0, .slice none 0 0] 37)) (w.heap.size + 2) #[.int .i64 0, .slice none 0 0]) := Lib.hid (by
    have h := Box.new 37 ((w.alloc (.cells #[.int .i64 sz, .slice a1 n1 c1] 33)).alloc (.cells #[.int .i64 va, .slice a2 cs.length c2] 37)) #[.int .i64 0, .slice none 0 0]
    simp only [World.size_alloc] at h
    exact h)
  have HTP : Hid (TplAt (((w.alloc (.cells #[.int .i64 sz, .slice a1 n1 c1] 33)).alloc (.cells #[.int .i64 va, .slice a2 cs.length c2] 37)).alloc (.cells #[.int .i64 0, .slice none 0 0] 37)) w.heap.size 0 sz rs) := Lib.hid (((TplAt.new w sz a1 n1 c1 rs 33 h1).below ((Below.refl _ _).alloc (Nat.le_refl _) (.cells #[.int .i64 va, .slice a2 cs.length c2] 37))).below ((Below.refl _ _).alloc (Nat.le_refl _) _))
  have HIP : Hid (InstAt (((w.alloc (.cells #[.int .i64 sz, .slice a1 n1 c1] 33)).alloc (.cells #[.int .i64 va, .slice a2 cs.length c2] 37)).alloc (.cells #[.int .i64 0, .slice none 0 0] 37)) (w.heap.size + 1) 0 va cs) := Lib.hid (by
    have h := (InstAt.new (w.alloc (.cells #[.int .i64 sz, .slice a1 n1 c1] 33)) va a2 cs.length c2 cs 37 (h2.below ((Below.refl _ _).alloc (Nat.le_refl _) _))).below ((Below.refl _ _).alloc (Nat.le_refl _) (.cells #[.int .i64 0, .slice none 0 0] 37))
    rwa [World.size_alloc] at h)
  have K0 := Lib.hid ((((((Kept.start w).read (lives_rels _ _) h1).read (lives_ops _ _) h2).box w.heap.size rfl (.int .i64 sz) (.slice a1 n1 c1) 33).box (w.heap.size + 1) (by simp) (.int .i64 va) (.slice a2 cs.length c2) 37).below ((Below.refl _ _).alloc (Nat.le_refl _) (.cells #[.int .i64 0, .slice none 0 0] 37)))
  clear h1 h2
  rcases hi with ⟨h1, h2, rfl, rfl, rfl⟩ | ⟨h1, h2, rfl, rfl, rfl⟩ | ⟨h1, rfl, rfl, rfl⟩
  · skip
    have H1 := Lib.hid (Tells.yes h1)
    obtain ⟨m, rfl⟩ : ∃ m : Nat, va = m := ⟨va.toNat, by have := h1.2.1.1; omega⟩
    have hm10 : m ≤ 10 := by have := h1.2.1.2; omega
    have hcm : cs.length ≤ 1000 := by have := h1.2.2.1; omega
    have HLEN : Hid (∀ k, k < cs.length → (rowO cs k).length ≤ 4) := Lib.hid (fun k hk => by have := (h1.text.2.2 k hk).2.1.2; omega)
    by_cases hUV0 : u < v
    · have hUV := hUV0
      clear hUV0
      obtain ⟨q, rfl⟩ : ∃ q : Nat, u = q := ⟨u.toNat, by have := h2.2.1.1; omega⟩
      obtain ⟨p, rfl⟩ : ∃ p : Nat, v = p := ⟨v.toNat, by have := h2.2.2.1; omega⟩
      have hpm : p < m := by have := h2.2.2.2; omega
      have hqp : q < p := by omega
      have HRNG : Hid (∀ k, k < cs.length → ∀ i, i < (rowO cs k).length → 0 ≤ intN (rowO cs k) i ∧ intN (rowO cs k) i < ((rowF (mrgR q p) m).length : Int)) := Lib.hid (fun k hk i hi => by
        rw [rowF_len]
        exact (h1.text.2.2 k hk).2.2.2 i hi)
      have e1 : (min (q : Int) (p : Int)).toNat = q := by omega
      have e2 : (max (q : Int) (p : Int)).toNat = p := by omega
      rw [e1, e2, Int.toNat_natCast]
      clear e1 e2
      have HI1 := Lib.hid (Tells.yes h2.2.1)
      have HI2 := Lib.hid (Tells.yes h2.2.2)
      have hne : ((q : Int) == (p : Int)) = false := beq_eq_false_iff_ne.2 h2.1
      clear h1 h2
      obtain ⟨i0, hi, hz0, hz1, hz2⟩ := info_parts info_intT
      go_enter Try.func48, Try.ntmps48
      go_wp2_with fail
      refine (l05Ok _ _ _ rs _ _ _ cs true _ HTP.out HIP.out H1.out).mono ?_
      rintro e w1 ⟨rfl, hq1⟩
      have hb1 : Below _ _ w1 := hq1.bel
      have K1 := Lib.hid (K0.out.below hb1)
      have HR1 := Lib.hid (HRB.out.below hb1)
      have hz : w.heap.size + 3 ≤ w1.heap.size := by have := hb1.size; simpa using this
      have c0' := K1.out.c 0 rfl
      have c1' := K1.out.c 1 rfl
      clear hb1 hq1
      have e0 := HR1.out.c 0 rfl
      have f0 := HR1.out.free 0
      have e1 := HR1.out.c 1 rfl
      have f1 := HR1.out.free 1
      clear e0 f0 e1 f1
      go_wp2_with fail
      refine (l00In _ _ _ true _ HI1.out).mono ?_
      rintro e w2 ⟨rfl, rfl⟩
      go_wp2_with fail
      refine (l00In _ _ _ true _ HI2.out).mono ?_
      rintro e w2 ⟨rfl, rfl⟩
      go_wp2_with (go_at_call 78; refine (l00Max_lt _ _ hUV _).mono ?_; rintro e w9 ⟨rfl, rfl⟩)
      clear c0' c1'
      go_loopw [11, 12] (fun v i wr => ∃ (k : Nat) (a : Option Addr) (n c : Nat), k ≤ m ∧ i = .int .i64 k ∧ v = .slice a n c ∧ wr.ownsRow w1.heap.size 2 1 (.slice a n c) k ((rowF (mrgR q p) k).map (Value.int .i64)) ∧ Below w1.heap.size w1 wr) (fun _ i _ => m - (intOf i).toNat)
      case atStart => exact ⟨0, _, _, _, Nat.zero_le _, rfl, rfl, ownRow_lit w1 w1.heap.size [] (Nat.le_refl _) (by simp), (Below.refl _ _).alloc (Nat.le_refl _) _⟩
      case round =>
        obtain ⟨k, a, n, c, hk, rfl, rfl, hown, hbel⟩ := hrel
        obtain ⟨wo, rfl⟩ : ∃ wo : World, wo = wr := ⟨_, rfl⟩
        have HO := Lib.hid hown
        have HW := Lib.hid hbel
        have KR := Lib.hid (K1.out.below hbel)
        have g0 := KR.out.c 0 rfl
        clear hown hbel
        by_cases hlt : k < m
        · have hlt' : (k : Int) < (m : Int) := by omega
          by_cases hkp : k = p
          · subst hkp
            have hkpI : ((k : Int) == (k : Int)) = true := beq_iff_eq.2 rfl
            have HXX : Hid (mrgR q k k = (q : Int)) := Lib.hid (by simp [mrgR])
            have hc1 := cell_one_new wo (.int .i64 ((q : Int))) 2
            have HC1 := Lib.hid hc1
            clear hc1
            go_wp2_with (first | (go_at_call 77; refine (l00Min_lt _ _ hUV wo).mono ?_; rintro e w9 ⟨rfl, rfl⟩) | (at_builtin; refine wpList_append_own _ rfl _ _ 56 rfl w1.heap.size 2 i0 (.int .i64 0) 1 8 Try.underlying56 hi hz0 hz1 hz2 rfl (by decide) (.slice a n c) k _ rfl (HO.out.alloc _) ⟨wo.heap.size, 0, none⟩ 1 1 [.int .i64 ((q : Int))] rfl rfl HC1.out (by simp [Value.oneCell']) (by unfold maxLen; omega) (by omega) (by have := HW.out.size; simp; omega) ?_; intro v' w3 hown' hgrow _; obtain ⟨g', c', rfl⟩ := ownsRow_succ hown'; have HG3 := Lib.hid hown'; have HR3 := Lib.hid hgrow; clear hown' hgrow))
            go_roundw
            case rel =>
              refine ⟨k + 1, _, _, _, by omega, by go_num, rfl, ?_, ((HW.out.alloc HW.out.size _).grown HR3.out (by have := HW.out.size; simp; omega) (fun q hq => (HO.out.lt q hq).1))⟩
              rw [rowF_succ, HXX.out]; exact HG3.out
            case measure => simp [intOf]; omega
          · have hkpI : ((k : Int) == (p : Int)) = false := by simp; omega
            by_cases hgt : p < k
            · have HXX : Hid (mrgR q p k = (k : Int) - 1) := Lib.hid (by simp [mrgR, hkp, hgt])
              have hgtI : decide ((k : Int) > (p : Int)) = true := by simp; omega
              have hc1 := cell_one_new wo (.int .i64 ((k : Int) - 1)) 2
              have HC1 := Lib.hid hc1
              clear hc1
              go_wp2_with (first | (go_at_call 77; refine (l00Min_lt _ _ hUV wo).mono ?_; rintro e w9 ⟨rfl, rfl⟩) | (at_builtin; refine wpList_append_own _ rfl _ _ 56 rfl w1.heap.size 2 i0 (.int .i64 0) 1 8 Try.underlying56 hi hz0 hz1 hz2 rfl (by decide) (.slice a n c) k _ rfl (HO.out.alloc _) ⟨wo.heap.size, 0, none⟩ 1 1 [.int .i64 ((k : Int) - 1)] rfl rfl HC1.out (by simp [Value.oneCell']) (by unfold maxLen; omega) (by omega) (by have := HW.out.size; simp; omega) ?_; intro v' w3 hown' hgrow _; obtain ⟨g', c', rfl⟩ := ownsRow_succ hown'; have HG3 := Lib.hid hown'; have HR3 := Lib.hid hgrow; clear hown' hgrow))
              go_roundw
              case rel =>
                refine ⟨k + 1, _, _, _, by omega, by go_num, rfl, ?_, ((HW.out.alloc HW.out.size _).grown HR3.out (by have := HW.out.size; simp; omega) (fun q hq => (HO.out.lt q hq).1))⟩
                rw [rowF_succ, HXX.out]; exact HG3.out
              case measure => simp [intOf]; omega
            · have HXX : Hid (mrgR q p k = (k : Int)) := Lib.hid (by simp [mrgR, hkp, hgt])
              have hgtI : decide ((k : Int) > (p : Int)) = false := by simp; omega
              have hc1 := cell_one_new wo (.int .i64 ((k : Int))) 2
              have HC1 := Lib.hid hc1
              clear hc1
              go_wp2_with (first | (go_at_call 77; refine (l00Min_lt _ _ hUV wo).mono ?_; rintro e w9 ⟨rfl, rfl⟩) | (at_builtin; refine wpList_append_own _ rfl _ _ 56 rfl w1.heap.size 2 i0 (.int .i64 0) 1 8 Try.underlying56 hi hz0 hz1 hz2 rfl (by decide) (.slice a n c) k _ rfl (HO.out.alloc _) ⟨wo.heap.size, 0, none⟩ 1 1 [.int .i64 ((k : Int))] rfl rfl HC1.out (by simp [Value.oneCell']) (by unfold maxLen; omega) (by omega) (by have := HW.out.size; simp; omega) ?_; intro v' w3 hown' hgrow _; obtain ⟨g', c', rfl⟩ := ownsRow_succ hown'; have HG3 := Lib.hid hown'; have HR3 := Lib.hid hgrow; clear hown' hgrow))
              go_roundw
              case rel =>
                refine ⟨k + 1, _, _, _, by omega, by go_num, rfl, ?_, ((HW.out.alloc HW.out.size _).grown HR3.out (by have := HW.out.size; simp; omega) (fun q hq => (HO.out.lt q hq).1))⟩
                rw [rowF_succ, HXX.out]; exact HG3.out
              case measure => simp [intOf]; omega
        · obtain rfl : m = k := by omega
          have hm : n = m := by
            rcases ownsRow_parts HO.out with ⟨hv, h0, _⟩ | ⟨_, _, hv, _⟩ <;> simp only [Value.slice.injEq] at hv <;> omega
          subst hm
          have HTO : Hid (RowAt wo (.slice a n c) (rowF (mrgR q p) n)) := Lib.hid (OwnRow.rowAt (B := w1.heap.size) (by
            show World.ownsRow _ _ _ _ _ _ _
            rw [rowF_len]
            exact HO.out))
          have HRR := Lib.hid (HR1.out.below HW.out)
          have hszr : w.heap.size + 3 ≤ wo.heap.size := by have := HW.out.size; omega
          have g1 := KR.out.c 1 rfl
          have hwr : IntKind.i64.wrap ((n : Int) - 1) = (n : Int) - 1 := IntWalk.i64_in _ (by omega)
          go_wp2
          refine wp_region_noPanic ?_
          refine wp_region_late (S := (fun w' => w'.cell? ⟨w.heap.size + 1, 0, none⟩ = some (.int .i64 (n : Int)) ∧ w'.cell? ⟨w.heap.size + 1, 1, none⟩ = some (.slice a2 cs.length c2) ∧ Below wo.heap.size wo w')) [8] (by kernel_rfl) ?_ (fun hHeld => ?_)
          · exact ⟨g0, g1, (QW.refl _).drew.below _⟩
          refine wpAnyL_free (i := 0) (v := ?_) (some 69) rfl rfl (by kernel_rfl) (by kernel_rfl) (by kernel_rfl) (by decide) (fun _ _ _ h => h) (Or.inl ⟨by rfl, ?_⟩) (fun h0 => by assumption) ?_
          rotate_left
          · intro wS
            go_simp
            try with_reducible rfl
          try simp only [Act.put, List.setIfInBounds_toArray, List.set_cons_zero, List.set_cons_succ]
          refine wpAnyL_take (i := 1) (v := ?_) (some 70) rfl rfl (by kernel_rfl) (by kernel_rfl) (by kernel_rfl) (by kernel_rfl) (by kernel_rfl) (fun _ _ _ h => h) (Or.inl ⟨by rfl, ?_⟩) (by assumption) ?_
          rotate_left
          · intro wS hSw
            try dsimp only at hSw
            go_simp
            try with_reducible rfl
          try simp only [Act.put, List.setIfInBounds_toArray, List.set_cons_zero, List.set_cons_succ]
          refine wpAnyL_free (i := 2) (v := ?_) (some 71) rfl rfl (by kernel_rfl) (by kernel_rfl) (by kernel_rfl) (by decide) (fun _ _ _ h => h) (Or.inl ⟨by rfl, ?_⟩) (fun h0 => by assumption) ?_
          rotate_left
          · intro wS
            go_simp
            try with_reducible rfl
          try simp only [Act.put, List.setIfInBounds_toArray, List.set_cons_zero, List.set_cons_succ]
          refine wpAnyL_free (i := 3) (v := ?_) (some 72) rfl rfl (by kernel_rfl) (by kernel_rfl) (by kernel_rfl) (by decide) (fun _ _ _ h => h) (Or.inl ⟨by rfl, ?_⟩) (fun h0 => by assumption) ?_
          rotate_left
          · intro wS
            go_simp
            try with_reducible rfl
          try simp only [Act.put, List.setIfInBounds_toArray, List.set_cons_zero, List.set_cons_succ]
          refine wpAnyL_take (i := 4) (v := ?_) (some 73) rfl rfl (by kernel_rfl) (by kernel_rfl) (by kernel_rfl) (by kernel_rfl) (by kernel_rfl) (fun _ _ _ h => h) (Or.inl ⟨by rfl, ?_⟩) (by assumption) ?_
          rotate_left
          · intro wS hSw
            try dsimp only at hSw
            go_simp
            try with_reducible rfl
          try simp only [Act.put, List.setIfInBounds_toArray, List.set_cons_zero, List.set_cons_succ]
          refine wpAnyL_free (i := 5) (v := ?_) (some 74) rfl rfl (by kernel_rfl) (by kernel_rfl) (by kernel_rfl) (by decide) (fun _ _ _ h => h) (Or.inl ⟨by rfl, ?_⟩) (fun h0 => by assumption) ?_
          rotate_left
          · intro wS
            go_simp
            try with_reducible rfl
          try simp only [Act.put, List.setIfInBounds_toArray, List.set_cons_zero, List.set_cons_succ]
          refine wpAnyL_ready (rs := [6]) (by kernel_rfl) (by simp) ?_
          refine AllReadyL.cons rfl (fun K hK => ?_) AllReadyL.nil
          go_simp; go_at_call 99; refine (l05Moved _ _ cs (rowF (mrgR q p) n) _ ((KR.out.r 0 rfl : OpsAt wo (.slice a2 cs.length c2) cs).below hHeld.2.2) (HTO.out.below hHeld.2.2) HLEN.out HRNG.out hcm).mono ?_; rintro e w5 ⟨a5, n5, c5, rfl, ho5, hb5⟩
          have HO5 := Lib.hid (OwnOps.mono ho5 (B' := w.heap.size + 3) (by have := hHeld.2.2.size; simp; omega))
          have HB5 := Lib.hid (hHeld.2.2.trans (hb5.mono hHeld.2.2.size))
          have HR5 := Lib.hid (HRR.out.below HB5.out)
          have e0 := HR5.out.c 0 rfl
          have f0 := HR5.out.free 0
          have e1 := HR5.out.c 1 rfl
          have f1 := HR5.out.free 1
          refine hK.out _ _ ?_ (fun hHeld => ?_)
          · exact ⟨below_cell hb5 hHeld.1, below_cell hb5 hHeld.2.1, hHeld.2.2.trans (hb5.mono hHeld.2.2.size)⟩
          clear hK K
          try simp only [Act.put, List.setIfInBounds_toArray, List.set_cons_zero, List.set_cons_succ]
          refine wpAnyL_free (i := 7) (v := ?_) (some 76) rfl rfl (by kernel_rfl) (by kernel_rfl) (by kernel_rfl) (by decide) (fun _ _ _ h => h) (Or.inl ⟨by rfl, ?_⟩) (fun h0 => by assumption) ?_
          rotate_left
          · intro wS
            go_simp
            try with_reducible rfl
          try simp only [Act.put, List.setIfInBounds_toArray, List.set_cons_zero, List.set_cons_succ]
          refine wpAnyL_ready (rs := [8]) (by kernel_rfl) (by simp) ?_
          refine AllReadyL.last rfl (by kernel_rfl) (fun K hK => ?_) AllReadyL.nil
          go_simp
          refine hK.out _ _ ?_
          clear hK K
          try simp only [Act.put, List.setIfInBounds_toArray, List.set_cons_zero, List.set_cons_succ]
          refine wpAnyL_free (i := 9) (v := ?_) (some 9) rfl rfl (by kernel_rfl) (by kernel_rfl) (by kernel_rfl) (by decide) (fun _ _ _ h => h) (Or.inl ⟨by rfl, ?_⟩) (fun h0 => absurd h0 (by decide)) ?_
          rotate_left
          · intro wS
            go_simp
            try with_reducible rfl
          try simp only [Act.put, List.setIfInBounds_toArray, List.set_cons_zero, List.set_cons_succ]
          refine wpAnyL_done (by kernel_rfl) ?_ _
          refine NoPanic.normal ?_
          try go_wp2
          refine bodyPost_ret (v := .tuple #[.agg #[.int .i64 ((n : Int) - 1), .slice a5 n5 c5], .int .i64 0]) (by simp [results, Try.results48, go_sem, e0, e1, hwr]) rfl ⟨_, _, _, rfl, ?_, ?_⟩
          · exact (((HO5.out.stored (by show w.heap.size + 2 < w.heap.size + 3; omega) _).stored (by show w.heap.size + 2 < w.heap.size + 3; omega) _).mono (by omega)).full
          · exact (((KR.out.bel.trans (HB5.out.mono KR.out.bel.size)).setCell (by show w.heap.size ≤ w.heap.size + 2; omega) _).setCell (by show w.heap.size ≤ w.heap.size + 2; omega) _)
    · have hUV : v < u := by have := h2.1; omega
      clear hUV0
      obtain ⟨q, rfl⟩ : ∃ q : Nat, v = q := ⟨v.toNat, by have := h2.2.2.1; omega⟩
      obtain ⟨p, rfl⟩ : ∃ p : Nat, u = p := ⟨u.toNat, by have := h2.2.1.1; omega⟩
      have hpm : p < m := by have := h2.2.1.2; omega
      have hqp : q < p := by omega
      have HRNG : Hid (∀ k, k < cs.length → ∀ i, i < (rowO cs k).length → 0 ≤ intN (rowO cs k) i ∧ intN (rowO cs k) i < ((rowF (mrgR q p) m).length : Int)) := Lib.hid (fun k hk i hi => by
        rw [rowF_len]
        exact (h1.text.2.2 k hk).2.2.2 i hi)
      have e1 : (min (p : Int) (q : Int)).toNat = q := by omega
      have e2 : (max (p : Int) (q : Int)).toNat = p := by omega
      rw [e1, e2, Int.toNat_natCast]
      clear e1 e2
      have HI1 := Lib.hid (Tells.yes h2.2.1)
      have HI2 := Lib.hid (Tells.yes h2.2.2)
      have hne : ((p : Int) == (q : Int)) = false := beq_eq_false_iff_ne.2 h2.1
      clear h1 h2
      obtain ⟨i0, hi, hz0, hz1, hz2⟩ := info_parts info_intT
      go_enter Try.func48, Try.ntmps48
      go_wp2_with fail
      refine (l05Ok _ _ _ rs _ _ _ cs true _ HTP.out HIP.out H1.out).mono ?_
      rintro e w1 ⟨rfl, hq1⟩
      have hb1 : Below _ _ w1 := hq1.bel
      have K1 := Lib.hid (K0.out.below hb1)
      have HR1 := Lib.hid (HRB.out.below hb1)
      have hz : w.heap.size + 3 ≤ w1.heap.size := by have := hb1.size; simpa using this
      have c0' := K1.out.c 0 rfl
      have c1' := K1.out.c 1 rfl
      clear hb1 hq1
      have e0 := HR1.out.c 0 rfl
      have f0 := HR1.out.free 0
      have e1 := HR1.out.c 1 rfl
      have f1 := HR1.out.free 1
      clear e0 f0 e1 f1
      go_wp2_with fail
      refine (l00In _ _ _ true _ HI1.out).mono ?_
      rintro e w2 ⟨rfl, rfl⟩
      go_wp2_with fail
      refine (l00In _ _ _ true _ HI2.out).mono ?_
      rintro e w2 ⟨rfl, rfl⟩
      go_wp2_with (go_at_call 78; refine (l00Max_gt _ _ hUV _).mono ?_; rintro e w9 ⟨rfl, rfl⟩)
      clear c0' c1'
      go_loopw [11, 12] (fun v i wr => ∃ (k : Nat) (a : Option Addr) (n c : Nat), k ≤ m ∧ i = .int .i64 k ∧ v = .slice a n c ∧ wr.ownsRow w1.heap.size 2 1 (.slice a n c) k ((rowF (mrgR q p) k).map (Value.int .i64)) ∧ Below w1.heap.size w1 wr) (fun _ i _ => m - (intOf i).toNat)
      case atStart => exact ⟨0, _, _, _, Nat.zero_le _, rfl, rfl, ownRow_lit w1 w1.heap.size [] (Nat.le_refl _) (by simp), (Below.refl _ _).alloc (Nat.le_refl _) _⟩
      case round =>
        obtain ⟨k, a, n, c, hk, rfl, rfl, hown, hbel⟩ := hrel
        obtain ⟨wo, rfl⟩ : ∃ wo : World, wo = wr := ⟨_, rfl⟩
        have HO := Lib.hid hown
        have HW := Lib.hid hbel
        have KR := Lib.hid (K1.out.below hbel)
        have g0 := KR.out.c 0 rfl
        clear hown hbel
        by_cases hlt : k < m
        · have hlt' : (k : Int) < (m : Int) := by omega
          by_cases hkp : k = p
          · subst hkp
            have hkpI : ((k : Int) == (k : Int)) = true := beq_iff_eq.2 rfl
            have HXX : Hid (mrgR q k k = (q : Int)) := Lib.hid (by simp [mrgR])
            have hc1 := cell_one_new wo (.int .i64 ((q : Int))) 2
            have HC1 := Lib.hid hc1
            clear hc1
            go_wp2_with (first | (go_at_call 77; refine (l00Min_gt _ _ hUV wo).mono ?_; rintro e w9 ⟨rfl, rfl⟩) | (at_builtin; refine wpList_append_own _ rfl _ _ 56 rfl w1.heap.size 2 i0 (.int .i64 0) 1 8 Try.underlying56 hi hz0 hz1 hz2 rfl (by decide) (.slice a n c) k _ rfl (HO.out.alloc _) ⟨wo.heap.size, 0, none⟩ 1 1 [.int .i64 ((q : Int))] rfl rfl HC1.out (by simp [Value.oneCell']) (by unfold maxLen; omega) (by omega) (by have := HW.out.size; simp; omega) ?_; intro v' w3 hown' hgrow _; obtain ⟨g', c', rfl⟩ := ownsRow_succ hown'; have HG3 := Lib.hid hown'; have HR3 := Lib.hid hgrow; clear hown' hgrow))
            go_roundw
            case rel =>
              refine ⟨k + 1, _, _, _, by omega, by go_num, rfl, ?_, ((HW.out.alloc HW.out.size _).grown HR3.out (by have := HW.out.size; simp; omega) (fun q hq => (HO.out.lt q hq).1))⟩
              rw [rowF_succ, HXX.out]; exact HG3.out
            case measure => simp [intOf]; omega
          · have hkpI : ((k : Int) == (p : Int)) = false := by simp; omega
            by_cases hgt : p < k
            · have HXX : Hid (mrgR q p k = (k : Int) - 1) := Lib.hid (by simp [mrgR, hkp, hgt])
              have hgtI : decide ((k : Int) > (p : Int)) = true := by simp; omega
              have hc1 := cell_one_new wo (.int .i64 ((k : Int) - 1)) 2
              have HC1 := Lib.hid hc1
              clear hc1
              go_wp2_with (first | (go_at_call 77; refine (l00Min_gt _ _ hUV wo).mono ?_; rintro e w9 ⟨rfl, rfl⟩) | (at_builtin; refine wpList_append_own _ rfl _ _ 56 rfl w1.heap.size 2 i0 (.int .i64 0) 1 8 Try.underlying56 hi hz0 hz1 hz2 rfl (by decide) (.slice a n c) k _ rfl (HO.out.alloc _) ⟨wo.heap.size, 0, none⟩ 1 1 [.int .i64 ((k : Int) - 1)] rfl rfl HC1.out (by simp [Value.oneCell']) (by unfold maxLen; omega) (by omega) (by have := HW.out.size; simp; omega) ?_; intro v' w3 hown' hgrow _; obtain ⟨g', c', rfl⟩ := ownsRow_succ hown'; have HG3 := Lib.hid hown'; have HR3 := Lib.hid hgrow; clear hown' hgrow))
              go_roundw
              case rel =>
                refine ⟨k + 1, _, _, _, by omega, by go_num, rfl, ?_, ((HW.out.alloc HW.out.size _).grown HR3.out (by have := HW.out.size; simp; omega) (fun q hq => (HO.out.lt q hq).1))⟩
                rw [rowF_succ, HXX.out]; exact HG3.out
              case measure => simp [intOf]; omega
            · have HXX : Hid (mrgR q p k = (k : Int)) := Lib.hid (by simp [mrgR, hkp, hgt])
              have hgtI : decide ((k : Int) > (p : Int)) = false := by simp; omega
              have hc1 := cell_one_new wo (.int .i64 ((k : Int))) 2
              have HC1 := Lib.hid hc1
              clear hc1
              go_wp2_with (first | (go_at_call 77; refine (l00Min_gt _ _ hUV wo).mono ?_; rintro e w9 ⟨rfl, rfl⟩) | (at_builtin; refine wpList_append_own _ rfl _ _ 56 rfl w1.heap.size 2 i0 (.int .i64 0) 1 8 Try.underlying56 hi hz0 hz1 hz2 rfl (by decide) (.slice a n c) k _ rfl (HO.out.alloc _) ⟨wo.heap.size, 0, none⟩ 1 1 [.int .i64 ((k : Int))] rfl rfl HC1.out (by simp [Value.oneCell']) (by unfold maxLen; omega) (by omega) (by have := HW.out.size; simp; omega) ?_; intro v' w3 hown' hgrow _; obtain ⟨g', c', rfl⟩ := ownsRow_succ hown'; have HG3 := Lib.hid hown'; have HR3 := Lib.hid hgrow; clear hown' hgrow))
              go_roundw
              case rel =>
                refine ⟨k + 1, _, _, _, by omega, by go_num, rfl, ?_, ((HW.out.alloc HW.out.size _).grown HR3.out (by have := HW.out.size; simp; omega) (fun q hq => (HO.out.lt q hq).1))⟩
                rw [rowF_succ, HXX.out]; exact HG3.out
              case measure => simp [intOf]; omega
        · obtain rfl : m = k := by omega
          have hm : n = m := by
            rcases ownsRow_parts HO.out with ⟨hv, h0, _⟩ | ⟨_, _, hv, _⟩ <;> simp only [Value.slice.injEq] at hv <;> omega
          subst hm
          have HTO : Hid (RowAt wo (.slice a n c) (rowF (mrgR q p) n)) := Lib.hid (OwnRow.rowAt (B := w1.heap.size) (by
            show World.ownsRow _ _ _ _ _ _ _
            rw [rowF_len]
            exact HO.out))
          have HRR := Lib.hid (HR1.out.below HW.out)
          have hszr : w.heap.size + 3 ≤ wo.heap.size := by have := HW.out.size; omega
          have g1 := KR.out.c 1 rfl
          have hwr : IntKind.i64.wrap ((n : Int) - 1) = (n : Int) - 1 := IntWalk.i64_in _ (by omega)
          go_wp2
          refine wp_region_noPanic ?_
          refine wp_region_late (S := (fun w' => w'.cell? ⟨w.heap.size + 1, 0, none⟩ = some (.int .i64 (n : Int)) ∧ w'.cell? ⟨w.heap.size + 1, 1, none⟩ = some (.slice a2 cs.length c2) ∧ Below wo.heap.size wo w')) [8] (by kernel_rfl) ?_ (fun hHeld => ?_)
          · exact ⟨g0, g1, (QW.refl _).drew.below _⟩
          refine wpAnyL_free (i := 0) (v := ?_) (some 69) rfl rfl (by kernel_rfl) (by kernel_rfl) (by kernel_rfl) (by decide) (fun _ _ _ h => h) (Or.inl ⟨by rfl, ?_⟩) (fun h0 => by assumption) ?_
          rotate_left
          · intro wS
            go_simp
            try with_reducible rfl
          try simp only [Act.put, List.setIfInBounds_toArray, List.set_cons_zero, List.set_cons_succ]
          refine wpAnyL_take (i := 1) (v := ?_) (some 70) rfl rfl (by kernel_rfl) (by kernel_rfl) (by kernel_rfl) (by kernel_rfl) (by kernel_rfl) (fun _ _ _ h => h) (Or.inl ⟨by rfl, ?_⟩) (by assumption) ?_
          rotate_left
          · intro wS hSw
            try dsimp only at hSw
            go_simp
            try with_reducible rfl
          try simp only [Act.put, List.setIfInBounds_toArray, List.set_cons_zero, List.set_cons_succ]
          refine wpAnyL_free (i := 2) (v := ?_) (some 71) rfl rfl (by kernel_rfl) (by kernel_rfl) (by kernel_rfl) (by decide) (fun _ _ _ h => h) (Or.inl ⟨by rfl, ?_⟩) (fun h0 => by assumption) ?_
          rotate_left
          · intro wS
            go_simp
            try with_reducible rfl
          try simp only [Act.put, List.setIfInBounds_toArray, List.set_cons_zero, List.set_cons_succ]
          refine wpAnyL_free (i := 3) (v := ?_) (some 72) rfl rfl (by kernel_rfl) (by kernel_rfl) (by kernel_rfl) (by decide) (fun _ _ _ h => h) (Or.inl ⟨by rfl, ?_⟩) (fun h0 => by assumption) ?_
          rotate_left
          · intro wS
            go_simp
            try with_reducible rfl
          try simp only [Act.put, List.setIfInBounds_toArray, List.set_cons_zero, List.set_cons_succ]
          refine wpAnyL_take (i := 4) (v := ?_) (some 73) rfl rfl (by kernel_rfl) (by kernel_rfl) (by kernel_rfl) (by kernel_rfl) (by kernel_rfl) (fun _ _ _ h => h) (Or.inl ⟨by rfl, ?_⟩) (by assumption) ?_
          rotate_left
          · intro wS hSw
            try dsimp only at hSw
            go_simp
            try with_reducible rfl
          try simp only [Act.put, List.setIfInBounds_toArray, List.set_cons_zero, List.set_cons_succ]
          refine wpAnyL_free (i := 5) (v := ?_) (some 74) rfl rfl (by kernel_rfl) (by kernel_rfl) (by kernel_rfl) (by decide) (fun _ _ _ h => h) (Or.inl ⟨by rfl, ?_⟩) (fun h0 => by assumption) ?_
          rotate_left
          · intro wS
            go_simp
            try with_reducible rfl
          try simp only [Act.put, List.setIfInBounds_toArray, List.set_cons_zero, List.set_cons_succ]
          refine wpAnyL_ready (rs := [6]) (by kernel_rfl) (by simp) ?_
          refine AllReadyL.cons rfl (fun K hK => ?_) AllReadyL.nil
          go_simp; go_at_call 99; refine (l05Moved _ _ cs (rowF (mrgR q p) n) _ ((KR.out.r 0 rfl : OpsAt wo (.slice a2 cs.length c2) cs).below hHeld.2.2) (HTO.out.below hHeld.2.2) HLEN.out HRNG.out hcm).mono ?_; rintro e w5 ⟨a5, n5, c5, rfl, ho5, hb5⟩
          have HO5 := Lib.hid (OwnOps.mono ho5 (B' := w.heap.size + 3) (by have := hHeld.2.2.size; simp; omega))
          have HB5 := Lib.hid (hHeld.2.2.trans (hb5.mono hHeld.2.2.size))
          have HR5 := Lib.hid (HRR.out.below HB5.out)
          have e0 := HR5.out.c 0 rfl
          have f0 := HR5.out.free 0
          have e1 := HR5.out.c 1 rfl
          have f1 := HR5.out.free 1
          refine hK.out _ _ ?_ (fun hHeld => ?_)
          · exact ⟨below_cell hb5 hHeld.1, below_cell hb5 hHeld.2.1, hHeld.2.2.trans (hb5.mono hHeld.2.2.size)⟩
          clear hK K
          try simp only [Act.put, List.setIfInBounds_toArray, List.set_cons_zero, List.set_cons_succ]
          refine wpAnyL_free (i := 7) (v := ?_) (some 76) rfl rfl (by kernel_rfl) (by kernel_rfl) (by kernel_rfl) (by decide) (fun _ _ _ h => h) (Or.inl ⟨by rfl, ?_⟩) (fun h0 => by assumption) ?_
          rotate_left
          · intro wS
            go_simp
            try with_reducible rfl
          try simp only [Act.put, List.setIfInBounds_toArray, List.set_cons_zero, List.set_cons_succ]
          refine wpAnyL_ready (rs := [8]) (by kernel_rfl) (by simp) ?_
          refine AllReadyL.last rfl (by kernel_rfl) (fun K hK => ?_) AllReadyL.nil
          go_simp
          refine hK.out _ _ ?_
          clear hK K
          try simp only [Act.put, List.setIfInBounds_toArray, List.set_cons_zero, List.set_cons_succ]
          refine wpAnyL_free (i := 9) (v := ?_) (some 9) rfl rfl (by kernel_rfl) (by kernel_rfl) (by kernel_rfl) (by decide) (fun _ _ _ h => h) (Or.inl ⟨by rfl, ?_⟩) (fun h0 => absurd h0 (by decide)) ?_
          rotate_left
          · intro wS
            go_simp
            try with_reducible rfl
          try simp only [Act.put, List.setIfInBounds_toArray, List.set_cons_zero, List.set_cons_succ]
          refine wpAnyL_done (by kernel_rfl) ?_ _
          refine NoPanic.normal ?_
          try go_wp2
          refine bodyPost_ret (v := .tuple #[.agg #[.int .i64 ((n : Int) - 1), .slice a5 n5 c5], .int .i64 0]) (by simp [results, Try.results48, go_sem, e0, e1, hwr]) rfl ⟨_, _, _, rfl, ?_, ?_⟩
          · exact (((HO5.out.stored (by show w.heap.size + 2 < w.heap.size + 3; omega) _).stored (by show w.heap.size + 2 < w.heap.size + 3; omega) _).mono (by omega)).full
          · exact (((KR.out.bel.trans (HB5.out.mono KR.out.bel.size)).setCell (by show w.heap.size ≤ w.heap.size + 2; omega) _).setCell (by show w.heap.size ≤ w.heap.size + 2; omega) _)
  · skip
    have H1 := Lib.hid (Tells.yes h1)
    have hv1 : 1 ≤ va := h1.2.1.1
    have hv2 : va ≤ 10 := h1.2.1.2
    clear h1
    by_cases hi1 : InP u 0 (va - 1)
    · have HI1 := Lib.hid (Tells.yes hi1)
      by_cases hi2 : InP v 0 (va - 1)
      · have HI2 := Lib.hid (Tells.yes hi2)
        obtain rfl : u = v := Classical.byContradiction fun hn => h2 ⟨hn, hi1, hi2⟩
        have hne : (u == u) = true := beq_iff_eq.2 rfl
        clear h2 hi1 hi2
        go_enter Try.func48, Try.ntmps48
        go_wp2_with fail
        refine (l05Ok _ _ _ rs _ _ _ cs true _ HTP.out HIP.out H1.out).mono ?_
        rintro e w1 ⟨rfl, hq1⟩
        have hb1 : Below _ _ w1 := hq1.bel
        have K1 := Lib.hid (K0.out.below hb1)
        have HR1 := Lib.hid (HRB.out.below hb1)
        have hz : w.heap.size + 3 ≤ w1.heap.size := by have := hb1.size; simpa using this
        have c0' := K1.out.c 0 rfl
        have c1' := K1.out.c 1 rfl
        clear hb1 hq1
        have e0 := HR1.out.c 0 rfl
        have f0 := HR1.out.free 0
        have e1 := HR1.out.c 1 rfl
        have f1 := HR1.out.free 1
        go_wp2_with fail
        refine (l00In _ _ _ true _ HI1.out).mono ?_
        rintro e w2 ⟨rfl, rfl⟩
        go_wp2_with fail
        refine (l00In _ _ _ true _ HI2.out).mono ?_
        rintro e w2 ⟨rfl, rfl⟩
        try go_wp2
        refine bodyPost_ret (v := .tuple #[.agg #[.int .i64 0, .slice none 0 0], .int .i64 2]) (by simp [results, Try.results48, go_sem, e0, e1]) rfl ⟨_, _, _, rfl, OwnOps.nil _ _ _ _ (Nat.le_refl _), ?_⟩
        exact ((K1.out.bel.setCell (by show w.heap.size ≤ w.heap.size + 2; omega) _).setCell (by show w.heap.size ≤ w.heap.size + 2; omega) _)
      · have HI2 := Lib.hid (Tells.no hi2)
        clear h2 hi1 hi2
        go_enter Try.func48, Try.ntmps48
        go_wp2_with fail
        refine (l05Ok _ _ _ rs _ _ _ cs true _ HTP.out HIP.out H1.out).mono ?_
        rintro e w1 ⟨rfl, hq1⟩
        have hb1 : Below _ _ w1 := hq1.bel
        have K1 := Lib.hid (K0.out.below hb1)
        have HR1 := Lib.hid (HRB.out.below hb1)
        have hz : w.heap.size + 3 ≤ w1.heap.size := by have := hb1.size; simpa using this
        have c0' := K1.out.c 0 rfl
        have c1' := K1.out.c 1 rfl
        clear hb1 hq1
        have e0 := HR1.out.c 0 rfl
        have f0 := HR1.out.free 0
        have e1 := HR1.out.c 1 rfl
        have f1 := HR1.out.free 1
        go_wp2_with fail
        refine (l00In _ _ _ true _ HI1.out).mono ?_
        rintro e w2 ⟨rfl, rfl⟩
        go_wp2_with fail
        refine (l00In _ _ _ false _ HI2.out).mono ?_
        rintro e w2 ⟨rfl, rfl⟩
        try go_wp2
        refine bodyPost_ret (v := .tuple #[.agg #[.int .i64 0, .slice none 0 0], .int .i64 2]) (by simp [results, Try.results48, go_sem, e0, e1]) rfl ⟨_, _, _, rfl, OwnOps.nil _ _ _ _ (Nat.le_refl _), ?_⟩
        exact ((K1.out.bel.setCell (by show w.heap.size ≤ w.heap.size + 2; omega) _).setCell (by show w.heap.size ≤ w.heap.size + 2; omega) _)
    · have HI1 := Lib.hid (Tells.no hi1)
      clear h2 hi1
      go_enter Try.func48, Try.ntmps48
      go_wp2_with fail
      refine (l05Ok _ _ _ rs _ _ _ cs true _ HTP.out HIP.out H1.out).mono ?_
      rintro e w1 ⟨rfl, hq1⟩
      have hb1 : Below _ _ w1 := hq1.bel
      have K1 := Lib.hid (K0.out.below hb1)
      have HR1 := Lib.hid (HRB.out.below hb1)
      have hz : w.heap.size + 3 ≤ w1.heap.size := by have := hb1.size; simpa using this
      have c0' := K1.out.c 0 rfl
      have c1' := K1.out.c 1 rfl
      clear hb1 hq1
      have e0 := HR1.out.c 0 rfl
      have f0 := HR1.out.free 0
      have e1 := HR1.out.c 1 rfl
      have f1 := HR1.out.free 1
      go_wp2_with fail
      refine (l00In _ _ _ false _ HI1.out).mono ?_
      rintro e w2 ⟨rfl, rfl⟩
      try go_wp2
      refine bodyPost_ret (v := .tuple #[.agg #[.int .i64 0, .slice none 0 0], .int .i64 2]) (by simp [results, Try.results48, go_sem, e0, e1]) rfl ⟨_, _, _, rfl, OwnOps.nil _ _ _ _ (Nat.le_refl _), ?_⟩
      exact ((K1.out.bel.setCell (by show w.heap.size ≤ w.heap.size + 2; omega) _).setCell (by show w.heap.size ≤ w.heap.size + 2; omega) _)
  · have H1 := Lib.hid (Tells.no h1)
    clear h1
    go_enter Try.func48, Try.ntmps48
    go_wp2_with fail
    refine (l05Ok _ _ _ rs _ _ _ cs false _ HTP.out HIP.out H1.out).mono ?_
    rintro e w1 ⟨rfl, hq1⟩
    have hb1 : Below _ _ w1 := hq1.bel
    have K1 := Lib.hid (K0.out.below hb1)
    have HR1 := Lib.hid (HRB.out.below hb1)
    have hz : w.heap.size + 3 ≤ w1.heap.size := by have := hb1.size; simpa using this
    have c0' := K1.out.c 0 rfl
    have c1' := K1.out.c 1 rfl
    clear hb1 hq1
    have e0 := HR1.out.c 0 rfl
    have f0 := HR1.out.free 0
    have e1 := HR1.out.c 1 rfl
    have f1 := HR1.out.free 1
    try go_wp2
    refine bodyPost_ret (v := .tuple #[.agg #[.int .i64 0, .slice none 0 0], .int .i64 1]) (by simp [results, Try.results48, go_sem, e0, e1]) rfl ⟨_, _, _, rfl, OwnOps.nil _ _ _ _ (Nat.le_refl _), ?_⟩
    exact ((K1.out.bel.setCell (by show w.heap.size ≤ w.heap.size + 2; omega) _).setCell (by show w.heap.size ≤ w.heap.size + 2; omega) _)

end Go.Proofs.Ytiinohkkfjbfhaa
