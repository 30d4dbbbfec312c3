/-
  HideVariable of the model and of the program.
-/
import Derived.Test.YtpibigdfepgfnaaRenamed
import Derived.Test.YtpibigdfepgfnaaAtomF
import Derived.Test.YtpibigdfepgfnaaFormOk3
import Derived.Test.YtpibigdfepgfnaaKept3
import Derived.Test.YtpibigdfepgfnaaDepends
namespace Go.Proofs.Ytpibigdfepgfnaa
open Go.RowKit

/-- What a variable becomes when the variable p of n is hidden; so far as the first k are done. -/
def hidR (n p v : Nat) : Int := if v = p then (n : Int) - 1 else if p < v then (v : Int) - 1 else (v : Int)
def hidK (p k v : Nat) : Int := if p < v ∧ v < k then (v : Int) - 1 else (v : Int)
theorem hidK_self (p k : Nat) : hidK p k k = (k : Int) := by simp [hidK]
theorem hidK_start (p m : Nat) : rowF (hidK p (p + 1)) m = cnts m := by
  unfold cnts
  refine rowF_congr (G := fun i => (i : Int)) fun i _ => ?_
  unfold hidK
  rw [if_neg (by omega)]
theorem hidK_step (p k : Nat) (h : p + 1 ≤ k) {m : Nat} : ∀ i, i < m → (if i = k then (k : Int) - 1 else hidK p k i) = hidK p (k + 1) i := by
  intro i _
  unfold hidK
  by_cases hik : i = k
  · subst hik; rw [if_pos rfl, if_pos ⟨by omega, by omega⟩]
  · rw [if_neg hik]
    by_cases h2 : p < i ∧ i < k
    · rw [if_pos h2, if_pos ⟨h2.1, by omega⟩]
    · rw [if_neg h2, if_neg (by omega)]
theorem hidK_end (p m : Nat) : ∀ i, i < m → (if i = p then (m : Int) - 1 else hidK p m i) = hidR m p i := by
  intro i hi
  unfold hidK hidR
  by_cases hip : i = p
  · rw [if_pos hip, if_pos hip]
  · rw [if_neg hip, if_neg hip]
    by_cases h2 : p < i
    · rw [if_pos ⟨h2, hi⟩, if_pos h2]
    · rw [if_neg (fun h => h2 h.1), if_neg h2]
theorem rowF_set (G : Nat → Int) (n k : Nat) (x : Int) : (rowF G n).set k x = rowF (fun i => if i = k then x else G i) n := by
  unfold rowF
  apply List.ext_getElem?
  intro j
  rw [List.getElem?_set]
  by_cases hj : k = j
  · subst hj
    by_cases h : k < n <;> simp [h]
  · rw [if_neg hj]
    by_cases h : j < n
    · simp [h, show ¬ j = k from fun e => hj e.symm]
    · simp [h]

/-- What HideVariable answers. -/
def HideVariableIs (sz : Int) (rs : List (Int × List (List Int))) (fr va : Int) (fs : List (Int × List Int)) (var x y : Int) (zs : List (Int × List Int)) (cd : Int) : Prop :=
  (FormOk sz rs fr va fs ∧ InP var 0 (fr - 1) ∧ fr ≠ 1 ∧ x = fr - 1 ∧ y = va ∧ zs = movedL fs (rowF (hidR va.toNat var.toNat) va.toNat) ∧ cd = 0)
  ∨ (FormOk sz rs fr va fs ∧ InP var 0 (fr - 1) ∧ fr = 1 ∧ x = 0 ∧ y = 0 ∧ zs = [] ∧ cd = 4)
  ∨ (FormOk sz rs fr va fs ∧ ¬ InP var 0 (fr - 1) ∧ x = 0 ∧ y = 0 ∧ zs = [] ∧ cd = 2)
  ∨ (¬ FormOk sz rs fr va fs ∧ x = 0 ∧ y = 0 ∧ zs = [] ∧ cd = 1)
theorem HideVariableIs.exists (sz : Int) (rs : List (Int × List (List Int))) (fr va : Int) (fs : List (Int × List Int)) (var : Int) : ∃ x y zs cd, HideVariableIs sz rs fr va fs var x y zs cd := by
  by_cases h : FormOk sz rs fr va fs
  · by_cases h2 : InP var 0 (fr - 1)
    · by_cases h3 : fr = 1
      · exact ⟨_, _, _, _, .inr (.inl ⟨h, h2, h3, rfl, rfl, rfl, rfl⟩)⟩
      · exact ⟨_, _, _, _, .inl ⟨h, h2, h3, rfl, rfl, rfl, rfl⟩⟩
    · exact ⟨_, _, _, _, .inr (.inr (.inl ⟨h, h2, rfl, rfl, rfl, rfl⟩))⟩
  · exact ⟨_, _, _, _, .inr (.inr (.inr ⟨h, rfl, rfl, rfl, rfl⟩))⟩
theorem rowO_movedL (rs : List (Int × List Int)) (q : List Int) (k : Nat) (h : k < rs.length) : rowO (movedL rs q) k = mapped q (rowO rs k) := by
  simp [rowO, movedL, List.getD, h]
theorem partO_mul (rs : List (Int × List Int)) (m n : Nat) (h : ∀ k, k < n → (rowO rs k).length ≤ m) : partO rs n ≤ n * m := by
  induction n with
  | zero => simp [partO]
  | succ n ih =>
    have h1 := ih fun k hk => h k (by omega)
    have h2 := h n (by omega)
    rw [partO_succ, Nat.succ_mul]
    omega
theorem HideVariableIs.small {sz : Int} {rs : List (Int × List (List Int))} {fr va : Int} {fs : List (Int × List Int)} {var x y : Int} {zs : List (Int × List Int)} {cd : Int} (h : HideVariableIs sz rs fr va fs var x y zs cd) : opsSize zs ≤ 1048576 := by
  rcases h with ⟨hf, -, -, -, -, rfl, -⟩ | ⟨-, -, -, -, -, rfl, -⟩ | ⟨-, -, -, -, rfl, -⟩ | ⟨-, -, -, rfl, -⟩
  · have hc := hf.2.1.2.2
    have h1 := partO_mul (movedL fs (rowF (hidR va.toNat var.toNat) va.toNat)) 4 fs.length fun k hk => by
      rw [rowO_movedL _ _ _ hk, mapped_len]
      have := (hf.text.2 k hk).2.1.2
      omega
    unfold opsSize
    rw [movedL_len]
    omega
  · simp [opsSize, partO]
  · simp [opsSize, partO]
  · simp [opsSize, partO]

set_option linter.unusedSimpArgs false in
set_option maxHeartbeats 2000000 in
set_option maxRecDepth 100000 in
theorem specHideVariable (sz : Int) (a1 : Option Addr) (n1 c1 : Nat) (rs : List (Int × List (List Int))) (fr va : Int) (a2 : Option Addr) (n2 c2 : Nat) (fs : List (Int × List Int)) (var x y : Int) (zs : List (Int × List Int)) (cd : Int) (w : World) (h1 : RelsAt w (.slice a1 n1 c1) rs) (h2 : OpsAt w (.slice a2 n2 c2) fs) (hi : HideVariableIs sz rs fr va fs var x y zs cd) :
    Calls Try.prog 30 #[.agg #[.int .i64 sz, .slice a1 n1 c1], .agg #[.int .i64 fr, .int .i64 va, .slice a2 n2 c2], .int .i64 var] w (MadeF w x y zs cd) := by
  obtain rfl : n1 = rs.length := by obtain ⟨_, _, hv, _⟩ := h1; simp only [Value.slice.injEq] at hv; exact hv.2.1
  obtain rfl : n2 = fs.length := by obtain ⟨_, _, hv, _⟩ := h2; simp only [Value.slice.injEq] at hv; exact hv.2.1
  have HR0 : Hid (Box 48 _ (w.heap.size + 2) #[.int .i64 0, .int .i64 0, .slice none 0 0]) := Lib.hid (by
    have h := Box.new 48 ((w.alloc (.cells #[.int .i64 sz, .slice a1 rs.length c1] 53)).alloc (.cells #[.int .i64 fr, .int .i64 va, .slice a2 fs.length c2] 48)) #[.int .i64 0, .int .i64 0, .slice none 0 0]
    simp only [World.size_alloc] at h
    exact h)
  have HTP := Lib.hid (((TplAt.new w sz a1 rs.length c1 rs 53 h1).below ((Below.refl _ _).alloc (Nat.le_refl _) (.cells #[.int .i64 fr, .int .i64 va, .slice a2 fs.length c2] 48))).below ((Below.refl _ _).alloc (Nat.le_refl _) (.cells #[.int .i64 0, .int .i64 0, .slice none 0 0] 48)))
  have HFP : Hid (FormAt _ (w.heap.size + 1) 0 fr va fs) := Lib.hid (by
    have h := (FormAt.new (w.alloc (.cells #[.int .i64 sz, .slice a1 rs.length c1] 53)) fr va a2 fs.length c2 fs 48 (h2.below ((Below.refl _ _).alloc (Nat.le_refl _) _))).below ((Below.refl _ _).alloc (Nat.le_refl _) (.cells #[.int .i64 0, .int .i64 0, .slice none 0 0] 48))
    rwa [World.size_alloc] at h)
  have K0 := Lib.hid ((((((Kept.start w).read (lives_rels _ _) h1).read (lives_ops _ _) h2).box w.heap.size rfl (.int .i64 sz) (.slice a1 rs.length c1) 53).box3 (w.heap.size + 1) (by simp) (.int .i64 fr) (.int .i64 va) (.slice a2 fs.length c2) 48).below ((Below.refl _ _).alloc (Nat.le_refl _) (.cells #[.int .i64 0, .int .i64 0, .slice none 0 0] 48)))
  have ck0 := K0.out.c 0 rfl
  have ck1 := K0.out.c 1 rfl
  have ck2 := K0.out.c 2 rfl
  have ck3 := K0.out.c 3 rfl
  have ck4 := K0.out.c 4 rfl
  clear h1 h2
  rcases hi with ⟨hf, hin, hfr1, rfl, rfl, rfl, rfl⟩ | ⟨hf, hin, rfl, rfl, rfl, rfl, rfl⟩ | ⟨hf, hno, rfl, rfl, rfl, rfl⟩ | ⟨hf, rfl, rfl, rfl, rfl⟩
  · have HV : Hid (ValidFormulaIs sz rs fr y fs true) := Lib.hid (Tells.yes hf)
    obtain ⟨p, rfl⟩ : ∃ p : Nat, var = p := ⟨var.toNat, by have := hin.1; omega⟩
    have hc := hf.2.1
    obtain ⟨m, rfl⟩ : ∃ m : Nat, y = m := ⟨y.toNat, by have := hc.1.1; have := hc.2.1.1; omega⟩
    have hm8 : m ≤ 8 := by have := hc.2.1.2; omega
    have hpfr : (p : Int) < fr := by have := hin.2; omega
    have hfrm : fr ≤ (m : Int) := hc.2.1.1
    have hfr0 : 1 ≤ fr ∧ fr ≤ 4 := ⟨hc.1.1, hc.1.2⟩
    have hm16 : fs.length ≤ 1000 := by have := hc.2.2; omega
    have hin' : InP (p : Int) 0 (fr - 1) := hin
    have HLEN : Hid (∀ k, k < fs.length → (rowO fs k).length ≤ 4) := Lib.hid (fun k hk => by have := (hf.text.2 k hk).2.1.2; omega)
    have HRNG : Hid (∀ k, k < fs.length → ∀ i, i < (rowO fs k).length → 0 ≤ intN (rowO fs k) i ∧ intN (rowO fs k) i < ((rowF (hidR m p) m).length : Int)) := Lib.hid (fun k hk i hi => by
      rw [rowF_len]
      exact (hf.text.2 k hk).2.2.2 i hi)
    simp only [Int.toNat_natCast]
    clear hf hin hc
    have HI := Lib.hid (Tells.yes hin')
    have hne1 : (fr == 1) = false := beq_eq_false_iff_ne.2 hfr1
    obtain ⟨i0, hi, hz0, hz1, hz2⟩ := info_parts info_intT
    go_enter Try.func30, Try.ntmps30
    go_wp2_with fail
    refine (l03Ok _ _ _ rs _ _ _ _ fs true _ HTP.out HFP.out HV.out).mono ?_
    rintro e w1 ⟨rfl, hq1⟩
    have hb1 : Below _ _ w1 := hq1.bel
    have hsz1 : w.heap.size + 3 ≤ w1.heap.size := by have := hb1.size; simpa using this
    have K1 := Lib.hid (K0.out.below hb1)
    have HR1 := Lib.hid (HR0.out.below hb1)
    have cc0 := K1.out.c 0 rfl
    have cc1 := K1.out.c 1 rfl
    clear hb1 ck0 ck1 ck2 ck3 ck4
    clear hq1
    go_wp2_with fail
    refine (l00In _ _ _ true _ HI.out).mono ?_
    rintro e w2 ⟨rfl, rfl⟩
    go_wp2
    clear cc0 cc1 hne1
    go_loopw [8, 9] (fun v i wr => ∃ (k : Nat) (a : Option Addr) (n c : Nat), k ≤ m ∧ i = .int .i64 k ∧ v = .slice a n c ∧ wr.ownsRow w1.heap.size 2 1 (.slice a n c) k ((rowF (hidR m p) k).map (Value.int .i64)) ∧ Below w1.heap.size w1 wr) (fun _ i _ => m - (intOf i).toNat)
    case atStart => exact ⟨0, _, _, _, Nat.zero_le _, rfl, rfl, ownRow_lit w1 w1.heap.size [] (Nat.le_refl _) (by simp), (Below.refl _ _).alloc (Nat.le_refl _) _⟩
    case round =>
      obtain ⟨k, a, n, c, hk, rfl, rfl, hown, hbel⟩ := hrel
      obtain ⟨wo, rfl⟩ : ∃ wo : World, wo = wr := ⟨_, rfl⟩
      have HO := Lib.hid hown
      have HW := Lib.hid hbel
      have KR := Lib.hid (K1.out.below hbel)
      have g1 := KR.out.c 1 rfl
      clear hown hbel
      by_cases hlt : k < m
      · have hlt' : (k : Int) < (m : Int) := by omega
        by_cases hkp : k = p
        · subst hkp
          have HXX : Hid (hidR m k k = (m : Int) - 1) := Lib.hid (by simp [hidR])
          have hc1 := cell_one_new wo (.int .i64 ((m : Int) - 1)) 2
          have HC1 := Lib.hid hc1
          clear hc1
          go_wp2_with (at_builtin; refine wpList_append_own _ rfl _ _ 22 rfl w1.heap.size 2 i0 (.int .i64 0) 1 8 Try.underlying22 hi hz0 hz1 hz2 rfl (by decide) (.slice a n c) k _ rfl (HO.out.alloc _) ⟨wo.heap.size, 0, none⟩ 1 1 [.int .i64 ((m : Int) - 1)] rfl rfl HC1.out (by simp [Value.oneCell']) (by unfold maxLen; omega) (by omega) (by have := HW.out.size; simp; omega) ?_; intro v' w3 hown' hgrow _; obtain ⟨g', c', rfl⟩ := ownsRow_succ hown'; have HG3 := Lib.hid hown'; have HR3 := Lib.hid hgrow; clear hown' hgrow)
          go_roundw
          case rel =>
            refine ⟨k + 1, _, _, _, by omega, by go_num, rfl, ?_, ((HW.out.alloc HW.out.size _).grown HR3.out (by have := HW.out.size; simp; omega) (fun q hq => (HO.out.lt q hq).1))⟩
            rw [rowF_succ, HXX.out]; exact HG3.out
          case measure => simp [intOf]; omega
        · have hkpI : ((k : Int) == (p : Int)) = false := by simp; omega
          by_cases hgt : p < k
          · have HXX : Hid (hidR m p k = (k : Int) - 1) := Lib.hid (by simp [hidR, hkp, hgt])
            have hgtI : decide ((k : Int) > (p : Int)) = true := by simp; omega
            have hc1 := cell_one_new wo (.int .i64 ((k : Int) - 1)) 2
            have HC1 := Lib.hid hc1
            clear hc1
            go_wp2_with (at_builtin; refine wpList_append_own _ rfl _ _ 22 rfl w1.heap.size 2 i0 (.int .i64 0) 1 8 Try.underlying22 hi hz0 hz1 hz2 rfl (by decide) (.slice a n c) k _ rfl (HO.out.alloc _) ⟨wo.heap.size, 0, none⟩ 1 1 [.int .i64 ((k : Int) - 1)] rfl rfl HC1.out (by simp [Value.oneCell']) (by unfold maxLen; omega) (by omega) (by have := HW.out.size; simp; omega) ?_; intro v' w3 hown' hgrow _; obtain ⟨g', c', rfl⟩ := ownsRow_succ hown'; have HG3 := Lib.hid hown'; have HR3 := Lib.hid hgrow; clear hown' hgrow)
            go_roundw
            case rel =>
              refine ⟨k + 1, _, _, _, by omega, by go_num, rfl, ?_, ((HW.out.alloc HW.out.size _).grown HR3.out (by have := HW.out.size; simp; omega) (fun q hq => (HO.out.lt q hq).1))⟩
              rw [rowF_succ, HXX.out]; exact HG3.out
            case measure => simp [intOf]; omega
          · have HXX : Hid (hidR m p k = (k : Int)) := Lib.hid (by simp [hidR, hkp, hgt])
            have hgtI : decide ((k : Int) > (p : Int)) = false := by simp; omega
            have hc1 := cell_one_new wo (.int .i64 ((k : Int))) 2
            have HC1 := Lib.hid hc1
            clear hc1
            go_wp2_with (at_builtin; refine wpList_append_own _ rfl _ _ 22 rfl w1.heap.size 2 i0 (.int .i64 0) 1 8 Try.underlying22 hi hz0 hz1 hz2 rfl (by decide) (.slice a n c) k _ rfl (HO.out.alloc _) ⟨wo.heap.size, 0, none⟩ 1 1 [.int .i64 ((k : Int))] rfl rfl HC1.out (by simp [Value.oneCell']) (by unfold maxLen; omega) (by omega) (by have := HW.out.size; simp; omega) ?_; intro v' w3 hown' hgrow _; obtain ⟨g', c', rfl⟩ := ownsRow_succ hown'; have HG3 := Lib.hid hown'; have HR3 := Lib.hid hgrow; clear hown' hgrow)
            go_roundw
            case rel =>
              refine ⟨k + 1, _, _, _, by omega, by go_num, rfl, ?_, ((HW.out.alloc HW.out.size _).grown HR3.out (by have := HW.out.size; simp; omega) (fun q hq => (HO.out.lt q hq).1))⟩
              rw [rowF_succ, HXX.out]; exact HG3.out
            case measure => simp [intOf]; omega
      · obtain rfl : m = k := by omega
        have hm : n = m := by
          rcases ownsRow_parts HO.out with ⟨hv, h0, _⟩ | ⟨_, _, hv, _⟩ <;> simp only [Value.slice.injEq] at hv <;> omega
        subst hm
        have HTO : Hid (RowAt wo (.slice a n c) (rowF (hidR n p) n)) := Lib.hid (OwnRow.rowAt (B := w1.heap.size) (by
          show World.ownsRow _ _ _ _ _ _ _
          rw [rowF_len]
          exact HO.out))
        have HRR := Lib.hid (HR1.out.below HW.out)
        have hszr : w.heap.size + 3 ≤ wo.heap.size := by have := HW.out.size; omega
        have g0 := KR.out.c 0 rfl
        have g2 := KR.out.c 2 rfl
        have hwr : IntKind.i64.wrap (fr - 1) = fr - 1 := IntWalk.i64_in _ (by omega)
        go_wp2
        refine wp_region_noPanic ?_
        refine wp_region_late (S := (fun w' => w'.cell? ⟨w.heap.size + 1, 0, none⟩ = some (.int .i64 fr) ∧ w'.cell? ⟨w.heap.size + 1, 1, none⟩ = some (.int .i64 (n : Int)) ∧ w'.cell? ⟨w.heap.size + 1, 2, none⟩ = some (.slice a2 fs.length c2) ∧ Below wo.heap.size wo w')) [10] (by kernel_rfl) ?_ (fun hHeld => ?_)
        · exact ⟨g0, g1, g2, (QW.refl wo).drew.below _⟩
        refine wpAnyL_free (i := 0) (v := ?_) (some 54) rfl rfl (by kernel_rfl) (by kernel_rfl) (by kernel_rfl) (by decide) (fun _ _ _ h => h) (Or.inl ⟨by rfl, ?_⟩) (fun h0 => by assumption) ?_
        rotate_left
        · intro wS
          go_simp
          try with_reducible rfl
        try simp only [Act.put, List.setIfInBounds_toArray, List.set_cons_zero, List.set_cons_succ]
        refine wpAnyL_take (i := 1) (v := ?_) (some 55) rfl rfl (by kernel_rfl) (by kernel_rfl) (by kernel_rfl) (by kernel_rfl) (by kernel_rfl) (fun _ _ _ h => h) (Or.inl ⟨by rfl, ?_⟩) (by assumption) ?_
        rotate_left
        · intro wS hSw
          try dsimp only at hSw
          go_simp
          try with_reducible rfl
        try simp only [Act.put, List.setIfInBounds_toArray, List.set_cons_zero, List.set_cons_succ]
        refine wpAnyL_free (i := 2) (v := ?_) (some 56) rfl rfl (by kernel_rfl) (by kernel_rfl) (by kernel_rfl) (by decide) (fun _ _ _ h => h) (Or.inl ⟨by rfl, ?_⟩) (fun h0 => by assumption) ?_
        rotate_left
        · intro wS
          go_simp
          try with_reducible rfl
        try simp only [Act.put, List.setIfInBounds_toArray, List.set_cons_zero, List.set_cons_succ]
        refine wpAnyL_free (i := 3) (v := ?_) (some 57) rfl rfl (by kernel_rfl) (by kernel_rfl) (by kernel_rfl) (by decide) (fun _ _ _ h => h) (Or.inl ⟨by rfl, ?_⟩) (fun h0 => by assumption) ?_
        rotate_left
        · intro wS
          go_simp
          try with_reducible rfl
        try simp only [Act.put, List.setIfInBounds_toArray, List.set_cons_zero, List.set_cons_succ]
        refine wpAnyL_take (i := 4) (v := ?_) (some 58) rfl rfl (by kernel_rfl) (by kernel_rfl) (by kernel_rfl) (by kernel_rfl) (by kernel_rfl) (fun _ _ _ h => h) (Or.inl ⟨by rfl, ?_⟩) (by assumption) ?_
        rotate_left
        · intro wS hSw
          try dsimp only at hSw
          go_simp
          try with_reducible rfl
        try simp only [Act.put, List.setIfInBounds_toArray, List.set_cons_zero, List.set_cons_succ]
        refine wpAnyL_free (i := 5) (v := ?_) (some 59) rfl rfl (by kernel_rfl) (by kernel_rfl) (by kernel_rfl) (by decide) (fun _ _ _ h => h) (Or.inl ⟨by rfl, ?_⟩) (fun h0 => by assumption) ?_
        rotate_left
        · intro wS
          go_simp
          try with_reducible rfl
        try simp only [Act.put, List.setIfInBounds_toArray, List.set_cons_zero, List.set_cons_succ]
        refine wpAnyL_take (i := 6) (v := ?_) (some 60) rfl rfl (by kernel_rfl) (by kernel_rfl) (by kernel_rfl) (by kernel_rfl) (by kernel_rfl) (fun _ _ _ h => h) (Or.inl ⟨by rfl, ?_⟩) (by assumption) ?_
        rotate_left
        · intro wS hSw
          try dsimp only at hSw
          go_simp
          try with_reducible rfl
        try simp only [Act.put, List.setIfInBounds_toArray, List.set_cons_zero, List.set_cons_succ]
        refine wpAnyL_free (i := 7) (v := ?_) (some 61) rfl rfl (by kernel_rfl) (by kernel_rfl) (by kernel_rfl) (by decide) (fun _ _ _ h => h) (Or.inl ⟨by rfl, ?_⟩) (fun h0 => by assumption) ?_
        rotate_left
        · intro wS
          go_simp
          try with_reducible rfl
        try simp only [Act.put, List.setIfInBounds_toArray, List.set_cons_zero, List.set_cons_succ]
        refine wpAnyL_ready (rs := [8]) (by kernel_rfl) (by simp) ?_
        refine AllReadyL.cons rfl (fun K hK => ?_) AllReadyL.nil
        go_simp; go_at_call 47; refine (l03Moved _ _ fs (rowF (hidR n p) n) _ ((KR.out.r 0 rfl : OpsAt wo (.slice a2 fs.length c2) fs).below ((QW.refl wo).drew.below _)) (HTO.out.below ((QW.refl wo).drew.below _)) HLEN.out HRNG.out hm16).mono ?_; rintro e w5 ⟨a5, n5, c5, rfl, ho5, hb5⟩
        have HO5 := Lib.hid ho5
        have HB5 := Lib.hid (((QW.refl wo).drew.below wo.heap.size).trans hb5)
        have HR5 := Lib.hid (HRR.out.below HB5.out)
        have e0 := HR5.out.c 0 rfl
        have e1 := HR5.out.c 1 rfl
        have e2 := HR5.out.c 2 rfl
        have f0 := HR5.out.free 0
        have f1 := HR5.out.free 1
        have f2 := HR5.out.free 2
        refine hK.out _ _ ?_ (fun hHeld => ?_)
        · exact ⟨below_cell hb5 hHeld.1, below_cell hb5 hHeld.2.1, below_cell hb5 hHeld.2.2.1, hHeld.2.2.2.trans (hb5.mono hHeld.2.2.2.size)⟩
        clear hK K
        try simp only [Act.put, List.setIfInBounds_toArray, List.set_cons_zero, List.set_cons_succ]
        refine wpAnyL_free (i := 9) (v := ?_) (some 63) rfl rfl (by kernel_rfl) (by kernel_rfl) (by kernel_rfl) (by decide) (fun _ _ _ h => h) (Or.inl ⟨by rfl, ?_⟩) (fun h0 => by assumption) ?_
        rotate_left
        · intro wS
          go_simp
          try with_reducible rfl
        try simp only [Act.put, List.setIfInBounds_toArray, List.set_cons_zero, List.set_cons_succ]
        refine wpAnyL_ready (rs := [10]) (by kernel_rfl) (by simp) ?_
        refine AllReadyL.last rfl (by kernel_rfl) (fun K hK => ?_) AllReadyL.nil
        go_simp
        refine hK.out _ _ ?_
        clear hK K
        try simp only [Act.put, List.setIfInBounds_toArray, List.set_cons_zero, List.set_cons_succ]
        refine wpAnyL_free (i := 11) (v := ?_) (some 7) rfl rfl (by kernel_rfl) (by kernel_rfl) (by kernel_rfl) (by decide) (fun _ _ _ h => h) (Or.inl ⟨by rfl, ?_⟩) (fun h0 => absurd h0 (by decide)) ?_
        rotate_left
        · intro wS
          go_simp
          try with_reducible rfl
        try simp only [Act.put, List.setIfInBounds_toArray, List.set_cons_zero, List.set_cons_succ]
        refine wpAnyL_done (by kernel_rfl) ?_ _
        refine NoPanic.normal ?_
        go_wp2
        refine bodyPost_ret (v := .tuple #[.agg #[.int .i64 (fr - 1), .int .i64 n, .slice a5 n5 c5], .int .i64 0]) (by simp [results, Try.results30, go_sem, e0, e1, e2, hwr]) rfl ⟨_, _, _, rfl, ?_, ?_⟩
        · exact ((((HO5.out.mono hszr).stored (by show w.heap.size + 2 < w.heap.size + 3; omega) _).stored (by show w.heap.size + 2 < w.heap.size + 3; omega) _).stored (by show w.heap.size + 2 < w.heap.size + 3; omega) _).mono (by omega) |>.full
        · exact ((((KR.out.bel.trans (HB5.out.mono KR.out.bel.size)).setCell (by show w.heap.size ≤ w.heap.size + 2; omega) _).setCell (by show w.heap.size ≤ w.heap.size + 2; omega) _).setCell (by show w.heap.size ≤ w.heap.size + 2; omega) _)

  · have HV : Hid (ValidFormulaIs sz rs 1 va fs true) := Lib.hid (Tells.yes hf)
    clear hf
    have HI : Hid (Tells true (InP var 0 0)) := Lib.hid (Tells.yes hin)
    clear hin
    go_enter Try.func30, Try.ntmps30
    go_wp2_with fail
    refine (l03Ok _ _ _ rs _ _ _ _ fs true _ HTP.out HFP.out HV.out).mono ?_
    rintro e w1 ⟨rfl, hq1⟩
    have hb1 : Below _ _ w1 := hq1.bel
    have hsz1 : w.heap.size + 3 ≤ w1.heap.size := by have := hb1.size; simpa using this
    have K1 := Lib.hid (K0.out.below hb1)
    have HR1 := Lib.hid (HR0.out.below hb1)
    have cc0 := K1.out.c 0 rfl
    have cc1 := K1.out.c 1 rfl
    clear hb1 ck0 ck1 ck2 ck3 ck4
    clear hq1
    go_wp2_with fail
    refine (l00In _ _ _ true _ HI.out).mono ?_
    rintro e w2 ⟨rfl, rfl⟩
    have d0 := HR1.out.c 0 rfl
    have d1 := HR1.out.c 1 rfl
    have d2 := HR1.out.c 2 rfl
    have f0 := HR1.out.free 0
    have f1 := HR1.out.free 1
    have f2 := HR1.out.free 2
    go_wp2
    refine bodyPost_ret (v := .tuple #[.agg #[.int .i64 0, .int .i64 0, .slice none 0 0], .int .i64 4]) (by simp [results, Try.results30, go_sem, d0, d1, d2]) rfl ⟨_, _, _, rfl, ?_, ?_⟩
    · exact OwnOps.nil _ _ _ _ (Nat.le_refl _)
    · exact ((K1.out.bel.setCell (by show w.heap.size ≤ w.heap.size + 2; omega) _).setCell (by show w.heap.size ≤ w.heap.size + 2; omega) _).setCell (by show w.heap.size ≤ w.heap.size + 2; omega) _
  · have HV : Hid (ValidFormulaIs sz rs fr va fs true) := Lib.hid (Tells.yes hf)
    have hfr0 : 1 ≤ fr ∧ fr ≤ 4 := hf.2.1.1
    clear hf
    have HI := Lib.hid (Tells.no hno)
    go_enter Try.func30, Try.ntmps30
    go_wp2_with fail
    refine (l03Ok _ _ _ rs _ _ _ _ fs true _ HTP.out HFP.out HV.out).mono ?_
    rintro e w1 ⟨rfl, hq1⟩
    have hb1 : Below _ _ w1 := hq1.bel
    have hsz1 : w.heap.size + 3 ≤ w1.heap.size := by have := hb1.size; simpa using this
    have K1 := Lib.hid (K0.out.below hb1)
    have HR1 := Lib.hid (HR0.out.below hb1)
    have cc0 := K1.out.c 0 rfl
    have cc1 := K1.out.c 1 rfl
    clear hb1 ck0 ck1 ck2 ck3 ck4
    clear hq1
    go_wp2_with fail
    refine (l00In _ _ _ false _ HI.out).mono ?_
    rintro e w2 ⟨rfl, rfl⟩
    have d0 := HR1.out.c 0 rfl
    have d1 := HR1.out.c 1 rfl
    have d2 := HR1.out.c 2 rfl
    have f0 := HR1.out.free 0
    have f1 := HR1.out.free 1
    have f2 := HR1.out.free 2
    go_wp2
    refine bodyPost_ret (v := .tuple #[.agg #[.int .i64 0, .int .i64 0, .slice none 0 0], .int .i64 2]) (by simp [results, Try.results30, go_sem, d0, d1, d2]) rfl ⟨_, _, _, rfl, ?_, ?_⟩
    · exact OwnOps.nil _ _ _ _ (Nat.le_refl _)
    · exact ((K1.out.bel.setCell (by show w.heap.size ≤ w.heap.size + 2; omega) _).setCell (by show w.heap.size ≤ w.heap.size + 2; omega) _).setCell (by show w.heap.size ≤ w.heap.size + 2; omega) _
  · have HV : Hid (ValidFormulaIs sz rs fr va fs false) := Lib.hid (Tells.no hf)
    clear hf
    go_enter Try.func30, Try.ntmps30
    go_wp2_with fail
    refine (l03Ok _ _ _ rs _ _ _ _ fs false _ HTP.out HFP.out HV.out).mono ?_
    rintro e w1 ⟨rfl, hq1⟩
    have hb1 : Below _ _ w1 := hq1.bel
    have hsz1 : w.heap.size + 3 ≤ w1.heap.size := by have := hb1.size; simpa using this
    have K1 := Lib.hid (K0.out.below hb1)
    have HR1 := Lib.hid (HR0.out.below hb1)
    have cc0 := K1.out.c 0 rfl
    have cc1 := K1.out.c 1 rfl
    clear hb1 ck0 ck1 ck2 ck3 ck4
    clear hq1
    have d0 := HR1.out.c 0 rfl
    have d1 := HR1.out.c 1 rfl
    have d2 := HR1.out.c 2 rfl
    have f0 := HR1.out.free 0
    have f1 := HR1.out.free 1
    have f2 := HR1.out.free 2
    go_wp2
    refine bodyPost_ret (v := .tuple #[.agg #[.int .i64 0, .int .i64 0, .slice none 0 0], .int .i64 1]) (by simp [results, Try.results30, go_sem, d0, d1, d2]) rfl ⟨_, _, _, rfl, ?_, ?_⟩
    · exact OwnOps.nil _ _ _ _ (Nat.le_refl _)
    · exact ((K1.out.bel.setCell (by show w.heap.size ≤ w.heap.size + 2; omega) _).setCell (by show w.heap.size ≤ w.heap.size + 2; omega) _).setCell (by show w.heap.size ≤ w.heap.size + 2; omega) _


set_option linter.unusedSimpArgs false in
set_option maxHeartbeats 2000000 in
set_option maxRecDepth 100000 in
theorem implHideVariable (sz : Int) (a1 : Option Addr) (n1 c1 : Nat) (rs : List (Int × List (List Int))) (fr va : Int) (a2 : Option Addr) (n2 c2 : Nat) (fs : List (Int × List Int)) (var x y : Int) (zs : List (Int × List Int)) (cd : Int) (w : World) (h1 : RelsAt w (.slice a1 n1 c1) rs) (h2 : OpsAt w (.slice a2 n2 c2) fs) (hi : HideVariableIs sz rs fr va fs var x y zs cd) :
    Calls Try.prog 31 #[.agg #[.int .i64 sz, .slice a1 n1 c1], .agg #[.int .i64 fr, .int .i64 va, .slice a2 n2 c2], .int .i64 var] w (MadeF w x y zs cd) := by
  obtain rfl : n1 = rs.length := by obtain ⟨_, _, hv, _⟩ := h1; simp only [Value.slice.injEq] at hv; exact hv.2.1
  obtain rfl : n2 = fs.length := by obtain ⟨_, _, hv, _⟩ := h2; simp only [Value.slice.injEq] at hv; exact hv.2.1
  have HR0 : Hid (Box 48 _ (w.heap.size + 2) #[.int .i64 0, .int .i64 0, .slice none 0 0]) := Lib.hid (by
    have h := Box.new 48 ((w.alloc (.cells #[.int .i64 sz, .slice a1 rs.length c1] 53)).alloc (.cells #[.int .i64 fr, .int .i64 va, .slice a2 fs.length c2] 48)) #[.int .i64 0, .int .i64 0, .slice none 0 0]
    simp only [World.size_alloc] at h
    exact h)
  have HTP := Lib.hid (((TplAt.new w sz a1 rs.length c1 rs 53 h1).below ((Below.refl _ _).alloc (Nat.le_refl _) (.cells #[.int .i64 fr, .int .i64 va, .slice a2 fs.length c2] 48))).below ((Below.refl _ _).alloc (Nat.le_refl _) (.cells #[.int .i64 0, .int .i64 0, .slice none 0 0] 48)))
  have HFP : Hid (FormAt _ (w.heap.size + 1) 0 fr va fs) := Lib.hid (by
    have h := (FormAt.new (w.alloc (.cells #[.int .i64 sz, .slice a1 rs.length c1] 53)) fr va a2 fs.length c2 fs 48 (h2.below ((Below.refl _ _).alloc (Nat.le_refl _) _))).below ((Below.refl _ _).alloc (Nat.le_refl _) (.cells #[.int .i64 0, .int .i64 0, .slice none 0 0] 48))
    rwa [World.size_alloc] at h)
  have K0 := Lib.hid ((((((Kept.start w).read (lives_rels _ _) h1).read (lives_ops _ _) h2).box w.heap.size rfl (.int .i64 sz) (.slice a1 rs.length c1) 53).box3 (w.heap.size + 1) (by simp) (.int .i64 fr) (.int .i64 va) (.slice a2 fs.length c2) 48).below ((Below.refl _ _).alloc (Nat.le_refl _) (.cells #[.int .i64 0, .int .i64 0, .slice none 0 0] 48)))
  have ck0 := K0.out.c 0 rfl
  have ck1 := K0.out.c 1 rfl
  have ck2 := K0.out.c 2 rfl
  have ck3 := K0.out.c 3 rfl
  have ck4 := K0.out.c 4 rfl
  clear h1 h2
  rcases hi with ⟨hf, hin, hfr1, rfl, rfl, rfl, rfl⟩ | ⟨hf, hin, rfl, rfl, rfl, rfl, rfl⟩ | ⟨hf, hno, rfl, rfl, rfl, rfl⟩ | ⟨hf, rfl, rfl, rfl, rfl⟩
  · have HV : Hid (ValidFormulaIs sz rs fr y fs true) := Lib.hid (Tells.yes hf)
    obtain ⟨p, rfl⟩ : ∃ p : Nat, var = p := ⟨var.toNat, by have := hin.1; omega⟩
    have hc := hf.2.1
    obtain ⟨m, rfl⟩ : ∃ m : Nat, y = m := ⟨y.toNat, by have := hc.1.1; have := hc.2.1.1; omega⟩
    have hm8 : m ≤ 8 := by have := hc.2.1.2; omega
    have hpfr : (p : Int) < fr := by have := hin.2; omega
    have hfrm : fr ≤ (m : Int) := hc.2.1.1
    have hfr0 : 1 ≤ fr ∧ fr ≤ 4 := ⟨hc.1.1, hc.1.2⟩
    have hm16 : fs.length ≤ 1000 := by have := hc.2.2; omega
    have hin' : InP (p : Int) 0 (fr - 1) := hin
    have HLEN : Hid (∀ k, k < fs.length → (rowO fs k).length ≤ 1000) := Lib.hid (fun k hk => by have := (hf.text.2 k hk).2.1.2; omega)
    have HRNG : Hid (∀ k, k < fs.length → ∀ i, i < (rowO fs k).length → 0 ≤ intN (rowO fs k) i ∧ intN (rowO fs k) i < ((rowF (hidR m p) m).length : Int)) := Lib.hid (fun k hk i hi => by
      rw [rowF_len]
      exact (hf.text.2 k hk).2.2.2 i hi)
    simp only [Int.toNat_natCast]
    clear hf hin hc
    have hb : decide ((p : Int) < 0) = false := decide_eq_false (by omega)
    have hlt : ¬ ((p : Int) ≥ fr) := by omega
    have hne1 : (fr == 1) = false := beq_eq_false_iff_ne.2 hfr1
    go_enter Try.func31, Try.ntmps31
    go_wp2_with fail
    refine (implValidFormula _ _ _ _ rs _ _ _ _ _ fs true _ (K0.out.r 1 rfl :) (K0.out.r 0 rfl :) HV.out).mono ?_
    rintro e w1 ⟨rfl, hb1⟩
    have hsz1 : w.heap.size + 3 ≤ w1.heap.size := by have := hb1.size; simpa using this
    have K1 := Lib.hid (K0.out.below hb1)
    have HR1 := Lib.hid (HR0.out.below hb1)
    have cc0 := K1.out.c 0 rfl
    have cc1 := K1.out.c 1 rfl
    clear hb1 ck0 ck1 ck2 ck3 ck4
    go_wp2_with fail
    refine (numbersBelow m (by omega) _).mono ?_
    rintro e w2 ⟨a3, c3, rfl, ho3, hb3⟩
    obtain ⟨g, rfl, hgl⟩ : ∃ g, a3 = some ⟨g, 0, none⟩ ∧ w1.heap.size ≤ g := by
      rcases ownsRow_parts ho3 with ⟨hv, h0, _⟩ | ⟨g, c', hv, hg, _⟩
      · rw [cnts_len] at h0; omega
      · simp only [Value.slice.injEq] at hv; exact ⟨g, hv.1, hg⟩
    have K2 := Lib.hid (K1.out.below hb3)
    have HR2 := Lib.hid (HR1.out.below hb3)
    have HRO : Hid (OwnRow w2 w1.heap.size (.slice (some ⟨g, 0, none⟩) m c3) (rowF (hidK p (p + 1)) m)) := Lib.hid (by
      rw [hidK_start p m]
      exact ho3)
    have hz2 : w1.heap.size ≤ w2.heap.size := hb3.size
    have HB12 := Lib.hid hb3
    clear ho3 hb3 cc0 cc1 hlt hb hne1
    go_wp2
    go_loopw [9] (fun i wr => ∃ k : Nat, p + 1 ≤ k ∧ k ≤ m ∧ i = .int .i64 k ∧ OwnRow wr w1.heap.size (.slice (some ⟨g, 0, none⟩) m c3) (rowF (hidK p k) m) ∧ Below w1.heap.size w1 wr) (fun i _ => m - (intOf i).toNat)
    case atStart => exact ⟨p + 1, Nat.le_refl _, by omega, by go_num, HRO.out, HB12.out⟩
    case round =>
      obtain ⟨k, hpk, hk, rfl, hown, hbel⟩ := hrel
      have HO := Lib.hid hown
      have HW := Lib.hid hbel
      have KR0 := Lib.hid (K1.out.below hbel)
      have g1 := KR0.out.c 1 rfl
      clear hown hbel
      by_cases hlt : k < m
      · have hx := HO.out.cell_of k (by rw [rowF_len]; exact hlt)
        rw [rowF_at _ _ _ hlt, hidK_self] at hx
        have hfz := HO.out.free k
        have hlt' : (k : Int) < (m : Int) := by omega
        have HST := Lib.hid (HO.out.set k ((k : Int) - 1))
        go_wp2
        go_roundw
        case rel =>
          refine ⟨k + 1, by omega, by omega, by go_num, ?_, HW.out.setCell (by show w1.heap.size ≤ g; omega) _⟩
          have h := HST.out
          rwa [rowF_set, rowF_congr (hidK_step p k hpk)] at h
        case measure => simp [intOf]; omega
      · obtain rfl : m = k := by omega
        have hx := HO.out.cell_of p (by rw [rowF_len]; omega)
        have hfz := HO.out.free p
        have hpm : (p : Int) < (m : Int) := by omega
        have HST := Lib.hid (HO.out.set p ((m : Int) - 1))
        have HWS := Lib.hid (HW.out.setCell (p := ⟨g, p, none⟩) (by show w1.heap.size ≤ g; omega) (.int .i64 ((m : Int) - 1)))
        go_wp2
        generalize hws : wr.setCell ⟨g, p, none⟩ (.int .i64 ((m : Int) - 1)) = ws at HST HWS ⊢
        clear hx hfz g1 hws
        have KR := Lib.hid (K1.out.below HWS.out)
        have HRR := Lib.hid (HR1.out.below HWS.out)
        have HTO : Hid (RowAt ws (.slice (some ⟨g, 0, none⟩) m c3) (rowF (hidR m p) m)) := Lib.hid (by
          have h := HST.out.rowAt
          rwa [rowF_set, rowF_congr (hidK_end p m)] at h)
        have hszr : w.heap.size + 3 ≤ ws.heap.size := by have := HWS.out.size; omega
        have g0 := KR.out.c 0 rfl
        have g1 := KR.out.c 1 rfl
        have g2 := KR.out.c 2 rfl
        have hwr : IntKind.i64.wrap (fr - 1) = fr - 1 := IntWalk.i64_in _ (by omega)
        refine wp_region_noPanic ?_
        refine wp_region_late (S := (fun w' => w'.cell? ⟨w.heap.size + 1, 0, none⟩ = some (.int .i64 fr) ∧ w'.cell? ⟨w.heap.size + 1, 1, none⟩ = some (.int .i64 (m : Int)) ∧ w'.cell? ⟨w.heap.size + 1, 2, none⟩ = some (.slice a2 fs.length c2) ∧ Below ws.heap.size ws w')) [10] (by kernel_rfl) ?_ (fun hHeld => ?_)
        · exact ⟨g0, g1, g2, (QW.refl ws).drew.below _⟩
        refine wpAnyL_free (i := 0) (v := ?_) (some 51) rfl rfl (by kernel_rfl) (by kernel_rfl) (by kernel_rfl) (by decide) (fun _ _ _ h => h) (Or.inl ⟨by rfl, ?_⟩) (fun h0 => by assumption) ?_
        rotate_left
        · intro wS
          go_simp
          try with_reducible rfl
        try simp only [Act.put, List.setIfInBounds_toArray, List.set_cons_zero, List.set_cons_succ]
        refine wpAnyL_take (i := 1) (v := ?_) (some 52) rfl rfl (by kernel_rfl) (by kernel_rfl) (by kernel_rfl) (by kernel_rfl) (by kernel_rfl) (fun _ _ _ h => h) (Or.inl ⟨by rfl, ?_⟩) (by assumption) ?_
        rotate_left
        · intro wS hSw
          try dsimp only at hSw
          go_simp
          try with_reducible rfl
        try simp only [Act.put, List.setIfInBounds_toArray, List.set_cons_zero, List.set_cons_succ]
        refine wpAnyL_free (i := 2) (v := ?_) (some 53) rfl rfl (by kernel_rfl) (by kernel_rfl) (by kernel_rfl) (by decide) (fun _ _ _ h => h) (Or.inl ⟨by rfl, ?_⟩) (fun h0 => by assumption) ?_
        rotate_left
        · intro wS
          go_simp
          try with_reducible rfl
        try simp only [Act.put, List.setIfInBounds_toArray, List.set_cons_zero, List.set_cons_succ]
        refine wpAnyL_free (i := 3) (v := ?_) (some 54) rfl rfl (by kernel_rfl) (by kernel_rfl) (by kernel_rfl) (by decide) (fun _ _ _ h => h) (Or.inl ⟨by rfl, ?_⟩) (fun h0 => by assumption) ?_
        rotate_left
        · intro wS
          go_simp
          try with_reducible rfl
        try simp only [Act.put, List.setIfInBounds_toArray, List.set_cons_zero, List.set_cons_succ]
        refine wpAnyL_take (i := 4) (v := ?_) (some 55) rfl rfl (by kernel_rfl) (by kernel_rfl) (by kernel_rfl) (by kernel_rfl) (by kernel_rfl) (fun _ _ _ h => h) (Or.inl ⟨by rfl, ?_⟩) (by assumption) ?_
        rotate_left
        · intro wS hSw
          try dsimp only at hSw
          go_simp
          try with_reducible rfl
        try simp only [Act.put, List.setIfInBounds_toArray, List.set_cons_zero, List.set_cons_succ]
        refine wpAnyL_free (i := 5) (v := ?_) (some 56) rfl rfl (by kernel_rfl) (by kernel_rfl) (by kernel_rfl) (by decide) (fun _ _ _ h => h) (Or.inl ⟨by rfl, ?_⟩) (fun h0 => by assumption) ?_
        rotate_left
        · intro wS
          go_simp
          try with_reducible rfl
        try simp only [Act.put, List.setIfInBounds_toArray, List.set_cons_zero, List.set_cons_succ]
        refine wpAnyL_take (i := 6) (v := ?_) (some 57) rfl rfl (by kernel_rfl) (by kernel_rfl) (by kernel_rfl) (by kernel_rfl) (by kernel_rfl) (fun _ _ _ h => h) (Or.inl ⟨by rfl, ?_⟩) (by assumption) ?_
        rotate_left
        · intro wS hSw
          try dsimp only at hSw
          go_simp
          try with_reducible rfl
        try simp only [Act.put, List.setIfInBounds_toArray, List.set_cons_zero, List.set_cons_succ]
        refine wpAnyL_free (i := 7) (v := ?_) (some 58) rfl rfl (by kernel_rfl) (by kernel_rfl) (by kernel_rfl) (by decide) (fun _ _ _ h => h) (Or.inl ⟨by rfl, ?_⟩) (fun h0 => by assumption) ?_
        rotate_left
        · intro wS
          go_simp
          try with_reducible rfl
        try simp only [Act.put, List.setIfInBounds_toArray, List.set_cons_zero, List.set_cons_succ]
        refine wpAnyL_ready (rs := [8]) (by kernel_rfl) (by simp) ?_
        refine AllReadyL.cons rfl (fun K hK => ?_) AllReadyL.nil
        go_simp; go_at_call 62; refine (renamedAll _ _ fs (rowF (hidR m p) m) _ ((KR.out.r 0 rfl : OpsAt ws (.slice a2 fs.length c2) fs).below ((QW.refl ws).drew.below _)) (HTO.out.below ((QW.refl ws).drew.below _)) HLEN.out HRNG.out hm16).mono ?_; rintro e w5 ⟨a5, n5, c5, rfl, ho5, hb5⟩
        have HO5 := Lib.hid ho5
        have HB5 := Lib.hid (((QW.refl ws).drew.below ws.heap.size).trans hb5)
        have HR5 := Lib.hid (HRR.out.below HB5.out)
        have e0 := HR5.out.c 0 rfl
        have e1 := HR5.out.c 1 rfl
        have e2 := HR5.out.c 2 rfl
        have f0 := HR5.out.free 0
        have f1 := HR5.out.free 1
        have f2 := HR5.out.free 2
        refine hK.out _ _ ?_ (fun hHeld => ?_)
        · exact ⟨below_cell hb5 hHeld.1, below_cell hb5 hHeld.2.1, below_cell hb5 hHeld.2.2.1, hHeld.2.2.2.trans (hb5.mono hHeld.2.2.2.size)⟩
        clear hK K
        try simp only [Act.put, List.setIfInBounds_toArray, List.set_cons_zero, List.set_cons_succ]
        refine wpAnyL_free (i := 9) (v := ?_) (some 60) rfl rfl (by kernel_rfl) (by kernel_rfl) (by kernel_rfl) (by decide) (fun _ _ _ h => h) (Or.inl ⟨by rfl, ?_⟩) (fun h0 => by assumption) ?_
        rotate_left
        · intro wS
          go_simp
          try with_reducible rfl
        try simp only [Act.put, List.setIfInBounds_toArray, List.set_cons_zero, List.set_cons_succ]
        refine wpAnyL_ready (rs := [10]) (by kernel_rfl) (by simp) ?_
        refine AllReadyL.last rfl (by kernel_rfl) (fun K hK => ?_) AllReadyL.nil
        go_simp
        refine hK.out _ _ ?_
        clear hK K
        try simp only [Act.put, List.setIfInBounds_toArray, List.set_cons_zero, List.set_cons_succ]
        refine wpAnyL_free (i := 11) (v := ?_) (some 7) rfl rfl (by kernel_rfl) (by kernel_rfl) (by kernel_rfl) (by decide) (fun _ _ _ h => h) (Or.inl ⟨by rfl, ?_⟩) (fun h0 => absurd h0 (by decide)) ?_
        rotate_left
        · intro wS
          go_simp
          try with_reducible rfl
        try simp only [Act.put, List.setIfInBounds_toArray, List.set_cons_zero, List.set_cons_succ]
        refine wpAnyL_done (by kernel_rfl) ?_ _
        refine NoPanic.normal ?_
        go_wp2
        refine bodyPost_ret (v := .tuple #[.agg #[.int .i64 (fr - 1), .int .i64 m, .slice a5 n5 c5], .int .i64 0]) (by simp [results, Try.results31, go_sem, e0, e1, e2, hwr]) rfl ⟨_, _, _, rfl, ?_, ?_⟩
        · exact ((((HO5.out.mono hszr).stored (by show w.heap.size + 2 < w.heap.size + 3; omega) _).stored (by show w.heap.size + 2 < w.heap.size + 3; omega) _).stored (by show w.heap.size + 2 < w.heap.size + 3; omega) _).mono (by omega) |>.full
        · exact ((((KR.out.bel.trans (HB5.out.mono KR.out.bel.size)).setCell (by show w.heap.size ≤ w.heap.size + 2; omega) _).setCell (by show w.heap.size ≤ w.heap.size + 2; omega) _).setCell (by show w.heap.size ≤ w.heap.size + 2; omega) _)

  · have HV : Hid (ValidFormulaIs sz rs 1 va fs true) := Lib.hid (Tells.yes hf)
    clear hf
    have hb : decide (var < 0) = false := decide_eq_false (by have := hin.1; omega)
    have hlt : ¬ var ≥ 1 := by have := hin.2; omega
    clear hin
    go_enter Try.func31, Try.ntmps31
    go_wp2_with fail
    refine (implValidFormula _ _ _ _ rs _ _ _ _ _ fs true _ (K0.out.r 1 rfl :) (K0.out.r 0 rfl :) HV.out).mono ?_
    rintro e w1 ⟨rfl, hb1⟩
    have hsz1 : w.heap.size + 3 ≤ w1.heap.size := by have := hb1.size; simpa using this
    have K1 := Lib.hid (K0.out.below hb1)
    have HR1 := Lib.hid (HR0.out.below hb1)
    have cc0 := K1.out.c 0 rfl
    have cc1 := K1.out.c 1 rfl
    clear hb1 ck0 ck1 ck2 ck3 ck4
    have d0 := HR1.out.c 0 rfl
    have d1 := HR1.out.c 1 rfl
    have d2 := HR1.out.c 2 rfl
    have f0 := HR1.out.free 0
    have f1 := HR1.out.free 1
    have f2 := HR1.out.free 2
    go_wp2
    refine bodyPost_ret (v := .tuple #[.agg #[.int .i64 0, .int .i64 0, .slice none 0 0], .int .i64 4]) (by simp [results, Try.results31, go_sem, d0, d1, d2]) rfl ⟨_, _, _, rfl, ?_, ?_⟩
    · exact OwnOps.nil _ _ _ _ (Nat.le_refl _)
    · exact ((K1.out.bel.setCell (by show w.heap.size ≤ w.heap.size + 2; omega) _).setCell (by show w.heap.size ≤ w.heap.size + 2; omega) _).setCell (by show w.heap.size ≤ w.heap.size + 2; omega) _
  · have HV : Hid (ValidFormulaIs sz rs fr va fs true) := Lib.hid (Tells.yes hf)
    have hfr0 : 1 ≤ fr ∧ fr ≤ 4 := hf.2.1.1
    clear hf
    by_cases hneg : var < 0
    · have hb : decide (var < 0) = true := decide_eq_true hneg
      go_enter Try.func31, Try.ntmps31
      go_wp2_with fail
      refine (implValidFormula _ _ _ _ rs _ _ _ _ _ fs true _ (K0.out.r 1 rfl :) (K0.out.r 0 rfl :) HV.out).mono ?_
      rintro e w1 ⟨rfl, hb1⟩
      have hsz1 : w.heap.size + 3 ≤ w1.heap.size := by have := hb1.size; simpa using this
      have K1 := Lib.hid (K0.out.below hb1)
      have HR1 := Lib.hid (HR0.out.below hb1)
      have cc0 := K1.out.c 0 rfl
      have cc1 := K1.out.c 1 rfl
      clear hb1 ck0 ck1 ck2 ck3 ck4
      have d0 := HR1.out.c 0 rfl
      have d1 := HR1.out.c 1 rfl
      have d2 := HR1.out.c 2 rfl
      have f0 := HR1.out.free 0
      have f1 := HR1.out.free 1
      have f2 := HR1.out.free 2
      go_wp2
      refine bodyPost_ret (v := .tuple #[.agg #[.int .i64 0, .int .i64 0, .slice none 0 0], .int .i64 2]) (by simp [results, Try.results31, go_sem, d0, d1, d2]) rfl ⟨_, _, _, rfl, ?_, ?_⟩
      · exact OwnOps.nil _ _ _ _ (Nat.le_refl _)
      · exact ((K1.out.bel.setCell (by show w.heap.size ≤ w.heap.size + 2; omega) _).setCell (by show w.heap.size ≤ w.heap.size + 2; omega) _).setCell (by show w.heap.size ≤ w.heap.size + 2; omega) _
    · have hb : decide (var < 0) = false := decide_eq_false hneg
      have hge : var ≥ fr := by have : ¬ (0 ≤ var ∧ var ≤ fr - 1) := hno; omega
      clear hno hneg
      go_enter Try.func31, Try.ntmps31
      go_wp2_with fail
      refine (implValidFormula _ _ _ _ rs _ _ _ _ _ fs true _ (K0.out.r 1 rfl :) (K0.out.r 0 rfl :) HV.out).mono ?_
      rintro e w1 ⟨rfl, hb1⟩
      have hsz1 : w.heap.size + 3 ≤ w1.heap.size := by have := hb1.size; simpa using this
      have K1 := Lib.hid (K0.out.below hb1)
      have HR1 := Lib.hid (HR0.out.below hb1)
      have cc0 := K1.out.c 0 rfl
      have cc1 := K1.out.c 1 rfl
      clear hb1 ck0 ck1 ck2 ck3 ck4
      have d0 := HR1.out.c 0 rfl
      have d1 := HR1.out.c 1 rfl
      have d2 := HR1.out.c 2 rfl
      have f0 := HR1.out.free 0
      have f1 := HR1.out.free 1
      have f2 := HR1.out.free 2
      go_wp2
      refine bodyPost_ret (v := .tuple #[.agg #[.int .i64 0, .int .i64 0, .slice none 0 0], .int .i64 2]) (by simp [results, Try.results31, go_sem, d0, d1, d2]) rfl ⟨_, _, _, rfl, ?_, ?_⟩
      · exact OwnOps.nil _ _ _ _ (Nat.le_refl _)
      · exact ((K1.out.bel.setCell (by show w.heap.size ≤ w.heap.size + 2; omega) _).setCell (by show w.heap.size ≤ w.heap.size + 2; omega) _).setCell (by show w.heap.size ≤ w.heap.size + 2; omega) _
  · have HV : Hid (ValidFormulaIs sz rs fr va fs false) := Lib.hid (Tells.no hf)
    clear hf
    go_enter Try.func31, Try.ntmps31
    go_wp2_with fail
    refine (implValidFormula _ _ _ _ rs _ _ _ _ _ fs false _ (K0.out.r 1 rfl :) (K0.out.r 0 rfl :) HV.out).mono ?_
    rintro e w1 ⟨rfl, hb1⟩
    have hsz1 : w.heap.size + 3 ≤ w1.heap.size := by have := hb1.size; simpa using this
    have K1 := Lib.hid (K0.out.below hb1)
    have HR1 := Lib.hid (HR0.out.below hb1)
    have cc0 := K1.out.c 0 rfl
    have cc1 := K1.out.c 1 rfl
    clear hb1 ck0 ck1 ck2 ck3 ck4
    have d0 := HR1.out.c 0 rfl
    have d1 := HR1.out.c 1 rfl
    have d2 := HR1.out.c 2 rfl
    have f0 := HR1.out.free 0
    have f1 := HR1.out.free 1
    have f2 := HR1.out.free 2
    go_wp2
    refine bodyPost_ret (v := .tuple #[.agg #[.int .i64 0, .int .i64 0, .slice none 0 0], .int .i64 1]) (by simp [results, Try.results31, go_sem, d0, d1, d2]) rfl ⟨_, _, _, rfl, ?_, ?_⟩
    · exact OwnOps.nil _ _ _ _ (Nat.le_refl _)
    · exact ((K1.out.bel.setCell (by show w.heap.size ≤ w.heap.size + 2; omega) _).setCell (by show w.heap.size ≤ w.heap.size + 2; omega) _).setCell (by show w.heap.size ≤ w.heap.size + 2; omega) _

end Go.Proofs.Ytpibigdfepgfnaa
