/-
  Constraints that hold: FirstFailing and IsSolution of the model.
-/
import Derived.Test.YtiinohkkfjbfhaaInstOk2
import Derived.Test.YtiinohkkfjbfhaaGRel
import Derived.Test.YtiinohkkfjbfhaaAtP
import Derived.Test.YtiinohkkfjbfhaaOp
namespace Go.Proofs.Ytiinohkkfjbfhaa
open Go.RowKit

def HoldC (rs : List (Int × List (List Int))) (vals : List Int) (rel : Int) (args : List Int) : Prop := HasP (gridN rs rel.toNat) (mapped vals args)
def FailAt (rs : List (Int × List (List Int))) (cs : List (Int × List Int)) (vals : List Int) (v : Int) : Prop :=
  (∃ k : Nat, v = k ∧ k < cs.length ∧ (∀ j, j < k → HoldC rs vals (arO cs j) (rowO cs j)) ∧ ¬ HoldC rs vals (arO cs k) (rowO cs k)) ∨ (v = -1 ∧ ∀ j, j < cs.length → HoldC rs vals (arO cs j) (rowO cs j))
theorem FailAt.exists (rs : List (Int × List (List Int))) (cs : List (Int × List Int)) (vals : List Int) : ∃ v, FailAt rs cs vals v := by
  have h : ∀ n, n ≤ cs.length → (∀ j, j < n → HoldC rs vals (arO cs j) (rowO cs j)) ∨ ∃ k, k < n ∧ (∀ j, j < k → HoldC rs vals (arO cs j) (rowO cs j)) ∧ ¬ HoldC rs vals (arO cs k) (rowO cs k) := by
    intro n
    induction n with
    | zero => exact fun _ => .inl fun j hj => absurd hj (Nat.not_lt_zero _)
    | succ n ih =>
      intro hn
      rcases ih (by omega) with h | ⟨k, h1, h2, h3⟩
      · by_cases hk : HoldC rs vals (arO cs n) (rowO cs n)
        · refine .inl fun j hj => ?_
          by_cases hjn : j = n
          · subst hjn; exact hk
          · exact h j (by omega)
        · exact .inr ⟨n, by omega, h, hk⟩
      · exact .inr ⟨k, by omega, h2, h3⟩
  rcases h cs.length (Nat.le_refl _) with h | ⟨k, h1, h2, h3⟩
  · exact ⟨-1, .inr ⟨rfl, h⟩⟩
  · exact ⟨k, .inl ⟨k, rfl, h1, h2, h3⟩⟩
theorem FailAt.num {rs : List (Int × List (List Int))} {cs : List (Int × List Int)} {vals : List Int} {v : Int} {k : Nat} (h : FailAt rs cs vals v) (hk : k < cs.length) (hall : ∀ j, j < k → HoldC rs vals (arO cs j) (rowO cs j)) (hno : ¬ HoldC rs vals (arO cs k) (rowO cs k)) : (k : Int) = v := by
  rcases h with ⟨q, rfl, h1, h2, h3⟩ | ⟨rfl, h⟩
  · have : k = q := by
      rcases Nat.lt_trichotomy k q with g | g | g
      · exact absurd (h2 k g) hno
      · exact g
      · exact absurd (hall q g) h3
    rw [this]
  · exact absurd (h k hk) hno
theorem FailAt.none {rs : List (Int × List (List Int))} {cs : List (Int × List Int)} {vals : List Int} {v : Int} (h : FailAt rs cs vals v) (hall : ∀ j, j < cs.length → HoldC rs vals (arO cs j) (rowO cs j)) : (-1 : Int) = v := by
  rcases h with ⟨q, rfl, h1, h2, h3⟩ | ⟨rfl, h⟩
  · exact absurd (hall q h1) h3
  · rfl
def FirstFailingIs (sz : Int) (rs : List (Int × List (List Int))) (va : Int) (cs : List (Int × List Int)) (vals : List Int) (v cd : Int) : Prop :=
  (InstOk sz rs va cs ∧ TupP sz va vals ∧ FailAt rs cs vals v ∧ cd = 0) ∨ (InstOk sz rs va cs ∧ ¬ TupP sz va vals ∧ v = 0 ∧ cd = 2) ∨ (¬ InstOk sz rs va cs ∧ v = 0 ∧ cd = 1)
theorem FirstFailingIs.exists (sz : Int) (rs : List (Int × List (List Int))) (va : Int) (cs : List (Int × List Int)) (vals : List Int) : ∃ v cd, FirstFailingIs sz rs va cs vals v cd := by
  by_cases h : InstOk sz rs va cs
  · by_cases h2 : TupP sz va vals
    · obtain ⟨v, hv⟩ := FailAt.exists rs cs vals
      exact ⟨v, 0, .inl ⟨h, h2, hv, rfl⟩⟩
    · exact ⟨0, 2, .inr (.inl ⟨h, h2, rfl, rfl⟩)⟩
  · exact ⟨0, 1, .inr (.inr ⟨h, rfl, rfl⟩)⟩
def IsSolutionIs (sz : Int) (rs : List (Int × List (List Int))) (va : Int) (cs : List (Int × List Int)) (vals : List Int) (b : Bool) (cd : Int) : Prop := ∃ v, FirstFailingIs sz rs va cs vals v cd ∧ (b = (cd == 0 && v == -1))
theorem IsSolutionIs.exists (sz : Int) (rs : List (Int × List (List Int))) (va : Int) (cs : List (Int × List Int)) (vals : List Int) : ∃ b cd, IsSolutionIs sz rs va cs vals b cd := by
  obtain ⟨v, cd, h⟩ := FirstFailingIs.exists sz rs va cs vals
  exact ⟨_, cd, v, h, rfl⟩

set_option linter.unusedSimpArgs false in
set_option maxHeartbeats 1000000 in
set_option maxRecDepth 100000 in
theorem l05Holds (tb to cb co : Nat) (sz : Int) (rs : List (Int × List (List Int))) (m : Nat) (args vals : List Int) (v : Value) (b : Bool) (w : World) (ht : TplAt w tb to sz rs) (hc : OpAt w cb co m args) (hv : RowAt w v vals) (hm : m < rs.length) (hl : args.length ≤ 4) (hr : PlP args vals.length) (hb : Tells b (HasP (gridN rs m) (mapped vals args))) :
    Calls Try.prog 135 #[.pointer (some ⟨tb, to, none⟩), .pointer (some ⟨cb, co, none⟩), v] w fun e w' => e = .returned (.bool b) ∧ Below w.heap.size w w' := by
  obtain ⟨tp0, ta, tn, tc, tp1, ta', tc', thv, thn, thc⟩ := ht
  simp only [Value.slice.injEq] at thv
  obtain ⟨rfl, rfl, rfl⟩ := thv
  obtain ⟨b1, off1, ha1, hcell1⟩ := thc (by omega)
  subst ha1
  have HRL := Lib.hid (hcell1 m hm)
  obtain ⟨x0, ca, cn, cc, x1, ha⟩ := hc
  have HA := Lib.hid ha
  have HV := Lib.hid hv
  have HB := Lib.hid hb
  have HPL := Lib.hid hr
  have hm' : (m : Int) < (rs.length : Int) := by omega
  clear hcell1 thc ha hv hb hr
  go_enter Try.func135, Try.ntmps135
  go_wp2
  refine wp_region_noPanic ?_
  refine wp_region_late (S := (fun w' => w'.cell? ⟨tb, to + 1, none⟩ = some (.slice (some ⟨b1, off1, none⟩) rs.length tc) ∧ w'.cell? ⟨cb, co, none⟩ = some (.int .i64 (m : Int)) ∧ w'.cell? ⟨cb, co + 1, none⟩ = some (.slice ca cn cc) ∧ Below w.heap.size w w')) [] (by kernel_rfl) ?_ (fun hHeld => ?_)
  · exact ⟨tp1, x0, x1, (QW.refl _).drew.below _⟩
  refine wpAnyL_free (i := 0) (v := ?_) (some 7) rfl rfl (by kernel_rfl) (by kernel_rfl) (by kernel_rfl) (by decide) (fun _ _ _ h => h) (Or.inl ⟨by rfl, ?_⟩) (fun h0 => by assumption) ?_
  rotate_left
  · intro wS
    go_simp
    try with_reducible rfl
  try simp only [Act.put, List.setIfInBounds_toArray, List.set_cons_zero, List.set_cons_succ]
  refine wpAnyL_free (i := 1) (v := ?_) (some 8) rfl rfl (by kernel_rfl) (by kernel_rfl) (by kernel_rfl) (by decide) (fun _ _ _ h => h) (Or.inl ⟨by rfl, ?_⟩) (fun h0 => by assumption) ?_
  rotate_left
  · intro wS
    go_simp
    try with_reducible rfl
  try simp only [Act.put, List.setIfInBounds_toArray, List.set_cons_zero, List.set_cons_succ]
  refine wpAnyL_free (i := 2) (v := ?_) (some 9) rfl rfl (by kernel_rfl) (by kernel_rfl) (by kernel_rfl) (by decide) (fun _ _ _ h => h) (Or.inl ⟨by rfl, ?_⟩) (fun h0 => by assumption) ?_
  rotate_left
  · intro wS
    go_simp
    try with_reducible rfl
  try simp only [Act.put, List.setIfInBounds_toArray, List.set_cons_zero, List.set_cons_succ]
  refine wpAnyL_take (i := 3) (v := ?_) (some 10) rfl rfl (by kernel_rfl) (by kernel_rfl) (by kernel_rfl) (by kernel_rfl) (by kernel_rfl) (fun _ _ _ h => h) (Or.inl ⟨by rfl, ?_⟩) (by assumption) ?_
  rotate_left
  · intro wS hSw
    try dsimp only at hSw
    go_simp
    try with_reducible rfl
  try simp only [Act.put, List.setIfInBounds_toArray, List.set_cons_zero, List.set_cons_succ]
  refine wpAnyL_free (i := 4) (v := ?_) (some 11) rfl rfl (by kernel_rfl) (by kernel_rfl) (by kernel_rfl) (by decide) (fun _ _ _ h => h) (Or.inl ⟨by rfl, ?_⟩) (fun h0 => by assumption) ?_
  rotate_left
  · intro wS
    go_simp
    try with_reducible rfl
  try simp only [Act.put, List.setIfInBounds_toArray, List.set_cons_zero, List.set_cons_succ]
  refine wpAnyL_free (i := 5) (v := ?_) (some 12) rfl rfl (by kernel_rfl) (by kernel_rfl) (by kernel_rfl) (by decide) (fun _ _ _ h => h) (Or.inl ⟨by rfl, ?_⟩) (fun h0 => by assumption) ?_
  rotate_left
  · intro wS
    go_simp
    try with_reducible rfl
  try simp only [Act.put, List.setIfInBounds_toArray, List.set_cons_zero, List.set_cons_succ]
  refine wpAnyL_free (i := 6) (v := ?_) (some 13) rfl rfl (by kernel_rfl) (by kernel_rfl) (by kernel_rfl) (by decide) (fun _ _ _ h => h) (Or.inl ⟨by rfl, ?_⟩) (fun h0 => by assumption) ?_
  rotate_left
  · intro wS
    go_simp
    try with_reducible rfl
  try simp only [Act.put, List.setIfInBounds_toArray, List.set_cons_zero, List.set_cons_succ]
  refine wpAnyL_take (i := 7) (v := ?_) (some 14) rfl rfl (by kernel_rfl) (by kernel_rfl) (by kernel_rfl) (by kernel_rfl) (by kernel_rfl) (fun _ _ _ h => h) (Or.inl ⟨by rfl, ?_⟩) (by assumption) ?_
  rotate_left
  · intro wS hSw
    try dsimp only at hSw
    go_simp
    try with_reducible rfl
  try simp only [Act.put, List.setIfInBounds_toArray, List.set_cons_zero, List.set_cons_succ]
  refine wpAnyL_free (i := 8) (v := ?_) (some 15) rfl rfl (by kernel_rfl) (by kernel_rfl) (by kernel_rfl) (by decide) (fun _ _ _ h => h) (Or.inl ⟨by rfl, ?_⟩) (fun h0 => by assumption) ?_
  rotate_left
  · intro wS
    go_simp
    try with_reducible rfl
  try simp only [Act.put, List.setIfInBounds_toArray, List.set_cons_zero, List.set_cons_succ]
  refine wpAnyL_free (i := 9) (v := ?_) (some 16) rfl rfl (by kernel_rfl) (by kernel_rfl) (by kernel_rfl) (by decide) (fun _ _ _ h => h) (Or.inl ⟨by rfl, ?_⟩) (fun h0 => by assumption) ?_
  rotate_left
  · intro wS
    go_simp
    try with_reducible rfl
  try simp only [Act.put, List.setIfInBounds_toArray, List.set_cons_zero, List.set_cons_succ]
  refine wpAnyL_free (i := 10) (v := ?_) (some 17) rfl rfl (by kernel_rfl) (by kernel_rfl) (by kernel_rfl) (by decide) (fun _ _ _ h => h) (Or.inl ⟨by rfl, ?_⟩) (fun h0 => by assumption) ?_
  rotate_left
  · intro wS
    go_simp
    try with_reducible rfl
  try simp only [Act.put, List.setIfInBounds_toArray, List.set_cons_zero, List.set_cons_succ]
  refine wpAnyL_free (i := 11) (v := ?_) (some 18) rfl rfl (by kernel_rfl) (by kernel_rfl) (by kernel_rfl) (by decide) (fun _ _ _ h => h) (Or.inl ⟨by rfl, ?_⟩) (fun h0 => by assumption) ?_
  rotate_left
  · intro wS
    go_simp
    try with_reducible rfl
  try simp only [Act.put, List.setIfInBounds_toArray, List.set_cons_zero, List.set_cons_succ]
  refine wpAnyL_free (i := 12) (v := ?_) (some 19) rfl rfl (by kernel_rfl) (by kernel_rfl) (by kernel_rfl) (by decide) (fun _ _ _ h => h) (Or.inl ⟨by rfl, ?_⟩) (fun h0 => by assumption) ?_
  rotate_left
  · intro wS
    go_simp
    try with_reducible rfl
  try simp only [Act.put, List.setIfInBounds_toArray, List.set_cons_zero, List.set_cons_succ]
  refine wpAnyL_take (i := 13) (v := ?_) (some 20) rfl rfl (by kernel_rfl) (by kernel_rfl) (by kernel_rfl) (by kernel_rfl) (by kernel_rfl) (fun _ _ _ h => h) (Or.inl ⟨by rfl, ?_⟩) (by assumption) ?_
  rotate_left
  · intro wS hSw
    try dsimp only at hSw
    go_simp
    try with_reducible rfl
  try simp only [Act.put, List.setIfInBounds_toArray, List.set_cons_zero, List.set_cons_succ]
  refine wpAnyL_ready (rs := [14]) (by kernel_rfl) (by simp) ?_
  refine AllReadyL.cons rfl (fun K hK => ?_) AllReadyL.nil
  go_simp; go_at_call 154; refine (l01At _ _ args vals _ (HA.out.below hHeld.2.2.2) (HV.out.below hHeld.2.2.2) hl HPL.out).mono ?_; rintro e w5 ⟨a5, n5, c5, rfl, ho5, hb5⟩
  have HO5 := Lib.hid ho5
  have HB5 := Lib.hid (hHeld.2.2.2.trans (hb5.mono hHeld.2.2.2.size))
  refine hK.out _ _ ?_ (fun hHeld => ?_)
  · exact ⟨below_cell hb5 hHeld.1, below_cell hb5 hHeld.2.1, below_cell hb5 hHeld.2.2.1, HB5.out⟩
  clear hK K
  try simp only [Act.put, List.setIfInBounds_toArray, List.set_cons_zero, List.set_cons_succ]
  refine wpAnyL_ready (rs := [15]) (by kernel_rfl) (by simp) ?_
  refine AllReadyL.cons rfl (fun K hK => ?_) AllReadyL.nil
  go_simp; go_at_call 153; refine (l01Has _ _ _ _ _ _ b _ (HRL.out.below hHeld.2.2.2) HO5.out HB.out).mono ?_; rintro e w6 ⟨rfl, hq6⟩
  have HB6 := Lib.hid (HB5.out.trans (hq6.below _))
  refine hK.out _ _ ?_ (fun hHeld => ?_)
  · exact ⟨below_cell hq6.bel hHeld.1, below_cell hq6.bel hHeld.2.1, below_cell hq6.bel hHeld.2.2.1, HB6.out⟩
  clear hK K
  try simp only [Act.put, List.setIfInBounds_toArray, List.set_cons_zero, List.set_cons_succ]
  refine wpAnyL_free (i := 16) (v := ?_) (some 6) rfl rfl (by kernel_rfl) (by kernel_rfl) (by kernel_rfl) (by decide) (fun _ _ _ h => h) (Or.inl ⟨by rfl, ?_⟩) (fun h0 => by assumption) ?_
  rotate_left
  · intro wS
    go_simp
    try with_reducible rfl
  try simp only [Act.put, List.setIfInBounds_toArray, List.set_cons_zero, List.set_cons_succ]
  refine wpAnyL_done (by kernel_rfl) ?_ _
  refine NoPanic.normal ?_
  have HE := Lib.hid hHeld.2.2.2
  go_wp2
  go_ret
  exact ⟨rfl, HE.out⟩

set_option maxHeartbeats 1000000 in
set_option maxRecDepth 100000 in
theorem l05Given (tb to : Nat) (sz : Int) (rs : List (Int × List (List Int))) (pb po : Nat) (va : Int) (cs : List (Int × List Int)) (v : Value) (vals : List Int) (cd : Int) (w : World) (ht : TplAt w tb to sz rs) (h : InstAt w pb po va cs) (hv : RowAt w v vals)
    (hcd : (InstOk sz rs va cs ∧ TupP sz va vals ∧ cd = 0) ∨ (InstOk sz rs va cs ∧ ¬ TupP sz va vals ∧ cd = 2) ∨ (¬ InstOk sz rs va cs ∧ cd = 1)) :
    Calls Try.prog 90 #[.pointer (some ⟨tb, to, none⟩), .pointer (some ⟨pb, po, none⟩), v] w fun e w' => e = .returned (.int .i64 cd) ∧ QW w w' := by
  have HT := Lib.hid ht
  have HI := Lib.hid h
  have HV := Lib.hid hv
  clear ht h hv
  rcases hcd with ⟨h1, h2, rfl⟩ | ⟨h1, h2, rfl⟩ | ⟨h1, rfl⟩
  · have H1 := Lib.hid (Tells.yes h1)
    have H2 := Lib.hid (Tells.yes h2)
    have hs1 : 1 ≤ sz := h1.1.1.1
    have hs2 : sz ≤ 4 := h1.1.1.2
    clear h1 h2
    go_enter Try.func90, Try.ntmps90
    go_wp2_with fail
    refine (l05Ok _ _ _ _ _ _ _ _ true _ HT.out HI.out H1.out).mono ?_
    rintro e w1 ⟨rfl, hq⟩
    have HQ1 := Lib.hid hq
    clear hq
    have t0 := HQ1.out.cell HT.out.size
    have x0 := HQ1.out.cell HI.out.vars
    go_wp2
    go_quiet ((go_at_call 134; exact QW.calls_same (l01Tuple _ _ _ _ true _ (HV.out.below ((HQ1.out.drewN _).bel)) hs1 hs2 H2.out)))
    go_wp2
    go_ret
    exact ⟨rfl, HQ1.out.drewN _⟩
  · have H1 := Lib.hid (Tells.yes h1)
    have H2 := Lib.hid (Tells.no h2)
    have hs1 : 1 ≤ sz := h1.1.1.1
    have hs2 : sz ≤ 4 := h1.1.1.2
    clear h1 h2
    go_enter Try.func90, Try.ntmps90
    go_wp2_with fail
    refine (l05Ok _ _ _ _ _ _ _ _ true _ HT.out HI.out H1.out).mono ?_
    rintro e w1 ⟨rfl, hq⟩
    have HQ1 := Lib.hid hq
    clear hq
    have t0 := HQ1.out.cell HT.out.size
    have x0 := HQ1.out.cell HI.out.vars
    go_wp2
    go_quiet ((go_at_call 134; exact QW.calls_same (l01Tuple _ _ _ _ false _ (HV.out.below ((HQ1.out.drewN _).bel)) hs1 hs2 H2.out)))
    go_wp2
    go_ret
    exact ⟨rfl, HQ1.out.drewN _⟩
  · have H1 := Lib.hid (Tells.no h1)
    clear h1
    go_enter Try.func90, Try.ntmps90
    go_wp2_with fail
    refine (l05Ok _ _ _ _ _ _ _ _ false _ HT.out HI.out H1.out).mono ?_
    rintro e w1 ⟨rfl, hq⟩
    have HQ1 := Lib.hid hq
    clear hq
    go_wp2
    go_ret
    exact ⟨rfl, HQ1.out⟩

set_option maxHeartbeats 1000000 in
set_option maxRecDepth 100000 in
theorem l05Failing (tb to : Nat) (sz : Int) (rs : List (Int × List (List Int))) (pb po : Nat) (va : Int) (cs : List (Int × List Int)) (v : Value) (vals : List Int) (x : Int) (w : World) (ht : TplAt w tb to sz rs) (h : InstAt w pb po va cs) (hv : RowAt w v vals) (hok : InstOk sz rs va cs) (htu : TupP sz va vals) (hx : FailAt rs cs vals x) :
    Calls Try.prog 91 #[.pointer (some ⟨tb, to, none⟩), .pointer (some ⟨pb, po, none⟩), v] w fun e w' => e = .returned (.int .i64 x) ∧ Below w.heap.size w w' := by
  have HT := Lib.hid ht
  have HV := Lib.hid hv
  have HOK := Lib.hid hok
  have HTU := Lib.hid htu
  have HX := Lib.hid hx
  obtain ⟨x1, a1, n1, c1, x3, a1', c1', hv1, hn1, hc1⟩ := h
  simp only [Value.slice.injEq] at hv1
  obtain ⟨rfl, rfl, rfl⟩ := hv1
  have HC := Lib.hid hc1
  clear hc1 ht hv hok htu hx
  go_enter Try.func91, Try.ntmps91
  go_wp2
  go_loopw [7] (fun i wr => ∃ k : Nat, k ≤ cs.length ∧ i = .int .i64 k ∧ (∀ j, j < k → HoldC rs vals (arO cs j) (rowO cs j)) ∧ Below w.heap.size w wr) (fun i _ => cs.length - (intOf i).toNat)
  case atStart => exact ⟨0, Nat.zero_le _, rfl, fun j hj => absurd hj (Nat.not_lt_zero _), Below.refl _ _⟩
  case round =>
    obtain ⟨k, hk, rfl, hall, hb⟩ := hrel
    have HAL := Lib.hid hall
    have HBR := Lib.hid hb
    have e3 := below_cell hb x3
    clear hall hb
    by_cases hlt : k < cs.length
    · obtain ⟨b1, off1, ha1, hcell1⟩ := HC.out (by omega)
      subst ha1
      have HCO := Lib.hid ((hcell1 k hlt).below HBR.out)
      have hlt' : (k : Int) < (cs.length : Int) := by omega
      have hco := HOK.out.2.2.2 k hlt
      obtain ⟨m, hm⟩ : ∃ m : Nat, arO cs k = m := ⟨(arO cs k).toNat, by have := hco.1.1; omega⟩
      have hmr : m < rs.length := by have := hco.1.2; omega
      have hl4 : (rowO cs k).length ≤ 4 := by have h1 := hco.2.1; rw [hm, Int.toNat_natCast] at h1; have h2 := (HOK.out.1.2.2 m hmr).2.1.2; omega
      have HPL : Hid (PlP (rowO cs k) vals.length) := Lib.hid (by have h1 := hco.2.2; have h2 := HTU.out.1; rw [← h2] at h1; exact h1)
      have HHC : Hid (HoldC rs vals (arO cs k) (rowO cs k) ↔ HasP (gridN rs m) (mapped vals (rowO cs k))) := Lib.hid (by unfold HoldC; rw [hm, Int.toNat_natCast])
      have HOM : Hid (OpAt wr b1 (off1 + k * 2) m (rowO cs k)) := Lib.hid (hm ▸ HCO.out)
      clear hcell1 hco hm
      by_cases hh : HoldC rs vals (arO cs k) (rowO cs k)
      · have HH := Lib.hid (Tells.yes (HHC.out.1 hh))
        have HHP := Lib.hid hh
        clear hh
        go_wp2_with fail
        refine (l05Holds _ _ _ _ _ rs m (rowO cs k) vals _ true _ (HT.out.below HBR.out) HOM.out (HV.out.below HBR.out) hmr hl4 HPL.out HH.out).mono ?_
        rintro e w2 ⟨rfl, hb2⟩
        have HB2 := Lib.hid (HBR.out.trans (hb2.mono HBR.out.size))
        clear hb2
        go_wp2
        go_roundw
        case rel =>
          refine ⟨k + 1, by omega, by go_num, fun j hj => ?_, HB2.out⟩
          by_cases hjk : j = k
          · subst hjk; exact HHP.out
          · exact HAL.out j (by omega)
        case measure => simp [intOf]; omega
      · have HH := Lib.hid (Tells.no fun h => hh (HHC.out.2 h))
        have HF := Lib.hid (HX.out.num hlt HAL.out hh)
        clear hh
        go_wp2_with fail
        refine (l05Holds _ _ _ _ _ rs m (rowO cs k) vals _ false _ (HT.out.below HBR.out) HOM.out (HV.out.below HBR.out) hmr hl4 HPL.out HH.out).mono ?_
        rintro e w2 ⟨rfl, hb2⟩
        have HB2 := Lib.hid (HBR.out.trans (hb2.mono HBR.out.size))
        clear hb2
        go_wp2
        go_ret
        exact ⟨ret_int HF.out, HB2.out⟩
    · obtain rfl : k = cs.length := by omega
      have HF := Lib.hid (HX.out.none HAL.out)
      go_wp2
      go_ret
      exact ⟨ret_int HF.out, HBR.out⟩

set_option maxHeartbeats 400000 in
set_option maxRecDepth 100000 in
theorem specFirstFailing (sz : Int) (a1 : Option Addr) (n1 c1 : Nat) (rs : List (Int × List (List Int))) (va : Int) (a2 : Option Addr) (n2 c2 : Nat) (cs : List (Int × List Int)) (v3 : Value) (vals : List Int) (v cd : Int) (w : World) (h1 : RelsAt w (.slice a1 n1 c1) rs) (h2 : OpsAt w (.slice a2 n2 c2) cs) (h3 : RowAt w v3 vals) (hi : FirstFailingIs sz rs va cs vals v cd) :
    Calls Try.prog 38 #[.agg #[.int .i64 sz, .slice a1 n1 c1], .agg #[.int .i64 va, .slice a2 n2 c2], v3] w fun e w' => e = .returned (.tuple #[.int .i64 v, .int .i64 cd]) ∧ Below w.heap.size w w' := by
  have hbw := (Below.refl w.heap.size w).alloc (Nat.le_refl _) (.cells #[.int .i64 sz, .slice a1 n1 c1] 33)
  have hbw2 := hbw.alloc (by simp) (.cells #[.int .i64 va, .slice a2 n2 c2] 37)
  have H1 := Lib.hid ((TplAt.new w sz a1 n1 c1 rs 33 h1).below ((Below.refl _ _).alloc (Nat.le_refl _) (.cells #[.int .i64 va, .slice a2 n2 c2] 37)))
  have H2' := Lib.hid (InstAt.new (w.alloc (.cells #[.int .i64 sz, .slice a1 n1 c1] 33)) va a2 n2 c2 cs 37 (h2.below hbw))
  have H2 : Hid (InstAt ((w.alloc (.cells #[.int .i64 sz, .slice a1 n1 c1] 33)).alloc (.cells #[.int .i64 va, .slice a2 n2 c2] 37)) (w.heap.size + 1) 0 va cs) := Lib.hid (by have := H2'.out; simpa using this)
  have H3 := Lib.hid (h3.below hbw2)
  have HW := Lib.hid hbw2
  clear h1 h2 h3 hbw hbw2 H2'
  rcases hi with ⟨h1, h2, hx, rfl⟩ | ⟨h1, h2, rfl, rfl⟩ | ⟨h1, rfl, rfl⟩
  · have HOK := Lib.hid h1
    have HTU := Lib.hid h2
    have HX := Lib.hid hx
    clear h1 h2 hx
    go_enter Try.func38, Try.ntmps38
    go_wp2_with fail
    refine (l05Given _ _ _ rs _ _ _ cs _ vals 0 _ H1.out H2.out H3.out (.inl ⟨HOK.out, HTU.out, rfl⟩)).mono ?_
    rintro e w2 ⟨rfl, hq⟩
    have HQ := Lib.hid (hq : QW _ w2)
    clear hq
    go_wp2_with fail
    refine (l05Failing _ _ _ rs _ _ _ cs _ vals v _ (H1.out.below HQ.out.bel) (H2.out.below HQ.out.bel) (H3.out.below HQ.out.bel) HOK.out HTU.out HX.out).mono ?_
    rintro e w3 ⟨rfl, hb3⟩
    have HE := Lib.hid (HW.out.trans ((HQ.out.bel.trans (hb3.mono HQ.out.bel.size)).mono HW.out.size))
    clear hb3
    go_wp2
    go_ret2
    exact ⟨rfl, HE.out⟩
  · have HOK := Lib.hid h1
    have HTU := Lib.hid h2
    clear h1 h2
    go_enter Try.func38, Try.ntmps38
    go_wp2_with fail
    refine (l05Given _ _ _ rs _ _ _ cs _ vals 2 _ H1.out H2.out H3.out (.inr (.inl ⟨HOK.out, HTU.out, rfl⟩))).mono ?_
    rintro e w2 ⟨rfl, hq⟩
    have HQ := Lib.hid (hq : QW _ w2)
    clear hq
    go_wp2
    go_ret2
    exact ⟨rfl, HW.out.trans (HQ.out.below _)⟩
  · have HOK := Lib.hid h1
    clear h1
    go_enter Try.func38, Try.ntmps38
    go_wp2_with fail
    refine (l05Given _ _ _ rs _ _ _ cs _ vals 1 _ H1.out H2.out H3.out (.inr (.inr ⟨HOK.out, rfl⟩))).mono ?_
    rintro e w2 ⟨rfl, hq⟩
    have HQ := Lib.hid (hq : QW _ w2)
    clear hq
    go_wp2
    go_ret2
    exact ⟨rfl, HW.out.trans (HQ.out.below _)⟩

set_option maxHeartbeats 400000 in
set_option maxRecDepth 100000 in
theorem specIsSolution (sz : Int) (a1 : Option Addr) (n1 c1 : Nat) (rs : List (Int × List (List Int))) (va : Int) (a2 : Option Addr) (n2 c2 : Nat) (cs : List (Int × List Int)) (v3 : Value) (vals : List Int) (b : Bool) (cd : Int) (w : World) (h1 : RelsAt w (.slice a1 n1 c1) rs) (h2 : OpsAt w (.slice a2 n2 c2) cs) (h3 : RowAt w v3 vals) (hi : IsSolutionIs sz rs va cs vals b cd) :
    Calls Try.prog 42 #[.agg #[.int .i64 sz, .slice a1 n1 c1], .agg #[.int .i64 va, .slice a2 n2 c2], v3] w fun e w' => e = .returned (.tuple #[.bool b, .int .i64 cd]) ∧ Below w.heap.size w w' := by
  have hbw := (Below.refl w.heap.size w).alloc (Nat.le_refl _) (.cells #[.int .i64 sz, .slice a1 n1 c1] 33)
  have hbw2 := hbw.alloc (by simp) (.cells #[.int .i64 va, .slice a2 n2 c2] 37)
  have H1 := Lib.hid ((TplAt.new w sz a1 n1 c1 rs 33 h1).below ((Below.refl _ _).alloc (Nat.le_refl _) (.cells #[.int .i64 va, .slice a2 n2 c2] 37)))
  have H2' := Lib.hid (InstAt.new (w.alloc (.cells #[.int .i64 sz, .slice a1 n1 c1] 33)) va a2 n2 c2 cs 37 (h2.below hbw))
  have H2 : Hid (InstAt ((w.alloc (.cells #[.int .i64 sz, .slice a1 n1 c1] 33)).alloc (.cells #[.int .i64 va, .slice a2 n2 c2] 37)) (w.heap.size + 1) 0 va cs) := Lib.hid (by have := H2'.out; simpa using this)
  have H3 := Lib.hid (h3.below hbw2)
  have HW := Lib.hid hbw2
  clear h1 h2 h3 hbw hbw2 H2'
  obtain ⟨v, hi, hbv⟩ := hi
  have HBV := Lib.hid hbv
  clear hbv
  rcases hi with ⟨h1, h2, hx, rfl⟩ | ⟨h1, h2, rfl, rfl⟩ | ⟨h1, rfl, rfl⟩
  · have HOK := Lib.hid h1
    have HTU := Lib.hid h2
    have HX := Lib.hid hx
    have HBB : Hid (decide (v < 0) = b) := Lib.hid (by
      rw [HBV.out]
      rcases hx with ⟨k, rfl, _⟩ | ⟨rfl, _⟩
      · have e1 : ((k : Int) == -1) = false := beq_eq_false_iff_ne.2 (by omega)
        rw [e1]; simp
      · rfl)
    clear h1 h2 hx
    go_enter Try.func42, Try.ntmps42
    go_wp2_with fail
    refine (l05Given _ _ _ rs _ _ _ cs _ vals 0 _ H1.out H2.out H3.out (.inl ⟨HOK.out, HTU.out, rfl⟩)).mono ?_
    rintro e w2 ⟨rfl, hq⟩
    have HQ := Lib.hid (hq : QW _ w2)
    clear hq
    go_wp2_with fail
    refine (l05Failing _ _ _ rs _ _ _ cs _ vals v _ (H1.out.below HQ.out.bel) (H2.out.below HQ.out.bel) (H3.out.below HQ.out.bel) HOK.out HTU.out HX.out).mono ?_
    rintro e w3 ⟨rfl, hb3⟩
    have HE := Lib.hid (HW.out.trans ((HQ.out.bel.trans (hb3.mono HQ.out.bel.size)).mono HW.out.size))
    clear hb3
    go_wp2
    go_ret2
    exact ⟨(by have hb := HBB.out; subst hb; rfl), HE.out⟩
  · have HOK := Lib.hid h1
    have HTU := Lib.hid h2
    have HBB : Hid (b = false) := Lib.hid HBV.out
    clear h1 h2
    go_enter Try.func42, Try.ntmps42
    go_wp2_with fail
    refine (l05Given _ _ _ rs _ _ _ cs _ vals 2 _ H1.out H2.out H3.out (.inr (.inl ⟨HOK.out, HTU.out, rfl⟩))).mono ?_
    rintro e w2 ⟨rfl, hq⟩
    have HQ := Lib.hid (hq : QW _ w2)
    clear hq
    go_wp2
    go_ret2
    exact ⟨(by have hb := HBB.out; subst hb; rfl), HW.out.trans (HQ.out.below _)⟩
  · have HOK := Lib.hid h1
    have HBB : Hid (b = false) := Lib.hid HBV.out
    clear h1
    go_enter Try.func42, Try.ntmps42
    go_wp2_with fail
    refine (l05Given _ _ _ rs _ _ _ cs _ vals 1 _ H1.out H2.out H3.out (.inr (.inr ⟨HOK.out, rfl⟩))).mono ?_
    rintro e w2 ⟨rfl, hq⟩
    have HQ := Lib.hid (hq : QW _ w2)
    clear hq
    go_wp2
    go_ret2
    exact ⟨(by have hb := HBB.out; subst hb; rfl), HW.out.trans (HQ.out.below _)⟩

end Go.Proofs.Ytiinohkkfjbfhaa
