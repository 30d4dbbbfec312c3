/-
  (*l07Row).scale of the model: a row of its own is multiplied.
-/
import Derived.Test.YtnbgpeoceejolaaLessR
namespace Go.Proofs.Ytnbgpeoceejolaa
open Go.RowKit

/-- A list whose first k numbers have been multiplied. -/
def scaleK (p t : Int) (xs : List Int) (k : Nat) : List Int := (List.range xs.length).map fun i => if i < k then intN xs i * t % p else intN xs i
theorem scaleK_len (p t : Int) (xs : List Int) (k : Nat) : (scaleK p t xs k).length = xs.length := by simp [scaleK]
theorem scaleK_at (p t : Int) (xs : List Int) (k i : Nat) (h : i < xs.length) : intN (scaleK p t xs k) i = if i < k then intN xs i * t % p else intN xs i := by
  rw [intN_at _ _ (by rw [scaleK_len]; exact h)]
  simp [scaleK]
theorem scaleK_zero (p t : Int) (xs : List Int) : scaleK p t xs 0 = xs := by
  apply list_ext_intN (scaleK_len _ _ _ _)
  intro i hi
  rw [scaleK_len] at hi
  rw [scaleK_at _ _ _ _ _ hi, if_neg (by omega)]
theorem scaleK_all (p t : Int) (xs : List Int) : scaleK p t xs xs.length = rowScale p t xs := by
  apply list_ext_intN
  · rw [scaleK_len, rowScale_len]
  · intro i hi
    rw [scaleK_len] at hi
    rw [scaleK_at _ _ _ _ _ hi, if_pos hi, rowScale_at hi]
theorem scaleK_set (p t : Int) (xs : List Int) (k : Nat) : (scaleK p t xs k).set k (intN xs k * t % p) = scaleK p t xs (k + 1) := by
  apply List.ext_getElem
  · simp [scaleK]
  · intro i h1 h2
    rw [List.getElem_set]
    by_cases hik : k = i
    · subst hik
      simp [scaleK]
    · rw [if_neg hik]
      have e : i < k + 1 ↔ i < k := by omega
      simp [scaleK, e]

set_option linter.unusedSimpArgs false in
set_option maxHeartbeats 4000000 in
set_option maxRecDepth 100000 in
theorem scaleC (rb ro B : Nat) (p t : Int) (vl : Value) (xs : List Int) (r : Int) (vb : Value) (bs : List Int) (w : World) (h : RowSt w rb ro B vl xs r vb bs)
    (hp : PrimeP p) (ht : 0 ≤ t ∧ t ≤ 2) (hxl : Low3 xs) (hbl : Low3 bs) (hr : 0 ≤ r ∧ r ≤ 2) (hB : B ≤ rb) (hn1 : xs.length ≤ 1000) (hn2 : bs.length ≤ 1000) :
    Calls Try.prog 83 #[.pointer (some ⟨rb, ro, none⟩), .int .i64 t, .int .i64 p] w fun e w' => e = .returned (.tuple #[]) ∧ RowSt w' rb ro B vl (rowScale p t xs) (r * t % p) vb (rowScale p t bs) ∧ Below B w w' ∧ RowK rb ro vl.ownBlock vb.ownBlock w w' := by
  obtain ⟨la, lc, rfl⟩ : ∃ la lc, vl = .slice la xs.length lc := by obtain ⟨a, c, he, _⟩ := h.ownL.rowAt; exact ⟨a, c, he⟩
  obtain ⟨ba, bc, rfl⟩ : ∃ ba bc, vb = .slice ba bs.length bc := by obtain ⟨a, c, he, _⟩ := h.ownB.rowAt; exact ⟨a, c, he⟩
  have S0 := Lib.hid h
  have HT := Lib.hid ht
  have HXL := Lib.hid hxl
  have HXB := Lib.hid hbl
  have hp3 : 2 ≤ p ∧ p ≤ 3 := by rcases hp with rfl | rfl <;> omega
  have hp0 : ¬ p = 0 := by omega
  have ht0 := ht.1
  have ht1 := ht.2
  clear h hxl hbl hp ht
  go_enter Try.func83, Try.ntmps83
  go_wp2
  go_loopw [6] (fun i wr => ∃ k : Nat, k ≤ xs.length ∧ i = .int .i64 k ∧ RowSt wr rb ro B (.slice la xs.length lc) (scaleK p t xs k) r (.slice ba bs.length bc) bs ∧ Below B w wr ∧ RowK rb ro (Value.slice la xs.length lc).ownBlock (Value.slice ba bs.length bc).ownBlock w wr) (fun i _ => xs.length - (intOf i).toNat)
  case atStart => exact ⟨0, Nat.zero_le _, rfl, by rw [scaleK_zero]; exact S0.out, Below.refl _ _, RowK.refl _ _ _ _ _⟩
  case round =>
    obtain ⟨k, hk, rfl, hst, hbl, hrs⟩ := hrel
    have HST := Lib.hid hst
    have HBL := Lib.hid hbl
    have HRS := Lib.hid hrs
    have hlf := hst.left
    clear hst hbl hrs
    by_cases hlt : k < xs.length
    · obtain ⟨g, rfl, hBg⟩ : ∃ g, la = some ⟨g, 0, none⟩ ∧ B ≤ g := by
        rcases HST.out.ownL.rowIn with ⟨_, h0⟩ | ⟨g, c', hv, hB, _, _, _⟩
        · have := congrArg List.length h0
          simp only [scaleK_len, List.length_nil] at this
          omega
        · simp only [Value.slice.injEq] at hv
          exact ⟨g, hv.1, hB⟩
      have HBG := Lib.hid hBg
      have hfr : wr.frozen? ⟨g, k, none⟩ = false := HST.out.ownL.free k
      have hx : wr.cell? ⟨g, k, none⟩ = some (.int .i64 (intN xs k)) := by
        have h := HST.out.ownL.cell_of k (by rw [scaleK_len]; exact hlt)
        rwa [scaleK_at _ _ _ _ _ hlt, if_neg (by omega)] at h
      have hxb := HXL.out k
      obtain ⟨x, hxe⟩ : ∃ x, intN xs k = x := ⟨_, rfl⟩
      rw [hxe] at hx hxb
      have hmb := prodT (t := x) (y := t) ⟨hxb.1, by omega⟩ HT.out
      obtain ⟨z, hz⟩ : ∃ z, x * t % p = z := ⟨_, rfl⟩
      have HZE : Hid (intN xs k * t % p = z) := Lib.hid (by rw [hxe, hz])
      have hw1 : IntKind.i64.wrap (x * t) = x * t := IntWalk.i64_in _ (by omega)
      have hm1 : Int.tmod (x * t) p = z := by rw [Int.tmod_eq_emod_of_nonneg hmb.1]; exact hz
      have hz3 : 0 ≤ z ∧ z < p := by rw [← hz]; exact ⟨Int.emod_nonneg _ (by omega), Int.emod_lt_of_pos _ (by omega)⟩
      have hw2 : IntKind.i64.wrap z = z := IntWalk.i64_in _ (by omega)
      have hlt' : (k : Int) < (xs.length : Int) := by omega
      clear hxb hxe hmb hz hBg
      have d0 := hlf
      have d1 := hx
      clear hlf hx
      go_wp2
      refine wp_region_noPanic ?_
      refine wp_region_late (S := (fun w' => w'.cell? ⟨rb, ro, none⟩ = some (.slice (some ⟨g, 0, none⟩) xs.length lc) ∧ w'.cell? ⟨g, k, none⟩ = some (.int .i64 x))) [17] (by kernel_rfl) ?_ (fun hHeld => ?_)
      · exact ⟨d0, d1⟩
      refine wpAnyL_free (i := 0) (v := ?_) (some 17) rfl rfl (by kernel_rfl) (by kernel_rfl) (by kernel_rfl) (by decide) (fun _ _ _ h => h) (Or.inl ⟨by rfl, ?_⟩) (fun h0 => by assumption) ?_
      rotate_left
      · intro wS
        go_simp
        try with_reducible rfl
      try simp only [Act.put, List.setIfInBounds_toArray, List.set_cons_zero, List.set_cons_succ]
      refine wpAnyL_free (i := 1) (v := ?_) (some 18) rfl rfl (by kernel_rfl) (by kernel_rfl) (by kernel_rfl) (by decide) (fun _ _ _ h => h) (Or.inl ⟨by rfl, ?_⟩) (fun h0 => by assumption) ?_
      rotate_left
      · intro wS
        go_simp
        try with_reducible rfl
      try simp only [Act.put, List.setIfInBounds_toArray, List.set_cons_zero, List.set_cons_succ]
      refine wpAnyL_free (i := 2) (v := ?_) (some 19) rfl rfl (by kernel_rfl) (by kernel_rfl) (by kernel_rfl) (by decide) (fun _ _ _ h => h) (Or.inl ⟨by rfl, ?_⟩) (fun h0 => by assumption) ?_
      rotate_left
      · intro wS
        go_simp
        try with_reducible rfl
      try simp only [Act.put, List.setIfInBounds_toArray, List.set_cons_zero, List.set_cons_succ]
      refine wpAnyL_take (i := 3) (v := ?_) (some 20) rfl rfl (by kernel_rfl) (by kernel_rfl) (by kernel_rfl) (by kernel_rfl) (by kernel_rfl) (fun _ _ _ h => h) (Or.inl ⟨by rfl, ?_⟩) (by assumption) ?_
      rotate_left
      · intro wS hSw
        try dsimp only at hSw
        go_simp
        try with_reducible rfl
      try simp only [Act.put, List.setIfInBounds_toArray, List.set_cons_zero, List.set_cons_succ]
      refine wpAnyL_free (i := 4) (v := ?_) (some 21) rfl rfl (by kernel_rfl) (by kernel_rfl) (by kernel_rfl) (by decide) (fun _ _ _ h => h) (Or.inl ⟨by rfl, ?_⟩) (fun h0 => by assumption) ?_
      rotate_left
      · intro wS
        go_simp
        try with_reducible rfl
      try simp only [Act.put, List.setIfInBounds_toArray, List.set_cons_zero, List.set_cons_succ]
      refine wpAnyL_free (i := 5) (v := ?_) (some 22) rfl rfl (by kernel_rfl) (by kernel_rfl) (by kernel_rfl) (by decide) (fun _ _ _ h => h) (Or.inl ⟨by rfl, ?_⟩) (fun h0 => by assumption) ?_
      rotate_left
      · intro wS
        go_simp
        try with_reducible rfl
      try simp only [Act.put, List.setIfInBounds_toArray, List.set_cons_zero, List.set_cons_succ]
      refine wpAnyL_free (i := 6) (v := ?_) (some 23) rfl rfl (by kernel_rfl) (by kernel_rfl) (by kernel_rfl) (by decide) (fun _ _ _ h => h) (Or.inl ⟨by rfl, ?_⟩) (fun h0 => by assumption) ?_
      rotate_left
      · intro wS
        go_simp
        try with_reducible rfl
      try simp only [Act.put, List.setIfInBounds_toArray, List.set_cons_zero, List.set_cons_succ]
      refine wpAnyL_free (i := 7) (v := ?_) (some 24) rfl rfl (by kernel_rfl) (by kernel_rfl) (by kernel_rfl) (by decide) (fun _ _ _ h => h) (Or.inl ⟨by rfl, ?_⟩) (fun h0 => by assumption) ?_
      rotate_left
      · intro wS
        go_simp
        try with_reducible rfl
      try simp only [Act.put, List.setIfInBounds_toArray, List.set_cons_zero, List.set_cons_succ]
      refine wpAnyL_take (i := 8) (v := ?_) (some 25) rfl rfl (by kernel_rfl) (by kernel_rfl) (by kernel_rfl) (by kernel_rfl) (by kernel_rfl) (fun _ _ _ h => h) (Or.inl ⟨by rfl, ?_⟩) (by assumption) ?_
      rotate_left
      · intro wS hSw
        try dsimp only at hSw
        go_simp
        try with_reducible rfl
      try simp only [Act.put, List.setIfInBounds_toArray, List.set_cons_zero, List.set_cons_succ]
      refine wpAnyL_free (i := 9) (v := ?_) (some 26) rfl rfl (by kernel_rfl) (by kernel_rfl) (by kernel_rfl) (by decide) (fun _ _ _ h => h) (Or.inl ⟨by rfl, ?_⟩) (fun h0 => by assumption) ?_
      rotate_left
      · intro wS
        go_simp
        try with_reducible rfl
      try simp only [Act.put, List.setIfInBounds_toArray, List.set_cons_zero, List.set_cons_succ]
      refine wpAnyL_free (i := 10) (v := ?_) (some 27) rfl rfl (by kernel_rfl) (by kernel_rfl) (by kernel_rfl) (by decide) (fun _ _ _ h => h) (Or.inl ⟨by rfl, ?_⟩) (fun h0 => by assumption) ?_
      rotate_left
      · intro wS
        go_simp
        try with_reducible rfl
      try simp only [Act.put, List.setIfInBounds_toArray, List.set_cons_zero, List.set_cons_succ]
      refine wpAnyL_take (i := 11) (v := ?_) (some 28) rfl rfl (by kernel_rfl) (by kernel_rfl) (by kernel_rfl) (by kernel_rfl) (by kernel_rfl) (fun _ _ _ h => h) (Or.inl ⟨by rfl, ?_⟩) (by assumption) ?_
      rotate_left
      · intro wS hSw
        try dsimp only at hSw
        go_simp
        try with_reducible rfl
      try simp only [Act.put, List.setIfInBounds_toArray, List.set_cons_zero, List.set_cons_succ]
      refine wpAnyL_free (i := 12) (v := ?_) (some 29) rfl rfl (by kernel_rfl) (by kernel_rfl) (by kernel_rfl) (by decide) (fun _ _ _ h => h) (Or.inl ⟨by rfl, ?_⟩) (fun h0 => by assumption) ?_
      rotate_left
      · intro wS
        go_simp
        try with_reducible rfl
      try simp only [Act.put, List.setIfInBounds_toArray, List.set_cons_zero, List.set_cons_succ]
      refine wpAnyL_free (i := 13) (v := ?_) (some 30) rfl rfl (by kernel_rfl) (by kernel_rfl) (by kernel_rfl) (by decide) (fun _ _ _ h => h) (Or.inl ⟨by rfl, ?_⟩) (fun h0 => by assumption) ?_
      rotate_left
      · intro wS
        go_simp
        try with_reducible rfl
      try simp only [Act.put, List.setIfInBounds_toArray, List.set_cons_zero, List.set_cons_succ]
      refine wpAnyL_free (i := 14) (v := ?_) (some 31) rfl rfl (by kernel_rfl) (by kernel_rfl) (by kernel_rfl) (by decide) (fun _ _ _ h => h) (Or.inl ⟨by rfl, ?_⟩) (fun h0 => by assumption) ?_
      rotate_left
      · intro wS
        go_simp
        try with_reducible rfl
      try simp only [Act.put, List.setIfInBounds_toArray, List.set_cons_zero, List.set_cons_succ]
      refine wpAnyL_free (i := 15) (v := ?_) (some 32) rfl rfl (by kernel_rfl) (by kernel_rfl) (by kernel_rfl) (by decide) (fun _ _ _ h => h) (Or.inl ⟨by rfl, ?_⟩) (fun h0 => by assumption) ?_
      rotate_left
      · intro wS
        go_simp
        try with_reducible rfl
      try simp only [Act.put, List.setIfInBounds_toArray, List.set_cons_zero, List.set_cons_succ]
      refine wpAnyL_free (i := 16) (v := ?_) (some 33) rfl rfl (by kernel_rfl) (by kernel_rfl) (by kernel_rfl) (by decide) (fun _ _ _ h => h) (Or.inl ⟨by rfl, ?_⟩) (fun h0 => by assumption) ?_
      rotate_left
      · intro wS
        go_simp
        try with_reducible rfl
      try simp only [Act.put, List.setIfInBounds_toArray, List.set_cons_zero, List.set_cons_succ]
      refine wpAnyL_ready (rs := [17]) (by kernel_rfl) (by simp) ?_
      refine AllReadyL.last rfl (by kernel_rfl) (fun K hK => ?_) AllReadyL.nil
      go_simp
      refine hK.out _ _ ?_
      clear hK K
      try simp only [Act.put, List.setIfInBounds_toArray, List.set_cons_zero, List.set_cons_succ]
      refine wpAnyL_done (by kernel_rfl) ?_ _
      refine NoPanic.normal ?_
      clear hHeld d0 d1
      have HST2 := Lib.hid (HST.out.setL k (intN xs k * t % p))
      go_wp2
      go_roundw
      case rel => exact ⟨k + 1, by omega, by go_num, by have h := HST2.out; rw [scaleK_set, HZE.out] at h; exact h.drewN 1, (HBL.out.setCell (by show B ≤ g; exact HBG.out) _).drew, (HRS.out.setL _ _ (by exact .inl rfl) (by intro e; exact HST.out.neL (by have e' : g = rb := e; simp [Value.ownBlock, e']))).drewN 1⟩
      case measure => simp [intOf]; omega
    · obtain rfl : k = xs.length := by omega
      have d0 := HST.out.right
      have hfr := HST.out.free
      have hmb := prodT (t := r) (y := t) ⟨hr.1, by omega⟩ HT.out
      obtain ⟨z, hz⟩ : ∃ z, r * t % p = z := ⟨_, rfl⟩
      have HZR := Lib.hid hz
      have hw1 : IntKind.i64.wrap (r * t) = r * t := IntWalk.i64_in _ (by omega)
      have hm1 : Int.tmod (r * t) p = z := by rw [Int.tmod_eq_emod_of_nonneg hmb.1]; exact hz
      have hz3 : 0 ≤ z ∧ z < p := by rw [← hz]; exact ⟨Int.emod_nonneg _ (by omega), Int.emod_lt_of_pos _ (by omega)⟩
      have hw2 : IntKind.i64.wrap z = z := IntWalk.i64_in _ (by omega)
      have HST2 := Lib.hid (HST.out.setR z)
      clear hmb hz
      go_wp2_with fail
      obtain ⟨w9, hw9⟩ : ∃ w9, wr.setCell ⟨rb, ro + 1, none⟩ (.int .i64 z) = w9 := ⟨_, rfl⟩
      have S1 : Hid (RowSt w9 rb ro B (.slice la xs.length lc) (rowScale p t xs) (r * t % p) (.slice ba bs.length bc) bs) := Lib.hid (by rw [← hw9, HZR.out]; have h := HST2.out; rw [scaleK_all] at h; exact h)
      have B1 : Hid (Below B w w9) := Lib.hid (by rw [← hw9]; exact HBL.out.setCell (by show B ≤ rb; exact hB) _)
      have R1 : Hid (RowK rb ro (Value.slice la xs.length lc).ownBlock (Value.slice ba bs.length bc).ownBlock w w9) := Lib.hid (by rw [← hw9]; exact HRS.out.setR _)
      rw [hw9]
      clear hw9 HST HBL HRS HST2 d0 hfr hw1 hm1 hz3 hw2 HZR
      go_loopw [7] (fun i wr => ∃ k : Nat, k ≤ bs.length ∧ i = .int .i64 k ∧ RowSt wr rb ro B (.slice la xs.length lc) (rowScale p t xs) (r * t % p) (.slice ba bs.length bc) (scaleK p t bs k) ∧ Below B w wr ∧ RowK rb ro (Value.slice la xs.length lc).ownBlock (Value.slice ba bs.length bc).ownBlock w wr) (fun i _ => bs.length - (intOf i).toNat)
      case atStart => exact ⟨0, Nat.zero_le _, rfl, by rw [scaleK_zero]; exact S1.out, B1.out, R1.out⟩
      case round =>
        obtain ⟨k, hk, rfl, hst, hbl, hrs⟩ := hrel
        have HST := Lib.hid hst
        have HBL := Lib.hid hbl
        have HRS := Lib.hid hrs
        have hlf := hst.by_
        clear hst hbl hrs
        by_cases hlt : k < bs.length
        · obtain ⟨g, rfl, hBg⟩ : ∃ g, ba = some ⟨g, 0, none⟩ ∧ B ≤ g := by
            rcases HST.out.ownB.rowIn with ⟨_, h0⟩ | ⟨g, c', hv, hB, _, _, _⟩
            · have := congrArg List.length h0
              simp only [scaleK_len, List.length_nil] at this
              omega
            · simp only [Value.slice.injEq] at hv
              exact ⟨g, hv.1, hB⟩
          have HBG := Lib.hid hBg
          have hfr : wr.frozen? ⟨g, k, none⟩ = false := HST.out.ownB.free k
          have hx : wr.cell? ⟨g, k, none⟩ = some (.int .i64 (intN bs k)) := by
            have h := HST.out.ownB.cell_of k (by rw [scaleK_len]; exact hlt)
            rwa [scaleK_at _ _ _ _ _ hlt, if_neg (by omega)] at h
          have hxb := HXB.out k
          obtain ⟨x, hxe⟩ : ∃ x, intN bs k = x := ⟨_, rfl⟩
          rw [hxe] at hx hxb
          have hmb := prodT (t := x) (y := t) ⟨hxb.1, by omega⟩ HT.out
          obtain ⟨z, hz⟩ : ∃ z, x * t % p = z := ⟨_, rfl⟩
          have HZE : Hid (intN bs k * t % p = z) := Lib.hid (by rw [hxe, hz])
          have hw1 : IntKind.i64.wrap (x * t) = x * t := IntWalk.i64_in _ (by omega)
          have hm1 : Int.tmod (x * t) p = z := by rw [Int.tmod_eq_emod_of_nonneg hmb.1]; exact hz
          have hz3 : 0 ≤ z ∧ z < p := by rw [← hz]; exact ⟨Int.emod_nonneg _ (by omega), Int.emod_lt_of_pos _ (by omega)⟩
          have hw2 : IntKind.i64.wrap z = z := IntWalk.i64_in _ (by omega)
          have hlt' : (k : Int) < (bs.length : Int) := by omega
          clear hxb hxe hmb hz hBg
          have d0 := hlf
          have d1 := hx
          clear hlf hx
          go_wp2
          refine wp_region_noPanic ?_
          refine wp_region_late (S := (fun w' => w'.cell? ⟨rb, ro + 2, none⟩ = some (.slice (some ⟨g, 0, none⟩) bs.length bc) ∧ w'.cell? ⟨g, k, none⟩ = some (.int .i64 x))) [17] (by kernel_rfl) ?_ (fun hHeld => ?_)
          · exact ⟨d0, d1⟩
          refine wpAnyL_free (i := 0) (v := ?_) (some 54) rfl rfl (by kernel_rfl) (by kernel_rfl) (by kernel_rfl) (by decide) (fun _ _ _ h => h) (Or.inl ⟨by rfl, ?_⟩) (fun h0 => by assumption) ?_
          rotate_left
          · intro wS
            go_simp
            try with_reducible rfl
          try simp only [Act.put, List.setIfInBounds_toArray, List.set_cons_zero, List.set_cons_succ]
          refine wpAnyL_free (i := 1) (v := ?_) (some 55) rfl rfl (by kernel_rfl) (by kernel_rfl) (by kernel_rfl) (by decide) (fun _ _ _ h => h) (Or.inl ⟨by rfl, ?_⟩) (fun h0 => by assumption) ?_
          rotate_left
          · intro wS
            go_simp
            try with_reducible rfl
          try simp only [Act.put, List.setIfInBounds_toArray, List.set_cons_zero, List.set_cons_succ]
          refine wpAnyL_free (i := 2) (v := ?_) (some 56) rfl rfl (by kernel_rfl) (by kernel_rfl) (by kernel_rfl) (by decide) (fun _ _ _ h => h) (Or.inl ⟨by rfl, ?_⟩) (fun h0 => by assumption) ?_
          rotate_left
          · intro wS
            go_simp
            try with_reducible rfl
          try simp only [Act.put, List.setIfInBounds_toArray, List.set_cons_zero, List.set_cons_succ]
          refine wpAnyL_take (i := 3) (v := ?_) (some 57) rfl rfl (by kernel_rfl) (by kernel_rfl) (by kernel_rfl) (by kernel_rfl) (by kernel_rfl) (fun _ _ _ h => h) (Or.inl ⟨by rfl, ?_⟩) (by assumption) ?_
          rotate_left
          · intro wS hSw
            try dsimp only at hSw
            go_simp
            try with_reducible rfl
          try simp only [Act.put, List.setIfInBounds_toArray, List.set_cons_zero, List.set_cons_succ]
          refine wpAnyL_free (i := 4) (v := ?_) (some 58) rfl rfl (by kernel_rfl) (by kernel_rfl) (by kernel_rfl) (by decide) (fun _ _ _ h => h) (Or.inl ⟨by rfl, ?_⟩) (fun h0 => by assumption) ?_
          rotate_left
          · intro wS
            go_simp
            try with_reducible rfl
          try simp only [Act.put, List.setIfInBounds_toArray, List.set_cons_zero, List.set_cons_succ]
          refine wpAnyL_free (i := 5) (v := ?_) (some 59) rfl rfl (by kernel_rfl) (by kernel_rfl) (by kernel_rfl) (by decide) (fun _ _ _ h => h) (Or.inl ⟨by rfl, ?_⟩) (fun h0 => by assumption) ?_
          rotate_left
          · intro wS
            go_simp
            try with_reducible rfl
          try simp only [Act.put, List.setIfInBounds_toArray, List.set_cons_zero, List.set_cons_succ]
          refine wpAnyL_free (i := 6) (v := ?_) (some 60) rfl rfl (by kernel_rfl) (by kernel_rfl) (by kernel_rfl) (by decide) (fun _ _ _ h => h) (Or.inl ⟨by rfl, ?_⟩) (fun h0 => by assumption) ?_
          rotate_left
          · intro wS
            go_simp
            try with_reducible rfl
          try simp only [Act.put, List.setIfInBounds_toArray, List.set_cons_zero, List.set_cons_succ]
          refine wpAnyL_free (i := 7) (v := ?_) (some 61) rfl rfl (by kernel_rfl) (by kernel_rfl) (by kernel_rfl) (by decide) (fun _ _ _ h => h) (Or.inl ⟨by rfl, ?_⟩) (fun h0 => by assumption) ?_
          rotate_left
          · intro wS
            go_simp
            try with_reducible rfl
          try simp only [Act.put, List.setIfInBounds_toArray, List.set_cons_zero, List.set_cons_succ]
          refine wpAnyL_take (i := 8) (v := ?_) (some 62) rfl rfl (by kernel_rfl) (by kernel_rfl) (by kernel_rfl) (by kernel_rfl) (by kernel_rfl) (fun _ _ _ h => h) (Or.inl ⟨by rfl, ?_⟩) (by assumption) ?_
          rotate_left
          · intro wS hSw
            try dsimp only at hSw
            go_simp
            try with_reducible rfl
          try simp only [Act.put, List.setIfInBounds_toArray, List.set_cons_zero, List.set_cons_succ]
          refine wpAnyL_free (i := 9) (v := ?_) (some 63) rfl rfl (by kernel_rfl) (by kernel_rfl) (by kernel_rfl) (by decide) (fun _ _ _ h => h) (Or.inl ⟨by rfl, ?_⟩) (fun h0 => by assumption) ?_
          rotate_left
          · intro wS
            go_simp
            try with_reducible rfl
          try simp only [Act.put, List.setIfInBounds_toArray, List.set_cons_zero, List.set_cons_succ]
          refine wpAnyL_free (i := 10) (v := ?_) (some 64) rfl rfl (by kernel_rfl) (by kernel_rfl) (by kernel_rfl) (by decide) (fun _ _ _ h => h) (Or.inl ⟨by rfl, ?_⟩) (fun h0 => by assumption) ?_
          rotate_left
          · intro wS
            go_simp
            try with_reducible rfl
          try simp only [Act.put, List.setIfInBounds_toArray, List.set_cons_zero, List.set_cons_succ]
          refine wpAnyL_take (i := 11) (v := ?_) (some 65) rfl rfl (by kernel_rfl) (by kernel_rfl) (by kernel_rfl) (by kernel_rfl) (by kernel_rfl) (fun _ _ _ h => h) (Or.inl ⟨by rfl, ?_⟩) (by assumption) ?_
          rotate_left
          · intro wS hSw
            try dsimp only at hSw
            go_simp
            try with_reducible rfl
          try simp only [Act.put, List.setIfInBounds_toArray, List.set_cons_zero, List.set_cons_succ]
          refine wpAnyL_free (i := 12) (v := ?_) (some 66) rfl rfl (by kernel_rfl) (by kernel_rfl) (by kernel_rfl) (by decide) (fun _ _ _ h => h) (Or.inl ⟨by rfl, ?_⟩) (fun h0 => by assumption) ?_
          rotate_left
          · intro wS
            go_simp
            try with_reducible rfl
          try simp only [Act.put, List.setIfInBounds_toArray, List.set_cons_zero, List.set_cons_succ]
          refine wpAnyL_free (i := 13) (v := ?_) (some 67) rfl rfl (by kernel_rfl) (by kernel_rfl) (by kernel_rfl) (by decide) (fun _ _ _ h => h) (Or.inl ⟨by rfl, ?_⟩) (fun h0 => by assumption) ?_
          rotate_left
          · intro wS
            go_simp
            try with_reducible rfl
          try simp only [Act.put, List.setIfInBounds_toArray, List.set_cons_zero, List.set_cons_succ]
          refine wpAnyL_free (i := 14) (v := ?_) (some 68) rfl rfl (by kernel_rfl) (by kernel_rfl) (by kernel_rfl) (by decide) (fun _ _ _ h => h) (Or.inl ⟨by rfl, ?_⟩) (fun h0 => by assumption) ?_
          rotate_left
          · intro wS
            go_simp
            try with_reducible rfl
          try simp only [Act.put, List.setIfInBounds_toArray, List.set_cons_zero, List.set_cons_succ]
          refine wpAnyL_free (i := 15) (v := ?_) (some 69) rfl rfl (by kernel_rfl) (by kernel_rfl) (by kernel_rfl) (by decide) (fun _ _ _ h => h) (Or.inl ⟨by rfl, ?_⟩) (fun h0 => by assumption) ?_
          rotate_left
          · intro wS
            go_simp
            try with_reducible rfl
          try simp only [Act.put, List.setIfInBounds_toArray, List.set_cons_zero, List.set_cons_succ]
          refine wpAnyL_free (i := 16) (v := ?_) (some 70) rfl rfl (by kernel_rfl) (by kernel_rfl) (by kernel_rfl) (by decide) (fun _ _ _ h => h) (Or.inl ⟨by rfl, ?_⟩) (fun h0 => by assumption) ?_
          rotate_left
          · intro wS
            go_simp
            try with_reducible rfl
          try simp only [Act.put, List.setIfInBounds_toArray, List.set_cons_zero, List.set_cons_succ]
          refine wpAnyL_ready (rs := [17]) (by kernel_rfl) (by simp) ?_
          refine AllReadyL.last rfl (by kernel_rfl) (fun K hK => ?_) AllReadyL.nil
          go_simp
          refine hK.out _ _ ?_
          clear hK K
          try simp only [Act.put, List.setIfInBounds_toArray, List.set_cons_zero, List.set_cons_succ]
          refine wpAnyL_done (by kernel_rfl) ?_ _
          refine NoPanic.normal ?_
          clear hHeld d0 d1
          have HST2 := Lib.hid (HST.out.setB k (intN bs k * t % p))
          go_wp2
          go_roundw
          case rel => exact ⟨k + 1, by omega, by go_num, by have h := HST2.out; rw [scaleK_set, HZE.out] at h; exact h.drewN 1, (HBL.out.setCell (by show B ≤ g; exact HBG.out) _).drew, (HRS.out.setL _ _ (by exact .inr rfl) (by intro e; exact HST.out.neB (by have e' : g = rb := e; simp [Value.ownBlock, e']))).drewN 1⟩
          case measure => simp [intOf]; omega
        · obtain rfl : k = bs.length := by omega
          go_wp2
          go_end0
          exact ⟨rfl, by have h := HST.out; rw [scaleK_all] at h; exact h, HBL.out, HRS.out⟩

end Go.Proofs.Ytnbgpeoceejolaa
