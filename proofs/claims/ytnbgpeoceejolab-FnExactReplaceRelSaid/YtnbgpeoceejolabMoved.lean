/-
  Atoms with other variables: l03Moved of the model, renamed and renamedAll of the program.
-/
import Derived.Test.YtnbgpeoceejolabPairsAtom
import Derived.Test.YtnbgpeoceejolabOpsGrow
import Derived.Test.YtnbgpeoceejolabGMaps
import Derived.Test.YtnbgpeoceejolabReg
import Derived.Deep.AppendLies
namespace Go.Proofs.Ytnbgpeoceejolab
open Go.RowKit

set_option maxHeartbeats 1000000 in
theorem l01MappedE (v1 v2 : Value) (xs to : List Int) (w : World) (h1 : RowAt w v1 xs) (h2 : RowAt w v2 to) (hl : xs.length ≤ 4) (hr : ∀ i, i < xs.length → 0 ≤ intN xs i ∧ intN xs i < to.length) :
    Calls Try.prog 57 #[v1, v2] w (fun e w' => ∃ a n c, e = .returned (.slice a n c) ∧ OwnRow w' w.heap.size (.slice a n c) (mapped to xs) ∧ Below w.heap.size w w') := by
  obtain ⟨i0, hi, hz0, hz1, hz2⟩ := info_parts info_int'
  obtain ⟨a1, c1, rfl, hn1, hc1⟩ := h1
  obtain ⟨a2, c2, rfl, hn2, hc2⟩ := h2
  have HC1 := Lib.hid hc1
  have HC2 := Lib.hid hc2
  have HR := Lib.hid hr
  clear hc1 hc2 hr
  go_enter Try.func57, Try.ntmps57
  go_wp2
  go_loopw [5, 6] (fun v i wr => ∃ (k : Nat) (a : Option Addr) (n c : Nat), k ≤ xs.length ∧ i = .int .i64 k ∧ v = .slice a n c ∧ wr.ownsRow w.heap.size 2 1 (.slice a n c) k ((mapK to xs k).map (Value.int .i64)) ∧ Below w.heap.size w wr) (fun _ i _ => xs.length - (intOf i).toNat)
  case atStart => exact ⟨0, _, _, _, Nat.zero_le _, rfl, rfl, ownRow_lit w w.heap.size [] (Nat.le_refl _) (by simp), (Below.refl _ _).alloc (Nat.le_refl _) _⟩
  case round =>
    obtain ⟨k, a, n, c, hk, rfl, rfl, hown, hbel⟩ := hrel
    by_cases hlt : k < xs.length
    · obtain ⟨b1, off1, ha1, hcell1⟩ := HC1.out (by omega)
      subst ha1
      obtain ⟨g0, g1⟩ := HR.out k hlt
      obtain ⟨b2, off2, ha2, hcell2⟩ := HC2.out (by omega)
      subst ha2
      have hx1 := below_cell hbel (hcell1 k hlt)
      have hx2 := below_cell hbel (hcell2 (intN xs k).toNat (by omega))
      have hlt' : (k : Int) < (xs.length : Int) := by omega
      have HO := Lib.hid hown
      have HW := Lib.hid hbel
      have hc1 := cell_one_new wr (.int .i64 (intN to (intN xs k).toNat)) 2
      have HC1' := Lib.hid hc1
      clear hcell1 hcell2 hown hbel hc1
      go_wp2_with (at_builtin; refine wpList_append_own _ rfl _ _ 45 rfl w.heap.size 2 i0 (.int .i64 0) 1 8 Try.underlying45 hi hz0 hz1 hz2 rfl (by decide) (.slice a n c) k _ rfl (HO.out.alloc _) ⟨wr.heap.size, 0, none⟩ 1 1 [.int .i64 (intN to (intN xs k).toNat)] rfl rfl HC1'.out (by simp [Value.oneCell']) (by unfold maxLen; omega) (by omega) (by have := HW.out.size; simp; omega) ?_; intro v' w3 hown' hgrow _; obtain ⟨g', c', rfl⟩ := ownsRow_succ hown'; have HG3 := Lib.hid hown'; have HR3 := Lib.hid hgrow; clear hown' hgrow)
      go_roundw
      case rel =>
        refine ⟨k + 1, _, _, _, by omega, by go_num, rfl, ?_, ((HW.out.alloc HW.out.size _).grown HR3.out (by have := HW.out.size; simp; omega) (fun q hq => (HO.out.lt q hq).1))⟩
        rw [mapK_succ]; exact HG3.out
      case measure => simp [intOf]; omega
    · obtain rfl : k = xs.length := by omega
      have HE : Hid (OwnRow wr w.heap.size (.slice a n c) (mapped to xs)) := by
        show World.ownsRow _ _ _ _ _ _ _
        rw [mapped_len]
        exact hown
      have HW := Lib.hid hbel
      clear hown hbel
      go_wp2
      go_ret
      exact ⟨_, _, _, rfl, HE.out, HW.out⟩

def movedL (rs : List (Int × List Int)) (to : List Int) : List (Int × List Int) := (List.range rs.length).map fun k => (arO rs k, mapped to (rowO rs k))
def movedK (rs : List (Int × List Int)) (to : List Int) (k : Nat) : List (Int × List Int) := (List.range k).map fun k => (arO rs k, mapped to (rowO rs k))
theorem movedK_len (rs : List (Int × List Int)) (to : List Int) (k : Nat) (_ : k ≤ rs.length) : (movedK rs to k).length = k := by simp [movedK]
theorem movedK_succ (rs : List (Int × List Int)) (to : List Int) (k : Nat) (_ : k < rs.length) : movedK rs to (k + 1) = movedK rs to k ++ [(arO rs k, mapped to (rowO rs k))] := by simp [movedK, List.range_succ]
theorem movedL_len (rs : List (Int × List Int)) (to : List Int) : (movedL rs to).length = rs.length := by simp [movedL]

set_option linter.unusedSimpArgs false in
set_option maxHeartbeats 2000000 in
theorem l03Moved (v1 v2 : Value) (rs : List (Int × List Int)) (to : List Int) (w : World) (h1 : OpsAt w v1 rs) (h2 : RowAt w v2 to) (hl : ∀ k, k < rs.length → (rowO rs k).length ≤ 4) (hr : ∀ k, k < rs.length → ∀ i, i < (rowO rs k).length → 0 ≤ intN (rowO rs k) i ∧ intN (rowO rs k) i < to.length) (hm : rs.length ≤ 1000) :
    Calls Try.prog 29 #[v1, v2] w (MadeOps 83 w (movedL rs to)) := by
  obtain ⟨i0, hi, hz0, hz1, hz2⟩ := info_parts info_Atom
  obtain ⟨a1, c1, rfl, hn1, hc1⟩ := h1
  have HC1 := Lib.hid hc1
  have HT0 := Lib.hid h2
  have HL := Lib.hid hl
  have HRR := Lib.hid hr
  clear hc1 h2 hl hr
  go_enter Try.func29, Try.ntmps29
  go_wp2
  go_loopw [5, 6] (fun v i wr => ∃ (k : Nat) (a : Option Addr) (n c : Nat), k ≤ rs.length ∧ i = .int .i64 k ∧ v = .slice a n c ∧ OwnOps 83 wr w.heap.size wr.heap.size (.slice a n c) (movedK rs to k) ∧ Below w.heap.size w wr) (fun _ i _ => rs.length - (intOf i).toNat)
  case atStart => exact ⟨0, _, _, _, Nat.zero_le _, rfl, rfl, OwnOps.empty _ w, (Below.refl _ _).alloc (Nat.le_refl _) _⟩
  case round =>
    obtain ⟨k, a, n, c, hk, rfl, rfl, hg, hbr⟩ := hrel
    have HG := Lib.hid hg
    have HBR := Lib.hid hbr
    clear hg hbr
    by_cases hlt : k < rs.length
    · obtain ⟨b1, off1, ha1, hcell1⟩ := HC1.out (by omega)
      subst ha1
      obtain ⟨y0, a2, n2, c2, y1, hr0⟩ := hcell1 k hlt
      have HR0 := Lib.hid hr0
      have HTO := Lib.hid HT0.out
      have HRG := Lib.hid (HRR.out k hlt)
      have hl4 := HL.out k hlt
      have hlt' : (k : Int) < (rs.length : Int) := by omega
      have y0 := below_cell HBR.out y0
      have y1 := below_cell HBR.out y1
      clear hcell1 hr0
      go_wp2_with fail
      refine wp_region_noPanic ?_
      refine wp_region_late (S := (fun w' => w'.cell? ⟨b1, off1 + k * 2, none⟩ = some (.int .i64 (arO rs k)) ∧ w'.cell? ⟨b1, off1 + k * 2 + 1, none⟩ = some (.slice a2 n2 c2) ∧ Below w.heap.size w w')) [15] (by kernel_rfl) ?_ (fun hHeld => ?_)
      · exact ⟨y0, y1, HBR.out.trans ((QW.refl wr).drew.below _)⟩
      refine wpAnyL_free (i := 0) (v := ?_) (some 14) rfl rfl (by kernel_rfl) (by kernel_rfl) (by kernel_rfl) (by decide) (fun _ _ _ h => h) (Or.inl ⟨by rfl, ?_⟩) (fun h0 => by assumption) ?_
      rotate_left
      · intro wS
        go_simp
        try with_reducible rfl
      try simp only [Act.put, List.setIfInBounds_toArray, List.set_cons_zero, List.set_cons_succ]
      refine wpAnyL_free (i := 1) (v := ?_) (some 15) rfl rfl (by kernel_rfl) (by kernel_rfl) (by kernel_rfl) (by decide) (fun _ _ _ h => h) (Or.inl ⟨by rfl, ?_⟩) (fun h0 => by assumption) ?_
      rotate_left
      · intro wS
        go_simp
        try with_reducible rfl
      try simp only [Act.put, List.setIfInBounds_toArray, List.set_cons_zero, List.set_cons_succ]
      refine wpAnyL_free (i := 2) (v := ?_) (some 16) rfl rfl (by kernel_rfl) (by kernel_rfl) (by kernel_rfl) (by decide) (fun _ _ _ h => h) (Or.inl ⟨by rfl, ?_⟩) (fun h0 => by assumption) ?_
      rotate_left
      · intro wS
        go_simp
        try with_reducible rfl
      try simp only [Act.put, List.setIfInBounds_toArray, List.set_cons_zero, List.set_cons_succ]
      refine wpAnyL_free (i := 3) (v := ?_) (some 17) rfl rfl (by kernel_rfl) (by kernel_rfl) (by kernel_rfl) (by decide) (fun _ _ _ h => h) (Or.inl ⟨by rfl, ?_⟩) (fun h0 => by assumption) ?_
      rotate_left
      · intro wS
        go_simp
        try with_reducible rfl
      try simp only [Act.put, List.setIfInBounds_toArray, List.set_cons_zero, List.set_cons_succ]
      refine wpAnyL_free (i := 4) (v := ?_) (some 18) rfl rfl (by kernel_rfl) (by kernel_rfl) (by kernel_rfl) (by decide) (fun _ _ _ h => h) (Or.inl ⟨by rfl, ?_⟩) (fun h0 => by assumption) ?_
      rotate_left
      · intro wS
        go_simp
        try with_reducible rfl
      try simp only [Act.put, List.setIfInBounds_toArray, List.set_cons_zero, List.set_cons_succ]
      refine wpAnyL_take (i := 5) (v := ?_) (some 19) rfl rfl (by kernel_rfl) (by kernel_rfl) (by kernel_rfl) (by kernel_rfl) (by kernel_rfl) (fun _ _ _ h => h) (Or.inl ⟨by rfl, ?_⟩) (by assumption) ?_
      rotate_left
      · intro wS hSw
        try dsimp only at hSw
        go_simp
        try with_reducible rfl
      try simp only [Act.put, List.setIfInBounds_toArray, List.set_cons_zero, List.set_cons_succ]
      refine wpAnyL_free (i := 6) (v := ?_) (some 20) rfl rfl (by kernel_rfl) (by kernel_rfl) (by kernel_rfl) (by decide) (fun _ _ _ h => h) (Or.inl ⟨by rfl, ?_⟩) (fun h0 => by assumption) ?_
      rotate_left
      · intro wS
        go_simp
        try with_reducible rfl
      try simp only [Act.put, List.setIfInBounds_toArray, List.set_cons_zero, List.set_cons_succ]
      refine wpAnyL_free (i := 7) (v := ?_) (some 21) rfl rfl (by kernel_rfl) (by kernel_rfl) (by kernel_rfl) (by decide) (fun _ _ _ h => h) (Or.inl ⟨by rfl, ?_⟩) (fun h0 => by assumption) ?_
      rotate_left
      · intro wS
        go_simp
        try with_reducible rfl
      try simp only [Act.put, List.setIfInBounds_toArray, List.set_cons_zero, List.set_cons_succ]
      refine wpAnyL_free (i := 8) (v := ?_) (some 22) rfl rfl (by kernel_rfl) (by kernel_rfl) (by kernel_rfl) (by decide) (fun _ _ _ h => h) (Or.inl ⟨by rfl, ?_⟩) (fun h0 => by assumption) ?_
      rotate_left
      · intro wS
        go_simp
        try with_reducible rfl
      try simp only [Act.put, List.setIfInBounds_toArray, List.set_cons_zero, List.set_cons_succ]
      refine wpAnyL_free (i := 9) (v := ?_) (some 23) rfl rfl (by kernel_rfl) (by kernel_rfl) (by kernel_rfl) (by decide) (fun _ _ _ h => h) (Or.inl ⟨by rfl, ?_⟩) (fun h0 => by assumption) ?_
      rotate_left
      · intro wS
        go_simp
        try with_reducible rfl
      try simp only [Act.put, List.setIfInBounds_toArray, List.set_cons_zero, List.set_cons_succ]
      refine wpAnyL_take (i := 10) (v := ?_) (some 24) rfl rfl (by kernel_rfl) (by kernel_rfl) (by kernel_rfl) (by kernel_rfl) (by kernel_rfl) (fun _ _ _ h => h) (Or.inl ⟨by rfl, ?_⟩) (by assumption) ?_
      rotate_left
      · intro wS hSw
        try dsimp only at hSw
        go_simp
        try with_reducible rfl
      try simp only [Act.put, List.setIfInBounds_toArray, List.set_cons_zero, List.set_cons_succ]
      refine wpAnyL_free (i := 11) (v := ?_) (some 25) rfl rfl (by kernel_rfl) (by kernel_rfl) (by kernel_rfl) (by decide) (fun _ _ _ h => h) (Or.inl ⟨by rfl, ?_⟩) (fun h0 => by assumption) ?_
      rotate_left
      · intro wS
        go_simp
        try with_reducible rfl
      try simp only [Act.put, List.setIfInBounds_toArray, List.set_cons_zero, List.set_cons_succ]
      refine wpAnyL_ready (rs := [12]) (by kernel_rfl) (by simp) ?_
      refine AllReadyL.cons rfl (fun K hK => ?_) AllReadyL.nil
      have HBc := Lib.hid (hHeld.2.2 : Below w.heap.size w _)
      go_simp; go_at_call 57; refine (l01MappedE _ _ (rowO rs k) to _ (HR0.out.below HBc.out) (HTO.out.below HBc.out) hl4 HRG.out).mono ?_; rintro e w3 ⟨a3, n3, c3, rfl, ho3, hb3⟩
      have HO3 := Lib.hid ho3
      have HB3 := Lib.hid ((((QW.refl wr).drew.below wr.heap.size)).trans hb3)
      refine hK.out _ _ ?_ (fun hHeld => ?_)
      · exact ⟨below_cell hb3 hHeld.1, below_cell hb3 hHeld.2.1, hHeld.2.2.trans (hb3.mono hHeld.2.2.size)⟩
      clear hK K
      try simp only [Act.put, List.setIfInBounds_toArray, List.set_cons_zero, List.set_cons_succ]
      refine wpAnyL_free (i := 13) (v := ?_) (some 27) rfl rfl (by kernel_rfl) (by kernel_rfl) (by kernel_rfl) (by decide) (fun _ _ _ h => h) (Or.inl ⟨by rfl, ?_⟩) (fun h0 => by assumption) ?_
      rotate_left
      · intro wS
        go_simp
        try with_reducible rfl
      try simp only [Act.put, List.setIfInBounds_toArray, List.set_cons_zero, List.set_cons_succ]
      refine wpAnyL_ready (rs := [14]) (by kernel_rfl) (by simp) ?_
      refine AllReadyL.cons rfl (fun K hK => ?_) AllReadyL.nil
      go_simp
      refine hK.out _ _ ?_ (fun hHeld => ?_)
      · exact ⟨below_cell ((Below.refl _ _).alloc (Nat.le_refl _) _) hHeld.1, below_cell ((Below.refl _ _).alloc (Nat.le_refl _) _) hHeld.2.1, hHeld.2.2.trans (((Below.refl _ _).alloc (Nat.le_refl _) _).mono hHeld.2.2.size)⟩
      clear hK K
      try simp only [Act.put, List.setIfInBounds_toArray, List.set_cons_zero, List.set_cons_succ]
      refine wpAnyL_ready (rs := [15]) (by kernel_rfl) (by simp) ?_
      refine AllReadyL.last rfl (by kernel_rfl) (fun K hK => ?_) AllReadyL.nil
      obtain ⟨V, hV⟩ := HG.out
      have hV' := hV
      obtain ⟨xs, hxo, hxx⟩ := hV'.outer
      have HV := Lib.hid hV
      have HX := Lib.hid hxx
      have hxl := ownsRow_len hxo
      have HXL := Lib.hid hxl
      have hmk := movedK_len rs to k (by omega)
      have HMK := Lib.hid hmk
      have hal := (Below.refl w3.heap.size w3).alloc (Nat.le_refl _) (.cells #[.int .i64 (arO rs k), .slice a3 n3 c3] 83)
      have HAL := Lib.hid hal
      clear hV hV' hxx hxl hmk hal
      refine step_append_lies _ (by rfl) _ _ 30 (by rfl) w.heap.size 83 i0 (.agg #[.int .i64 0, .slice none 0 0]) 2 32 Try.underlying30 hi hz0 hz1 hz2 (by rfl) (by decide) (.slice a n c) (movedK rs to k).length _ (by rfl) ((ownsRow_below hxo (HB3.out)).alloc _) _ 1 1 [.int .i64 (arO rs k), .slice a3 n3 c3] (by rfl) (by rfl) (fun j u hu => World.news_of_block (heap_alloc_new w3 _) j u (by simpa using hu)) (by simp [Value.oneCell']) (by omega) (by rw [HMK.out]; unfold maxLen; omega) (by rw [HMK.out]; omega) (by have := HB3.out.size; have := HBR.out.size; simp; omega) _ rfl ?_; intro g5 cap5 w5 hown5 hgrow5 hat5 hlt5
      have HGM := Lib.hid (OwnOpsV.grow HV.out rfl HXL.out HX.out (HB3.out.trans (HAL.out.mono HB3.out.size)) (OwnRow.below HO3.out HAL.out) HBR.out.size hown5 hgrow5 (fun g hg => by
        obtain rfl : g5 = g := by simpa [Value.ownBlock] using hg
        rcases hat5 with e | e
        · exact .inl e
        · exact .inr (by omega)))
      have HB5 := Lib.hid (((HBR.out.trans ((HB3.out.trans (HAL.out.mono HB3.out.size)).mono HBR.out.size))).grown hgrow5 (by have := HB3.out.size; have := HBR.out.size; simp; omega) (fun q hq => (hxo.lt q hq).1))
      clear hown5 hgrow5 hat5 hlt5 hxo
      refine hK.out _ _ ?_
      clear hK K
      try simp only [Act.put, List.setIfInBounds_toArray, List.set_cons_zero, List.set_cons_succ]
      refine wpAnyL_free (i := 16) (v := ?_) (some 5) rfl rfl (by kernel_rfl) (by kernel_rfl) (by kernel_rfl) (by decide) (fun _ _ _ h => h) (Or.inl ⟨by rfl, ?_⟩) (fun h0 => absurd h0 (by decide)) ?_
      rotate_left
      · intro wS
        go_simp
        try with_reducible rfl
      try simp only [Act.put, List.setIfInBounds_toArray, List.set_cons_zero, List.set_cons_succ]
      refine wpAnyL_done (by kernel_rfl) ?_ _
      refine NoPanic.normal ?_
      go_wp2
      go_roundw
      case rel =>
        refine ⟨k + 1, _, _, _, by omega, by go_num, rfl, ?_, HB5.out⟩
        rw [movedK_succ rs to k hlt]
        have e : (movedK rs to k ++ [(arO rs k, mapped to (rowO rs k))]).length = (movedK rs to k).length + 1 := by simp
        show ∃ V, OwnOpsV _ _ _ _ _ (movedK rs to k ++ [(arO rs k, mapped to (rowO rs k))]).length V _
        rw [e]
        exact ⟨_, HGM.out⟩
      case measure => simp [intOf]; omega
    · obtain rfl : k = rs.length := by omega
      go_wp2
      go_ret
      exact ⟨a, n, c, rfl, HG.out, HBR.out⟩

end Go.Proofs.Ytnbgpeoceejolab
