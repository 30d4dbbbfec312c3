/-
  ComposeOps of the model and of the program.
-/
import Derived.Test.YtnhamdjenmogjaaTab
import Derived.Test.YtnhamdjenmogjaaPairs
import Derived.Test.YtnhamdjenmogjaaApplyT
import Derived.Test.YtnhamdjenmogjaaDepends
import Derived.Deep.AppendLies
namespace Go.Proofs.Ytnhamdjenmogjaa
open Go.RowKit

/-- All operations of a list are of a size. -/
def AllOk (size : Int) (gs : List (Int × List Int)) : Prop := ∀ k, k < gs.length → OpOk size (arO gs k) (rowO gs k)
/-- What the operations give for the i-th list. -/
def colO (gs : List (Int × List Int)) (i : Nat) : List Int := rowF (fun j => intN (rowO gs j) i) gs.length
theorem colO_len (gs : List (Int × List Int)) (i : Nat) : (colO gs i).length = gs.length := rowF_len _ _
theorem colO_at (gs : List (Int × List Int)) (i q : Nat) (h : q < gs.length) : intN (colO gs i) q = intN (rowO gs q) i := rowF_at _ _ _ h
def compR (size : Int) (tab : List Int) (gs : List (Int × List Int)) (i : Nat) : Int := intN tab (codeN size (colO gs i))
/-- All operations of a list have the arity of the first one. -/
def SameArO (gs : List (Int × List Int)) : Prop := ∀ k, k < gs.length → arO gs k = arO gs 0

theorem own_awayO {w : World} {B e sz n : Nat} {v : Value} {xs : List Value} (h : w.ownsRow B e sz v n xs) (p : Nat) (hp : p < B) : v.ownBlock ≠ some p := fun e' => by have := (h.lt p e').1; omega
theorem AllOk.len {size : Int} {gs : List (Int × List Int)} (h : AllOk size gs) (hs : SameArO gs) (k : Nat) (hk : k < gs.length) : (rowO gs k).length = (rowO gs 0).length := by
  have h1 := (h k hk).2.2.1
  have h0 := (h 0 (by omega)).2.2.1
  rw [hs k hk] at h1
  omega
theorem AllOk.col {size : Int} {gs : List (Int × List Int)} (h : AllOk size gs) (hs : SameArO gs) (i : Nat) (hi : i < (rowO gs 0).length) : TupP size (gs.length : Int) (colO gs i) := by
  refine ⟨by rw [colO_len], fun k hk => ?_⟩
  rw [colO_len] at hk
  rw [colO_at _ _ _ hk]
  exact (h k hk).2.2.2 i (by rw [h.len hs k hk]; exact hi)

set_option linter.unusedSimpArgs false in
set_option maxHeartbeats 1000000 in
set_option maxRecDepth 100000 in
theorem areValidOps (size : Int) (v : Value) (gs : List (Int × List Int)) (b : Bool) (w : World) (h : OpsAt w v gs) (hb : Tells b (In14 size ∧ AllOk size gs)) :
    Calls Try.prog 68 #[.int .i64 size, v] w fun e w' => e = .returned (.bool b) ∧ Below w.heap.size w w' := by
  obtain ⟨a1, c1, rfl, hn1, hc1⟩ := h
  have HC1 := Lib.hid hc1
  have HB := Lib.hid hb
  clear hc1 hb
  go_enter Try.func68, Try.ntmps68
  go_wp2
  go_loopw [9] (fun i wr => ∃ k : Nat, k ≤ gs.length ∧ i = .int .i64 k ∧ (∀ j, j < k → OpOk size (arO gs j) (rowO gs j)) ∧ Below w.heap.size w wr) (fun i _ => gs.length - (intOf i).toNat)
  case atStart => exact ⟨0, Nat.zero_le _, rfl, fun j hj => absurd hj (Nat.not_lt_zero _), Below.refl _ _⟩
  case round =>
    obtain ⟨k, hk, rfl, hall, hbel⟩ := hrel
    have HA := Lib.hid hall
    have HW := Lib.hid hbel
    clear hall hbel
    by_cases hlt : k < gs.length
    · obtain ⟨b1, off1, ha1, hcell1⟩ := HC1.out (by omega)
      subst ha1
      obtain ⟨y0, a2, n2, c2, y1, hr0⟩ := hcell1 k hlt
      have HR0 := Lib.hid hr0
      have hlt' : (k : Int) < (gs.length : Int) := by omega
      have y0 := below_cell HW.out y0
      have y1 := below_cell HW.out y1
      have HAL0 := Lib.hid ((Below.refl wr.heap.size wr).alloc (Nat.le_refl _) (.cells #[.int .i64 (arO gs k), .slice a2 n2 c2] 24))
      clear hcell1 hr0
      by_cases hok : OpOk size (arO gs k) (rowO gs k)
      · have HT := Lib.hid (Tells.yes hok)
        have HOK := Lib.hid hok
        clear hok
        go_wp2_with fail
        refine (implValidOp _ _ _ _ _ (rowO gs k) true _ ((HR0.out.below HW.out).below HAL0.out) HT.out).mono ?_
        rintro e w3 ⟨rfl, hb3⟩
        have HB3 := Lib.hid ((HW.out.trans (HAL0.out.mono HW.out.size)).trans (hb3.mono (by have := HW.out.size; simp; omega)))
        clear hb3 y0 y1
        go_wp2
        go_roundw
        case rel =>
          refine ⟨k + 1, by omega, by go_num, fun j hj => ?_, HB3.out⟩
          by_cases hjk : j = k
          · subst hjk; exact HOK.out
          · exact HA.out j (by omega)
        case measure => simp [intOf]; omega
      · have HT := Lib.hid (Tells.no hok)
        have HF := Lib.hid (HB.out.is_false fun h => hok (h.2 k hlt))
        clear hok
        go_wp2_with fail
        refine (implValidOp _ _ _ _ _ (rowO gs k) false _ ((HR0.out.below HW.out).below HAL0.out) HT.out).mono ?_
        rintro e w3 ⟨rfl, hb3⟩
        have HB3 := Lib.hid ((HW.out.trans (HAL0.out.mono HW.out.size)).trans (hb3.mono (by have := HW.out.size; simp; omega)))
        clear hb3 y0 y1
        go_wp2
        go_ret
        exact ⟨ret_bool HF.out.symm, HB3.out⟩
    · obtain rfl : k = gs.length := by omega
      by_cases hs : In14 size
      · have HS := Lib.hid (Tells.yes hs)
        have HF := Lib.hid (HB.out.is_true ⟨hs, HA.out⟩)
        clear hs
        go_wp2_with fail
        refine (isSize _ true _ HS.out).mono ?_
        rintro e w1 ⟨rfl, rfl⟩
        go_wp2
        go_ret
        exact ⟨ret_bool HF.out.symm, HW.out⟩
      · have HS := Lib.hid (Tells.no hs)
        have HF := Lib.hid (HB.out.is_false fun h => hs h.1)
        clear hs
        go_wp2_with fail
        refine (isSize _ false _ HS.out).mono ?_
        rintro e w1 ⟨rfl, rfl⟩
        go_wp2
        go_ret
        exact ⟨ret_bool HF.out.symm, HW.out⟩

set_option linter.unusedSimpArgs false in
set_option maxHeartbeats 1000000 in
set_option maxRecDepth 100000 in
theorem l02All (size : Int) (v : Value) (gs : List (Int × List Int)) (b : Bool) (w : World) (h : OpsAt w v gs) (hb : Tells b (In14 size ∧ AllOk size gs)) :
    Calls Try.prog 66 #[.int .i64 size, v] w fun e w' => e = .returned (.bool b) ∧ QW w w' := by
  obtain ⟨a1, c1, rfl, hn1, hc1⟩ := h
  have HC1 := Lib.hid hc1
  have HB := Lib.hid hb
  clear hc1 hb
  go_enter Try.func66, Try.ntmps66
  go_wp2
  go_loopw [5] (fun i wr => ∃ k : Nat, k ≤ gs.length ∧ i = .int .i64 k ∧ (∀ j, j < k → OpOk size (arO gs j) (rowO gs j)) ∧ QW w wr) (fun i _ => gs.length - (intOf i).toNat)
  case atStart => exact ⟨0, Nat.zero_le _, rfl, fun j hj => absurd hj (Nat.not_lt_zero _), QW.refl _⟩
  case round =>
    obtain ⟨k, hk, rfl, hall, hbel⟩ := hrel
    have HA := Lib.hid hall
    have HW := Lib.hid hbel
    clear hall hbel
    by_cases hlt : k < gs.length
    · obtain ⟨b1, off1, ha1, hcell1⟩ := HC1.out (by omega)
      subst ha1
      have HP := Lib.hid ((hcell1 k hlt).below (HW.out.below _))
      have hlt' : (k : Int) < (gs.length : Int) := by omega
      clear hcell1
      by_cases hok : OpOk size (arO gs k) (rowO gs k)
      · have HT := Lib.hid (Tells.yes hok)
        have HOK := Lib.hid hok
        clear hok
        go_wp2_with fail
        refine (l02Ok _ _ _ _ _ true _ HP.out HT.out).mono ?_
        rintro e w3 ⟨rfl, hq3⟩
        have HQ3 := Lib.hid (HW.out.trans hq3)
        clear hq3
        go_wp2
        go_roundw
        case rel =>
          refine ⟨k + 1, by omega, by go_num, fun j hj => ?_, HQ3.out⟩
          by_cases hjk : j = k
          · subst hjk; exact HOK.out
          · exact HA.out j (by omega)
        case measure => simp [intOf]; omega
      · have HT := Lib.hid (Tells.no hok)
        have HF := Lib.hid (HB.out.is_false fun h => hok (h.2 k hlt))
        clear hok
        go_wp2_with fail
        refine (l02Ok _ _ _ _ _ false _ HP.out HT.out).mono ?_
        rintro e w3 ⟨rfl, hq3⟩
        have HQ3 := Lib.hid (HW.out.trans hq3)
        clear hq3
        go_wp2
        go_ret
        exact ⟨ret_bool HF.out.symm, HQ3.out⟩
    · obtain rfl : k = gs.length := by omega
      by_cases hs : In14 size
      · have HS := Lib.hid (Tells.yes hs)
        have HF := Lib.hid (HB.out.is_true ⟨hs, HA.out⟩)
        clear hs
        go_wp2_with fail
        refine (l01Size _ true _ HS.out).mono ?_
        rintro e w1 ⟨rfl, rfl⟩
        go_wp2
        go_ret
        exact ⟨ret_bool HF.out.symm, HW.out⟩
      · have HS := Lib.hid (Tells.no hs)
        have HF := Lib.hid (HB.out.is_false fun h => hs h.1)
        clear hs
        go_wp2_with fail
        refine (l01Size _ false _ HS.out).mono ?_
        rintro e w1 ⟨rfl, rfl⟩
        go_wp2
        go_ret
        exact ⟨ret_bool HF.out.symm, HW.out⟩

set_option linter.unusedSimpArgs false in
set_option maxHeartbeats 1600000 in
set_option maxRecDepth 100000 in
theorem l02Compose (size ar : Int) (pb po : Nat) (tab : List Int) (a1 : Option Addr) (n1 c1 : Nat) (gs : List (Int × List Int)) (w : World) (hp : OpAt w pb po ar tab) (h : OpsAt w (.slice a1 n1 c1) gs) (ho : OpOk size ar tab) (hg : AllOk size gs) (hs : SameArO gs) (hl : (gs.length : Int) = ar) :
    Calls Try.prog 67 #[.int .i64 size, .pointer (some ⟨pb, po, none⟩), .slice a1 n1 c1] w (MadeOp w (arO gs 0) (rowF (compR size tab gs) (rowO gs 0).length)) := by
  obtain ⟨i0, hi0, hz0, hz1, hz2⟩ := info_parts info_intT
  have HP := Lib.hid hp
  have HOO := Lib.hid ho
  have HCOL := Lib.hid (fun i hi => hg.col hs i hi)
  have HLL := Lib.hid (fun k hk => hg.len hs k hk)
  obtain ⟨hr1, hr2⟩ := ho.2.1
  have hpos : 0 < gs.length := by omega
  have hlen4 : gs.length ≤ 4 := by omega
  have hM1 : (rowO gs 0).length ≤ 64 := by
    have h0 := (hg 0 hpos)
    have := h0.2.2.1
    have := (pow_le3 (s := size.toNat) (r := (arO gs 0).toNat) (by have := h0.1.1; omega) (by have := h0.1.2; omega) (by have := h0.2.1.2; omega)).1
    omega
  obtain ⟨a', c', hv, hn, hc⟩ := h
  simp only [Value.slice.injEq] at hv
  obtain ⟨rfl, rfl, rfl⟩ := hv
  obtain ⟨b1, off1, rfl, hcell⟩ := hc hpos
  have HC := Lib.hid hcell
  have HHL := Lib.hid hl
  obtain ⟨x0, a0, n0, c0, x1, hr0⟩ := hcell 0 hpos
  simp only [Nat.zero_mul, Nat.add_zero] at x0 x1
  obtain rfl : n0 = (rowO gs 0).length := by obtain ⟨_, _, hv, _⟩ := hr0; simp only [Value.slice.injEq] at hv; exact hv.2.1
  have hlt0 : (0 : Int) < (gs.length : Int) := by omega
  have HR0 := Lib.hid (Box.new 24 w #[.int .i64 0, .slice none 0 0])
  have hB := Box.new 24 (w.alloc (.cells #[.int .i64 0, .slice none 0 0] 24)) #[.int .i64 (arO gs 0), .slice none 0 0]
  rw [World.size_alloc] at hB
  have HBX0 := Lib.hid hB
  have x0a := below_cell ((Below.refl w.heap.size w).alloc (Nat.le_refl _) (.cells #[.int .i64 0, .slice none 0 0] 24)) x0
  clear hp ho hg hs hc hcell hl hr0 hB
  generalize hM : (rowO gs 0).length = M at *
  have HM := Lib.hid hM
  clear hM
  go_enter Try.func67, Try.ntmps67
  go_wp2
  clear x0a
  go_loopw [8] (fun i wr => ∃ (k : Nat) (a : Option Addr) (n c : Nat), k ≤ M ∧ i = .int .i64 k ∧ Box 24 wr (w.heap.size + 1) #[.int .i64 (arO gs 0), .slice a n c] ∧ Box 24 wr w.heap.size #[.int .i64 0, .slice none 0 0] ∧ wr.ownsRow (w.heap.size + 2) 2 1 (.slice a n c) k ((rowF (compR size tab gs) k).map (Value.int .i64)) ∧ Below w.heap.size w wr ∧ w.heap.size + 2 ≤ wr.heap.size) (fun i _ => M - (intOf i).toNat)
  case atStart =>
    exact ⟨0, none, 0, 0, Nat.zero_le _, rfl, HBX0.out, HR0.out.below ((Below.refl _ _).alloc (Nat.le_refl _) _), World.ownsRow_nil _ _ _ 1, ((Below.refl _ _).alloc (Nat.le_refl _) _).alloc (by simp) _, by simp⟩
  case round =>
    obtain ⟨k, ao, no, co, hk, rfl, hbx, hb0, hown, hbel, hsz⟩ := hrel
    have HBX := Lib.hid hbx
    have HB0 := Lib.hid hb0
    have HO := Lib.hid hown
    have HW := Lib.hid hbel
    have xr := below_cell HW.out x1
    clear hbx hb0 hown hbel
    by_cases hlt : k < M
    · have hlt' : (k : Int) < (M : Int) := by omega
      have HTC := Lib.hid (HCOL.out k hlt)
      obtain ⟨wo, rfl⟩ : ∃ wo : World, wo = wr := ⟨_, rfl⟩
      go_wp2
      go_loopw [9, 10] (fun v i wr => ∃ (q : Nat) (a : Option Addr) (n c : Nat), q ≤ gs.length ∧ i = .int .i64 q ∧ v = .slice a n c ∧ wr.ownsRow wo.heap.size 2 1 (.slice a n c) q ((rowF (fun j => intN (rowO gs j) k) q).map (Value.int .i64)) ∧ Below wo.heap.size wo wr) (fun _ i _ => gs.length - (intOf i).toNat)
      case atStart => exact ⟨0, _, _, _, Nat.zero_le _, rfl, rfl, ownRow_lit wo wo.heap.size [] (Nat.le_refl _) (by simp), (Below.refl _ _).alloc (Nat.le_refl _) _⟩
      case round =>
        obtain ⟨q, ai, ni, ci, hq, rfl, rfl, hown, hbel⟩ := hrel
        have HO2 := Lib.hid hown
        have HB2 := Lib.hid hbel
        clear hown hbel xr
        by_cases hqt : q < gs.length
        · obtain ⟨y0, a3, n3, c3, y1, hr3⟩ := HC.out q hqt
          obtain rfl : n3 = (rowO gs q).length := by obtain ⟨_, _, hv, _⟩ := hr3; simp only [Value.slice.injEq] at hv; exact hv.2.1
          have hl3 := HLL.out q hqt
          obtain ⟨b3, off3, rfl, -, hx3⟩ := SlAt.some_of hr3 k (by omega)
          have hx1 := below_cell HB2.out (below_cell HW.out y1)
          have hx3' := below_cell HB2.out (below_cell HW.out hx3)
          rw [hl3] at hx1
          have hqt' : (q : Int) < (gs.length : Int) := by omega
          have hc1 := cell_one_new wr (.int .i64 (intN (rowO gs q) k)) 2
          have HC1 := Lib.hid hc1
          clear hr3 hl3 hx3 y0 y1 hc1
          go_wp2_with (at_builtin; refine wpList_append_own _ rfl _ _ 22 rfl wo.heap.size 2 i0 (.int .i64 0) 1 8 Try.underlying22 hi0 hz0 hz1 hz2 rfl (by decide) (.slice ai ni ci) q _ rfl (HO2.out.alloc _) ⟨wr.heap.size, 0, none⟩ 1 1 [.int .i64 (intN (rowO gs q) k)] rfl rfl HC1.out (by simp [Value.oneCell']) (by unfold maxLen; omega) (by omega) (by have := HB2.out.size; simp; omega) ?_; intro v' w3 hown' hgrow _; obtain ⟨g', c', rfl⟩ := ownsRow_succ hown'; have HG3 := Lib.hid hown'; have HR3 := Lib.hid hgrow; clear hown' hgrow)
          go_roundw
          case rel =>
            refine ⟨q + 1, _, _, _, by omega, by go_num, rfl, ?_, ((HB2.out.alloc HB2.out.size _).grown HR3.out (by have := HB2.out.size; simp; omega) (fun q hq => (HO2.out.lt q hq).1))⟩
            rw [rowF_succ]; exact HG3.out
          case measure => simp [intOf]; omega
        · have HQ : Hid (gs.length = q) := Lib.hid (by omega)
          have HE : Hid (RowAt wr (.slice ai ni ci) (colO gs k)) := Lib.hid (OwnRow.rowAt (B := wo.heap.size) (by
            show World.ownsRow _ _ _ _ _ _ _
            rw [colO_len]
            unfold colO
            rw [HQ.out]
            exact HO2.out))
          have hqt' : ¬ ((q : Int) < (gs.length : Int)) := by omega
          have HBXi := Lib.hid (HBX.out.below HB2.out)
          have HB0i := Lib.hid (HB0.out.below HB2.out)
          have HOi := Lib.hid (ownsRow_below HO.out HB2.out)
          have HWi := Lib.hid (HW.out.trans (HB2.out.mono HW.out.size))
          have hszi : w.heap.size + 2 ≤ wr.heap.size := Nat.le_trans hsz HB2.out.size
          have hno : no = k := by
            rcases ownsRow_parts HO.out with ⟨hv, h0, _⟩ | ⟨_, _, hv, _⟩ <;> simp only [Value.slice.injEq] at hv <;> omega
          have d0 := HBXi.out.c 1 rfl
          have HXX : Hid (intN tab (codeN size (colO gs k)) = compR size tab gs k) := Lib.hid rfl
          clear HO2 HB2 hno
          go_wp2
          refine wp_region_noPanic ?_
          refine wp_region_late (S := (fun w' => w'.cell? ⟨w.heap.size + 1, 1, none⟩ = some (.slice ao no co) ∧ Below wr.heap.size wr w')) [7, 9] (by kernel_rfl) ?_ (fun hHeld => ?_)
          · exact ⟨d0, (QW.refl wr).drew.below _⟩
          refine wpAnyL_free (i := 0) (v := ?_) (some 43) rfl rfl (by kernel_rfl) (by kernel_rfl) (by kernel_rfl) (by decide) (fun _ _ _ h => h) (Or.inl ⟨by rfl, ?_⟩) (fun h0 => by assumption) ?_
          rotate_left
          · intro wS
            go_simp
            try with_reducible rfl
          try simp only [Act.put, List.setIfInBounds_toArray, List.set_cons_zero, List.set_cons_succ]
          refine wpAnyL_take (i := 1) (v := ?_) (some 44) rfl rfl (by kernel_rfl) (by kernel_rfl) (by kernel_rfl) (by kernel_rfl) (by kernel_rfl) (fun _ _ _ h => h) (Or.inl ⟨by rfl, ?_⟩) (by assumption) ?_
          rotate_left
          · intro wS hSw
            try dsimp only at hSw
            go_simp
            try with_reducible rfl
          try simp only [Act.put, List.setIfInBounds_toArray, List.set_cons_zero, List.set_cons_succ]
          refine wpAnyL_free (i := 2) (v := ?_) (some 45) rfl rfl (by kernel_rfl) (by kernel_rfl) (by kernel_rfl) (by decide) (fun _ _ _ h => h) (Or.inl ⟨by rfl, ?_⟩) (fun h0 => by assumption) ?_
          rotate_left
          · intro wS
            go_simp
            try with_reducible rfl
          try simp only [Act.put, List.setIfInBounds_toArray, List.set_cons_zero, List.set_cons_succ]
          refine wpAnyL_free (i := 3) (v := ?_) (some 46) rfl rfl (by kernel_rfl) (by kernel_rfl) (by kernel_rfl) (by decide) (fun _ _ _ h => h) (Or.inl ⟨by rfl, ?_⟩) (fun h0 => by assumption) ?_
          rotate_left
          · intro wS
            go_simp
            try with_reducible rfl
          try simp only [Act.put, List.setIfInBounds_toArray, List.set_cons_zero, List.set_cons_succ]
          refine wpAnyL_free (i := 4) (v := ?_) (some 47) rfl rfl (by kernel_rfl) (by kernel_rfl) (by kernel_rfl) (by decide) (fun _ _ _ h => h) (Or.inl ⟨by rfl, ?_⟩) (fun h0 => by assumption) ?_
          rotate_left
          · intro wS
            go_simp
            try with_reducible rfl
          try simp only [Act.put, List.setIfInBounds_toArray, List.set_cons_zero, List.set_cons_succ]
          refine wpAnyL_ready (rs := [5]) (by kernel_rfl) (by simp) ?_
          refine AllReadyL.cons rfl (fun K hK => ?_) AllReadyL.nil
          go_simp; go_at_call 94; refine (l02Value _ _ _ _ _ _ _ _ ((HP.out.below HWi.out).below ((QW.refl wr).drew.below _)) (HE.out.below ((QW.refl wr).drew.below _)) HOO.out (HHL.out ▸ HTC.out)).mono ?_; rintro e w5 ⟨rfl, hq5⟩
          rw [HXX.out]
          have HB5 := Lib.hid (((QW.refl wr).drew.below wr.heap.size).trans (hq5.below _))
          have HAL := Lib.hid (HB5.out.trans (((Below.refl w5.heap.size w5).alloc (Nat.le_refl _) (.cells #[.int .i64 (compR size tab gs k)] 2)).mono HB5.out.size))
          refine hK.out _ _ ?_ (fun hHeld => ?_)
          · exact ⟨below_cell (hq5.below _) hHeld.1, hHeld.2.trans ((hq5.below _).mono hHeld.2.size)⟩
          clear hK K
          try simp only [Act.put, List.setIfInBounds_toArray, List.set_cons_zero, List.set_cons_succ]
          refine wpAnyL_ready (rs := [6]) (by kernel_rfl) (by simp) ?_
          refine AllReadyL.cons rfl (fun K hK => ?_) AllReadyL.nil
          go_simp
          refine hK.out _ _ ?_ (fun hHeld => ?_)
          · exact ⟨below_cell ((Below.refl _ _).alloc (Nat.le_refl _) _) hHeld.1, hHeld.2.trans (((Below.refl _ _).alloc (Nat.le_refl _) _).mono hHeld.2.size)⟩
          clear hK K
          try simp only [Act.put, List.setIfInBounds_toArray, List.set_cons_zero, List.set_cons_succ]
          refine wpAnyL_ready (rs := [7]) (by kernel_rfl) (by simp) ?_
          refine AllReadyL.last rfl (by kernel_rfl) (fun K hK => ?_) AllReadyL.nil
          refine step_append_lies _ (by rfl) _ _ 22 (by rfl) (w.heap.size + 2) 2 i0 (.int .i64 0) 1 8 Try.underlying22 hi0 hz0 hz1 hz2 (by rfl) (by decide) (.slice ao no co) k _ (by rfl) (ownsRow_below HOi.out HAL.out) _ 1 1 [.int .i64 (compR size tab gs k)] (by rfl) (by rfl) (fun j u hu => World.news_of_block (heap_alloc_new w5 _) j u (by simpa using hu)) (by simp [Value.oneCell']) (by omega) (by unfold maxLen; omega) (by omega) (by have := HAL.out.size; omega) _ rfl ?_; intro g5 cap5 w6 hown5 hgrow5 hat5 hlt5
          have HBX5 := Lib.hid ((HBXi.out.below HAL.out).grown hgrow5 (own_awayO HOi.out (w.heap.size + 1) (by omega)))
          have HB05 := Lib.hid ((HB0i.out.below HAL.out).grown hgrow5 (own_awayO HOi.out w.heap.size (by omega)))
          have HW5 := Lib.hid ((HWi.out.trans (HAL.out.mono HWi.out.size)).grown hgrow5 (by have := HAL.out.size; omega) (fun g hg => by have := (HOi.out.lt g hg).1; omega))
          have HO5 := Lib.hid hown5
          have HS5 := Lib.hid (Nat.le_trans HAL.out.size hgrow5.size)
          have k1 := HBX5.out.c 1 rfl
          have kf := HBX5.out.free 1
          clear hown5 hgrow5 hat5 hlt5 HAL HB5
          refine hK.out _ _ ?_
          clear hK K
          try simp only [Act.put, List.setIfInBounds_toArray, List.set_cons_zero, List.set_cons_succ]
          refine wpAnyL_free (i := 8) (v := ?_) (some 51) rfl rfl (by kernel_rfl) (by kernel_rfl) (by kernel_rfl) (by decide) (fun _ _ _ h => h) (Or.inl ⟨by rfl, ?_⟩) (fun h0 => absurd h0 (by decide)) ?_
          rotate_left
          · intro wS
            go_simp
            try with_reducible rfl
          try simp only [Act.put, List.setIfInBounds_toArray, List.set_cons_zero, List.set_cons_succ]
          refine wpAnyL_ready (rs := [9]) (by kernel_rfl) (by simp) ?_
          refine AllReadyL.last rfl (by kernel_rfl) (fun K hK => ?_) AllReadyL.nil
          go_simp
          refine hK.out _ _ ?_
          clear hK K
          try simp only [Act.put, List.setIfInBounds_toArray, List.set_cons_zero, List.set_cons_succ]
          refine wpAnyL_done (by kernel_rfl) ?_ _
          refine NoPanic.normal ?_
          go_wp2
          go_roundw
          case rel =>
            refine ⟨k + 1, _, _, _, by omega, by go_num, HBX5.out.set 1 _, HB05.out.other (show w.heap.size ≠ w.heap.size + 1 by omega) _, ?_, HW5.out.setCell (p := ⟨w.heap.size + 1, 1, none⟩) (by show w.heap.size ≤ w.heap.size + 1; omega) _, by have := HS5.out; simp [World.setCell]; omega⟩
            rw [rowF_succ]
            exact ownsRow_same HO5.out fun g hg => Below.heap_setCell _ _ _ _ (by have := (HO5.out.lt g hg).1; show g ≠ w.heap.size + 1; omega)
          case measure => simp [intOf]; omega

    · obtain rfl : k = M := by omega
      have hm : no = k := by
        rcases ownsRow_parts HO.out with ⟨hv, h0, _⟩ | ⟨_, _, hv, _⟩ <;> simp only [Value.slice.injEq] at hv <;> omega
      subst hm
      have HE : Hid (OwnRow wr (w.heap.size + 2) (.slice ao no co) (rowF (compR size tab gs) no)) := by
        show World.ownsRow _ _ _ _ _ _ _
        rw [rowF_len]
        exact HO.out
      have d0 := HBX.out.c 0 rfl
      have d1 := HBX.out.c 1 rfl
      have e0 := HB0.out.c 0 rfl
      have e1 := HB0.out.c 1 rfl
      have f0 := HB0.out.free 0
      have f1 := HB0.out.free 1
      go_wp2
      refine bodyPost_ret (v := .agg #[.int .i64 (arO gs 0), .slice ao no co]) (by simp [results, Try.results67, go_sem, e0, e1]) rfl ⟨_, _, _, rfl, ?_, ?_⟩
      · exact (((HE.out.stored (by show w.heap.size < w.heap.size + 2; omega) _).stored (by show w.heap.size < w.heap.size + 2; omega) _).mono (by omega)).full
      · exact (HW.out.setCell (Nat.le_refl _) _).setCell (Nat.le_refl _) _

/-- What ComposeOps answers. -/
def ComposeOpsIs (size ar : Int) (tab : List Int) (gs : List (Int × List Int)) (x : Int) (t : List Int) (cd : Int) : Prop :=
  (OpOk size ar tab ∧ AllOk size gs ∧ (gs.length : Int) = ar ∧ SameArO gs ∧ x = arO gs 0 ∧ t = rowF (compR size tab gs) (rowO gs 0).length ∧ cd = 0)
  ∨ (OpOk size ar tab ∧ AllOk size gs ∧ (gs.length : Int) = ar ∧ ¬ SameArO gs ∧ x = 0 ∧ t = [] ∧ cd = 4)
  ∨ (OpOk size ar tab ∧ AllOk size gs ∧ (gs.length : Int) ≠ ar ∧ x = 0 ∧ t = [] ∧ cd = 2)
  ∨ (OpOk size ar tab ∧ ¬ AllOk size gs ∧ x = 0 ∧ t = [] ∧ cd = 1)
  ∨ (¬ OpOk size ar tab ∧ x = 0 ∧ t = [] ∧ cd = 1)
theorem ComposeOpsIs.exists (size ar : Int) (tab : List Int) (gs : List (Int × List Int)) : ∃ x t cd, ComposeOpsIs size ar tab gs x t cd := by
  by_cases h1 : OpOk size ar tab
  · by_cases h2 : AllOk size gs
    · by_cases h3 : (gs.length : Int) = ar
      · by_cases h4 : SameArO gs
        · exact ⟨_, _, _, .inl ⟨h1, h2, h3, h4, rfl, rfl, rfl⟩⟩
        · exact ⟨_, _, _, .inr (.inl ⟨h1, h2, h3, h4, rfl, rfl, rfl⟩)⟩
      · exact ⟨_, _, _, .inr (.inr (.inl ⟨h1, h2, h3, rfl, rfl, rfl⟩))⟩
    · exact ⟨_, _, _, .inr (.inr (.inr (.inl ⟨h1, h2, rfl, rfl, rfl⟩)))⟩
  · exact ⟨_, _, _, .inr (.inr (.inr (.inr ⟨h1, rfl, rfl, rfl⟩)))⟩
theorem ComposeOpsIs.small {size ar : Int} {tab : List Int} {gs : List (Int × List Int)} {x : Int} {t : List Int} {cd : Int} (h : ComposeOpsIs size ar tab gs x t cd) : t.length ≤ 1048576 := by
  rcases h with ⟨h1, h2, h3, -, -, rfl, -⟩ | ⟨-, -, -, -, -, rfl, -⟩ | ⟨-, -, -, -, rfl, -⟩ | ⟨-, -, -, rfl, -⟩ | ⟨-, -, rfl, -⟩
  · have hpos : 0 < gs.length := by have := h1.2.1.1; omega
    have h0 := h2 0 hpos
    have := h0.2.2.1
    have := (pow_le3 (s := size.toNat) (r := (arO gs 0).toNat) (by have := h0.1.1; omega) (by have := h0.1.2; omega) (by have := h0.2.1.2; omega)).1
    rw [rowF_len]; omega
  · simp
  · simp
  · simp
  · simp


set_option linter.unusedSimpArgs false in
set_option maxHeartbeats 1600000 in
set_option maxRecDepth 100000 in
theorem specComposeOpsA (size ar : Int) (a : Option Addr) (n c : Nat) (tab : List Int) (a1 : Option Addr) (n1 c1 : Nat) (gs : List (Int × List Int)) (x : Int) (t : List Int) (cd : Int) (w : World) (h1 : RowAt w (.slice a n c) tab) (h2 : OpsAt w (.slice a1 n1 c1) gs) (hi : ComposeOpsIs size ar tab gs x t cd) :
    Calls Try.prog 24 #[.int .i64 size, .agg #[.int .i64 ar, .slice a n c], .slice a1 n1 c1] w (MadeOp2 w x t cd) := by
  obtain rfl : n = tab.length := by obtain ⟨_, _, hv, _⟩ := h1; simp only [Value.slice.injEq] at hv; exact hv.2.1
  obtain rfl : n1 = gs.length := by obtain ⟨_, _, hv, _⟩ := h2; simp only [Value.slice.injEq] at hv; exact hv.2.1
  obtain ⟨i0, hi0, hz0, hz1, hz2⟩ := info_parts info_intT
  have hn1 : gs.length ≤ 9223372036854775807 := by obtain ⟨_, _, _, hn, _⟩ := h2; exact hn
  have hcells : 0 < gs.length → ∃ b off, a1 = some ⟨b, off, none⟩ ∧ ∀ i, i < gs.length → OpAt w b (off + i * 2) (arO gs i) (rowO gs i) := by
    obtain ⟨_, _, hv, _, hc⟩ := h2
    simp only [Value.slice.injEq] at hv
    obtain ⟨rfl, _, rfl⟩ := hv
    exact hc
  have HR0 : Hid (Box 24 _ (w.heap.size + 1) #[.int .i64 0, .slice none 0 0]) := Lib.hid (by
    have h := Box.new 24 (w.alloc (.cells #[.int .i64 ar, .slice a tab.length c] 24)) #[.int .i64 0, .slice none 0 0]
    rwa [World.size_alloc] at h)
  have HP := Lib.hid ((OpAt.new w ar a tab.length c tab 24 h1).below ((Below.refl _ _).alloc (Nat.le_refl _) (.cells #[.int .i64 0, .slice none 0 0] 24)))
  have K0 := Lib.hid ((((((Kept.start w).read (lives_row _ _) h1).read (lives_ops _ _) h2).box w.heap.size rfl (.int .i64 ar) (.slice a tab.length c) 24)).below ((Below.refl _ _).alloc (Nat.le_refl _) (.cells #[.int .i64 0, .slice none 0 0] 24)))
  have ck0 := K0.out.c 0 rfl
  have ck1 := K0.out.c 1 rfl
  clear h1 h2
  rcases hi with ⟨ho, ha, hl, hsa, rfl, rfl, rfl⟩ | ⟨ho, ha, hl, hsa, rfl, rfl, rfl⟩ | ⟨ho, ha, hl, rfl, rfl, rfl⟩ | ⟨ho, ha, rfl, rfl, rfl⟩ | ⟨ho, rfl, rfl, rfl⟩
  · have HO := Lib.hid (Tells.yes ho)
    have HA : Hid (Tells true (In14 size ∧ AllOk size gs)) := Lib.hid (Tells.yes ⟨ho.1, ha⟩)
    have HSA := Lib.hid hsa
    have hpos : 0 < gs.length := by have := ho.2.1.1; omega
    obtain ⟨b1, off1, rfl, hcell⟩ := hcells hpos
    have HC := Lib.hid hcell
    have hln : ((gs.length : Int) != ar) = false := by simp [hl]
    have hln' : ((gs.length : Int) == ar) = true := by simp [hl]
    have HLL := Lib.hid hl
    have HOK := Lib.hid ho
    have HAK := Lib.hid ha
    clear ho ha hl hsa hcell hcells
    go_enter Try.func24, Try.ntmps24
    go_wp2_with fail
    refine (l02Ok _ _ _ _ tab true _ HP.out HO.out).mono ?_
    rintro e w1 ⟨rfl, hq1⟩
    have K1 := Lib.hid (K0.out.below hq1.bel)
    have HR1 := Lib.hid (HR0.out.below hq1.bel)
    have HP1 := Lib.hid (HP.out.below hq1.bel)
    have hsz1 : w.heap.size + 2 ≤ w1.heap.size := by have := hq1.bel.size; simpa using this
    clear hq1 ck0 ck1
    go_wp2_with fail
    refine (l02All _ _ gs true _ (K1.out.r 0 rfl :) HA.out).mono ?_
    rintro e w2 ⟨rfl, hq2⟩
    have K2 := Lib.hid (K1.out.below hq2.bel)
    have HR2 := Lib.hid (HR1.out.below hq2.bel)
    have HP2 := Lib.hid (HP1.out.below hq2.bel)
    have hsz2 : w.heap.size + 2 ≤ w2.heap.size := Nat.le_trans hsz1 hq2.bel.size
    have cc0 := K2.out.c 0 rfl
    clear hq2
    go_wp2
    clear cc0
    go_loopw [8] (fun i wr => ∃ k : Nat, 1 ≤ k ∧ k ≤ gs.length ∧ i = .int .i64 k ∧ (∀ j, j < k → arO gs j = arO gs 0) ∧ Below w2.heap.size w2 wr) (fun i _ => gs.length - (intOf i).toNat)
    case atStart => exact ⟨1, Nat.le_refl _, hpos, rfl, fun j hj => by obtain rfl : j = 0 := by { omega }; rfl, Below.refl _ _⟩
    case round =>
      obtain ⟨k, hk1, hk, rfl, hall, hbel⟩ := hrel
      have HALL := Lib.hid hall
      have HW := Lib.hid hbel
      have KR := Lib.hid (K2.out.below hbel)
      have HRR := Lib.hid (HR2.out.below hbel)
      have HPR := Lib.hid (HP2.out.below hbel)
      have hszr : w.heap.size + 2 ≤ wr.heap.size := Nat.le_trans hsz2 hbel.size
      clear hall hbel
      by_cases hlt : k < gs.length
      · obtain ⟨y0, -⟩ := HC.out k hlt
        obtain ⟨z0, -⟩ := HC.out 0 hpos
        simp only [Nat.zero_mul, Nat.add_zero] at z0
        have y0 := below_cell KR.out.bel y0
        have z0 := below_cell KR.out.bel z0
        have hlt' : (k : Int) < (gs.length : Int) := by omega
        have hlt0 : (0 : Int) < (gs.length : Int) := by omega
        have heq : arO gs k = arO gs 0 := HSA.out k hlt
        have heqb : ((arO gs k) != (arO gs 0)) = false := by simp [heq]
        have heqb' : ((arO gs k) == (arO gs 0)) = true := by simp [heq]
        have HEQ := Lib.hid heq
        clear heq
        go_wp2
        go_quiet (fail)
        go_wp2
        go_roundw
        case rel =>
          refine ⟨k + 1, by omega, by omega, by go_num, fun j hj => ?_, HW.out.trans (((QW.refl _).drewN _).below _)⟩
          by_cases hjk : j = k
          · subst hjk; exact HEQ.out
          · exact HALL.out j (by omega)
        case measure => simp [intOf]; omega
      · obtain rfl : k = gs.length := by omega
        go_wp2_with fail
        refine (l02Compose size ar _ _ tab _ _ _ gs _ HPR.out (KR.out.r 0 rfl :) HOK.out HAK.out HSA.out HLL.out).mono ?_
        rintro e w6 ⟨a6, n6, c6, rfl, ho6, hb6⟩
        have K6 := Lib.hid (KR.out.below hb6)
        have HR6 := Lib.hid (HRR.out.below hb6)
        have HO6 := Lib.hid ho6
        have d0 := HR6.out.c 0 rfl
        have d1 := HR6.out.c 1 rfl
        have f0 := HR6.out.free 0
        have f1 := HR6.out.free 1
        clear ho6 hb6
        go_wp2
        refine bodyPost_ret (v := .tuple #[.agg #[.int .i64 (arO gs 0), .slice a6 n6 c6], .int .i64 0]) (by simp [results, Try.results24, go_sem, d0, d1]) rfl ⟨_, _, _, rfl, ?_, ?_⟩
        · have hrow := HO6.out.row.mono hszr
          exact (((hrow.stored (by show w.heap.size + 1 < w.heap.size + 2; omega) _).stored (by show w.heap.size + 1 < w.heap.size + 2; omega) _).mono (by omega)).full
        · exact (K6.out.bel.setCell (by show w.heap.size ≤ w.heap.size + 1; omega) _).setCell (by show w.heap.size ≤ w.heap.size + 1; omega) _
  · have HO := Lib.hid (Tells.yes ho)
    have HA : Hid (Tells true (In14 size ∧ AllOk size gs)) := Lib.hid (Tells.yes ⟨ho.1, ha⟩)
    have HSA := Lib.hid hsa
    have hpos : 0 < gs.length := by have := ho.2.1.1; omega
    obtain ⟨b1, off1, rfl, hcell⟩ := hcells hpos
    have HC := Lib.hid hcell
    have hln : ((gs.length : Int) != ar) = false := by simp [hl]
    have hln' : ((gs.length : Int) == ar) = true := by simp [hl]
    have HLL := Lib.hid hl
    have HOK := Lib.hid ho
    have HAK := Lib.hid ha
    clear ho ha hl hsa hcell hcells
    go_enter Try.func24, Try.ntmps24
    go_wp2_with fail
    refine (l02Ok _ _ _ _ tab true _ HP.out HO.out).mono ?_
    rintro e w1 ⟨rfl, hq1⟩
    have K1 := Lib.hid (K0.out.below hq1.bel)
    have HR1 := Lib.hid (HR0.out.below hq1.bel)
    have HP1 := Lib.hid (HP.out.below hq1.bel)
    have hsz1 : w.heap.size + 2 ≤ w1.heap.size := by have := hq1.bel.size; simpa using this
    clear hq1 ck0 ck1
    go_wp2_with fail
    refine (l02All _ _ gs true _ (K1.out.r 0 rfl :) HA.out).mono ?_
    rintro e w2 ⟨rfl, hq2⟩
    have K2 := Lib.hid (K1.out.below hq2.bel)
    have HR2 := Lib.hid (HR1.out.below hq2.bel)
    have HP2 := Lib.hid (HP1.out.below hq2.bel)
    have hsz2 : w.heap.size + 2 ≤ w2.heap.size := Nat.le_trans hsz1 hq2.bel.size
    have cc0 := K2.out.c 0 rfl
    clear hq2
    go_wp2
    clear cc0
    go_loopw [8] (fun i wr => ∃ k : Nat, 1 ≤ k ∧ k ≤ gs.length ∧ i = .int .i64 k ∧ (∀ j, j < k → arO gs j = arO gs 0) ∧ Below w2.heap.size w2 wr) (fun i _ => gs.length - (intOf i).toNat)
    case atStart => exact ⟨1, Nat.le_refl _, hpos, rfl, fun j hj => by obtain rfl : j = 0 := by { omega }; rfl, Below.refl _ _⟩
    case round =>
      obtain ⟨k, hk1, hk, rfl, hall, hbel⟩ := hrel
      have HALL := Lib.hid hall
      have HW := Lib.hid hbel
      have KR := Lib.hid (K2.out.below hbel)
      have HRR := Lib.hid (HR2.out.below hbel)
      have HPR := Lib.hid (HP2.out.below hbel)
      have hszr : w.heap.size + 2 ≤ wr.heap.size := Nat.le_trans hsz2 hbel.size
      clear hall hbel
      by_cases hlt : k < gs.length
      · obtain ⟨y0, -⟩ := HC.out k hlt
        obtain ⟨z0, -⟩ := HC.out 0 hpos
        simp only [Nat.zero_mul, Nat.add_zero] at z0
        have y0 := below_cell KR.out.bel y0
        have z0 := below_cell KR.out.bel z0
        have hlt' : (k : Int) < (gs.length : Int) := by omega
        have hlt0 : (0 : Int) < (gs.length : Int) := by omega
        by_cases heq : arO gs k = arO gs 0
        · skip
          have heqb : ((arO gs k) != (arO gs 0)) = false := by simp [heq]
          have heqb' : ((arO gs k) == (arO gs 0)) = true := by simp [heq]
          have HEQ := Lib.hid heq
          clear heq
          go_wp2
          go_quiet (fail)
          go_wp2
          go_roundw
          case rel =>
            refine ⟨k + 1, by omega, by omega, by go_num, fun j hj => ?_, HW.out.trans (((QW.refl _).drewN _).below _)⟩
            by_cases hjk : j = k
            · subst hjk; exact HEQ.out
            · exact HALL.out j (by omega)
          case measure => simp [intOf]; omega
        · have heqb : ((arO gs k) != (arO gs 0)) = true := by simp [heq]
          have heqb' : ((arO gs k) == (arO gs 0)) = false := by simp [heq]
          clear heq
          go_wp2
          go_quiet (fail)
          have d0 := HRR.out.c 0 rfl
          have d1 := HRR.out.c 1 rfl
          have f0 := HRR.out.free 0
          have f1 := HRR.out.free 1
          go_wp2
          refine bodyPost_ret (v := .tuple #[.agg #[.int .i64 0, .slice none 0 0], .int .i64 4]) (by simp [results, Try.results24, go_sem, d0, d1]) rfl ⟨_, _, _, rfl, ?_, ?_⟩
          · exact OwnRowE.nil _ _ _ (Nat.le_refl _)
          · exact ((KR.out.drewN _).bel.setCell (by show w.heap.size ≤ w.heap.size + 1; omega) _).setCell (by show w.heap.size ≤ w.heap.size + 1; omega) _
      · obtain rfl : k = gs.length := by omega
        exact absurd HALL.out HSA.out
  · have HO := Lib.hid (Tells.yes ho)
    have HA : Hid (Tells true (In14 size ∧ AllOk size gs)) := Lib.hid (Tells.yes ⟨ho.1, ha⟩)
    have hln : ((gs.length : Int) != ar) = true := by simp [hl]
    have hln' : ((gs.length : Int) == ar) = false := by simp [hl]
    clear ho ha hl hcells
    go_enter Try.func24, Try.ntmps24
    go_wp2_with fail
    refine (l02Ok _ _ _ _ tab true _ HP.out HO.out).mono ?_
    rintro e w1 ⟨rfl, hq1⟩
    have K1 := Lib.hid (K0.out.below hq1.bel)
    have HR1 := Lib.hid (HR0.out.below hq1.bel)
    have HP1 := Lib.hid (HP.out.below hq1.bel)
    have hsz1 : w.heap.size + 2 ≤ w1.heap.size := by have := hq1.bel.size; simpa using this
    clear hq1 ck0 ck1
    go_wp2_with fail
    refine (l02All _ _ gs true _ (K1.out.r 0 rfl :) HA.out).mono ?_
    rintro e w2 ⟨rfl, hq2⟩
    have K2 := Lib.hid (K1.out.below hq2.bel)
    have HR2 := Lib.hid (HR1.out.below hq2.bel)
    have HP2 := Lib.hid (HP1.out.below hq2.bel)
    have hsz2 : w.heap.size + 2 ≤ w2.heap.size := Nat.le_trans hsz1 hq2.bel.size
    have cc0 := K2.out.c 0 rfl
    clear hq2
    have d0 := HR2.out.c 0 rfl
    have d1 := HR2.out.c 1 rfl
    have f0 := HR2.out.free 0
    have f1 := HR2.out.free 1
    go_wp2
    refine bodyPost_ret (v := .tuple #[.agg #[.int .i64 0, .slice none 0 0], .int .i64 2]) (by simp [results, Try.results24, go_sem, d0, d1]) rfl ⟨_, _, _, rfl, ?_, ?_⟩
    · exact OwnRowE.nil _ _ _ (Nat.le_refl _)
    · exact (K2.out.bel.setCell (by show w.heap.size ≤ w.heap.size + 1; omega) _).setCell (by show w.heap.size ≤ w.heap.size + 1; omega) _
  · have HO := Lib.hid (Tells.yes ho)
    have HA : Hid (Tells false (In14 size ∧ AllOk size gs)) := Lib.hid (Tells.no fun h => ha h.2)
    clear ho ha hcells
    go_enter Try.func24, Try.ntmps24
    go_wp2_with fail
    refine (l02Ok _ _ _ _ tab true _ HP.out HO.out).mono ?_
    rintro e w1 ⟨rfl, hq1⟩
    have K1 := Lib.hid (K0.out.below hq1.bel)
    have HR1 := Lib.hid (HR0.out.below hq1.bel)
    have HP1 := Lib.hid (HP.out.below hq1.bel)
    have hsz1 : w.heap.size + 2 ≤ w1.heap.size := by have := hq1.bel.size; simpa using this
    clear hq1 ck0 ck1
    go_wp2_with fail
    refine (l02All _ _ gs false _ (K1.out.r 0 rfl :) HA.out).mono ?_
    rintro e w2 ⟨rfl, hq2⟩
    have K2 := Lib.hid (K1.out.below hq2.bel)
    have HR2 := Lib.hid (HR1.out.below hq2.bel)
    have HP2 := Lib.hid (HP1.out.below hq2.bel)
    have hsz2 : w.heap.size + 2 ≤ w2.heap.size := Nat.le_trans hsz1 hq2.bel.size
    have cc0 := K2.out.c 0 rfl
    clear hq2
    have d0 := HR2.out.c 0 rfl
    have d1 := HR2.out.c 1 rfl
    have f0 := HR2.out.free 0
    have f1 := HR2.out.free 1
    go_wp2
    refine bodyPost_ret (v := .tuple #[.agg #[.int .i64 0, .slice none 0 0], .int .i64 1]) (by simp [results, Try.results24, go_sem, d0, d1]) rfl ⟨_, _, _, rfl, ?_, ?_⟩
    · exact OwnRowE.nil _ _ _ (Nat.le_refl _)
    · exact (K2.out.bel.setCell (by show w.heap.size ≤ w.heap.size + 1; omega) _).setCell (by show w.heap.size ≤ w.heap.size + 1; omega) _
  · have HO := Lib.hid (Tells.no ho)
    clear ho hcells
    go_enter Try.func24, Try.ntmps24
    go_wp2_with fail
    refine (l02Ok _ _ _ _ tab false _ HP.out HO.out).mono ?_
    rintro e w1 ⟨rfl, hq1⟩
    have K1 := Lib.hid (K0.out.below hq1.bel)
    have HR1 := Lib.hid (HR0.out.below hq1.bel)
    have HP1 := Lib.hid (HP.out.below hq1.bel)
    have hsz1 : w.heap.size + 2 ≤ w1.heap.size := by have := hq1.bel.size; simpa using this
    clear hq1 ck0 ck1
    have d0 := HR1.out.c 0 rfl
    have d1 := HR1.out.c 1 rfl
    have f0 := HR1.out.free 0
    have f1 := HR1.out.free 1
    go_wp2
    refine bodyPost_ret (v := .tuple #[.agg #[.int .i64 0, .slice none 0 0], .int .i64 1]) (by simp [results, Try.results24, go_sem, d0, d1]) rfl ⟨_, _, _, rfl, ?_, ?_⟩
    · exact OwnRowE.nil _ _ _ (Nat.le_refl _)
    · exact (K1.out.bel.setCell (by show w.heap.size ≤ w.heap.size + 1; omega) _).setCell (by show w.heap.size ≤ w.heap.size + 1; omega) _

theorem specComposeOps (size ar : Int) (a : Option Addr) (n c : Nat) (tab : List Int) (v : Value) (gs : List (Int × List Int)) (x : Int) (t : List Int) (cd : Int) (w : World) (h1 : RowAt w (.slice a n c) tab) (h2 : OpsAt w v gs) (hi : ComposeOpsIs size ar tab gs x t cd) :
    Calls Try.prog 24 #[.int .i64 size, .agg #[.int .i64 ar, .slice a n c], v] w (MadeOp2 w x t cd) := by
  obtain ⟨a1, c1, rfl, h2⟩ : ∃ a1 c1, v = .slice a1 gs.length c1 ∧ OpsAt w (.slice a1 gs.length c1) gs := by obtain ⟨a0, c0, rfl, h⟩ := h2; exact ⟨a0, c0, rfl, a0, c0, rfl, h⟩
  exact specComposeOpsA size ar a n c tab a1 gs.length c1 gs x t cd w h1 h2 hi


set_option linter.unusedSimpArgs false in
set_option maxHeartbeats 1600000 in
set_option maxRecDepth 100000 in
theorem implComposeOpsA (size ar : Int) (a : Option Addr) (n c : Nat) (tab : List Int) (a1 : Option Addr) (n1 c1 : Nat) (gs : List (Int × List Int)) (x : Int) (t : List Int) (cd : Int) (w : World) (h1 : RowAt w (.slice a n c) tab) (h2 : OpsAt w (.slice a1 n1 c1) gs) (hi : ComposeOpsIs size ar tab gs x t cd) :
    Calls Try.prog 26 #[.int .i64 size, .agg #[.int .i64 ar, .slice a n c], .slice a1 n1 c1] w (MadeOp2 w x t cd) := by
  obtain rfl : n = tab.length := by obtain ⟨_, _, hv, _⟩ := h1; simp only [Value.slice.injEq] at hv; exact hv.2.1
  obtain rfl : n1 = gs.length := by obtain ⟨_, _, hv, _⟩ := h2; simp only [Value.slice.injEq] at hv; exact hv.2.1
  obtain ⟨i0, hi0, hz0, hz1, hz2⟩ := info_parts info_intT
  have hn1 : gs.length ≤ 9223372036854775807 := by obtain ⟨_, _, _, hn, _⟩ := h2; exact hn
  have hcells : 0 < gs.length → ∃ b off, a1 = some ⟨b, off, none⟩ ∧ ∀ i, i < gs.length → OpAt w b (off + i * 2) (arO gs i) (rowO gs i) := by
    obtain ⟨_, _, hv, _, hc⟩ := h2
    simp only [Value.slice.injEq] at hv
    obtain ⟨rfl, _, rfl⟩ := hv
    exact hc
  have HR0 : Hid (Box 24 _ (w.heap.size + 1) #[.int .i64 0, .slice none 0 0]) := Lib.hid (by
    have h := Box.new 24 (w.alloc (.cells #[.int .i64 ar, .slice a tab.length c] 24)) #[.int .i64 0, .slice none 0 0]
    rwa [World.size_alloc] at h)
  have HP := Lib.hid ((OpAt.new w ar a tab.length c tab 24 h1).below ((Below.refl _ _).alloc (Nat.le_refl _) (.cells #[.int .i64 0, .slice none 0 0] 24)))
  have K0 := Lib.hid ((((((Kept.start w).read (lives_row _ _) h1).read (lives_ops _ _) h2).box w.heap.size rfl (.int .i64 ar) (.slice a tab.length c) 24)).below ((Below.refl _ _).alloc (Nat.le_refl _) (.cells #[.int .i64 0, .slice none 0 0] 24)))
  have ck0 := K0.out.c 0 rfl
  have ck1 := K0.out.c 1 rfl
  clear h1 h2
  rcases hi with ⟨ho, ha, hl, hsa, rfl, rfl, rfl⟩ | ⟨ho, ha, hl, hsa, rfl, rfl, rfl⟩ | ⟨ho, ha, hl, rfl, rfl, rfl⟩ | ⟨ho, ha, rfl, rfl, rfl⟩ | ⟨ho, rfl, rfl, rfl⟩
  · have HO := Lib.hid (Tells.yes ho)
    have HA : Hid (Tells true (In14 size ∧ AllOk size gs)) := Lib.hid (Tells.yes ⟨ho.1, ha⟩)
    have HSA := Lib.hid hsa
    have hpos : 0 < gs.length := by have := ho.2.1.1; omega
    obtain ⟨b1, off1, rfl, hcell⟩ := hcells hpos
    have HC := Lib.hid hcell
    have hln : ((gs.length : Int) != ar) = false := by simp [hl]
    have hln' : ((gs.length : Int) == ar) = true := by simp [hl]
    have HLL := Lib.hid hl
    have HOK := Lib.hid ho
    have HAK := Lib.hid ha
    clear ho ha hl hsa hcell hcells
    go_enter Try.func26, Try.ntmps26
    go_wp2_with fail
    refine (implValidOp _ _ _ _ _ tab true _ (K0.out.r 1 rfl :) HO.out).mono ?_
    rintro e w1 ⟨rfl, hb1⟩
    have K1 := Lib.hid (K0.out.below hb1)
    have HR1 := Lib.hid (HR0.out.below hb1)
    have hsz1 : w.heap.size + 2 ≤ w1.heap.size := by have := hb1.size; simpa using this
    clear hb1 ck0 ck1
    go_wp2_with fail
    refine (areValidOps _ _ gs true _ (K1.out.r 0 rfl :) HA.out).mono ?_
    rintro e w2 ⟨rfl, hb2⟩
    have K2 := Lib.hid (K1.out.below hb2)
    have HR2 := Lib.hid (HR1.out.below hb2)
    have hsz2 : w.heap.size + 2 ≤ w2.heap.size := Nat.le_trans hsz1 hb2.size
    have cc0 := K2.out.c 0 rfl
    clear hb2
    go_wp2
    clear cc0
    go_loopw [34] (fun i wr => ∃ k : Nat, k ≤ gs.length ∧ i = .int .i64 k ∧ (∀ j, j < k → arO gs j = arO gs 0) ∧ Below w2.heap.size w2 wr) (fun i _ => gs.length - (intOf i).toNat)
    case atStart => exact ⟨0, Nat.zero_le _, rfl, fun j hj => absurd hj (Nat.not_lt_zero _), Below.refl _ _⟩
    case round =>
      obtain ⟨k, hk, rfl, hall, hbel⟩ := hrel
      have HALL := Lib.hid hall
      have HW := Lib.hid hbel
      have KR := Lib.hid (K2.out.below hbel)
      have HRR := Lib.hid (HR2.out.below hbel)
      have hszr : w.heap.size + 2 ≤ wr.heap.size := Nat.le_trans hsz2 hbel.size
      clear hall hbel
      by_cases hlt : k < gs.length
      · obtain ⟨y0, a3, n3, c3, y1, -⟩ := HC.out k hlt
        obtain ⟨z0, -⟩ := HC.out 0 hpos
        simp only [Nat.zero_mul, Nat.add_zero] at z0
        have y0 := below_cell KR.out.bel y0
        have y1 := below_cell KR.out.bel y1
        have hlt' : (k : Int) < (gs.length : Int) := by omega
        have hlt0 : (0 : Int) < (gs.length : Int) := by omega
        have HAL0 := Lib.hid ((Below.refl wr.heap.size wr).alloc (Nat.le_refl _) (.cells #[.int .i64 (arO gs k), .slice a3 n3 c3] 24))
        have z0 := below_cell HAL0.out (below_cell KR.out.bel z0)
        have cn0 := (Box.new 24 wr #[.int .i64 (arO gs k), .slice a3 n3 c3]).c 0 rfl
        have heq : arO gs k = arO gs 0 := HSA.out k hlt
        have heqb : ((arO gs k) != (arO gs 0)) = false := by simp [heq]
        have heqb' : ((arO gs k) == (arO gs 0)) = true := by simp [heq]
        have HEQ := Lib.hid heq
        clear heq
        go_wp2
        go_quiet (fail)
        go_wp2
        go_roundw
        case rel =>
          refine ⟨k + 1, by omega, by go_num, fun j hj => ?_, (HW.out.trans (HAL0.out.mono HW.out.size)).trans (((QW.refl _).drewN _).below _)⟩
          by_cases hjk : j = k
          · subst hjk; exact HEQ.out
          · exact HALL.out j (by omega)
        case measure => simp [intOf]; omega
      · obtain rfl : k = gs.length := by omega
        obtain ⟨wA, rfl⟩ : ∃ wA : World, wA = wr := ⟨_, rfl⟩
        have HCOL := Lib.hid (fun i hi => HAK.out.col HSA.out i hi)
        have HLE := Lib.hid (fun k hk => HAK.out.len HSA.out k hk)
        obtain ⟨hr1, hr2⟩ := HOK.out.2.1
        have hlen4 : gs.length ≤ 4 := by have := HLL.out; omega
        have hs1 := HOK.out.1.1
        have hs2 := HOK.out.1.2
        have hM1 : (rowO gs 0).length ≤ 64 := by
          have h0 := HAK.out 0 hpos
          have := h0.2.2.1
          have := (pow_le3 (s := size.toNat) (r := (arO gs 0).toNat) (by have := h0.1.1; omega) (by have := h0.1.2; omega) (by have := h0.2.1.2; omega)).1
          omega
        obtain ⟨x0, a0, n0, c0, x1, hr0⟩ := HC.out 0 hpos
        simp only [Nat.zero_mul, Nat.add_zero] at x0 x1
        obtain rfl : n0 = (rowO gs 0).length := by obtain ⟨_, _, hv, _⟩ := hr0; simp only [Value.slice.injEq] at hv; exact hv.2.1
        have x0 := below_cell KR.out.bel x0
        have x1 := below_cell KR.out.bel x1
        have hlt0 : (0 : Int) < (gs.length : Int) := by omega
        have htpos : 0 < tab.length := by have := HOK.out.2.2.1; have := (pow_le3 (s := size.toNat) (r := ar.toNat) (by omega) (by omega) (by omega)).2; omega
        have htl : tab.length ≤ 64 := by have := HOK.out.2.2.1; have := (pow_le3 (s := size.toNat) (r := ar.toNat) (by omega) (by omega) (by omega)).1; omega
        obtain ⟨bt, offt, rfl, -, -⟩ := SlAt.some_of (KR.out.r 1 rfl : RowAt wA (.slice a tab.length c) tab) 0 htpos
        have HTAB := Lib.hid (KR.out.r 1 rfl : RowAt wA (.slice (some ⟨bt, offt, none⟩) tab.length c) tab)
        have HBX0 := Lib.hid (Box.new 24 wA #[.int .i64 (arO gs 0), .slice none 0 0])
        have x1a := below_cell ((Below.refl wA.heap.size wA).alloc (Nat.le_refl _) (.cells #[.int .i64 (arO gs 0), .slice none 0 0] 24)) x1
        have ct1 := KR.out.c 1 rfl
        clear hr0
        generalize hM : (rowO gs 0).length = M at *
        clear hM
        go_wp2
        clear x1a
        go_loopw [57] (fun i wr => ∃ (k : Nat) (a : Option Addr) (n c : Nat), k ≤ M ∧ i = .int .i64 k ∧ Box 24 wr wA.heap.size #[.int .i64 (arO gs 0), .slice a n c] ∧ wr.ownsRow (wA.heap.size + 1) 2 1 (.slice a n c) k ((rowF (compR size tab gs) k).map (Value.int .i64)) ∧ Below wA.heap.size wA wr ∧ wA.heap.size + 1 ≤ wr.heap.size) (fun i _ => M - (intOf i).toNat)
        case atStart =>
          exact ⟨0, none, 0, 0, Nat.zero_le _, rfl, HBX0.out, World.ownsRow_nil _ _ _ 1, (Below.refl _ _).alloc (Nat.le_refl _) _, by simp⟩
        case round =>
          obtain ⟨k, ao, no, co, hk, rfl, hbx, hown, hbel, hsz⟩ := hrel
          have HBX := Lib.hid hbx
          have HO9 := Lib.hid hown
          have HWB := Lib.hid hbel
          clear hbx hown hbel
          by_cases hlt : k < M
          · have hlt' : (k : Int) < (M : Int) := by omega
            have HTC := Lib.hid (HCOL.out k hlt)
            obtain ⟨wo, rfl⟩ : ∃ wo : World, wo = wr := ⟨_, rfl⟩
            go_wp2
            go_loopw [12, 62] (fun m i wr => ∃ q : Nat, q ≤ gs.length ∧ i = .int .i64 q ∧ m = .int .i64 (codeK size (colO gs k) q) ∧ Below wo.heap.size wo wr) (fun _ i _ => gs.length - (intOf i).toNat)
            case atStart => exact ⟨0, Nat.zero_le _, rfl, rfl, Below.refl _ _⟩
            case round =>
              obtain ⟨q, hq, rfl, hmm, hbel⟩ := hrel
              have HB2 := Lib.hid hbel
              clear hbel
              by_cases hqt : q < gs.length
              · subst hmm
                obtain ⟨y0, a3, n3, c3, y1, hr3⟩ := HC.out q hqt
                obtain rfl : n3 = (rowO gs q).length := by obtain ⟨_, _, hv, _⟩ := hr3; simp only [Value.slice.injEq] at hv; exact hv.2.1
                have hl3 := HLE.out q hqt
                obtain ⟨b3, off3, rfl, -, hx3⟩ := SlAt.some_of hr3 k (by omega)
                have HBW := Lib.hid (KR.out.bel.trans ((HWB.out.trans (HB2.out.mono HWB.out.size)).mono KR.out.bel.size))
                have hy0 := below_cell HBW.out y0
                have hy1 := below_cell HBW.out y1
                rw [hl3] at hy1
                have hx3' := below_cell ((Below.refl wr.heap.size wr).alloc (Nat.le_refl _) (.cells #[.int .i64 (arO gs q), .slice (some ⟨b3, off3, none⟩) M c3] 24)) (below_cell HBW.out hx3)
                have hqt' : (q : Int) < (gs.length : Int) := by omega
                obtain ⟨r0, r1⟩ := codeK_lt (xs := colO gs k) hs1 hs2 q (by omega) fun j hj => HTC.out.2 j (by rw [colO_len]; omega)
                obtain ⟨g0, g1⟩ := HTC.out.2 q (by rw [colO_len]; exact hqt)
                rw [colO_at _ _ _ hqt] at g0 g1
                have hm0 : 0 ≤ codeK size (colO gs k) q * size := Int.mul_nonneg r0 (by omega)
                have hm1 : codeK size (colO gs k) q * size ≤ 1024 := by
                  have : codeK size (colO gs k) q * size ≤ codeK size (colO gs k) q * 4 := Int.mul_le_mul_of_nonneg_left hs2 r0
                  omega
                have HST : Hid (codeK size (colO gs k) (q + 1) = codeK size (colO gs k) q * size + intN (rowO gs q) k) := Lib.hid (by
                  show _ * _ + _ = _
                  rw [colO_at _ _ _ hqt])
                clear hr3 hl3 hx3 y0 y1 HBW
                go_wp2
                go_roundw
                case rel => exact ⟨q + 1, by omega, by go_num, by rw [HST.out], HB2.out.alloc HB2.out.size _⟩
                case measure => simp [intOf]; omega
              · have HQ : Hid (gs.length = q) := Lib.hid (by omega)
                obtain ⟨cN, hcN⟩ : ∃ cN, codeN size (colO gs k) = cN := ⟨_, rfl⟩
                have HEND : Hid (codeK size (colO gs k) q = (cN : Int)) := Lib.hid (by
                  have h14 : In14 (gs.length : Int) := ⟨by omega, by omega⟩
                  have := codeN_cast HTC.out HOK.out.1 h14
                  unfold code at this
                  rw [colO_len, HQ.out] at this
                  rw [← hcN]
                  exact this)
                have hcNt : cN < tab.length := by
                  have h := HOK.out.lt (xs := colO gs k) (HLL.out ▸ HTC.out)
                  rwa [hcN] at h
                rw [HEND.out] at hmm
                subst hmm
                have hqt' : ¬ ((q : Int) < (gs.length : Int)) := by omega
                have hcNI : (cN : Int) < (tab.length : Int) := by omega
                have HBXi := Lib.hid (HBX.out.below HB2.out)
                have HOi := Lib.hid (ownsRow_below HO9.out HB2.out)
                have HWi := Lib.hid (HWB.out.trans (HB2.out.mono HWB.out.size))
                have hszi : wA.heap.size + 1 ≤ wr.heap.size := Nat.le_trans hsz HB2.out.size
                have d0 := HBXi.out.c 1 rfl
                have d1 := below_cell HWi.out ct1
                have d2 := SlAt.cell_of (HTAB.out.below HWi.out) cN hcNt
                have HXX : Hid (intN tab cN = compR size tab gs k) := Lib.hid (by unfold compR; rw [hcN])
                rw [HXX.out] at d2
                clear HB2 hcN
                go_wp2
                refine wp_region_noPanic ?_
                refine wp_region_late (S := (fun w' => w'.cell? ⟨wA.heap.size, 1, none⟩ = some (.slice ao no co) ∧ w'.cell? ⟨w.heap.size, 1, none⟩ = some (.slice (some ⟨bt, offt, none⟩) tab.length c) ∧ w'.cell? ⟨bt, offt + cN, none⟩ = some (.int .i64 (compR size tab gs k)))) [8, 10] (by kernel_rfl) ?_ (fun hHeld => ?_)
                · exact ⟨d0, d1, d2⟩
                refine wpAnyL_free (i := 0) (v := ?_) (some 76) rfl rfl (by kernel_rfl) (by kernel_rfl) (by kernel_rfl) (by decide) (fun _ _ _ h => h) (Or.inl ⟨by rfl, ?_⟩) (fun h0 => by assumption) ?_
                rotate_left
                · intro wS
                  go_simp
                  try with_reducible rfl
                try simp only [Act.put, List.setIfInBounds_toArray, List.set_cons_zero, List.set_cons_succ]
                refine wpAnyL_take (i := 1) (v := ?_) (some 77) rfl rfl (by kernel_rfl) (by kernel_rfl) (by kernel_rfl) (by kernel_rfl) (by kernel_rfl) (fun _ _ _ h => h) (Or.inl ⟨by rfl, ?_⟩) (by assumption) ?_
                rotate_left
                · intro wS hSw
                  try dsimp only at hSw
                  go_simp
                  try with_reducible rfl
                try simp only [Act.put, List.setIfInBounds_toArray, List.set_cons_zero, List.set_cons_succ]
                refine wpAnyL_free (i := 2) (v := ?_) (some 78) rfl rfl (by kernel_rfl) (by kernel_rfl) (by kernel_rfl) (by decide) (fun _ _ _ h => h) (Or.inl ⟨by rfl, ?_⟩) (fun h0 => by assumption) ?_
                rotate_left
                · intro wS
                  go_simp
                  try with_reducible rfl
                try simp only [Act.put, List.setIfInBounds_toArray, List.set_cons_zero, List.set_cons_succ]
                refine wpAnyL_take (i := 3) (v := ?_) (some 79) rfl rfl (by kernel_rfl) (by kernel_rfl) (by kernel_rfl) (by kernel_rfl) (by kernel_rfl) (fun _ _ _ h => h) (Or.inl ⟨by rfl, ?_⟩) (by assumption) ?_
                rotate_left
                · intro wS hSw
                  try dsimp only at hSw
                  go_simp
                  try with_reducible rfl
                try simp only [Act.put, List.setIfInBounds_toArray, List.set_cons_zero, List.set_cons_succ]
                refine wpAnyL_free (i := 4) (v := ?_) (some 80) rfl rfl (by kernel_rfl) (by kernel_rfl) (by kernel_rfl) (by decide) (fun _ _ _ h => h) (Or.inl ⟨by rfl, ?_⟩) (fun h0 => by assumption) ?_
                rotate_left
                · intro wS
                  go_simp
                  try with_reducible rfl
                try simp only [Act.put, List.setIfInBounds_toArray, List.set_cons_zero, List.set_cons_succ]
                refine wpAnyL_free (i := 5) (v := ?_) (some 81) rfl rfl (by kernel_rfl) (by kernel_rfl) (by kernel_rfl) (by decide) (fun _ _ _ h => h) (Or.inl ⟨by rfl, ?_⟩) (fun h0 => by assumption) ?_
                rotate_left
                · intro wS
                  go_simp
                  try with_reducible rfl
                try simp only [Act.put, List.setIfInBounds_toArray, List.set_cons_zero, List.set_cons_succ]
                refine wpAnyL_take (i := 6) (v := ?_) (some 82) rfl rfl (by kernel_rfl) (by kernel_rfl) (by kernel_rfl) (by kernel_rfl) (by kernel_rfl) (fun _ _ _ h => h) (Or.inl ⟨by rfl, ?_⟩) (by assumption) ?_
                rotate_left
                · intro wS hSw
                  try dsimp only at hSw
                  go_simp
                  try with_reducible rfl
                try simp only [Act.put, List.setIfInBounds_toArray, List.set_cons_zero, List.set_cons_succ]
                refine wpAnyL_ready (rs := [7]) (by kernel_rfl) (by simp) ?_
                refine AllReadyL.cons rfl (fun K hK => ?_) AllReadyL.nil
                go_simp
                refine hK.out _ _ ?_ (fun hHeld => ?_)
                · exact ⟨below_cell ((Below.refl _ _).alloc (Nat.le_refl _) _) hHeld.1, below_cell ((Below.refl _ _).alloc (Nat.le_refl _) _) hHeld.2.1, below_cell ((Below.refl _ _).alloc (Nat.le_refl _) _) hHeld.2.2⟩
                clear hK K
                try simp only [Act.put, List.setIfInBounds_toArray, List.set_cons_zero, List.set_cons_succ]
                refine wpAnyL_ready (rs := [8]) (by kernel_rfl) (by simp) ?_
                refine AllReadyL.last rfl (by kernel_rfl) (fun K hK => ?_) AllReadyL.nil
                have HAL := Lib.hid (((QW.refl wr).drew.below wr.heap.size).trans (((Below.refl wr.drew.heap.size wr.drew).alloc (Nat.le_refl _) (.cells #[.int .i64 (compR size tab gs k)] 2))))
                refine step_append_lies _ (by rfl) _ _ 22 (by rfl) (wA.heap.size + 1) 2 i0 (.int .i64 0) 1 8 Try.underlying22 hi0 hz0 hz1 hz2 (by rfl) (by decide) (.slice ao no co) k _ (by rfl) (ownsRow_below HOi.out HAL.out) _ 1 1 [.int .i64 (compR size tab gs k)] (by rfl) (by rfl) (fun j u hu => World.news_of_block (heap_alloc_new wr.drew _) j u (by simpa using hu)) (by simp [Value.oneCell']) (by omega) (by unfold maxLen; omega) (by omega) (Nat.le_trans hszi HAL.out.size) _ rfl ?_; intro g5 cap5 w6 hown5 hgrow5 hat5 hlt5
                have HBX5 := Lib.hid ((HBXi.out.below HAL.out).grown hgrow5 (own_awayO HOi.out wA.heap.size (by omega)))
                have HW5 := Lib.hid ((HWi.out.trans (HAL.out.mono HWi.out.size)).grown hgrow5 (by have := HAL.out.size; have := HWi.out.size; omega) (fun g hg => by have := (HOi.out.lt g hg).1; omega))
                have HO5 := Lib.hid hown5
                have HS5 := Lib.hid (Nat.le_trans HAL.out.size hgrow5.size)
                have k1 := HBX5.out.c 1 rfl
                have kf := HBX5.out.free 1
                clear hown5 hgrow5 hat5 hlt5 HAL
                refine hK.out _ _ ?_
                clear hK K
                try simp only [Act.put, List.setIfInBounds_toArray, List.set_cons_zero, List.set_cons_succ]
                refine wpAnyL_free (i := 9) (v := ?_) (some 85) rfl rfl (by kernel_rfl) (by kernel_rfl) (by kernel_rfl) (by decide) (fun _ _ _ h => h) (Or.inl ⟨by rfl, ?_⟩) (fun h0 => absurd h0 (by decide)) ?_
                rotate_left
                · intro wS
                  go_simp
                  try with_reducible rfl
                try simp only [Act.put, List.setIfInBounds_toArray, List.set_cons_zero, List.set_cons_succ]
                refine wpAnyL_ready (rs := [10]) (by kernel_rfl) (by simp) ?_
                refine AllReadyL.last rfl (by kernel_rfl) (fun K hK => ?_) AllReadyL.nil
                go_simp
                refine hK.out _ _ ?_
                clear hK K
                try simp only [Act.put, List.setIfInBounds_toArray, List.set_cons_zero, List.set_cons_succ]
                refine wpAnyL_done (by kernel_rfl) ?_ _
                refine NoPanic.normal ?_
                go_wp2
                go_roundw
                case rel =>
                  refine ⟨k + 1, _, _, _, by omega, by go_num, HBX5.out.set 1 _, ?_, HW5.out.setCell (p := ⟨wA.heap.size, 1, none⟩) (Nat.le_refl _) _, by have := HS5.out; simp [World.setCell]; omega⟩
                  rw [rowF_succ]
                  exact ownsRow_same HO5.out fun g hg => Below.heap_setCell _ _ _ _ (by have := (HO5.out.lt g hg).1; show g ≠ wA.heap.size; omega)
                case measure => simp [intOf]; omega

          · obtain rfl : k = M := by omega
            have hm : no = k := by
              rcases ownsRow_parts HO9.out with ⟨hv, h0, _⟩ | ⟨_, _, hv, _⟩ <;> simp only [Value.slice.injEq] at hv <;> omega
            subst hm
            have HE : Hid (OwnRow wr (wA.heap.size + 1) (.slice ao no co) (rowF (compR size tab gs) no)) := by
              show World.ownsRow _ _ _ _ _ _ _
              rw [rowF_len]
              exact HO9.out
            have HRE := Lib.hid (HRR.out.below HWB.out)
            have d0 := HBX.out.c 0 rfl
            have d1 := HBX.out.c 1 rfl
            have e0 := HRE.out.c 0 rfl
            have e1 := HRE.out.c 1 rfl
            have f0 := HRE.out.free 0
            have f1 := HRE.out.free 1
            go_wp2
            refine bodyPost_ret (v := .tuple #[.agg #[.int .i64 (arO gs 0), .slice ao no co], .int .i64 0]) (by simp [results, Try.results26, go_sem, e0, e1]) rfl ⟨_, _, _, rfl, ?_, ?_⟩
            · exact (((HE.out.stored (by show w.heap.size + 1 < wA.heap.size + 1; omega) _).stored (by show w.heap.size + 1 < wA.heap.size + 1; omega) _).mono (by omega)).full
            · exact ((KR.out.below HWB.out).bel.setCell (by show w.heap.size ≤ w.heap.size + 1; omega) _).setCell (by show w.heap.size ≤ w.heap.size + 1; omega) _
  · have HO := Lib.hid (Tells.yes ho)
    have HA : Hid (Tells true (In14 size ∧ AllOk size gs)) := Lib.hid (Tells.yes ⟨ho.1, ha⟩)
    have HSA := Lib.hid hsa
    have hpos : 0 < gs.length := by have := ho.2.1.1; omega
    obtain ⟨b1, off1, rfl, hcell⟩ := hcells hpos
    have HC := Lib.hid hcell
    have hln : ((gs.length : Int) != ar) = false := by simp [hl]
    have hln' : ((gs.length : Int) == ar) = true := by simp [hl]
    have HLL := Lib.hid hl
    have HOK := Lib.hid ho
    have HAK := Lib.hid ha
    clear ho ha hl hsa hcell hcells
    go_enter Try.func26, Try.ntmps26
    go_wp2_with fail
    refine (implValidOp _ _ _ _ _ tab true _ (K0.out.r 1 rfl :) HO.out).mono ?_
    rintro e w1 ⟨rfl, hb1⟩
    have K1 := Lib.hid (K0.out.below hb1)
    have HR1 := Lib.hid (HR0.out.below hb1)
    have hsz1 : w.heap.size + 2 ≤ w1.heap.size := by have := hb1.size; simpa using this
    clear hb1 ck0 ck1
    go_wp2_with fail
    refine (areValidOps _ _ gs true _ (K1.out.r 0 rfl :) HA.out).mono ?_
    rintro e w2 ⟨rfl, hb2⟩
    have K2 := Lib.hid (K1.out.below hb2)
    have HR2 := Lib.hid (HR1.out.below hb2)
    have hsz2 : w.heap.size + 2 ≤ w2.heap.size := Nat.le_trans hsz1 hb2.size
    have cc0 := K2.out.c 0 rfl
    clear hb2
    go_wp2
    clear cc0
    go_loopw [34] (fun i wr => ∃ k : Nat, k ≤ gs.length ∧ i = .int .i64 k ∧ (∀ j, j < k → arO gs j = arO gs 0) ∧ Below w2.heap.size w2 wr) (fun i _ => gs.length - (intOf i).toNat)
    case atStart => exact ⟨0, Nat.zero_le _, rfl, fun j hj => absurd hj (Nat.not_lt_zero _), Below.refl _ _⟩
    case round =>
      obtain ⟨k, hk, rfl, hall, hbel⟩ := hrel
      have HALL := Lib.hid hall
      have HW := Lib.hid hbel
      have KR := Lib.hid (K2.out.below hbel)
      have HRR := Lib.hid (HR2.out.below hbel)
      have hszr : w.heap.size + 2 ≤ wr.heap.size := Nat.le_trans hsz2 hbel.size
      clear hall hbel
      by_cases hlt : k < gs.length
      · obtain ⟨y0, a3, n3, c3, y1, -⟩ := HC.out k hlt
        obtain ⟨z0, -⟩ := HC.out 0 hpos
        simp only [Nat.zero_mul, Nat.add_zero] at z0
        have y0 := below_cell KR.out.bel y0
        have y1 := below_cell KR.out.bel y1
        have hlt' : (k : Int) < (gs.length : Int) := by omega
        have hlt0 : (0 : Int) < (gs.length : Int) := by omega
        have HAL0 := Lib.hid ((Below.refl wr.heap.size wr).alloc (Nat.le_refl _) (.cells #[.int .i64 (arO gs k), .slice a3 n3 c3] 24))
        have z0 := below_cell HAL0.out (below_cell KR.out.bel z0)
        have cn0 := (Box.new 24 wr #[.int .i64 (arO gs k), .slice a3 n3 c3]).c 0 rfl
        by_cases heq : arO gs k = arO gs 0
        · skip
          have heqb : ((arO gs k) != (arO gs 0)) = false := by simp [heq]
          have heqb' : ((arO gs k) == (arO gs 0)) = true := by simp [heq]
          have HEQ := Lib.hid heq
          clear heq
          go_wp2
          go_quiet (fail)
          go_wp2
          go_roundw
          case rel =>
            refine ⟨k + 1, by omega, by go_num, fun j hj => ?_, (HW.out.trans (HAL0.out.mono HW.out.size)).trans (((QW.refl _).drewN _).below _)⟩
            by_cases hjk : j = k
            · subst hjk; exact HEQ.out
            · exact HALL.out j (by omega)
          case measure => simp [intOf]; omega
        · have heqb : ((arO gs k) != (arO gs 0)) = true := by simp [heq]
          have heqb' : ((arO gs k) == (arO gs 0)) = false := by simp [heq]
          clear heq
          go_wp2
          go_quiet (fail)
          have HRQ := Lib.hid (HRR.out.below HAL0.out)
          have d0 := HRQ.out.c 0 rfl
          have d1 := HRQ.out.c 1 rfl
          have f0 := HRQ.out.free 0
          have f1 := HRQ.out.free 1
          go_wp2
          refine bodyPost_ret (v := .tuple #[.agg #[.int .i64 0, .slice none 0 0], .int .i64 4]) (by simp [results, Try.results26, go_sem, d0, d1]) rfl ⟨_, _, _, rfl, ?_, ?_⟩
          · exact OwnRowE.nil _ _ _ (Nat.le_refl _)
          · exact (((KR.out.below HAL0.out).drewN _).bel.setCell (by show w.heap.size ≤ w.heap.size + 1; omega) _).setCell (by show w.heap.size ≤ w.heap.size + 1; omega) _
      · obtain rfl : k = gs.length := by omega
        exact absurd HALL.out HSA.out
  · have HO := Lib.hid (Tells.yes ho)
    have HA : Hid (Tells true (In14 size ∧ AllOk size gs)) := Lib.hid (Tells.yes ⟨ho.1, ha⟩)
    have hln : ((gs.length : Int) != ar) = true := by simp [hl]
    have hln' : ((gs.length : Int) == ar) = false := by simp [hl]
    clear ho ha hl hcells
    go_enter Try.func26, Try.ntmps26
    go_wp2_with fail
    refine (implValidOp _ _ _ _ _ tab true _ (K0.out.r 1 rfl :) HO.out).mono ?_
    rintro e w1 ⟨rfl, hb1⟩
    have K1 := Lib.hid (K0.out.below hb1)
    have HR1 := Lib.hid (HR0.out.below hb1)
    have hsz1 : w.heap.size + 2 ≤ w1.heap.size := by have := hb1.size; simpa using this
    clear hb1 ck0 ck1
    go_wp2_with fail
    refine (areValidOps _ _ gs true _ (K1.out.r 0 rfl :) HA.out).mono ?_
    rintro e w2 ⟨rfl, hb2⟩
    have K2 := Lib.hid (K1.out.below hb2)
    have HR2 := Lib.hid (HR1.out.below hb2)
    have hsz2 : w.heap.size + 2 ≤ w2.heap.size := Nat.le_trans hsz1 hb2.size
    have cc0 := K2.out.c 0 rfl
    clear hb2
    have d0 := HR2.out.c 0 rfl
    have d1 := HR2.out.c 1 rfl
    have f0 := HR2.out.free 0
    have f1 := HR2.out.free 1
    go_wp2
    refine bodyPost_ret (v := .tuple #[.agg #[.int .i64 0, .slice none 0 0], .int .i64 2]) (by simp [results, Try.results26, go_sem, d0, d1]) rfl ⟨_, _, _, rfl, ?_, ?_⟩
    · exact OwnRowE.nil _ _ _ (Nat.le_refl _)
    · exact (K2.out.bel.setCell (by show w.heap.size ≤ w.heap.size + 1; omega) _).setCell (by show w.heap.size ≤ w.heap.size + 1; omega) _
  · have HO := Lib.hid (Tells.yes ho)
    have HA : Hid (Tells false (In14 size ∧ AllOk size gs)) := Lib.hid (Tells.no fun h => ha h.2)
    clear ho ha hcells
    go_enter Try.func26, Try.ntmps26
    go_wp2_with fail
    refine (implValidOp _ _ _ _ _ tab true _ (K0.out.r 1 rfl :) HO.out).mono ?_
    rintro e w1 ⟨rfl, hb1⟩
    have K1 := Lib.hid (K0.out.below hb1)
    have HR1 := Lib.hid (HR0.out.below hb1)
    have hsz1 : w.heap.size + 2 ≤ w1.heap.size := by have := hb1.size; simpa using this
    clear hb1 ck0 ck1
    go_wp2_with fail
    refine (areValidOps _ _ gs false _ (K1.out.r 0 rfl :) HA.out).mono ?_
    rintro e w2 ⟨rfl, hb2⟩
    have K2 := Lib.hid (K1.out.below hb2)
    have HR2 := Lib.hid (HR1.out.below hb2)
    have hsz2 : w.heap.size + 2 ≤ w2.heap.size := Nat.le_trans hsz1 hb2.size
    have cc0 := K2.out.c 0 rfl
    clear hb2
    have d0 := HR2.out.c 0 rfl
    have d1 := HR2.out.c 1 rfl
    have f0 := HR2.out.free 0
    have f1 := HR2.out.free 1
    go_wp2
    refine bodyPost_ret (v := .tuple #[.agg #[.int .i64 0, .slice none 0 0], .int .i64 1]) (by simp [results, Try.results26, go_sem, d0, d1]) rfl ⟨_, _, _, rfl, ?_, ?_⟩
    · exact OwnRowE.nil _ _ _ (Nat.le_refl _)
    · exact (K2.out.bel.setCell (by show w.heap.size ≤ w.heap.size + 1; omega) _).setCell (by show w.heap.size ≤ w.heap.size + 1; omega) _
  · have HO := Lib.hid (Tells.no ho)
    clear ho hcells
    go_enter Try.func26, Try.ntmps26
    go_wp2_with fail
    refine (implValidOp _ _ _ _ _ tab false _ (K0.out.r 1 rfl :) HO.out).mono ?_
    rintro e w1 ⟨rfl, hb1⟩
    have K1 := Lib.hid (K0.out.below hb1)
    have HR1 := Lib.hid (HR0.out.below hb1)
    have hsz1 : w.heap.size + 2 ≤ w1.heap.size := by have := hb1.size; simpa using this
    clear hb1 ck0 ck1
    have d0 := HR1.out.c 0 rfl
    have d1 := HR1.out.c 1 rfl
    have f0 := HR1.out.free 0
    have f1 := HR1.out.free 1
    go_wp2
    refine bodyPost_ret (v := .tuple #[.agg #[.int .i64 0, .slice none 0 0], .int .i64 1]) (by simp [results, Try.results26, go_sem, d0, d1]) rfl ⟨_, _, _, rfl, ?_, ?_⟩
    · exact OwnRowE.nil _ _ _ (Nat.le_refl _)
    · exact (K1.out.bel.setCell (by show w.heap.size ≤ w.heap.size + 1; omega) _).setCell (by show w.heap.size ≤ w.heap.size + 1; omega) _

theorem implComposeOps (size ar : Int) (a : Option Addr) (n c : Nat) (tab : List Int) (v : Value) (gs : List (Int × List Int)) (x : Int) (t : List Int) (cd : Int) (w : World) (h1 : RowAt w (.slice a n c) tab) (h2 : OpsAt w v gs) (hi : ComposeOpsIs size ar tab gs x t cd) :
    Calls Try.prog 26 #[.int .i64 size, .agg #[.int .i64 ar, .slice a n c], v] w (MadeOp2 w x t cd) := by
  obtain ⟨a1, c1, rfl, h2⟩ : ∃ a1 c1, v = .slice a1 gs.length c1 ∧ OpsAt w (.slice a1 gs.length c1) gs := by obtain ⟨a0, c0, rfl, h⟩ := h2; exact ⟨a0, c0, rfl, a0, c0, rfl, h⟩
  exact implComposeOpsA size ar a n c tab a1 gs.length c1 gs x t cd w h1 h2 hi


end Go.Proofs.Ytnhamdjenmogjaa
